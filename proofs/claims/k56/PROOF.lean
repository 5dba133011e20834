import PyProof.Rows.All
import Wide.All
import OpenK.AllK
import Wide.FinOn
import Lean
import PyProof.EqAt
import PyProof.EqKinds
import PyProof.TupleCall
import PyProof.ListMulRoad
import PySem.Challenge.RW_furrow_k56_whole_leanings
set_option genSizeOf false
set_option genInjectivity false
set_option compiler.extract_closed false
set_option Elab.async false
set_option linter.all false
set_option maxRecDepth 100000
set_option maxHeartbeats 4000000
noncomputable section
abbrev YO:=PySem.W.Frag
def Ao:=@PySem.wpAny_bind
def Ap:=@Nat.le_refl
def Aq:=@List.length_map
def As:=@if_neg
def Ax:=@if_pos
def Az:=@List.length_append
def AL:=@List.getElem?_eq_getElem
def AW:=@PySem.W.mg_of
def AX:=@List.getElem?_eq_some_iff
def AY:=@PySem.wpAny_pure
def B5:=@PySem.Heap.lt_size
def B6:=@decide_eq_true
def Bg:=@List.length_take
def Bh:=@List.mem_of_getElem?
def Bi:=@List.size_toArray
def Bk:=@PySem.Heap.get?_push_of_some
def Bq:=@List.map_append
def Bu:=@Nat.ne_of_lt
def Bv:=@List.mem_cons
def Bz:=@List.map_cons
def BG:=@List.getElem?_map
def BI:=@List.length_singleton
def BJ:=@Nat.lt_of_lt_of_le
def BN:=@Nat.zero_le
def BO:=@decide_eq_false
def BX:=@PySem.F.plainAttrs_list
def C9:=@List.length_cons
def Cg:=@Option.some.inj
def Ci:=@Bool.false_ne_true
def Co:=@List.mem_append
def Cp:=@List.getD_eq_getElem?_getD
def Cq:=@PySem.F.slot_list_append
def Cr:=@PySem.F.type_list_append
def CF:=@PySem.Heap.get?_push_size
def CL:=@List.length_range
def CU:=@Bool.and_eq_true
def D5:=@List.mem_map
def Dd:=@Nat.lt_irrefl
def Dz:=@List.mem_append_right
def DA:=@List.append_nil
def DB:=@List.not_mem_nil
def DQ:=@List.getElem?_append_right
def DR:=@List.append_assoc
def DS:=@List.take_length
def DT:=@List.mem_singleton
def E3:=@Nat.le_trans
def E4:=@List.mem_cons_self
def E5:=@List.mem_cons_of_mem
def E6:=@PySem.wpAny_mono
def Em:=@Int.toNat_natCast
def En:=@Int.zero_add
def EG:=@Nat.le_of_lt
def EH:=@List.getElem?_append_left
def EI:=@List.lookup_cons
def EJ:=@Nat.le_add_right
def EY:=@Nat.min_eq_left
def EZ:=@List.take_of_length_le
def F0:=@PySem.W.mg_none_of
def Fp:=@List.mem_range
def Fq:=@PySem.W.kia_one
def Fs:=@Nat.sub_self
def FJ:=@Int.emod_nonneg
def FK:=@Int.emod_lt_of_pos
def FL:=@List.range_succ
def FM:=@PySem.wpAny_holding
def FN:=@beq_iff_eq
def G8:=@Nat.ne_of_gt
def G9:=@Bool.eq_iff_iff
def Ga:=@List.mem_iff_getElem?
def Gb:=@if_true
def Gc:=@PySem.call_meets
def Gd:=@of_decide_eq_true
def GW:=@PySem.Heap.size_push
def GX:=@Nat.le_succ
def GY:=@Nat.zero_add
def GZ:=@Int.le_refl
def Ha:=@Int.natCast_nonneg
def Hb:=@PySem.wpAny_field
def Ik:=@PyProof.Rows.callWith_type1
def Il:=@List.length_drop
def Im:=@List.any_cons
def Io:=@List.map_nil
def Ip:=@List.pairwise_iff_getElem
def Iq:=@Nat.succ_pos
def Ir:=@PySem.wpAny_passesOwn
def Jq:=@List.getElem?_take_of_lt
def Jr:=@PySem.Heap.get?_update_other
def Js:=@Nat.add_comm
def Jt:=@List.find?_cons
def Ju:=@Option.map_eq_some_iff
def Jv:=@List.getElem_mem
def Jw:=@List.getElem?_range
def Jx:=@List.map_map
def Jy:=@List.all_append
def Jz:=@List.mem_of_mem_take
def JA:=@beq_eq_false_iff_ne
def JB:=@PySem.wpAny_truthy_bool
def JC:=@PySem.wpAny_newObj_type
def JD:=@decide_eq_true_eq
def Ln:=@Nat.lt_succ_self
def Lo:=@List.nodup_cons
def Lq:=@PySem.mem_of_lookup
def Lr:=@List.length_replicate
def Lu:=@List.replicate_succ
def Lv:=@List.flatten_cons
def Lw:=@Bool.and_false
def Lx:=@Option.map_some
def Ly:=@List.all_eq_true
def Lz:=@List.mem_iff_getElem
def LA:=@Nat.mod_lt
def LB:=@Int.toNat_of_nonneg
def LC:=@Nat.not_lt_zero
def LD:=@PySem.wpAny_Call_Name_kw
def LF:=@PySem.wpAny_seqItems
def LG:=@PySem.wpAny_setField_rec
def Ni:=@List.mem_filter
def Nj:=@PyProof.Rows.slot_tuple_getitem
def Nk:=@List.forIn_cons
def Nl:=@List.drop_zero
def Nm:=@Nat.min_eq_right
def Nn:=@List.take_left'
def Np:=@List.length_pos_of_mem
def Nq:=@List.getElem?_eq_none
def Nr:=@Nat.lt_trichotomy
def Nt:=@List.getElem?_cons_succ
def Nu:=@List.take_append_of_le_length
def Nv:=@PySem.wpAny_execs_nil
def Nw:=@PySem.wpAny_standAt
def Nx:=@PySem.sizeLine_eq
def Ny:=@PySem.codeAny_mono
def Nz:=@PySem.wpAny_call_entry
def NA:=@PySem.wpAny_pyIter_zip
def Qp:=@List.filterMap_cons
def Qq:=@List.mem_append_left
def Qr:=@Array.length_toList
def Qs:=@PySem.W.plainGet_of
def Qt:=@List.of_mem_zip
def Qu:=@PySem.IsL.update
def Qv:=@PySem.list_append
def Qw:=@List.map_congr_left
def Qx:=@List.getElem?_zip_eq_some
def Qy:=@List.any_eq_true
def Qz:=@PySem.Heap.get?_push_cases
def QA:=@Classical.byContradiction
def QB:=@List.range_succ_eq_map
def QC:=@Option.getD_some
def QD:=@Array.getElem?_eq_getElem
def QE:=@PySem.F.slot_tuple_index
def QF:=@List.getElem_map
def QG:=@PySem.wpAny_pyIter_tuple
def QH:=@PySem.wpAny_comprehension_free
namespace L2
open PySem PySem.Spec PyProof.Rows
abbrev AU:=Sum Int Str
def Ho:AU->Value->Bool
 |.inl k,v=>Value.isInt k v
 |.inr x,v=>Value.isStrOf x v
def Rm (w:World):AU->Int
 |.inl k=>hashInt k
 |.inr x=>hashStr w x
theorem Fv:∀{k:AU} {v:Value},Ho k v=true->(∃i t,k=Sum.inl i/\v=Value.int i t)\/(∃x t,k=Sum.inr x/\v=Value.str x t)
 |
  .inl i,v,h=>by
  obtain⟨t,e⟩:=Value.isInt_shape (k:=i) (v:=v) h
  exact .inl ⟨i,t,rfl,e⟩
 |
  .inr x,v,h=>by
  obtain⟨t,e⟩:=Value.isStrOf_shape (x:=x) (v:=v) h
  exact .inr ⟨x,t,rfl,e⟩
theorem YL (i:Int)(t:Tok):Ho (.inl i) (.int i t)=true:=by simp[Ho,Value.isInt]
theorem Uw (x:Str)(t:Tok):Ho (.inr x) (.str x t)=true:=by simp[Ho,Value.isStrOf]
theorem XQ (a b:Int):decide ((Sum.inl a:AU)=Sum.inl b)=(a==b):=by
 by_cases e:a=b
 .subst e;simp
 .have h:¬(Sum.inl a:AU)=Sum.inl b:=fun q=>e (Sum.inl.inj q)
  rw[BO h]
  exact(JA.mpr e).symm
theorem SC (a b:Str):decide ((Sum.inr a:AU)=Sum.inr b)=decide (a=b):=by
 by_cases e:a=b
 .subst e;simp
 .have h:¬(Sum.inr a:AU)=Sum.inr b:=fun q=>e (Sum.inr.inj q)
  rw[BO h,BO e]
theorem RE (a:Int)(b:Str):decide ((Sum.inl a:AU)=Sum.inr b)=false:=BO (fun q=>nomatch q)
theorem Ve (a:Str)(b:Int):decide ((Sum.inr a:AU)=Sum.inl b)=false:=BO (fun q=>nomatch q)
def Ej (prog:Program)(w:World):PySem.KeyKind prog w AU where
 is:=Ho
 hash:=Rm w
 inj:=fun v a b ha hb=>by
  rcases Fv ha with⟨i,t,rfl,rfl⟩|⟨x,t,rfl,rfl⟩
  .rcases Fv hb with⟨j,u,rfl,e⟩|⟨y,u,rfl,e⟩
   .injection e with e1 _;rw[e1]
   .exact nomatch e
  .rcases Fv hb with⟨j,u,rfl,e⟩|⟨y,u,rfl,e⟩
   .exact nomatch e
   .injection e with e1 _;rw[e1]
 byValue:=fun k v h=>by
  rcases Fv h with⟨i,t,rfl,rfl⟩|⟨x,t,rfl,rfl⟩<;>rfl
 pyHash:=fun hv h=>by
  rcases Fv hv with⟨i,t,rfl,rfl⟩|⟨x,t,rfl,rfl⟩
  .exact wpAny_pyHash_int h
  .exact wpAny_pyHash_str h
 eqBool:=fun hu hv h=>by
  rcases Fv hu with⟨i,t,rfl,rfl⟩|⟨x,t,rfl,rfl⟩
  .rcases Fv hv with⟨j,u,rfl,rfl⟩|⟨y,u,rfl,rfl⟩
   .rw[XQ]at h;exact wpAny_eqBool_int h
   .rw[RE]at h;exact SeqAt.EqAt.int_str i t y u _ _ _ _ h
  .rcases Fv hv with⟨j,u,rfl,rfl⟩|⟨y,u,rfl,rfl⟩
   .rw[Ve]at h;exact SeqAt.EqAt.str_int x t j u _ _ _ _ h
   .rw[SC]at h;exact wpAny_eqBool_str h
 «strs» := fun k x t v h=>by
  rcases Fv h with⟨i,u,rfl,e⟩|⟨y,u,rfl,e⟩
  .exact nomatch e
  .injection e with e1 _
   subst e1
   cases v<;>rfl
theorem Sl (prog:Program)(w:World)(i:Int)(t:Tok):(Ej prog w).is (.inl i) (.int i t)=true:=YL i t
theorem X4 (prog:Program)(w:World)(x:Str)(t:Tok):(Ej prog w).is (.inr x) (.str x t)=true:=Uw x t
set_option genInjectivity true in
inductive V where
 |non|bl (b:Bool)|int (i:Int)|str (x:Str)|byt (b:Array UInt8)|flt (b:UInt64)|ref (a:Addr)|ty (n:String)
 deriving DecidableEq
def AD:V->Value->Prop
 |.non,u=>u=Value.none
 |.bl b,u=>u=Value.bool b
 |.int i,u=>∃t,u=Value.int i t
 |.str x,u=>∃t,u=Value.str x t
 |.byt b,u=>∃t,u=Value.bytes b t
 |.flt b,u=>∃t,u=Value.float b t
 |.ref a,u=>u=Value.ref a
 |.ty n,u=>u=Value.type n
abbrev Ay:List V->List Value->Prop:=Paired AD
theorem Ay.length {xs:List V}{us:List Value}(r:Ay xs us):xs.length=us.length:=Paired.length r
theorem Ay.get:∀{xs:List V} {us:List Value} {i:Nat} {x:V},Ay xs us->xs[i]?=some x->∃u,us[i]?=some u/\AD x u
 |_,_,_,_,.nil,e=>by simp at e
 |_,_,0,_,.cons r _,e=>by simp at e;subst e;exact⟨_,rfl,r⟩
 |
  _,_,i+1,x,.cons _ t,e=>by
  obtain⟨u,h1,h2⟩:=Ay.get (i:=i) (x:=x) t (by simpa using e)
  exact⟨u,by simpa using h1,h2⟩
theorem Ay.set {x:V}{u:Value}(r:AD x u):∀{xs:List V} {us:List Value} (i:Nat),Ay xs us->Ay (xs.set i x) (us.set i u)
 |_,_,_,.nil=>.nil
 |_,_,0,.cons _ t=>.cons r t
 |_,_,i+1,.cons q t=>.cons q (Ay.set r i t)
theorem Ay.append:∀{xs ys:List V} {us ws:List Value},Ay xs us->Ay ys ws->Ay (xs++ys) (us++ws)
 |_,_,_,_,.nil,s=>s
 |_,_,_,_,.cons r t,s=>.cons r (Ay.append t s)
theorem Ay.take:∀{xs:List V} {us:List Value} (n:Nat),Ay xs us->Ay (xs.take n) (us.take n)
 |_,_,0,_=>.nil
 |_,_,_+1,.nil=>.nil
 |_,_,n+1,.cons r t=>.cons r (Ay.take n t)
theorem Ay.drop:∀{xs:List V} {us:List Value} (n:Nat),Ay xs us->Ay (xs.drop n) (us.drop n)
 |_,_,0,r=>r
 |_,_,_+1,.nil=>.nil
 |_,_,n+1,.cons _ t=>Ay.drop n t
theorem Ay.none_of:∀{xs:List V} {us:List Value} {i:Nat},Ay xs us->xs[i]?=none->us[i]?=none:=fun{xs us i} r e=>by
 have h1:=r.length
 have h2:xs.length<=i:=List.getElem?_eq_none_iff.mp e
 exact List.getElem?_eq_none_iff.mpr (by lia)
def Dk:Option V->Option Value->Prop
 |some v,some u=>AD v u
 |none,none=>True
 |_,_=>False
def KV {κ:Type}:List (κ×V)->List (κ×Value)->Prop:=Paired fun(p:κ×V) (q:κ×Value)=>p.1=q.1/\AD p.2 q.2
def kV:AU->V
 |.inl i=>.int i
 |.inr x=>.str x
set_option genInjectivity true in
inductive HO where
 |lst (xs:List V)
 |tup (xs:List V)
 |dK (kvs:List (AU×V))|dT (kvs:List (List AU×V))
 |set (S:Int->Bool) (n:Nat)
 |ins (C dx:Addr) (fs:List (Str×V))
 |own (x:Addr)
 |xd (fs:List (Str×V))
 |met (f x:Addr)
 |rng (lo hi:Int)
 |frz (o:Obj) (u:HO)
 |tbl (ps:Array Value)
 |ext (φ:Heap->Prop)
abbrev Hp:=Addr->Option HO
def upd (H:Hp)(a:Addr)(o:HO):Hp:=fun b=>if b=a then some o else H b
theorem A6 {H:Hp}{a:Addr}{o:HO}:upd H a o a=some o:=by unfold upd;rw[Ax rfl]
theorem Am {H:Hp}{a b:Addr}{o:HO}(h:b≠a):upd H a o b=H b:=by unfold upd;rw[As h]
theorem F8 {H:Hp}{a b:Addr}{o u:HO}(h:H a=some o)(h':H b=some u)(d:o≠u):a≠b:=by
 intro e;subst e;rw[h]at h';exact d (Cg h')
theorem AC {H:Hp}{a b:Addr}{o:HO}(h:H a=some o)(h':H b=none):a≠b:=by
 intro e;subst e;rw[h]at h';cases h'
section
variable (P:Program)(w:World)
def F7 (h:Heap)(a:Addr)(its:Array Value):Prop := ∃o,h.get? a=some o/\o.cls = .type "tuple"/\(∃n,o.data = .seq its n)/\o.dict=none
theorem F7.tup {h:Heap}{a:Addr}{its:Array Value}(x:F7 h a its):IsTup h a its:=by obtain⟨o,e,c,d,_⟩:=x;exact⟨o,e,c,d⟩
theorem F7.new (h:Heap)(its:Array Value):F7 (h.push {cls:=.type "tuple",data:=.seq its}) h.objs.size its:=⟨_,CF _ rfl,rfl,⟨_,rfl⟩,rfl⟩
def BL (H:Hp)(h:Heap)(a:Addr):HO->Prop
 |.lst xs=>xs.length<=sizeLine/\∃(its:List Value) (n:Nat),Ay xs its/\h.get? a=some {cls:=.type "list",data:=.seq its.toArray n}
 |.tup xs=>xs.length<=sizeLine/\∃its:List Value,Ay xs its/\F7 h a its.toArray
 |.dK kvs=>kvs.length<=sizeLine/\(a==sysModules)=false/\∃vs,KV kvs vs/\h.DictOf (Ej P w) a vs
 |.dT kvs=>kvs.length<=sizeLine/\(a==sysModules)=false/\∃xs:List (List AU×Addr×Value),
  Paired (fun(p:List AU×V) (q:List AU×Addr×Value)=>p.1=q.1/\H q.2.1=some (.tup (p.1.map kV))/\AD p.2 q.2.2) kvs xs/\
  ∃o es ep,h.get? a=some o/\o.ExactDict/\o.data = .dict es ep/\es.toList=xs.map (entryOfKey (tupleKind (Ej P w)))/\(xs.map (·.1)).Nodup
 |.set S n=>h.SetOf (intKind P w) a S n
 |.ins C dx fs=>H dx=some (.own a)/\fs.length<=1000/\dx≠a/\h.get? a=some (PySem.W.instObj C dx)/\
  ∃mA,h.Ns1 dx mA/\(∀f,Dk (fs.lookup f) (mA f))/\PySem.Within mA (fs.map (·.1))
 |.own _=>∃o,h.get? a=some o
 |.xd fs=>∃mA,h.Ns1 a mA/\∀f,Dk (fs.lookup f) (mA f)
 |.rng lo hi=>∃t u v,h.get? a=some {cls:=.type "range",data:=.fields #[.int lo t,.int hi u,.int 1 v]}
 |.frz o u=>h.get? a=some o/\BL H h a u
 |.tbl ps=>h.get? a=some {cls:=.none,data:=.fields ps}
 |.met f x=>h.get? a=some (PySem.W.methodObj (.ref f) (.ref x))
 |.ext φ=>φ h/\(∃o,h.get? a=some o)/\∀h1 h2:Heap,φ h1->(∀o,h1.get? a=some o->h2.get? a=some o)->φ h2
def BC (H:Hp)(h:Heap):Prop := ∀a o,H a=some o->BL P w H h a o
end
section
variable {P:Program}{w:World}{H H':Hp}{h h':Heap}{a:Addr}{o:HO}
theorem BL.lt (x:BL P w H h a o):a<h.objs.size:=by
 cases o with
 |lst xs=>obtain⟨_,_,_,_,e⟩:=x;exact B5 e
 |tup xs=>obtain⟨_,_,_,p⟩:=x;exact p.tup.lt
 |dK kvs=>obtain⟨_,_,_,_,o,_,_,e,_⟩:=x;exact B5 e
 |dT kvs=>obtain⟨_,_,_,_,o,_,_,e,_⟩:=x;exact B5 e
 |set S n=>obtain⟨o,_,_,_,e,_⟩:=x;exact B5 e
 |ins C dx fs=>obtain⟨_,_,_,e,_⟩:=x;exact B5 e
 |own y=>obtain⟨_,e⟩:=x;exact B5 e
 |xd fs=>obtain⟨_,⟨_,_,_,e,_⟩,_⟩:=x;exact B5 e
 |rng lo hi=>obtain⟨_,_,_,e⟩:=x;exact B5 e
 |frz ob u=>obtain⟨e,_⟩:=x;exact B5 e
 |tbl ps=>exact B5 (show h.get? a=some _ from x)
 |met f y=>exact B5 (show h.get? a=some _ from x)
 |ext φ=>obtain⟨_,⟨_,e⟩,_⟩:=x;exact B5 e
theorem Paired.mapP {α β:Type}{F G:α->β->Prop}:∀{l₁:List α} {l₂:List β},Paired F l₁ l₂->(∀a b,F a b->G a b)->Paired G l₁ l₂
 |_,_,.nil,_=>.nil
 |_,_,.cons r t,f=>.cons (f _ _ r) (Paired.mapP t f)
theorem BL.stay (x:BL P w H h a o)(k:∀b u,(b=a\/H b=some (.own a))->h.get? b=some u->h'.get? b=some u)
  (ho:∀b,H b=some (.own a)->H' b=some (.own a)) (ht:∀b xs,H b=some (.tup xs)->H' b=some (.tup xs)):BL P w H' h' a o:=by
 induction o with
 |lst xs=>obtain⟨z,its,n,r,e⟩:=x;exact⟨z,its,n,r,k _ _ (.inl rfl) e⟩
 |tup xs=>obtain⟨z,its,r,ob,e,c⟩:=x;exact⟨z,its,r,ob,k _ _ (.inl rfl) e,c⟩
 |dK kvs=>obtain⟨z,y,vs,r,ob,es,ep,e,c⟩:=x;exact⟨z,y,vs,r,ob,es,ep,k _ _ (.inl rfl) e,c⟩
 |
  dT kvs=>
  obtain⟨z,y,xs,r,ob,es,ep,e,c⟩:=x
  exact⟨z,y,xs,Paired.mapP r fun p q z=>⟨z.1,ht _ _ z.2.1,z.2.2⟩,ob,es,ep,k _ _ (.inl rfl) e,c⟩
 |set S n=>obtain⟨ob,es,ep,t,e,c⟩:=x;exact⟨ob,es,ep,t,k _ _ (.inl rfl) e,c⟩
 |
  ins C dx fs=>
  obtain⟨d,z,ne,e,mA,⟨od,es,ep,e2,c⟩,r⟩:=x
  exact⟨ho _ d,z,ne,k _ _ (.inl rfl) e,mA,⟨od,es,ep,k _ _ (.inr d) e2,c⟩,r⟩
 |own y=>obtain⟨ob,e⟩:=x;exact⟨ob,k _ _ (.inl rfl) e⟩
 |xd fs=>obtain⟨mA,⟨od,es,ep,e,c⟩,r⟩:=x;exact⟨mA,⟨od,es,ep,k _ _ (.inl rfl) e,c⟩,r⟩
 |rng lo hi=>obtain⟨t,u,v,e⟩:=x;exact⟨t,u,v,k _ _ (.inl rfl) e⟩
 |frz ob u ih=>obtain⟨e,q⟩:=x;exact⟨k _ _ (.inl rfl) e,ih q⟩
 |
  tbl ps=>
  have e:h.get? a=some {cls:=.none,data:=.fields ps}:=x
  show h'.get? a=some {cls:=.none,data:=.fields ps}
  exact k a _ (.inl rfl) e
 |
  met f y=>
  have e:h.get? a=some (PySem.W.methodObj (.ref f) (.ref y)):=x
  show h'.get? a=some (PySem.W.methodObj (.ref f) (.ref y))
  exact k a _ (.inl rfl) e
 |ext φ=>obtain⟨p,⟨o,e⟩,st⟩:=x;exact⟨st _ _ p fun o q=>k _ _ (.inl rfl) q,⟨o,k _ _ (.inl rfl) e⟩,st⟩
theorem BC.lt (x:BC P w H h)(e:H a=some o):a<h.objs.size:=(x a o e).lt
theorem BC.fresh (x:BC P w H h)(e:h.objs.size<=a):H a=none:=by
 cases q:H a with
 |none=>rfl
 |some u=>exact absurd (BJ (x.lt q) e) (Dd _)
theorem BC.kept (x:BC P w H h)(k:∀b u,h.get? b=some u->h'.get? b=some u):BC P w H h':=fun a o e=>
 (x a o e).stay (fun b u _ q=>k b u q) (fun _ q=>q) fun _ _ q=>q
theorem BC.laid (x:BC P w H h)(k:∀b u,h.get? b=some u->h'.get? b=some u)(hp:h.objs.size<=a)(new:BL P w (upd H a o) h' a o):BC P w (upd H a o) h':=fun b u e=>by
 have hn:=x.fresh hp
 by_cases hb:b=a
 .subst hb;rw[A6]at e;cases e;exact new
 .rw[Am hb]at e
  exact(x b u e).stay (fun c v _ q=>k c v q) (fun c q=>by rw[Am (AC q hn)];exact q) fun c xs q=>by rw[Am (AC q hn)];exact q
end
def Rd (H:Hp)(a:Addr)(u:HO):Prop:=H a=some u\/∃o,H a=some (.frz o u)
theorem Rd.ok {P:Program}{w:World}{H:Hp}{h:Heap}{a:Addr}{u:HO}(r:Rd H a u)(x:BC P w H h):BL P w H h a u:=by
 rcases r with r|⟨o,r⟩
 .exact x a u r
 .obtain⟨_,q⟩:=x a _ r
  exact q
def Jl:Option HO->Prop
 |some (.lst _)=>True
 |some (.dK _)=>True
 |some (.dT _)=>True
 |some (.set _ _)=>True
 |some (.ins _ _ _)=>True
 |some (.ext _)=>True
 |_=>False
section
variable {P:Program}{w:World}{H:Hp}{h h':Heap}{x e:Addr}{o':HO}
theorem BC.write (ok:BC P w H h)(mu:Jl (H x))(he:e=x\/H e=some (.own x))(k:∀b u,b≠e->h.get? b=some u->h'.get? b=some u)(heo:∃u,h'.get? e=some u)
  (new:BL P w (upd H x o') h' x o'):BC P w (upd H x o') h':=fun b u q=>by
 have nown:∀c y,H c=some (.own y)->c≠x:=fun c y r z=>by subst z;rw[r]at mu;exact mu
 have ntup:∀c xs,H c=some (.tup xs)->c≠x:=fun c xs r z=>by subst z;rw[r]at mu;exact mu
 by_cases hb:b=x
 .subst hb;rw[A6]at q;cases q;exact new
 .rw[Am hb]at q
  by_cases hbe:b=e
  .have q':H b=some (.own x):=by
    rcases he with z|z
    .exact absurd (hbe.trans z) hb
    .rw[hbe];exact z
   rw[q]at q';cases q'
   obtain⟨v,hv⟩:=heo
   exact⟨v,by rw[hbe];exact hv⟩
  .refine(ok b u q).stay (fun c v hc r=>k c v ?_ r) (fun c r=>by rw[Am (nown c b r)];exact r) fun c xs r=>by rw[Am (ntup c xs r)];exact r
   rcases hc with rfl|hc
   .exact hbe
   .rintro rfl
    rcases he with z|z
    .exact nown c b hc z
    .rw[hc]at z;cases z;exact hb rfl
end
structure Un (fs ex:List Addr)(H H':Hp)(h h':Heap):Prop where
 keep:∀b o,h.get? b=some o->H b=none->b∉fs->b∉ex->h'.get? b=some o
 slot:∀b o,h.get? b=some o->H b=none->b∈fs->b∉ex->∃sl,h'.get? b=some {o with slots:=sl}
 free:∀b o,h.get? b=some o->H b=none->b∉ex->H' b=none
 there:∀b o,h.get? b=some o->b∉ex->∃o',h'.get? b=some o'
 tups:∀b xs,H b=some (.tup xs)->H' b=some (.tup xs)
 frzs:∀b o u,H b=some (.frz o u)->H' b=some (.frz o u)
 tbls:∀b ps,H b=some (.tbl ps)->∃more,H' b=some (.tbl (ps++more))
section
variable {fs fs' ex ex':List Addr}{H H1 H2:Hp}{h h1 h2 h':Heap}{a x e:Addr}{o:HO}
theorem Un.any (u:Un fs ex H H1 h h1){b:Addr}{ob:Obj}(q:h.get? b=some ob)(n:H b=none)(hx:b∉ex):∃sl,h1.get? b=some {ob with slots:=sl}:=by
 by_cases hb:b∈fs
 .exact u.slot b ob q n hb hx
 .exact⟨ob.slots,u.keep b ob q n hb hx⟩
theorem Un.kept (k:∀b u,h.get? b=some u->h'.get? b=some u):Un fs ex H H h h':=
 ⟨fun b ob q _ _ _=>k b ob q,fun b ob q _ _ _=>⟨ob.slots,k b ob q⟩,fun _ _ _ n _=>n,fun b ob q _=>⟨ob,k b ob q⟩,fun _ _ q=>q,fun _ _ _ q=>q,fun _ ps q=>⟨#[],by rw[q];simp⟩⟩
theorem Un.refl:Un fs ex H H h h:=Un.kept fun _ _ q=>q
theorem Un.laid (k:∀b u,h.get? b=some u->h'.get? b=some u)(hp:h.objs.size<=a)(hn:H a=none):Un fs ex H (upd H a o) h h' where
 keep:=fun b u q _ _ _=>k b u q
 slot:=fun b u q _ _ _=>⟨u.slots,k b u q⟩
 free:=fun b u q n _=>by rw[Am (Bu (BJ (B5 q) hp))];exact n
 there:=fun b u q _=>⟨u,k b u q⟩
 tups:=fun b xs q=>by rw[Am (AC q hn)];exact q
 frzs:=fun b u xs q=>by rw[Am (AC q hn)];exact q
 tbls:=fun b ps q=>⟨#[],by rw[Am (AC q hn),q];simp⟩
theorem Un.write (mu:Jl (H x))(he:e=x\/H e=some (.own x))(k:∀b u,b≠e->h.get? b=some u->h'.get? b=some u)(heo:∃u,h'.get? e=some u):Un fs ex H (upd H x o) h h':=by
 have hx:∀b,H b=none->b≠x:=fun b n z=>by subst z;rw[n]at mu;exact mu
 have hb:∀b,H b=none->b≠e:=fun b n z=>by
  subst z
  rcases he with r|r
  .exact hx b n r
  .rw[n]at r;cases r
 have hm:∀b u,H b=some u->¬Jl (some u)->b≠x:=fun b u q nm z=>by subst z;rw[q]at mu;exact nm mu
 refine⟨fun b u q n _ _=>k b u (hb b n) q,fun b u q n _ _=>⟨u.slots,k b u (hb b n) q⟩,fun b u q n _=>by rw[Am (hx b n)];exact n,fun b u q _=>?_,
  fun b xs q=>by rw[Am (hm b _ q fun z=>z)];exact q,fun b u xs q=>by rw[Am (hm b _ q fun z=>z)];exact q,fun b ps q=>⟨#[],by rw[Am (hm b _ q fun z=>z),q];simp⟩⟩
 by_cases hbe:b=e
 .subst hbe;exact heo
 .exact⟨u,k b u hbe q⟩
end
def L3 (h:Heap)(H:Hp):List Addr:=(List.range h.objs.size).filter fun a=>(H a).isSome
def Ft (h:Heap)(H:Hp):Heap:=PySem.W.hideAll h (L3 h H)
theorem W2 (h:Heap)(H:Hp):(Ft h H).objs.size=h.objs.size:=PySem.W.hideAll_size _ _
theorem Tb {h:Heap}{H:Hp}{b:Addr}{o:Obj}(e:h.get? b=some o)(n:H b=none):(Ft h H).get? b=some o:=
 PySem.W.hideAll_get _ e fun hm=>by
  have q:(H b).isSome=true:=(Ni.mp hm).2
  rw[n]at q;simp at q
theorem Xd {h:Heap}{H:Hp}{b:Addr}{o:Obj}(e:(Ft h H).get? b=some o):h.get? b=some o/\H b=none:=by
 have e':h.get? b=some o:=PySem.W.of_hideAll (L3 h H) e
 refine⟨e',?_⟩
 cases q:H b with
 |none=>rfl
 |
  some x=>
  have hm:b∈L3 h H:=Ni.mpr ⟨Fp.mpr (B5 e'),by simp[q]⟩
  have z:(Ft h H).get? b=none:=PySem.W.hideAll_none (L3 h H) hm
  rw[z]at e;cases e
structure Mod (K:YO)(mg:Str->Option Value)(base:Heap):Prop where
 kin:K.In base
 glob:base.Ns mainGlobals mg
 blt:∃mb,base.Ns builtinsNs mb/\∀x:Str,x≠"__name__"->mb x=bootBuiltins x
 nolimit:base.NoLimit
structure Cx where
 prog:Program
 w:World
 K:YO
 mg:Str->Option Value
 base:Heap
 A:Around
 N:List Str
 s₀:Shared
 H₀:Hp
 env:Env
 outer:List Env
 stack:List Env
 ex:List Addr
 fn:Str->Bool
 calm:Bool
 pn:List (Addr×Obj)
 xe:Value->Shared->Prop
def DJ (l:List Env):List Addr:=l.filterMap (·.frame)
abbrev Cx.fs (X:Cx):List Addr:=DJ X.outer
def IA (sc:Scope)(x:Str):Prop:=sc.names.lookup x=some .local\/sc.names.lookup x=some .cell\/sc.names.lookup x=some .free
def Gj (sc:Scope)(x:Str):Prop:=sc.names.lookup x=some .local\/sc.names.lookup x=some .cell
def RX (env:Env)(h:Heap)(m:Str->Option Value)(x:Str)(u:Value):Prop:=
 (env.kindOf x=some .local/\m x=some u)\/((env.kindOf x=some .cell\/env.kindOf x=some .free)/\∃c,env.cells.lookup x=some c/\h.IsCell c (some u))
structure Cx.Ok (X:Cx):Prop where
 mod:Mod X.K X.mg X.base
 kind:X.env.scope.kind = .function
 glob:X.env.globals=mainGlobals
 blt:X.env.builtins=builtinsNs
 above:X.s₀.heap.objs.size<=X.env.locals
 inj:∀x y c,X.env.cells.lookup x=some c->X.env.cells.lookup y=some c->x=y
 has:∀x,(X.env.kindOf x=some .cell\/X.env.kindOf x=some .free)->∃c,X.env.cells.lookup x=some c
 cab:∀x c,X.fn x=true->X.env.cells.lookup x=some c->X.s₀.heap.objs.size<=c
 hd:X.calm=true->X.A.handled=none
 frames:X.A.frames=some X.stack
 stk:X.stack=X.outer\/(X.stack=X.env::X.outer/\X.env.frame=some X.env.locals)
 exf:∀b∈X.ex,b≠X.env.locals/\∀x c,X.env.cells.lookup x=some c->c≠b
 bs:∀b o,X.base.get? b=some o->X.s₀.heap.get? b=some o/\X.H₀ b=none
 bsz:X.base.objs.size<=X.s₀.heap.objs.size
 noex:∀b o,X.base.get? b=some o->b∉X.ex
 exfs:∀b∈X.ex,b∉X.fs
 funs:X.s₀.heap.FunFrames X.base X.outer
 frf:∀b∈X.fs,X.H₀ b=none
structure A4 (X:Cx)(pins:List (Addr×Obj))(σ:List (Option V))(H:Hp)(s:Shared):Prop where
 ok:X.Ok
 os:s.os=X.s₀.os
 bare:AllBare s.gens
 base:Un X.fs X.ex X.H₀ H X.s₀.heap s.heap
 loc:∃m,s.heap.Ns X.env.locals m/\∀(i:Nat) (x:Str) (v:V),X.N[i]?=some x->σ[i]?=some (some v)->IA X.env.scope x->∃u,AD v u/\RX X.env s.heap m x u
 cell:∀x c,X.env.cells.lookup x=some c->∃v,s.heap.IsCell c v
 free:H X.env.locals=none
 freeC:∀x c,X.env.cells.lookup x=some c->H c=none
 pin:∀p∈X.pn++pins,s.heap.get? p.1=some p.2/\H p.1=none/\p.1≠X.env.locals/\p.1∉X.fs/\∀v,p.2.data≠.cell v
 hok:BC X.prog X.w H s.heap
 len:σ.length=X.N.length
section
variable {X:Cx}{pins:List (Addr×Obj)}{σ:List (Option V)}{H H':Hp}{s:Shared}{h':Heap}
theorem Cx.Ok.nofr (ok:X.Ok){b:Addr}{o:Obj}(e:X.base.get? b=some o):b∉X.fs:=fun hb=>by
 have:=(ok.funs.mem hb).1
 rw[e]at this;cases this
theorem A4.bs (I:A4 X pins σ H s):∀b o,X.base.get? b=some o->s.heap.get? b=some o/\H b=none:=fun b o e=>
 ⟨I.base.keep b o (I.ok.bs b o e).1 (I.ok.bs b o e).2 (I.ok.nofr e) (I.ok.noex b o e),I.base.free b o (I.ok.bs b o e).1 (I.ok.bs b o e).2 (I.ok.noex b o e)⟩
theorem A4.bk (I:A4 X pins σ H s):∀b o,X.base.get? b=some o->s.heap.get? b=some o:=fun b o e=>(I.bs b o e).1
theorem A4.mod (I:A4 X pins σ H s):Mod X.K X.mg X.base:=I.ok.mod
theorem A4.kIn (I:A4 X pins σ H s):X.K.In s.heap:=I.ok.mod.kin.keeps I.bk
theorem A4.lt (I:A4 X pins σ H s):X.env.locals<s.heap.objs.size:=by obtain⟨_,hn,_⟩:=I.loc;exact hn.lt
theorem A4.sz (I:A4 X pins σ H s):X.s₀.heap.objs.size<=s.heap.objs.size:=E3 I.ok.above (EG I.lt)
theorem A4.nofs (I:A4 X pins σ H s){a:Addr}(h:s.heap.objs.size<=a):a∉X.fs:=fun hb=>by
 obtain⟨_,o,ho,_⟩:=I.ok.funs.mem hb
 exact absurd (BJ (B5 ho) (E3 I.sz h)) (Dd _)
theorem A4.cne (I:A4 X pins σ H s):∀x c,X.env.cells.lookup x=some c->c≠X.env.locals:=fun x c e z=>by
 obtain⟨v,o,ho,hd⟩:=I.cell x c e
 obtain⟨m,⟨o',es,ep,ho',hd',_⟩,_⟩:=I.loc
 rw[z,ho']at ho;cases ho;rw[hd']at hd;cases hd
theorem A4.funs (I:A4 X pins σ H s):s.heap.FunFrames X.base X.outer:=by
 have all:∀(l:List Env),(∀b∈DJ l,b∈X.fs)->X.s₀.heap.FunFrames X.base l->s.heap.FunFrames X.base l:=by
  intro l
  induction l with
  |nil=>intro _ _;trivial
  |
   cons env r ih=>
   intro hs hl
   obtain⟨hk,⟨L,o,hf,hn,ho,hd⟩,hr⟩:=hl
   have hL:L∈X.fs:=hs L (by unfold DJ;rw[Qp,hf];exact E4)
   obtain⟨sl,e⟩:=I.base.slot L o ho (I.ok.frf L hL) hL fun z=>I.ok.exfs L z hL
   exact⟨hk,⟨L,_,hf,hn,e,hd⟩,ih (fun b hb=>hs b (by unfold DJ;rw[Qp,hf];exact E5 _ hb)) hr⟩
 exact all X.outer (fun _ hb=>hb) I.ok.funs
theorem A4.stack (I:A4 X pins σ H s):s.heap.FunFrames X.base X.stack:=by
 rcases I.ok.stk with e|⟨e,hf⟩
 .rw[e];exact I.funs
 .rw[e]
  obtain⟨m,hn,_⟩:=I.loc
  refine .cons (by rw[I.ok.kind];decide) hf hn ?_ I.funs
  exact Heap.get?_none_of_le (E3 I.ok.bsz I.ok.above)
theorem A4.stkSub (I:A4 X pins σ H s):∀b∈DJ X.stack,b∈X.env.locals::X.fs:=fun b hb=>by
 rcases I.ok.stk with e|⟨e,hf⟩
 .rw[e]at hb;exact E5 _ hb
 .rw[e]at hb
  unfold DJ at hb
  rw[Qp,hf]at hb
  exact hb
theorem A4.stkFree (I:A4 X pins σ H s):∀b∈DJ X.stack,H b=none:=fun b hb=>by
 rcases Bv.mp (I.stkSub b hb) with e|hb
 .rw[e];exact I.free
 .obtain⟨_,o,ho,_⟩:=I.ok.funs.mem hb
  exact I.base.free b o ho (I.ok.frf b hb) fun z=>I.ok.exfs b z hb
theorem A4.step {g':Array GenState}{t':Nat}{d':Drawn}{ch:List Addr}(I:A4 X pins σ H s)
  (hch:∀b∈ch,(b∈X.ex\/X.s₀.heap.objs.size<=b)/\b≠X.env.locals/\(∀x c,X.env.cells.lookup x=some c->c≠b)/\∀p∈X.pn++pins,p.1≠b)
  (keep:∀b o,b≠X.env.locals->b∉X.fs->b∉ch->s.heap.get? b=some o->H b=none->h'.get? b=some o)
  (slot:∀b o,b≠X.env.locals->b∈X.fs->b∉ch->s.heap.get? b=some o->H b=none->∃sl,h'.get? b=some {o with slots:=sl}) (free:∀b o,b∉ch->s.heap.get? b=some o->H b=none->H' b=none)
  (there:∀b o,b∉ch->s.heap.get? b=some o->∃o',h'.get? b=some o')
  (tups:∀b xs,H b=some (.tup xs)->H' b=some (.tup xs)) (frzs:∀b o u,H b=some (.frz o u)->H' b=some (.frz o u)) (tbls:∀b ps,H b=some (.tbl ps)->∃more,H' b=some (.tbl (ps++more)))
  (ns:∀m,s.heap.Ns X.env.locals m->h'.Ns X.env.locals m) (hok:BC X.prog X.w H' h') (hg:AllBare g') :
  A4 X pins σ H' {s with heap:=h',gens:=g',drawn:=d',toks:=t'}:=by
 have neL:∀b o,X.s₀.heap.get? b=some o->b≠X.env.locals:=fun b o e=>Bu (BJ (B5 e) I.ok.above)
 have neC:∀b o,X.s₀.heap.get? b=some o->b∉X.ex->b∉ch:=fun b o e hx hb=>by
  rcases(hch b hb).1 with z|z
  .exact hx z
  .exact absurd (BJ (B5 e) z) (Dd _)
 have cellK:∀x c,X.env.cells.lookup x=some c->∀v,s.heap.IsCell c v->h'.IsCell c v:=fun x c e v ⟨o,ho,hd⟩=>by
  have nch:c∉ch:=fun z=>(hch c z).2.2.1 x c e rfl
  by_cases hc:c∈X.fs
  .obtain⟨sl,q⟩:=slot c o (I.cne x c e) hc nch ho (I.freeC x c e)
   exact⟨_,q,hd⟩
  .exact⟨o,keep c o (I.cne x c e) hc nch ho (I.freeC x c e),hd⟩
 refine⟨I.ok,I.os,hg,⟨fun b o e n hb hx=>?_,fun b o e n hb hx=>?_,fun b o e n hx=>?_,fun b o e hx=>?_,fun b xs e=>tups b xs (I.base.tups b xs e),fun b o xs e=>frzs b o xs (I.base.frzs b o xs e),fun b ps e=>?_⟩,?_,fun x c e=>?_,?_,fun x c e=>?_,fun p hp=>?_,hok,I.len⟩
 .exact keep b o (neL b o e) hb (neC b o e hx) (I.base.keep b o e n hb hx) (I.base.free b o e n hx)
 .obtain⟨sl,e1⟩:=I.base.slot b o e n hb hx
  obtain⟨sl',e2⟩:=slot b _ (neL b o e) hb (neC b o e hx) e1 (I.base.free b o e n hx)
  exact⟨sl',e2⟩
 .obtain⟨o',e1⟩:=I.base.there b o e hx
  exact free b o' (neC b o e hx) e1 (I.base.free b o e n hx)
 .obtain⟨o',e1⟩:=I.base.there b o e hx
  exact there b o' (neC b o e hx) e1
 .obtain⟨m1,e1⟩:=I.base.tbls b ps e
  obtain⟨m2,e2⟩:=tbls b _ e1
  exact⟨m1++m2,by rw[e2,Array.append_assoc]⟩
 .obtain⟨m,hn,hl⟩:=I.loc
  refine⟨m,ns m hn,fun i x v e1 e2 e3=>?_⟩
  obtain⟨u,r,l⟩:=hl i x v e1 e2 e3
  refine⟨u,r,?_⟩
  rcases l with l|⟨k,c,e,z⟩
  .exact .inl l
  .exact .inr ⟨k,c,e,cellK x c e _ z⟩
 .obtain⟨v,z⟩:=I.cell x c e
  exact⟨v,cellK x c e v z⟩
 .obtain⟨m,⟨o,_,_,ho,_⟩,_⟩:=I.loc
  exact free _ o (fun z=>(hch _ z).2.1 rfl) ho I.free
 .obtain⟨v,o,ho,hd⟩:=I.cell x c e
  exact free c o (fun z=>(hch c z).2.2.1 x c e rfl) ho (I.freeC x c e)
 .obtain⟨e,n,ne,nf,d⟩:=I.pin p hp
  have nch:p.1∉ch:=fun z=>(hch p.1 z).2.2.2 p hp rfl
  exact⟨keep p.1 p.2 ne nf nch e n,free p.1 p.2 nch e n,ne,nf,d⟩
theorem A4.un {t':Nat}(I:A4 X pins σ H s)(u:Un X.fs [] H H' s.heap h')(hok:BC X.prog X.w H' h'):A4 X pins σ H' {s with heap:=h',toks:=t'}:=by
 obtain⟨m,⟨o,es,ep,ho,r⟩,_⟩:=id I.loc
 obtain⟨sl,hL⟩:=u.any ho I.free (by simp)
 exact I.step (g':=s.gens) (d':=s.drawn) (ch:=[]) (fun _ z=>nomatch z) (fun b o _ hb _ e n=>u.keep b o e n hb (by simp)) (fun b o _ hb _ e n=>u.slot b o e n hb (by simp)) (fun b o _ e n=>u.free b o e n (by simp)) (fun b o _ e=>u.there b o e (by simp)) u.tups u.frzs u.tbls (fun m' hm=>by
  obtain⟨o',es',ep',ho',r'⟩:=hm
  rw[ho]at ho';cases ho'
  exact⟨_,es',ep',hL,r'⟩) hok I.bare
theorem A4.call {g':Array GenState}{t':Nat}{d':Drawn}{ch:List Addr}(I:A4 X pins σ H s)(u:Un (DJ X.stack) ch H H' s.heap h')(hok:BC X.prog X.w H' h')(hg:AllBare g')
  (hch:∀b∈ch,(b∈X.ex\/X.s₀.heap.objs.size<=b)/\b≠X.env.locals/\(∀x c,X.env.cells.lookup x=some c->c≠b)/\∀p∈X.pn++pins,p.1≠b) :
  A4 X pins σ H' {s with heap:=h',gens:=g',drawn:=d',toks:=t'}:=by
 obtain⟨m,⟨o,es,ep,ho,r⟩,_⟩:=id I.loc
 obtain⟨sl,hL⟩:=u.any ho I.free fun z=>(hch _ z).2.1 rfl
 exact I.step (ch:=ch) hch (fun b o hL hb hc e n=>u.keep b o e n (fun z=>(Bv.mp (I.stkSub b z)).elim hL hb) hc) (fun b o _ _ hc e n=>u.any e n hc) (fun b o hc e n=>u.free b o e n hc) (fun b o hc e=>u.there b o e hc) u.tups u.frzs u.tbls (fun m' hm=>by
  obtain⟨o',es',ep',ho',r'⟩:=hm
  rw[ho]at ho';cases ho'
  exact⟨_,es',ep',hL,r'⟩) hok hg
theorem A4.turned {t':Nat}{it:Addr}(I:A4 X pins σ H s)(k:∀b o,b≠it->s.heap.get? b=some o->h'.get? b=some o)(hn:H it=none)(hL:it≠X.env.locals)
  (h1:it∈X.ex\/X.s₀.heap.objs.size<=it) (h2:∀x c,X.env.cells.lookup x=some c->c≠it) (h3:∀p∈X.pn++pins,p.1≠it):A4 X pins σ H {s with heap:=h',toks:=t'}:=by
 have nit:∀b u,H b=some u->b≠it:=fun b u e z=>by rw[z,hn]at e;cases e
 refine I.step (g':=s.gens) (d':=s.drawn) (ch:=[it]) (fun b hb=>?_) (fun b o _ _ hc e _=>k b o (fun z=>hc (by simp[z])) e) (fun b o _ _ hc e _=>⟨o.slots,k b o (fun z=>hc (by simp[z])) e⟩) (fun _ _ _ _ n=>n)
  (fun b o hc e=>⟨o,k b o (fun z=>hc (by simp[z])) e⟩) (fun _ _ e=>e) (fun _ _ _ e=>e) (fun b ps e=>⟨#[],by rw[e];simp⟩) (fun m hm=>?_) (fun b u e=>?_) I.bare
 .have e:b=it:=by simpa using hb
  subst e
  exact⟨h1,hL,h2,h3⟩
 .obtain⟨o,es,ep,ho,r⟩:=hm
  exact⟨o,es,ep,k _ o (Ne.symm hL) ho,r⟩
 .refine(I.hok b u e).stay (fun c v hc q=>k c v ?_ q) (fun _ q=>q) fun _ _ q=>q
  rcases hc with z|z
  .rw[z];exact nit b u e
  .exact nit c _ z
theorem A4.tok (I:A4 X pins σ H s)(t:Nat):A4 X pins σ H {s with toks:=t}:=I.un (h':=s.heap) (t':=t) Un.refl I.hok
theorem A4.kept {t':Nat}(I:A4 X pins σ H s)(k:∀b u,s.heap.get? b=some u->h'.get? b=some u):A4 X pins σ H {s with heap:=h',toks:=t'}:=I.un (Un.kept k) (I.hok.kept k)
theorem A4.laid {a:Addr}{o:HO}{t':Nat}(I:A4 X pins σ H s)(k:∀b u,s.heap.get? b=some u->h'.get? b=some u)(hp:s.heap.objs.size<=a)(new:BL X.prog X.w (upd H a o) h' a o) :
 A4 X pins σ (upd H a o) {s with heap:=h',toks:=t'}:=I.un (Un.laid k hp (I.hok.fresh hp)) (I.hok.laid k hp new)
theorem A4.write {x e:Addr}{o:HO}{t':Nat}(I:A4 X pins σ H s)(mu:Jl (H x))(he:e=x\/H e=some (.own x))(k:∀b u,b≠e->s.heap.get? b=some u->h'.get? b=some u)(heo:∃u,h'.get? e=some u)
 (new:BL X.prog X.w (upd H x o) h' x o):A4 X pins σ (upd H x o) {s with heap:=h',toks:=t'}:=I.un (Un.write mu he k heo) (I.hok.write mu he k heo new)
theorem A4.weak {σ':List (Option V)}(I:A4 X pins σ H s)(hl:σ'.length=σ.length)(w:∀(i:Nat) v,σ'[i]?=some (some v)->σ[i]?=some (some v)):A4 X pins σ' H s:=
 ⟨I.ok,I.os,I.bare,I.base,let ⟨m,hn,hl'⟩:=I.loc;⟨m,hn,fun i x v e1 e2 e3=>hl' i x v e1 (w i v e2) e3⟩,I.cell,I.free,I.freeC,I.pin,I.hok,hl.trans I.len⟩
theorem A4.pins_of {pins':List (Addr×Obj)}(I:A4 X pins σ H s)(h:∀p∈pins',s.heap.get? p.1=some p.2/\H p.1=none/\p.1≠X.env.locals/\p.1∉X.fs/\∀v,p.2.data≠.cell v):A4 X pins' σ H s:=
 ⟨I.ok,I.os,I.bare,I.base,I.loc,I.cell,I.free,I.freeC,fun p hp=>(Co.mp hp).elim (fun z=>I.pin p (Qq _ z)) (h p),I.hok,I.len⟩
theorem Qo {N:List Str}(hN:N.Nodup){i j:Nat}{x:Str}(a:N[i]?=some x)(b:N[j]?=some x):i=j:=by
 obtain⟨h1,e1⟩:=AX.mp a
 obtain⟨h2,e2⟩:=AX.mp b
 exact(List.getElem_inj hN).mp (e1.trans e2.symm)
theorem Ua {M:Model}{A:Around}{E:Value->Shared->Prop}{i:Nat}{x:Str}{v:V}{u:Value}{Q:Unit->Shared->Prop}(I:A4 X pins σ H s)(hN:X.N.Nodup)(hi:X.N[i]?=some x)(hx:Gj X.env.scope x)(r:AD v u)
  (h:∀s',A4 X pins (σ.set i (some v)) H s'->(∃a,Heap.SameBut a s.heap s'.heap/\(a=X.env.locals\/X.env.cells.lookup x=some a))->Q () s') (hf:X.fn x=true\/X.env.scope.names.lookup x=some .local:=by first|exact .inl rfl|exact .inr rfl|assumption):wpAny M A (storeName X.env x u) Q E s:=by
 obtain⟨m,hn,hl⟩:=id I.loc
 have hcls:(X.env.scope.kind == .class||(X.env.scope.kind == .module&&X.env.locals != X.env.globals))=false:=by rw[I.ok.kind];rfl
 have hiσ:i<σ.length:=by rw[I.len];exact(AX.mp hi).1
 have cne:=I.cne
 have tracked:∀{a:Addr} {h':Heap},(∃o,s.heap.get? a=some o/\H a=none)->Heap.SameBut a s.heap h'->BC X.prog X.w H h':=fun{a h'} ha hs b ob e=>by
  obtain⟨_,_,hfree⟩:=ha
  refine(I.hok b ob e).stay (fun c w' hc q=>(hs.2 c ?_).trans q) (fun _ q=>q) fun _ _ q=>q
  rintro rfl
  rcases hc with rfl|hc
  .rw[hfree]at e;cases e
  .rw[hfree]at hc;cases hc
 rcases hx with hk|hk
 .refine wpAny_storeName_local hk hn (fun h' hn' hs=>?_) hcls
  obtain⟨oL,_,_,hoL,_⟩:=id hn
  refine h _ ⟨I.ok,I.os,I.bare,⟨fun b o e n hb hx=>?_,fun b o e n hb hx=>?_,I.base.free,fun b o e hx=>?_,I.base.tups,I.base.frzs,I.base.tbls⟩,⟨_,hn',fun j y v' e1 e2 e3=>?_⟩,fun y c e=>?_,I.free,I.freeC,fun p hp=>?_,tracked ⟨oL,hoL,I.free⟩ hs,by simpa using I.len⟩ ⟨_,hs,.inl rfl⟩
  .exact(hs.2 b (Bu (BJ (B5 e) I.ok.above))).trans (I.base.keep b o e n hb hx)
  .obtain⟨sl,e1⟩:=I.base.slot b o e n hb hx
   exact⟨sl,(hs.2 b (Bu (BJ (B5 e) I.ok.above))).trans e1⟩
  .obtain⟨o',e1⟩:=I.base.there b o e hx
   exact⟨o',(hs.2 b (Bu (BJ (B5 e) I.ok.above))).trans e1⟩
  .by_cases hj:j=i
   .subst hj
    rw[hi]at e1;cases e1
    rw[List.getElem?_set_self hiσ]at e2
    cases e2
    exact⟨u,r,.inl ⟨hk,by simp⟩⟩
   .rw[List.getElem?_set_ne (Ne.symm hj)]at e2
    obtain⟨u',r',q⟩:=hl j y v' e1 e2 e3
    refine⟨u',r',?_⟩
    rcases q with⟨k,e⟩|⟨k,c,e,z⟩
    .refine .inl ⟨k,?_⟩
     have:y≠x:=fun e=>hj (Qo hN e1 (e▸hi))
     simp[this,e]
    .exact .inr ⟨k,c,e,z.sameBut hs (cne y c e)⟩
  .obtain⟨w',z⟩:=I.cell y c e
   exact⟨w',z.sameBut hs (cne y c e)⟩
  .obtain⟨e,n,ne,nf,d⟩:=I.pin p hp
   exact⟨(hs.2 p.1 ne).trans e,n,ne,nf,d⟩
 .have hfn:X.fn x=true:=by
   rcases hf with z|z
   .exact z
   .rw[z]at hk;cases hk
  obtain⟨c,hc⟩:=I.ok.has x (.inl hk)
  obtain⟨w',z⟩:=I.cell x c hc
  refine wpAny_storeName_cell I.ok.kind hk hc z (fun h' hc' hs=>?_)
  obtain⟨oc,hoc,hocd⟩:=id z
  refine h {s with heap:=h'} ⟨I.ok,I.os,I.bare,⟨fun b o e n hb hx=>?_,fun b o e n hb hx=>?_,I.base.free,fun b o e hx=>?_,I.base.tups,I.base.frzs,I.base.tbls⟩,⟨m,hn.sameBut hs (Ne.symm (cne x c hc)),fun j y v' e1 e2 e3=>?_⟩,fun y c' e=>?_,I.free,I.freeC,fun p hp=>?_,tracked ⟨oc,hoc,I.freeC x c hc⟩ hs,by simpa using I.len⟩ ⟨c,hs,.inr hc⟩
  .exact(hs.2 b (Bu (BJ (B5 e) (I.ok.cab x c hfn hc)))).trans (I.base.keep b o e n hb hx)
  .obtain⟨sl,e1⟩:=I.base.slot b o e n hb hx
   exact⟨sl,(hs.2 b (Bu (BJ (B5 e) (I.ok.cab x c hfn hc)))).trans e1⟩
  .obtain⟨o',e1⟩:=I.base.there b o e hx
   exact⟨o',(hs.2 b (Bu (BJ (B5 e) (I.ok.cab x c hfn hc)))).trans e1⟩
  .by_cases hj:j=i
   .subst hj
    rw[hi]at e1;cases e1
    rw[List.getElem?_set_self hiσ]at e2
    cases e2
    exact⟨u,r,.inr ⟨.inl hk,c,hc,hc'⟩⟩
   .rw[List.getElem?_set_ne (Ne.symm hj)]at e2
    obtain⟨u',r',q⟩:=hl j y v' e1 e2 e3
    refine⟨u',r',?_⟩
    rcases q with q|⟨k,c',e,z'⟩
    .exact .inl q
    .refine .inr ⟨k,c',e,z'.sameBut hs ?_⟩
     rintro rfl
     exact hj (Qo hN e1 (I.ok.inj _ _ _ e hc▸hi))
  .by_cases hcc:c'=c
   .subst hcc;exact⟨_,hc'⟩
   .obtain⟨w2,z2⟩:=I.cell y c' e
    exact⟨w2,z2.sameBut hs hcc⟩
  .obtain⟨e,n,ne,nf,d⟩:=I.pin p hp
   refine⟨(hs.2 p.1 ?_).trans e,n,ne,nf,d⟩
   intro q
   rw[q,hoc]at e
   have q':oc=p.2:=Cg e
   exact d w' (by rw[←q'];exact hocd)
theorem Li {M:Model}{A:Around}{E:Value->Shared->Prop}{i:Nat}{x:Str}{v:V}{u:Value}{Q:Unit->Shared->Prop}(I:A4 X pins σ H s)(hN:X.N.Nodup)(hi:X.N[i]?=some x)(hx:Gj X.env.scope x)(r:AD v u)
  (h:∀s',A4 X pins (σ.set i (some v)) H s'->Q () s') (hf:X.fn x=true\/X.env.scope.names.lookup x=some .local:=by first|exact .inl rfl|exact .inr rfl|assumption):wpAny M A (storeName X.env x u) Q E s:=
 Ua I hN hi hx r (fun s' I' _=>h s' I') hf
theorem A4.call' {s':Shared}{ch:List Addr}(I:A4 X pins σ H s)(ho:s'.os=s.os)(u:Un (DJ X.stack) ch H H' s.heap s'.heap)(hok:BC X.prog X.w H' s'.heap)(hg:AllBare s'.gens)
  (hch:∀b∈ch,(b∈X.ex\/X.s₀.heap.objs.size<=b)/\b≠X.env.locals/\(∀x c,X.env.cells.lookup x=some c->c≠b)/\∀p∈X.pn++pins,p.1≠b):A4 X pins σ H' s':=by
 obtain⟨h',g',d',t',o'⟩:=s'
 have e:o'=s.os:=ho
 subst e
 exact I.call (g':=g') (t':=t') (d':=d') u hok hg hch
end
abbrev XK:=Value->Option Addr->Hp->Prop
abbrev St:=List (Option V)
abbrev VK:=V->Hp->Prop
abbrev TE:=St->Hp->VK->Prop
abbrev TT:=St->Hp->(Bool->Hp->Prop)->Prop
abbrev TA:=St->Hp->(List V->Hp->Prop)->Prop
structure De where
 nx:St->Hp->Prop
 rt:VK
 bk:St->Hp->Prop:=fun _ _=>False
 ct:St->Hp->Prop:=fun _ _=>False
abbrev TS:=De->St->Hp->Prop
def EP (X:Cx)(pins:List (Addr×Obj))(σ:St)(Q:VK)(u:Value)(s':Shared):Prop := ∃v H',A4 X pins σ H' s'/\AD v u/\Q v H'
def TP (X:Cx)(pins:List (Addr×Obj))(σ:St)(Q:Bool->Hp->Prop)(b:Bool)(s':Shared):Prop := ∃H',A4 X pins σ H' s'/\Q b H'
def AP (X:Cx)(pins:List (Addr×Obj))(σ:St)(Q:List V->Hp->Prop)(us:List Value)(s':Shared):Prop := ∃vs H',A4 X pins σ H' s'/\Ay vs us/\Q vs H'
def SP (X:Cx)(pins:List (Addr×Obj))(D:De)(f:Flow)(s':Shared):Prop:=
 match f with
 |.next=>∃σ' H',A4 X pins σ' H' s'/\D.nx σ' H'
 |.brk=>∃σ' H',A4 X pins σ' H' s'/\D.bk σ' H'
 |.cont=>∃σ' H',A4 X pins σ' H' s'/\D.ct σ' H'
 |.ret u=>∃v σ' H',A4 X pins σ' H' s'/\AD v u/\D.rt v H'
def PE (X:Cx)(e:Expr)(t:TE):Prop:=
 ∀(pins:List (Addr×Obj)) (s:Shared) (σ:St) (H:Hp) (Q:VK),A4 X pins σ H s->t σ H Q->wpAny (model X.prog X.w) X.A (eval e X.env) (EP X pins σ Q) X.xe s
def PT (X:Cx)(e:Expr)(t:TT):Prop:=
 ∀(pins:List (Addr×Obj)) (s:Shared) (σ:St) (H:Hp) (Q:Bool->Hp->Prop),A4 X pins σ H s->t σ H Q->wpAny (model X.prog X.w) X.A (isTrue e X.env (eval e X.env)) (TP X pins σ Q) X.xe s
def PW (X:Cx)(e:Expr)(t:TT):Prop:=
 ∀(whole:Sem Value) (pins:List (Addr×Obj)) (s:Shared) (σ:St) (H:Hp) (Q:Bool->Hp->Prop),A4 X pins σ H s->t σ H Q->wpAny (model X.prog X.w) X.A (isTrue e X.env whole) (TP X pins σ Q) X.xe s
theorem PW.pt {X:Cx}{e:Expr}{t:TT}(h:PW X e t):PT X e t:=h _
def PA (X:Cx)(es:List Expr)(t:TA):Prop:=
 ∀(pos:Pos) (pins:List (Addr×Obj)) (s:Shared) (σ:St) (H:Hp) (Q:List V->Hp->Prop),A4 X pins σ H s->t σ H Q->wpAny (model X.prog X.w) X.A (spliced (backTo pos (starEach es X.env))) (AP X pins σ Q) X.xe s
def PS (X:Cx)(st:Stmt)(t:TS):Prop:=
 ∀(pins:List (Addr×Obj)) (s:Shared) (σ:St) (H:Hp) (D:De),A4 X pins σ H s->t D σ H->wpAny (model X.prog X.w) X.A (exec st X.env) (SP X pins D) X.xe s
def Eg (X:Cx)(st:List Stmt)(t:TS):Prop:=
 ∀(pins:List (Addr×Obj)) (s:Shared) (σ:St) (H:Hp) (D:De),A4 X pins σ H s->t D σ H->wpAny (model X.prog X.w) X.A (execs st X.env) (SP X pins D) X.xe s
theorem Au {α:Type}{t:Sem α}{Q Q':α->Shared->Prop}{M:Model}{A:Around}{E:Value->Shared->Prop}{s:Shared}(h:wpAny M A t Q E s)(hQ:∀a s,Q a s->Q' a s):wpAny M A t Q' E s:=E6 h hQ fun _ _ x=>x
section
variable {X:Cx}
def My (i:Nat):TE:=fun σ H Q=>∃v,σ[i]?=some (some v)/\Q v H
def tC (v:V):TE:=fun _ H Q=>Q v H
theorem Ud {i:Nat}{x:Str}{pos:Pos}(hN:X.N[i]?=some x)(hv:IA X.env.scope x)(hd:(x==("__debug__":Str))=false:=by decide)(hcd:(x==("__classdict__":Str))=false:=by decide):PE X (.Name x pos) (My i):=by
 intro pins s σ H Q I h
 obtain⟨v,e,h⟩:=h
 obtain⟨m,hn,hl⟩:=I.loc
 obtain⟨u,r,l⟩:=hl i x v hN e hv
 have fin:EP X pins σ Q u s:=⟨v,H,I,r,h⟩
 rcases l with⟨hk,hm⟩|⟨hk,c,hc,hcell⟩
 .exact wpAny_Name (wpAny_loadName_local I.ok.kind hk hn hm fin) hd
 .rcases hk with hk|hk
  .exact wpAny_Name (wpAny_loadName_cell I.ok.kind hk hc hcell fin) hd
  .exact wpAny_Name (wpAny_loadName_free I.ok.kind hk hc hcell fin hcd) hd
theorem A1 {i j pos}:PE X (.Constant (.int i) j pos) (tC (.int i)):=fun _ _ _ H _ I h=>wpAny_Constant_int ⟨.int i,H,I.tok _,⟨_,rfl⟩,h⟩
theorem CS {b j pos}:PE X (.Constant (.bool b) j pos) (tC (.bl b)):=fun _ _ _ H _ I h=>Constant_bool ⟨.bl b,H,I,rfl,h⟩
theorem FY {j pos}:PE X (.Constant .none j pos) (tC .non):=fun _ _ _ H _ I h=>Constant_none ⟨.non,H,I,rfl,h⟩
theorem BD {x j pos}:PE X (.Constant (.str x) j pos) (tC (.str x)):=fun _ _ _ H _ I h=>Calls.Constant_str ⟨.str x,H,I.tok _,⟨_,rfl⟩,h⟩
def Gl (X:Cx)(x:Str):Prop:=X.env.kindOf x=some .globalImplicit
theorem NS {E:Value->Shared->Prop}{pins:List (Addr×Obj)}{s:Shared}{σ:St}{H:Hp}{x:Str}{u:Value}{pos:Pos}{Q:Value->Shared->Prop}(I:A4 X pins σ H s)(hg:Gl X x)(hm:X.mg x=some u)(h:Q u s)
  (hd:(x==("__debug__":Str))=false:=by decide):wpAny (model X.prog X.w) X.A (eval (.Name x pos) X.env) Q E s:=
 Calls.Name_function_global I.ok.kind hg (Calls.loadGlobal_global (by rw[I.ok.glob];exact I.mod.glob.keeps I.bk) hm h) hd
theorem Fu {E:Value->Shared->Prop}{pins:List (Addr×Obj)}{s:Shared}{σ:St}{H:Hp}{x:Str}{u:Value}{pos:Pos}{Q:Value->Shared->Prop}(I:A4 X pins σ H s)(hg:Gl X x)(hm:X.mg x=none)(hv:bootBuiltins x=some u)(h:Q u s)
  (hn:x≠"__name__":=by decide) (hd:(x==("__debug__":Str))=false:=by decide):wpAny (model X.prog X.w) X.A (eval (.Name x pos) X.env) Q E s:=by
 obtain⟨mb,h1,h2⟩:=I.mod.blt
 exact Calls.Name_function_global I.ok.kind hg (Calls.loadGlobal_builtin (by rw[I.ok.glob];exact I.mod.glob.keeps I.bk) hm (by rw[I.ok.blt];exact h1.keeps I.bk) ((h2 x hn).trans hv) h) hd
theorem Fd {x:Str}{v:V}{u:Value}{pos:Pos}(hg:Gl X x)(hm:X.mg x=none)(hv:bootBuiltins x=some u)(r:AD v u)(hn:x≠"__name__":=by decide)(hd:(x==("__debug__":Str))=false:=by decide):PE X (.Name x pos) (tC v):=
 fun _ _ _ H _ I h=>Fu I hg hm hv ⟨v,H,I,r,h⟩ hn hd
variable {a b:Expr}{ta tb:TE}{pos:Pos}
def tB (t:TE):TT:=fun σ H Q=>t σ H fun x H1=>∃c,x = .bl c/\Q c H1
theorem Cv {e:Expr}{t:TE}(h:PE X e t)(he:∀whole,isTrue e X.env whole=(do let v ←whole;standAt e.pos;holding [v] (truthy v)):=by intro _;rfl):PT X e (tB t):=by
 intro pins s σ H Q I hw
 refine isTrue_plain (Au (h pins s σ H _ I hw) fun v s1 zz=>?_) (he _)
 obtain⟨x,H1,I1,r1,q1⟩:=zz
 obtain⟨d,rfl,q⟩:=q1
 cases r1
 exact JB ⟨H1,I1,q⟩
variable {tA tB':TT}{rest:List Expr}
def Q7 (t u:TT):TT:=fun σ H Q=>t σ H fun c H1=>if c=true then u σ H1 Q else Q false H1
def UI (t u:TT):TT:=fun σ H Q=>t σ H fun c H1=>if c=true then Q true H1 else u σ H1 Q
def Wz (t:TT):TT:=fun σ H Q=>t σ H fun c H1=>Q (!c) H1
theorem HJ (ha:PT X a tA):PW X (.BoolOp .And [a] pos) tA:=by
 intro wh pins s σ H Q I h
 refine isTrue_and (Au (ha pins s σ H Q I h) fun c s1 e=>?_)
 cases c with
 |true=>exact isTrue_and_nil e
 |false=>exact e
theorem DL (ha:PT X a tA):PW X (.BoolOp .Or [a] pos) tA:=by
 intro wh pins s σ H Q I h
 refine isTrue_or (Au (ha pins s σ H Q I h) fun c s1 e=>?_)
 cases c with
 |false=>exact isTrue_or_nil e
 |true=>exact e
theorem FS (ha:PT X a tA)(hb:PW X (.BoolOp .And (b::rest) pos) tB'):PW X (.BoolOp .And (a::b::rest) pos) (Q7 tA tB'):=by
 intro wh pins s σ H Q I h
 refine isTrue_and (Au (ha pins s σ H _ I h) fun c s1 zz=>?_)
 obtain⟨H1,I1,q1⟩:=zz
 cases c with
 |true=>exact hb wh pins s1 σ H1 Q I1 q1
 |false=>exact⟨H1,I1,q1⟩
theorem Cy (ha:PT X a tA)(hb:PW X (.BoolOp .Or (b::rest) pos) tB'):PW X (.BoolOp .Or (a::b::rest) pos) (UI tA tB'):=by
 intro wh pins s σ H Q I h
 refine isTrue_or (Au (ha pins s σ H _ I h) fun c s1 zz=>?_)
 obtain⟨H1,I1,q1⟩:=zz
 cases c with
 |true=>exact⟨H1,I1,q1⟩
 |false=>exact hb wh pins s1 σ H1 Q I1 q1
theorem D7 (ha:PT X a tA):PT X (.UnaryOp .Not a pos) (Wz tA):=by
 intro pins s σ H Q I h
 exact isTrue_not (ha pins s σ H (fun c H1=>Q (!c) H1) I h)
def Uc (ta tb:TE):TE:=fun σ H Q=>ta σ H fun x H1=>∃c,x = .bl c/\if c=true then tb σ H1 Q else Q (.bl false) H1
def QX (ta:TE):TE:=fun σ H Q=>ta σ H fun x H1=>∃c,x = .bl c/\Q (.bl (!c)) H1
theorem MK {op}{t:TE}(h:PE X a t):PE X (.BoolOp op [a] pos) t:=fun pins s σ H Q I hw=>BoolOp_one (h pins s σ H Q I hw)
theorem JH (ha:PE X a ta)(hb:PE X (.BoolOp .And (b::rest) pos) tb):PE X (.BoolOp .And (a::b::rest) pos) (Uc ta tb):=by
 intro pins s σ H Q I h
 refine BoolOp_and (Au (ha pins s σ H _ I h) fun v s1 zz=>?_)
 obtain⟨x,H1,I1,r1,q1⟩:=zz
 obtain⟨c,rfl,q1⟩:=q1
 cases r1
 refine JB ?_
 cases c with
 |true=>exact hb pins s1 σ H1 Q I1 q1
 |false=>exact⟨.bl false,H1,I1,rfl,q1⟩
theorem XM (ha:PE X a ta):PE X (.UnaryOp .Not a pos) (QX ta):=by
 intro pins s σ H Q I h
 refine UnaryOp_ (Au (ha pins s σ H _ I h) fun v s1 zz=>?_)
 obtain⟨x,H1,I1,r1,q1⟩:=zz
 obtain⟨c,rfl,q1⟩:=q1
 cases r1
 exact not_of (JB ⟨.bl (!c),H1,I1,rfl,q1⟩)
end
def A5 (K:YO)(H:Hp)(a:Addr)(xs:List V):Prop:=
 Rd H a (.lst xs)\/
  ∃(o:Obj) (its:Array Value) (n:Nat),K.lookup a=some o/\o.cls = .type "list"/\o.dict=none/\o.data = .seq its n/\its.size<=sizeLine/\Ay xs its.toList
def A3 (K:YO)(H:Hp)(a:Addr)(xs:List V):Prop:=
 Rd H a (.tup xs)\/
  ∃(o:Obj) (its:Array Value) (n:Nat),K.lookup a=some o/\o.cls = .type "tuple"/\o.data = .seq its n/\its.size<=sizeLine/\Ay xs its.toList
def YB:Value->Option V
 |.none=>some .non
 |.bool b=>some (.bl b)
 |.int i _=>some (.int i)
 |.str x _=>some (.str x)
 |.bytes b _=>some (.byt b)
 |.float b _=>some (.flt b)
 |.ref a=>some (.ref a)
 |.type n=>some (.ty n)
 |_=>none
theorem AD.abs {x:V}{u:Value}(r:AD x u):YB u=some x:=by
 cases x with
 |non=>cases r;rfl
 |bl _=>cases r;rfl
 |int _=>obtain⟨t,rfl⟩:=r;rfl
 |str _=>obtain⟨t,rfl⟩:=r;rfl
 |byt _=>obtain⟨t,rfl⟩:=r;rfl
 |flt _=>obtain⟨t,rfl⟩:=r;rfl
 |ref _=>cases r;rfl
 |ty _=>cases r;rfl
theorem AD.inj {x y:V}{u:Value}(r:AD x u)(q:AD y u):x=y:=Cg (r.abs.symm.trans q.abs)
theorem Ay.inj:∀{xs ys:List V} {us:List Value},Ay xs us->Ay ys us->xs=ys:=by
 intro xs
 induction xs with
 |
  nil=>
  intro ys us h k
  cases h
  cases k
  rfl
 |
  cons x xs ih=>
  intro ys us h k
  cases h with
  |
   cons r t=>
   cases k with
   |cons r' t'=>rw[r.inj r',ih t t']
section
variable {X:Cx}{pins:List (Addr×Obj)}{σ:St}{H:Hp}{s:Shared}{a:Addr}{xs ys:List V}
theorem A5.of {K:YO}(h:H a=some (.lst xs)):A5 K H a xs:=.inl (.inl h)
theorem A3.of {K:YO}(h:H a=some (.tup xs)):A3 K H a xs:=.inl (.inl h)
theorem A4.list (I:A4 X pins σ H s)(h:A5 X.K H a xs):∃its:List Value,Ay xs its/\PlainL s.heap a its.toArray/\xs.length<=sizeLine:=by
 rcases h with h|⟨o,its,n,hk,hc,hd,hs,hz,r⟩
 .obtain⟨z,its,n,r,e⟩:=h.ok I.hok
  exact⟨its,r,⟨_,n,e,rfl,rfl,rfl⟩,z⟩
 .refine⟨its.toList,r,⟨o,n,I.kIn a o hk,hc,hd,by simpa using hs⟩,?_⟩
  have e:=r.length
  simp only[Qr]at e
  lia
theorem A4.tuple (I:A4 X pins σ H s)(h:A3 X.K H a xs):∃its:List Value,Ay xs its/\IsTup s.heap a its.toArray/\xs.length<=sizeLine:=by
 rcases h with h|⟨o,its,n,hk,hc,hs,hz,r⟩
 .obtain⟨z,its,r,p⟩:=h.ok I.hok
  exact⟨its,r,p.tup,z⟩
 .refine⟨its.toList,r,⟨o,I.kIn a o hk,hc,n,by simpa using hs⟩,?_⟩
  have e:=r.length
  simp only[Qr]at e
  lia
theorem A4.list_inj (I:A4 X pins σ H s)(h:A5 X.K H a xs)(h':A5 X.K H a ys):xs=ys:=by
 obtain⟨its,r,⟨o,n,e,_,_,d⟩,_⟩:=I.list h
 obtain⟨its',r',⟨o',n',e',_,_,d'⟩,_⟩:=I.list h'
 rw[e]at e';cases e'
 rw[d]at d'
 injection d' with d1 _
 have:its=its':=by simpa using congrArg Array.toList d1
 subst this
 exact r.inj r'
theorem A4.tuple_inj (I:A4 X pins σ H s)(h:A3 X.K H a xs)(h':A3 X.K H a ys):xs=ys:=by
 obtain⟨its,r,⟨o,e,_,n,d⟩,_⟩:=I.tuple h
 obtain⟨its',r',⟨o',e',_,n',d'⟩,_⟩:=I.tuple h'
 rw[e]at e';cases e'
 rw[d]at d'
 injection d' with d1 _
 have:its=its':=by simpa using congrArg Array.toList d1
 subst this
 exact r.inj r'
end
abbrev Cx.wish (X:Cx)(E:Value->Shared->Prop):Cx:={X with xe:=E}
abbrev Cx.nox (X:Cx):Cx:=X.wish fun _ _=>False
theorem Cx.Ok.wish {X:Cx}(ok:X.Ok)(E:Value->Shared->Prop):(X.wish E).Ok:=
 ⟨ok.mod,ok.kind,ok.glob,ok.blt,ok.above,ok.inj,ok.has,ok.cab,ok.hd,ok.frames,ok.stk,ok.exf,ok.bs,ok.bsz,ok.noex,ok.exfs,ok.funs,ok.frf⟩
theorem Cx.Ok.unwish {X:Cx}{E:Value->Shared->Prop}(ok:(X.wish E).Ok):X.Ok:=
 ⟨ok.mod,ok.kind,ok.glob,ok.blt,ok.above,ok.inj,ok.has,ok.cab,ok.hd,ok.frames,ok.stk,ok.exf,ok.bs,ok.bsz,ok.noex,ok.exfs,ok.funs,ok.frf⟩
section
variable {X:Cx}{pins:List (Addr×Obj)}{σ:St}{H:Hp}{s:Shared}{E:Value->Shared->Prop}
theorem A4.wish (I:A4 X pins σ H s)(E:Value->Shared->Prop):A4 (X.wish E) pins σ H s:=⟨I.ok.wish E,I.os,I.bare,I.base,I.loc,I.cell,I.free,I.freeC,I.pin,I.hok,I.len⟩
theorem A4.unwish (I:A4 (X.wish E) pins σ H s):A4 X pins σ H s:=⟨I.ok.unwish,I.os,I.bare,I.base,I.loc,I.cell,I.free,I.freeC,I.pin,I.hok,I.len⟩
theorem SP.unwish {D:De}{f:Flow}{s':Shared}(h:SP (X.wish E) pins D f s'):SP X pins D f s':=by
 cases f with
 |next=>obtain⟨σ',H',I,q⟩:=h;exact⟨σ',H',I.unwish,q⟩
 |brk=>obtain⟨σ',H',I,q⟩:=h;exact⟨σ',H',I.unwish,q⟩
 |cont=>obtain⟨σ',H',I,q⟩:=h;exact⟨σ',H',I.unwish,q⟩
 |ret u=>obtain⟨v,σ',H',I,r,q⟩:=h;exact⟨v,σ',H',I.unwish,r,q⟩
theorem Eg.nox {st:List Stmt}{t:TS}(h:Eg X.nox st t):Eg X st t:=fun pins s σ H D I hw=>
 E6 (h pins s σ H D (I.wish _) hw) (fun _ _ q=>q.unwish) fun _ _ z=>False.elim z
end
section
variable {X:Cx}{st:Stmt}{rest:List Stmt}{t u:TS}{e:Expr}{te:TE}{pos:Pos}
def Dj:TS:=fun D σ H=>D.nx σ H
def DN (t u:TS):TS:=fun D σ H=>t {D with nx:=u D} σ H
theorem Bj:Eg X [] Dj:=fun _ _ σ H _ I h=>Nv ⟨σ,H,I,h⟩
theorem A8 (h1:PS X st t)(h2:Eg X rest u):Eg X (st::rest) (DN t u):=by
 intro pins s σ H D I h
 refine wpAny_execs_cons (Au (h1 pins s σ H {D with nx:=u D} I h) fun f s1 q=>?_)
 cases f with
 |
  next=>
  obtain⟨σ',H',I',q⟩:=q
  exact h2 pins s1 σ' H' D I' q
 |ret v=>exact q
 |brk=>exact q
 |cont=>exact q
theorem Ae (h1:PS X st t):Eg X [st] t:=by
 intro pins s σ H D I h
 refine wpAny_execs_cons (Au (h1 pins s σ H D I h) fun f s1 q=>?_)
 cases f with
 |next=>exact Nv q
 |ret v=>exact q
 |brk=>exact q
 |cont=>exact q
theorem A4.quiet {pins:List (Addr×Obj)}{σ:St}{H:Hp}{s:Shared}(I:A4 X pins σ H s):interactive X.env=false:=by simp[interactive,I.ok.kind]
def VM (te:TE):TS:=fun D σ H=>te σ H fun _ H1=>D.nx σ H1
theorem BP (he:PE X e te)(hs:swapsWith e none pos.line X.env=pure false:=by rfl):PS X (.Expr e pos) (VM te):=by
 intro pins s σ H D I h
 refine wpAny_Expr_any (Au (he pins s σ H _ I h) fun v s1 zz=>?_) I.quiet hs
 obtain⟨x,H1,I1,r1,q1⟩:=zz
 exact⟨σ,H1,I1,q1⟩
def O2 (te:TE):TS:=fun D σ H=>te σ H D.rt
theorem Av (he:PE X e te):PS X (.Return (some e) pos) (O2 te):=by
 intro pins s σ H D I h
 refine wpAny_Return_some (Au (he pins s σ H _ I h) fun v s1 zz=>?_)
 obtain⟨x,H1,I1,r1,q1⟩:=zz
 exact⟨x,σ,H1,I1,r1,q1⟩
def LU (c:TT)(t u:TS):TS:=fun D σ H=>c σ H fun b H1=>if b=true then t D σ H1 else u D σ H1
theorem Be {c:Expr}{a b:List Stmt}{tc:TT}(hc:PT X c tc)(ha:Eg X a t)(hb:Eg X b u):PS X (.If c a b pos) (LU tc t u):=by
 intro pins s σ H D I h
 refine wpAny_If (Au (hc pins s σ H _ I h) fun d s1 zz=>?_)
 obtain⟨H1,I1,q1⟩:=zz
 cases d with
 |true=>exact ha pins s1 σ H1 D I1 q1
 |false=>exact hb pins s1 σ H1 D I1 q1
end
abbrev TG:=V->St->Hp->(St->Hp->Prop)->Prop
abbrev Fx:=List V->St->Hp->(St->Hp->Prop)->Prop
def PG (X:Cx)(target:Expr)(t:TG):Prop:=
 ∀(pins:List (Addr×Obj)) (s:Shared) (σ:St) (H:Hp) (v:V) (u:Value) (Q:St->Hp->Prop),A4 X pins σ H s->AD v u->t v σ H Q->
  wpAny (model X.prog X.w) X.A (assign target X.env u) (fun _ s'=>∃σ' H',A4 X pins σ' H' s'/\Q σ' H') X.xe s
def IE (X:Cx)(ts:List Expr)(t:Fx):Prop:=
 ∀(pins:List (Addr×Obj)) (s:Shared) (σ:St) (H:Hp) (vs:List V) (us:List Value) (Q:St->Hp->Prop),A4 X pins σ H s->Ay vs us->t vs σ H Q->
  wpAny (model X.prog X.w) X.A (assignInOrder ((assignEach ts X.env).map (·.2)) us) (fun _ s'=>∃σ' H',A4 X pins σ' H' s'/\Q σ' H') X.xe s
abbrev LZ:=V->V->V->Hp->(Hp->Prop)->Prop
def Oy (X:Cx)(t:LZ):Prop:=
 ∀(pins:List (Addr×Obj)) (s:Shared) (σ:St) (H:Hp) (o i v:V) (ov iv u:Value) (Q:Hp->Prop),A4 X pins σ H s->AD o ov->AD i iv->AD v u->t o i v H Q->
  wpAny (model X.prog X.w) X.A (setItem ov iv u) (fun _ s'=>∃H',A4 X pins σ H' s'/\Q H') X.xe s
abbrev KJ:=V->V->Hp->VK->Prop
def OT (X:Cx)(op:Operator)(t:KJ):Prop:=
 ∀(pins:List (Addr×Obj)) (s:Shared) (σ:St) (H:Hp) (x y:V) (v u:Value) (Q:VK),A4 X pins σ H s->AD x v->AD y u->t x y H Q->
  wpAny (model X.prog X.w) X.A (inplaceOp op v u) (EP X pins σ Q) X.xe s
section
variable {X:Cx}{pos:Pos}
def Ag (i:Nat):TG:=fun v σ H Q=>Q (σ.set i (some v)) H
theorem Al {i:Nat}{x:Str}(hN:X.N.Nodup)(hi:X.N[i]?=some x)(hx:Gj X.env.scope x)(hf:X.fn x=true\/X.env.scope.names.lookup x=some .local:=by first|exact .inl rfl|exact .inr rfl|assumption):PG X (.Name x pos) (Ag i):=by
 intro pins s σ H v u Q I r h
 exact wpAny_assign_Name (Li I hN hi hx r (fun s' I'=>⟨_,H,I',h⟩) hf)
def UY:Fx:=fun vs σ H Q=>vs=[]/\Q σ H
def VW (t:TG)(u:Fx):Fx:=fun vs σ H Q=>∃v r,vs=v::r/\t v σ H fun σ' H'=>u r σ' H' Q
theorem BS:IE X [] UY:=by
 intro pins s σ H vs us Q I r h
 obtain⟨e,h⟩:=h
 subst e
 cases r
 exact assignInOrder_nil ⟨σ,H,I,h⟩
theorem AA {e:Expr}{es:List Expr}{t:TG}{u:Fx}(h1:PG X e t)(h2:IE X es u)
  (hs:(assignEach (e::es) X.env).map (·.2)=assign e X.env::(assignEach es X.env).map (·.2):=by rfl):IE X (e::es) (VW t u):=by
 intro pins s σ H vs us Q I r h
 obtain⟨v,vr,e1,h⟩:=h
 subst e1
 cases r with
 |
  cons r rr=>
  rw[hs]
  refine assignInOrder_cons (Au (h1 pins s σ H _ _ _ I r h) fun _ s1 zz=>?_)
  obtain⟨σ1,H1,I1,q1⟩:=zz
  exact h2 pins s1 σ1 H1 _ _ Q I1 rr q1
def N2 (K:YO)(n:Nat)(t:Fx):TG:=fun v σ H Q=>∃a xs,v = .ref a/\A3 K H a xs/\xs.length=n/\t xs σ H Q
theorem BY {es:List Expr}{k:Nat}{t:Fx}{n:Nat}(hc:X.calm=true)(h:IE X es t)
  (hn:(assignEach es X.env).length=n:=by rfl) (hst:(assignEach es X.env).findIdx? (·.1)=none:=by rfl):PG X (.Tuple es k pos) (N2 X.K n t):=by
 intro pins s σ H v u Q I r hw
 obtain⟨a,xs,e1,hq,hl,hw⟩:=hw
 subst e1
 cases r
 obtain⟨its,rv,ht,hz⟩:=I.tuple hq
 refine assign_Tuple_tuple (I.ok.hd hc) ht (by simp[hn,←hl,rv.length]) hst fun h' hx=>?_
 have I1:A4 X pins σ H {s with heap:=h'}:=I.kept (t':=s.toks) fun b o e=>hx b o (Bu (B5 e)) e
 exact h pins _ σ H xs _ Q I1 (by simpa using rv) hw
def SF (to ti:TE)(t:LZ):TG:=fun v σ H Q=>to σ H fun o H1=>ti σ H1 fun i H2=>t o i v H2 fun H3=>Q σ H3
theorem LH {o i:Expr}{to ti:TE}{t:LZ}(ho:PE X o to)(hi:PE X i ti)(hs:Oy X t)
  (ha:∀v,assign (.Subscript o i pos) X.env v=(do
   let ov ←holding [v] (eval o X.env)
   let iv ←holding [v,ov] (eval i X.env)
   standAt pos
   holding [v,ov,iv] (setItem ov iv v)
   release [v,ov,iv] []):=by intro _;rfl):PG X (.Subscript o i pos) (SF to ti t):=by
 intro pins s σ H v u Q I r h
 rw[ha]
 refine Ao (FM (Au (ho pins s σ H _ I h) fun ov s1 zz=>?_))
 obtain⟨x,H1,I1,r1,q1⟩:=zz
 refine Ao (FM (Au (hi pins s1 σ H1 _ I1 q1) fun iv s2 zz=>?_))
 obtain⟨y,H2,I2,r2,q2⟩:=zz
 refine Ao (Nw (Ao (FM (Au (hs pins s2 σ H2 x y v ov iv u _ I2 r1 r2 r q2) fun _ s3 zz=>?_))))
 obtain⟨H3,I3,q3⟩:=zz
 exact wpAny_release ⟨σ,H3,I3,q3⟩
def Jg (te:TE)(g:TG):TS:=fun D σ H=>te σ H fun x H1=>g x σ H1 D.nx
theorem Ep {tg e:Expr}{te:TE}{g:TG}(he:PE X e te)(hg:PG X tg g)(hs:swapsWithSole [tg] e pos.line X.env=pure false:=by rfl)(hw:swappedStores [tg] e X.env=pure none:=by rfl)
  (h1:(assignEach [tg] X.env).map (·.2)=[assign tg X.env]:=by rfl):PS X (.Assign [tg] e pos) (Jg te g):=by
 intro pins s σ H D I h
 refine wpAny_Assign_stores (Au (he pins s σ H _ I h) fun v s1 zz=>?_) hs hw
 obtain⟨x,H1,I1,r1,q1⟩:=zz
 rw[h1]
 exact Au (hg pins s1 σ H1 x v _ I1 r1 q1) fun _ s2 q=>q
theorem Ai {i:Nat}{x:Str}{e:Expr}{te:TE}{pos':Pos}(hN:X.N.Nodup)(hi:X.N[i]?=some x)(hx:Gj X.env.scope x)(he:PE X e te)(hs:swapsWith e (some (.Name x pos')) pos.line X.env=pure false:=by rfl)(hf:X.fn x=true\/X.env.scope.names.lookup x=some .local:=by first|exact .inl rfl|exact .inr rfl|assumption) :
  PS X (.Assign [.Name x pos'] e pos) (Jg te (Ag i)):=by
 intro pins s σ H D I h
 refine wpAny_Assign_Name (Au (he pins s σ H _ I h) fun v s1 zz=>?_) hs
 obtain⟨y,H1,I1,r1,q1⟩:=zz
 exact Li I1 hN hi hx r1 (fun s2 I2=>⟨_,H1,I2,q1⟩) hf
def Yz (i:Nat)(te:TE)(ti:KJ):TS:=fun D σ H=>∃x,σ[i]?=some (some x)/\te σ H fun y H1=>ti x y H1 fun z H2=>D.nx (σ.set i (some z)) H2
theorem RS {i:Nat}{x:Str}{e:Expr}{te:TE}{op:Operator}{ti:KJ}{pos':Pos}(hN:X.N.Nodup)(hi:X.N[i]?=some x)(hx:Gj X.env.scope x)(he:PE X e te)(ho:OT X op ti)(hf:X.fn x=true\/X.env.scope.names.lookup x=some .local:=by first|exact .inl rfl|exact .inr rfl|assumption) :
  PS X (.AugAssign (.Name x pos') op e pos) (Yz i te ti):=by
 intro pins s σ H D I h
 obtain⟨v,e1,h⟩:=h
 obtain⟨m,hn,hl⟩:=I.loc
 have vis:IA X.env.scope x:=by rcases hx with k|k;exact .inl k;exact .inr (.inl k)
 obtain⟨u,r,l⟩:=hl i x v hi e1 vis
 refine wpAny_AugAssign_Name ?_
 have go:wpAny (model X.prog X.w) X.A (eval e X.env) (fun w s₂=>wpAny (model X.prog X.w) X.A (inplaceOp op u w) (fun r s₃=>wpAny (model X.prog X.w) X.A (storeName X.env x r) (fun _=>SP X pins D .next) X.xe s₃) X.xe s₂) X.xe s:=by
  refine Au (he pins s σ H _ I h) fun w s1 zz=>?_
  obtain⟨y,H1,I1,r1,q1⟩:=zz
  refine Au (ho pins s1 σ H1 v y u w _ I1 r r1 q1) fun z s2 zz=>?_
  obtain⟨zv,H2,I2,r2,q2⟩:=zz
  exact Li I2 hN hi hx r2 (fun s3 I3=>⟨_,H2,I3,q2⟩) hf
 rcases l with⟨hk,hm⟩|⟨hk,c,hc,hcell⟩
 .exact wpAny_loadName_local I.ok.kind hk hn hm go
 .rcases hk with hk|hk
  .exact wpAny_loadName_cell I.ok.kind hk hc hcell go
  .rcases hx with k|k
   .have:X.env.scope.names.lookup x=some .free:=hk
    rw[k]at this;cases this
   .have:X.env.scope.names.lookup x=some .free:=hk
    rw[k]at this;cases this
def Rt (f:Int->Int->Int):KJ:=fun x y H Q=>∃i j,x = .int i/\y = .int j/\Q (.int (f i j)) H
theorem SX:OT X .Add (Rt fun i j=>i+j):=by
 intro pins s σ H x y v u Q I r1 r2 h
 obtain⟨i,j,e1,e2,q⟩:=h
 subst e1;subst e2
 obtain⟨t,rfl⟩:=r1
 obtain⟨t',rfl⟩:=r2
 exact iadd_int ⟨.int _,H,I.tok _,⟨_,rfl⟩,q⟩
end
section
variable {X:Cx}{pos:Pos}
def NZ (c:TT)(tb:TS):TS:=fun D σ H=>∃W:Nat->St->Hp->Prop,(∃m,W m σ H)/\∀m σ H,W m σ H->
 c σ H fun b H1=>if b=true then ∃N:St->Hp->Prop,(∀σ' H',N σ' H'->∃m',m'<m/\W m' σ' H')/\tb {D with nx:=N,ct:=N,bk:=D.nx} σ H1 else D.nx σ H1
theorem N3 {c:Expr}{body:List Stmt}{tc:TT}{tb:TS}(hp:PassesOwn (model X.prog X.w) X.A X.env X.xe)(hc:PT X c tc)(hb:Eg X body tb):PS X (.While c body [] pos) (NZ tc tb):=by
 intro pins s σ H D I h
 obtain⟨W,⟨m0,w0⟩,turn⟩:=h
 refine wpAny_While (codeAny_whileLoop (fun n s'=>∃σ' H',A4 X pins σ' H' s'/\W n σ' H') ?_ m0 ⟨σ,H,I,w0⟩)
 rintro n s1 ⟨σ1,H1,I1,w1⟩
 refine Ir hp (Au (hc pins s1 σ1 H1 _ I1 (turn n σ1 H1 w1)) fun b s2 zz=>?_)
 obtain⟨H2,I2,q2⟩:=zz
 cases b with
 |
  true=>
  obtain⟨N,hN,q2⟩:=q2
  rw[Ax rfl]
  refine Ir hp (Au (hb pins s2 σ1 H2 _ I2 q2) fun f s3 q3=>?_)
  cases f with
  |
   next=>
   obtain⟨σ3,H3,I3,n3⟩:=q3
   obtain⟨m',hm,w3⟩:=hN σ3 H3 n3
   exact⟨m',hm,σ3,H3,I3,w3⟩
  |
   cont=>
   obtain⟨σ3,H3,I3,n3⟩:=q3
   obtain⟨m',hm,w3⟩:=hN σ3 H3 n3
   exact⟨m',hm,σ3,H3,I3,w3⟩
  |brk=>exact q3
  |ret v=>exact q3
 |
  false=>
  rw[As Ci]
  exact Nv ⟨σ1,H2,I2,q2⟩
end
structure It where
 go:Nat->Hp->Prop
 yld:Nat->Hp->V->Hp->Prop
 stop:Nat->Hp->Prop
def Dq (X:Cx)(pins:List (Addr×Obj))(H:Hp)(b:Addr):Prop:=
 H b=none/\b≠X.env.locals/\b∉X.fs/\(b∈X.ex\/X.s₀.heap.objs.size<=b)/\(∀x c,X.env.cells.lookup x=some c->c≠b)/\∀p∈X.pn++pins,p.1≠b
theorem A4.fpOk {X:Cx}{pins:List (Addr×Obj)}{σ:St}{H H':Hp}{s:Shared}{b:Addr}(I:A4 X pins σ H s)(hb:s.heap.objs.size<=b)(hn:H' b=none):Dq X pins H' b:=by
 refine⟨hn,G8 (BJ I.lt hb),I.nofs hb,.inr (E3 I.sz hb),fun x c e z=>?_,fun p hp z=>?_⟩
 .obtain⟨v,q⟩:=I.cell x c e
  exact absurd (BJ q.lt (by rw[z];exact hb)) (Dd _)
 .exact absurd (BJ (B5 (I.pin p hp).1) (by rw[z];exact hb)) (Dd _)
structure G3 (P:Program)(w:World)(K:YO)(tg:Expr)(J:It)(fp:List Addr)(it:Addr)(tn:Nat->Heap->Prop):Prop where
 mem:it∈fp
 obj:∀i h,tn i h->∀b∈fp,∃o,h.get? b=some o/\∀v,o.data≠.cell v
 keep:∀i h h',tn i h->(∀b∈fp,∀o,h.get? b=some o->h'.get? b=some o)->tn i h'
 item:∀(X:Cx),X.prog=P->X.w=w->X.K=K->X.calm=true->∀(i:Nat) (pins:List (Addr×Obj)) (s:Shared) (σ:St) (H:Hp) (E:Value->Shared->Prop),A4 X pins σ H s->(∀b∈fp,Dq X pins H b)->tn i s.heap->J.go i H->
  wpAny (model P w) X.A (pyNext (.ref it)) (fun r s1=>∃u,r=some u/\
   wpAny (model P w) X.A (letOwnedTupleGo tg (.ref it) u) (fun _ s2=>∃x H',A4 X pins σ H' s2/\AD x u/\J.yld i H x H'/\tn (i+1) s2.heap/\∀b∈fp,H' b=none) E s1) E s
 done:∀(X:Cx),X.prog=P->X.w=w->X.K=K->X.calm=true->∀(i:Nat) (pins:List (Addr×Obj)) (s:Shared) (σ:St) (H:Hp) (E:Value->Shared->Prop),A4 X pins σ H s->(∀b∈fp,Dq X pins H b)->tn i s.heap->J.stop i H->
  wpAny (model P w) X.A (pyNext (.ref it)) (fun r s1=>r=none/\A4 X pins σ H s1) E s
 self:∀(A:Around) (i:Nat) (s:Shared) (Q:Value->Shared->Prop) (E:Value->Shared->Prop),tn i s.heap->Q (.ref it) s->wpAny (model P w) A (pyIter (.ref it)) Q E s
abbrev TI:=St->Hp->(It->Hp->Prop)->Prop
def OU (X:Cx)(pins:List (Addr×Obj))(σ:St)(tg:Expr)(R:It->Hp->Prop)(itv:Value)(s2:Shared):Prop:=
 ∃(it:Addr) (fp:List Addr) (tn:Nat->Heap->Prop) (J:It) (H':Hp),itv = .ref it/\A4 X pins σ H' s2/\G3 X.prog X.w X.K tg J fp it tn/\tn 0 s2.heap/\(∀b∈fp,Dq X pins H' b)/\R J H'
def PI (X:Cx)(tg iter:Expr)(wi:TI):Prop:=
 ∀(pins:List (Addr×Obj)) (s:Shared) (σ:St) (H:Hp) (R:It->Hp->Prop),A4 X pins σ H s->wi σ H R->
  wpAny (model X.prog X.w) X.A (eval iter X.env) (fun v s1=>wpAny (model X.prog X.w) X.A (pyIter v) (OU X pins σ tg R) X.xe s1) X.xe s
theorem Kz {M:Model}{A:Around}{E:Value->Shared->Prop}{s:Shared}{tg:Expr}{it:Addr}{u:Value}{o:Obj}{n:String}{vs:Array Value}{Q:Unit->Shared->Prop}(ho:s.heap.get? it=some o)(hc:o.cls = .type n)(hd:o.data = .fields vs)
  (hn:["enumerate","zip","dict_itemiterator","dict_reverseitemiterator","odict_iterator","itertools.zip_longest","itertools.pairwise"].contains n=false) (hQ:Q () s):wpAny M A (letOwnedTupleGo tg (.ref it) u) Q E s:=by
 unfold letOwnedTupleGo
 cases tg<;>first
  |exact AY hQ
  |(cases u<;>first
   |exact AY hQ
   |(
    refine Ao (wpAny_load ho ?_)
    rw[hc,hd]
    show wpAny M A (if(["enumerate","zip","dict_itemiterator","dict_reverseitemiterator","odict_iterator","itertools.zip_longest","itertools.pairwise"].contains n&&vs[0]?==some (rawInt _))=true then _ else _) Q E s
    rw[As (by intro h;rw[hn,Bool.false_and]at h;cases h)]
    exact AY hQ))
def Gy (K:YO)(a:Addr):It:=
 ⟨fun i H=>∃xs x,A5 K H a xs/\xs[i]?=some x,fun i H x H'=>H'=H/\∀xs,A5 K H a xs->xs[i]?=some x,fun i H=>∃xs,A5 K H a xs/\xs.length<=i⟩
def Hz (K:YO)(a:Addr):It:=
 ⟨fun i H=>∃xs x,A3 K H a xs/\xs[i]?=some x,fun i H x H'=>H'=H/\∀xs,A3 K H a xs->xs[i]?=some x,fun i H=>∃xs,A3 K H a xs/\xs.length<=i⟩
def GM (lo:Int)(n:Nat):It:=⟨fun i _=>i<n,fun i H x H'=>H'=H/\x = .int (lo+i),fun i _=>n<=i⟩
theorem Yl {P:Program}{w:World}{K:YO}{tg:Expr}(a it:Addr):G3 P w K tg (Gy K a) [it] it (fun i h=>h.IsListIter it a i) where
 mem:=by simp
 obj:=fun i h st b hb=>by
  have e:b=it:=by simpa using hb
  subst e
  obtain⟨o,e,c,d⟩:=st
  exact⟨o,e,fun v z=>by rw[d]at z;cases z⟩
 keep:=fun i h h' st k=>st.at fun o e=>k it (by simp) o e
 item:=by
  intro X hP hw hK hc i pins s σ H E I hf st hg
  subst hP hw hK
  obtain⟨xs,x,hq,hx⟩:=hg
  obtain⟨its,rv,p,hz⟩:=I.list hq
  obtain⟨u,hu,ru⟩:=rv.get hx
  obtain⟨f0,f1,f2,f3,f4,f5⟩:=hf it (by simp)
  refine wpAny_pyNext_list_item st p.isList (x:=u) (by simpa using hu) fun h' st' sb=>?_
  have I1:A4 X pins σ H {s with heap:=h'}:=I.turned (t':=s.toks) (fun b o hb e=>(sb.2 b hb).trans e) f0 f1 f3 f4 f5
  obtain⟨o,e,c,d⟩:=id st'
  exact⟨u,rfl,Kz (s:={s with heap:=h'}) e c d (by decide) ⟨x,H,I1,ru,⟨rfl,fun ys hy=>by rw[I.list_inj hy hq];exact hx⟩,st',fun b hb=>(hf b hb).1⟩⟩
 done:=by
  intro X hP hw hK hc i pins s σ H E I hf st hg
  subst hP hw hK
  obtain⟨xs,hq,hx⟩:=hg
  obtain⟨its,rv,p,hz⟩:=I.list hq
  obtain⟨f0,f1,f2,f3,f4,f5⟩:=hf it (by simp)
  have hl:=rv.length
  exact wpAny_pyNext_list_end (I.ok.hd hc) st p.isList (by simp;lia) fun h' eb=>⟨rfl,I.turned (t':=s.toks) (fun b o hb e=>eb b o hb e) f0 f1 f3 f4 f5⟩
 self:=fun _ _ _ _ _ st h=>wpAny_pyIter_listiter st h
theorem WD {P:Program}{w:World}{K:YO}{tg:Expr}(a it:Addr):G3 P w K tg (Hz K a) [it] it (fun i h=>h.IsTupleIter it a i) where
 mem:=by simp
 obj:=fun i h st b hb=>by
  have e:b=it:=by simpa using hb
  subst e
  obtain⟨o,e,c,d⟩:=st
  exact⟨o,e,fun v z=>by rw[d]at z;cases z⟩
 keep:=fun i h h' st k=>st.at fun o e=>k it (by simp) o e
 item:=by
  intro X hP hw hK hc i pins s σ H E I hf st hg
  subst hP hw hK
  obtain⟨xs,x,hq,hx⟩:=hg
  obtain⟨its,rv,p,hz⟩:=I.tuple hq
  obtain⟨u,hu,ru⟩:=rv.get hx
  obtain⟨f0,f1,f2,f3,f4,f5⟩:=hf it (by simp)
  refine wpAny_pyNext_tuple_item st (show s.heap.IsTuple a its.toArray from p) (x:=u) (by simpa using hu) fun h' st' sb=>?_
  have I1:A4 X pins σ H {s with heap:=h'}:=I.turned (t':=s.toks) (fun b o hb e=>(sb.2 b hb).trans e) f0 f1 f3 f4 f5
  obtain⟨o,e,c,d⟩:=id st'
  exact⟨u,rfl,Kz (s:={s with heap:=h'}) e c d (by decide) ⟨x,H,I1,ru,⟨rfl,fun ys hy=>by rw[I.tuple_inj hy hq];exact hx⟩,st',fun b hb=>(hf b hb).1⟩⟩
 done:=by
  intro X hP hw hK hc i pins s σ H E I hf st hg
  subst hP hw hK
  obtain⟨xs,hq,hx⟩:=hg
  obtain⟨its,rv,p,hz⟩:=I.tuple hq
  obtain⟨f0,f1,f2,f3,f4,f5⟩:=hf it (by simp)
  have hl:=rv.length
  exact wpAny_pyNext_tuple_end (I.ok.hd hc) st (show s.heap.IsTuple a its.toArray from p) (by simp;lia) fun h' eb=>⟨rfl,I.turned (t':=s.toks) (fun b o hb e=>eb b o hb e) f0 f1 f3 f4 f5⟩
 self:=fun _ _ _ _ _ st h=>wpAny_pyIter_tupleiter st h
theorem RT {P:Program}{w:World}{K:YO}{tg:Expr}(it:Addr)(lo:Int)(n:Nat):G3 P w K tg (GM lo n) [it] it (fun i h=>IsRangeIter h it (lo+(i:Nat)*1) ((n:Int)-(i:Nat)) 1) where
 mem:=by simp
 obj:=fun i h st b hb=>by
  have e:b=it:=by simpa using hb
  subst e
  exact⟨_,st,fun v z=>by
   have z':Data.fields _=Data.cell v:=z
   cases z'⟩
 keep:=fun i h h' st k=>k it (by simp) _ st
 item:=by
  intro X hP hw hK hc i pins s σ H E I hf st hg
  subst hP hw hK
  obtain⟨f0,f1,f2,f3,f4,f5⟩:=hf it (by simp)
  have W:=Walks.range (prog:=X.prog) (w:=X.w) (I.ok.hd hc) it lo 1 n
  refine W.item i s _ _ hg st fun v h' tk hv st' kk=>?_
  obtain⟨t,rfl⟩:=hv
  have I1:A4 X pins σ H {s with heap:=h',toks:=tk}:=I.turned (fun b o hb e=>kk b o (by simpa using hb) e) f0 f1 f3 f4 f5
  refine⟨_,rfl,Kz (s:={s with heap:=h',toks:=tk}) (n:="range_iterator") st' rfl rfl (by decide) ⟨.int (lo+i),H,I1,⟨t,?_⟩,⟨rfl,rfl⟩,st',fun b hb=>(hf b hb).1⟩⟩
  rw[Int.mul_one]
 done:=by
  intro X hP hw hK hc i pins s σ H E I hf st hg
  subst hP hw hK
  obtain⟨f0,f1,f2,f3,f4,f5⟩:=hf it (by simp)
  exact wpAny_pyNext_range_end (I.ok.hd hc) st (by have:n<=i:=hg;lia) fun h' eb=>⟨rfl,I.turned (t':=s.toks) (fun b o hb e=>eb b o hb e) f0 f1 f3 f4 f5⟩
 self:=fun _ _ _ _ _ st h=>wpAny_pyIter_rangeiter st h
section
variable {X:Cx}{tg:Expr}
def LL (K:YO)(tl:TE):TI:=fun σ H R=>tl σ H fun x H1=>∃a,x = .ref a/\(∃xs,A5 K H1 a xs)/\R (Gy K a) H1
def UF (K:YO)(tl:TE):TI:=fun σ H R=>tl σ H fun x H1=>∃a,x = .ref a/\(∃xs,A3 K H1 a xs)/\R (Hz K a) H1
theorem CK {l:Expr}{tl:TE}(hl:PE X l tl):PI X tg l (LL X.K tl):=by
 intro pins s σ H R I h
 refine Au (hl pins s σ H _ I h) fun v s1 zz=>?_
 obtain⟨x,H1,I1,r1,q1⟩:=zz
 obtain⟨a,e,⟨xs,hq⟩,q⟩:=q1
 subst e
 cases r1
 obtain⟨its,rv,p,hz⟩:=I1.list hq
 refine wpAny_pyIter_list p.isList ?_
 refine⟨s1.heap.objs.size,[s1.heap.objs.size],_,_,H1,rfl,I1.kept (t':=s1.toks) fun b o e=>Bk _ e,Yl a _,⟨_,CF _ rfl,rfl,rfl⟩,fun b hb=>?_,q⟩
 have e:b=s1.heap.objs.size:=by simpa using hb
 subst e
 exact I1.fpOk (Ap _) (I1.hok.fresh (Ap _))
theorem KS {l:Expr}{tl:TE}(hl:PE X l tl):PI X tg l (UF X.K tl):=by
 intro pins s σ H R I h
 refine Au (hl pins s σ H _ I h) fun v s1 zz=>?_
 obtain⟨x,H1,I1,r1,q1⟩:=zz
 obtain⟨a,e,⟨xs,hq⟩,q⟩:=q1
 subst e
 cases r1
 obtain⟨its,rv,p,hz⟩:=I1.tuple hq
 refine QG (show s1.heap.IsTuple a its.toArray from p) ?_
 refine⟨s1.heap.objs.size,[s1.heap.objs.size],_,_,H1,rfl,I1.kept (t':=s1.toks) fun b o e=>Bk _ e,WD a _,⟨_,CF _ rfl,rfl,rfl⟩,fun b hb=>?_,q⟩
 have e:b=s1.heap.objs.size:=by simpa using hb
 subst e
 exact I1.fpOk (Ap _) (I1.hok.fresh (Ap _))
theorem UK {pins:List (Addr×Obj)}{σ:St}{H:Hp}{s:Shared}{R:It->Hp->Prop}{E:Value->Shared->Prop}{lo hi:Int}{t u v:Tok}{tk:Nat}(I:A4 X pins σ H s)(h1 : -(2 ^ 62)<=lo)(h2:lo<2 ^ 62)(h3 : -(2 ^ 62)<=hi)(h4:hi<2 ^ 62)
  (q:R (GM lo (hi-lo).toNat) H):wpAny (model X.prog X.w) X.A (pyIter (.ref s.heap.objs.size)) (OU X pins σ tg R) E {s with heap:=s.heap.push {cls:=.type "range",data:=.fields #[.int lo t,.int hi u,.int 1 v]},toks:=tk}:=by
 refine wpAny_pyIter_range (IsRange.new ..) (small_one h1 h2 h3 h4) ?_
 have I1:A4 X pins σ H {s with heap:=s.heap.push {cls:=.type "range",data:=.fields #[.int lo t,.int hi u,.int 1 v]},toks:=tk}:=I.kept fun b o e=>Bk _ e
 refine⟨(s.heap.push {cls:=.type "range",data:=.fields #[.int lo t,.int hi u,.int 1 v]}).objs.size,[(s.heap.push {cls:=.type "range",data:=.fields #[.int lo t,.int hi u,.int 1 v]}).objs.size],_,_,H,rfl,
  I1.kept (t':=tk) fun b o e=>Bk _ e,RT _ lo (hi-lo).toNat,?_,fun b hb=>?_,q⟩
 .have e1:lo+((0:Nat):Int)*1=lo:=by simp
  have e2:(((hi-lo).toNat:Nat):Int)-((0:Nat):Int)=Builtin.Range.rangeSize lo hi 1:=by rw[rangeSize_one];split<;>lia
  show IsRangeIter _ _ (lo+((0:Nat):Int)*1) ((((hi-lo).toNat:Nat):Int)-((0:Nat):Int)) 1
  rw[e1,e2]
  exact CF _ rfl
 .have e:b=(s.heap.push {cls:=.type "range",data:=.fields #[.int lo t,.int hi u,.int 1 v]}).objs.size:=by simpa using hb
  subst e
  exact I1.fpOk (Ap _) (I1.hok.fresh (Ap _))
def QZ (ta:TA):TI:=fun σ H R=>ta σ H fun vs H1=>∃j:Int,vs=[.int j]/\-(2 ^ 62)<=j/\j<2 ^ 62/\R (GM 0 j.toNat) H1
theorem Ce {a:Expr}{ta:TA}{p pos:Pos}(hg:Gl X "range")(hm:X.mg "range"=none)(ha:PA X [a] ta)(hs:starEach [a] X.env=[(false,eval a X.env)]:=by rfl):PI X tg (.Call (.Name "range" p) [a] [] pos) (QZ ta):=by
 intro pins s σ H R I h
 refine Call_ (Fu I hg hm boot_range (Ik (Au (ha pos pins s σ H _ I h) fun us s1 zz=>?_) hs rfl))
 obtain⟨vs,H1,I1,r1,q1⟩:=zz
 obtain⟨j,e,q1,q2,q⟩:=q1
 subst e
 cases r1 with
 |
  cons r rr=>
  cases rr
  obtain⟨t,rfl⟩:=r
  exact call_range_1 (UK I1 (by lia) (by lia) q1 q2 (by simpa using q))
def TX (wi:TI)(g:TG)(tb:TS):TS:=fun D σ H=>wi σ H fun J H1=>∃W:Nat->Nat->St->Hp->Prop,(∃m,W 0 m σ H1)/\∀i m σ H,W i m σ H->
 (J.stop i H/\D.nx σ H)\/(J.go i H/\∃N:St->Hp->Prop,(∀σ' H',N σ' H'->∃m',m'<m/\W (i+1) m' σ' H')/\∀x H',J.yld i H x H'->g x σ H' fun σ2 H2=>tb {D with nx:=N,ct:=N,bk:=D.nx} σ2 H2)
def GI (fp:List Addr)(h:Heap):List (Addr×Obj):=fp.filterMap fun b=>(h.get? b).map fun o=>(b,o)
theorem Gi {fp:List Addr}{h:Heap}{b:Addr}{o:Obj}(hb:b∈fp)(e:h.get? b=some o):(b,o)∈GI fp h:=List.mem_filterMap.mpr ⟨b,hb,by rw[e];rfl⟩
theorem YM {fp:List Addr}{h:Heap}{p:Addr×Obj}(hp:p∈GI fp h):p.1∈fp/\h.get? p.1=some p.2:=by
 obtain⟨b,hb,e⟩:=List.mem_filterMap.mp hp
 cases q:h.get? b with
 |none=>rw[q]at e;cases e
 |
  some o=>
  rw[q]at e
  have e':(b,o)=p:=Cg e
  subst e'
  exact⟨hb,q⟩
theorem A4.pinned {pins:List (Addr×Obj)}{σ:St}{H:Hp}{s:Shared}{fp:List Addr}(I:A4 X pins σ H s)(hf:∀b∈fp,Dq X pins H b)(ho:∀b∈fp,∃o,s.heap.get? b=some o/\∀v,o.data≠.cell v):A4 X (pins++GI fp s.heap) σ H s:=
 I.pins_of fun p hp=>(Co.mp hp).elim (fun z=>I.pin p (Dz _ z)) fun z=>by
  obtain⟨hb,e⟩:=YM z
  obtain⟨f0,f1,f2,_⟩:=hf p.1 hb
  obtain⟨o,e',d⟩:=ho p.1 hb
  rw[e]at e';cases e'
  exact⟨e,f0,f1,f2,d⟩
theorem A4.unpinned {pins pl:List (Addr×Obj)}{σ:St}{H:Hp}{s:Shared}(I:A4 X (pins++pl) σ H s):A4 X pins σ H s:=I.pins_of fun p hp=>I.pin p (Dz _ (Qq _ hp))
theorem Br {iter:Expr}{body:List Stmt}{wi:TI}{g:TG}{tb:TS}{pos:Pos}(hp:PassesOwn (model X.prog X.w) X.A X.env X.xe)(hc:X.calm=true)(hi:PI X tg iter wi)(hg:PG X tg g)(hb:Eg X body tb)
  (hs:∀x,foldedSetIterable iter X.env x=pure x:=by intro _;rfl):PS X (.For tg iter body [] pos) (TX wi g tb):=by
 intro pins s σ H D I h
 refine wpAny_For (Au (hi pins s σ H _ I h) fun v s1 h1=>Au h1 fun itv s2 h2=>?_) hs
 obtain⟨it,fp,tn,J,H2,e,I2,T,st2,f2,W,⟨m0,w0⟩,turn⟩:=h2
 subst e
 have stat:∀{H':Hp},(∀b∈fp,H' b=none)->∀b∈fp,Dq X pins H' b:=fun hn b hb=>⟨hn b hb,(f2 b hb).2⟩
 refine codeAny_forLoop_any (fun n s'=>∃i σ' H',A4 X pins σ' H' s'/\tn i s'.heap/\(∀b∈fp,H' b=none)/\W i n σ' H') ?_ m0 ⟨0,σ,H2,I2,st2,fun b hb=>(f2 b hb).1,w0⟩
 rintro n s3 ⟨i,σ3,H3,I3,st3,fr3,w3⟩
 rcases turn i n σ3 H3 w3 with⟨stop,qn⟩|⟨go,N,hN,step⟩
 .refine Ir hp (Au (T.done X rfl rfl rfl hc i pins s3 σ3 H3 X.xe I3 (stat fr3) st3 stop) fun r s4 zz=>?_)
  obtain⟨hr,I4⟩:=zz
  subst hr
  exact Nv ⟨σ3,H3,I4,qn⟩
 .refine Ir hp (Au (T.item X rfl rfl rfl hc i pins s3 σ3 H3 X.xe I3 (stat fr3) st3 go) fun r s4 zz=>?_)
  obtain⟨u,hr,h4⟩:=zz
  subst hr
  refine Ir hp (Au h4 fun _ s5 zz=>?_)
  obtain⟨x,H5,I5,r5,y5,st5,fr5⟩:=zz
  have I5':=I5.pinned (stat fr5) (T.obj _ _ st5)
  refine Ir hp (Au (hg _ s5 σ3 H5 x u _ I5' r5 (step x H5 y5)) fun _ s6 zz=>?_)
  obtain⟨σ6,H6,I6,q6⟩:=zz
  refine Ir hp (Au (hb _ s6 σ6 H6 _ I6 q6) fun f s7 q7=>?_)
  have again:∀{σ7:St} {H7:Hp},A4 X (pins++GI fp s5.heap) σ7 H7 s7->N σ7 H7->∃m,m<n/\∃i σ' H',A4 X pins σ' H' s7/\tn i s7.heap/\(∀b∈fp,H' b=none)/\W i m σ' H':=fun{σ7 H7} I7 n7=>by
   obtain⟨m',hm,w7⟩:=hN σ7 H7 n7
   refine⟨m',hm,i+1,σ7,H7,I7.unpinned,T.keep _ _ _ st5 fun b hb o e=>(I7.pin (b,o) (Dz _ (Dz _ (Gi hb e)))).1,fun b hb=>?_,w7⟩
   obtain⟨o,e,d⟩:=T.obj _ _ st5 b hb
   exact(I7.pin (b,o) (Dz _ (Dz _ (Gi hb e)))).2.1
  cases f with
  |next=>obtain⟨σ7,H7,I7,n7⟩:=q7;exact again I7 n7
  |cont=>obtain⟨σ7,H7,I7,n7⟩:=q7;exact again I7 n7
  |brk=>obtain⟨σ7,H7,I7,q7⟩:=q7;exact⟨σ7,H7,I7.unpinned,q7⟩
  |ret v=>obtain⟨x7,σ7,H7,I7,r7,q7⟩:=q7;exact⟨x7,σ7,H7,I7.unpinned,r7,q7⟩
end
theorem EU {K:YO}{a:Addr}{xs:List V}{g:TG}{tb:TS}{D:De}{σ:St}{H:Hp}(Pv:Nat->St->Hp->Prop)(h0:Pv 0 σ H)(hl:∀i σ H,i<=xs.length->Pv i σ H->A5 K H a xs)
  (hs:∀i x σ H,xs[i]?=some x->Pv i σ H->g x σ H fun σ2 H2=>tb {D with nx:=Pv (i+1),ct:=Pv (i+1),bk:=D.nx} σ2 H2) (hd:∀σ H,Pv xs.length σ H->D.nx σ H) :
  ∃W:Nat->Nat->St->Hp->Prop,(∃m,W 0 m σ H)/\∀i m σ H,W i m σ H->
   ((Gy K a).stop i H/\D.nx σ H)\/((Gy K a).go i H/\∃N:St->Hp->Prop,(∀σ' H',N σ' H'->∃m',m'<m/\W (i+1) m' σ' H')/\∀x H',(Gy K a).yld i H x H'->g x σ H' fun σ2 H2=>tb {D with nx:=N,ct:=N,bk:=D.nx} σ2 H2):=by
 refine⟨fun i m σ H=>m=xs.length-i/\i<=xs.length/\Pv i σ H,⟨xs.length,by simp,BN _,h0⟩,?_⟩
 rintro i m σ H ⟨rfl,hi,p⟩
 have q:=hl i σ H hi p
 by_cases hlt:i<xs.length
 .refine .inr ⟨⟨xs,xs[i],q,by simp[hlt]⟩,Pv (i+1),fun σ' H' p'=>⟨xs.length-(i+1),by lia,rfl,hlt,p'⟩,fun x H' y=>?_⟩
  obtain⟨e,y⟩:=y
  subst e
  exact hs i x σ _ (y xs q) p
 .have e:i=xs.length:=by lia
  subst e
  exact .inl ⟨⟨xs,q,Ap _⟩,hd σ H p⟩
theorem VI {K:YO}{a:Addr}{xs:List V}{g:TG}{tb:TS}{D:De}{σ:St}{H:Hp}(Pv:Nat->St->Hp->Prop)(h0:Pv 0 σ H)(hl:∀i σ H,i<=xs.length->Pv i σ H->A3 K H a xs)
  (hs:∀i x σ H,xs[i]?=some x->Pv i σ H->g x σ H fun σ2 H2=>tb {D with nx:=Pv (i+1),ct:=Pv (i+1),bk:=D.nx} σ2 H2) (hd:∀σ H,Pv xs.length σ H->D.nx σ H) :
  ∃W:Nat->Nat->St->Hp->Prop,(∃m,W 0 m σ H)/\∀i m σ H,W i m σ H->
   ((Hz K a).stop i H/\D.nx σ H)\/((Hz K a).go i H/\∃N:St->Hp->Prop,(∀σ' H',N σ' H'->∃m',m'<m/\W (i+1) m' σ' H')/\∀x H',(Hz K a).yld i H x H'->g x σ H' fun σ2 H2=>tb {D with nx:=N,ct:=N,bk:=D.nx} σ2 H2):=by
 refine⟨fun i m σ H=>m=xs.length-i/\i<=xs.length/\Pv i σ H,⟨xs.length,by simp,BN _,h0⟩,?_⟩
 rintro i m σ H ⟨rfl,hi,p⟩
 have q:=hl i σ H hi p
 by_cases hlt:i<xs.length
 .refine .inr ⟨⟨xs,xs[i],q,by simp[hlt]⟩,Pv (i+1),fun σ' H' p'=>⟨xs.length-(i+1),by lia,rfl,hlt,p'⟩,fun x H' y=>?_⟩
  obtain⟨e,y⟩:=y
  subst e
  exact hs i x σ _ (y xs q) p
 .have e:i=xs.length:=by lia
  subst e
  exact .inl ⟨⟨xs,q,Ap _⟩,hd σ H p⟩
theorem CN {lo:Int}{n:Nat}{g:TG}{tb:TS}{D:De}{σ:St}{H:Hp}(Pv:Nat->St->Hp->Prop)(h0:Pv 0 σ H)
  (hs:∀i σ H,i<n->Pv i σ H->g (.int (lo+i)) σ H fun σ2 H2=>tb {D with nx:=Pv (i+1),ct:=Pv (i+1),bk:=D.nx} σ2 H2) (hd:∀σ H,Pv n σ H->D.nx σ H) :
  ∃W:Nat->Nat->St->Hp->Prop,(∃m,W 0 m σ H)/\∀i m σ H,W i m σ H->
   ((GM lo n).stop i H/\D.nx σ H)\/((GM lo n).go i H/\∃N:St->Hp->Prop,(∀σ' H',N σ' H'->∃m',m'<m/\W (i+1) m' σ' H')/\∀x H',(GM lo n).yld i H x H'->g x σ H' fun σ2 H2=>tb {D with nx:=N,ct:=N,bk:=D.nx} σ2 H2):=by
 refine⟨fun i m σ H=>m=n-i/\i<=n/\Pv i σ H,⟨n,by simp,BN _,h0⟩,?_⟩
 rintro i m σ H ⟨rfl,hi,p⟩
 by_cases hlt:i<n
 .refine .inr ⟨hlt,Pv (i+1),fun σ' H' p'=>⟨n-(i+1),by lia,rfl,hlt,p'⟩,fun x H' y=>?_⟩
  obtain⟨e,y⟩:=y
  subst e y
  exact hs i σ _ hlt p
 .have e:i=n:=by lia
  subst e
  exact .inl ⟨Ap _,hd σ H p⟩
abbrev R2:=V->V->Hp->VK->Prop
def BF (X:Cx)(f:Value->Value->Sem Value)(r:R2):Prop:=
 ∀(pins:List (Addr×Obj)) (s:Shared) (σ:St) (H:Hp) (x y:V) (v u:Value) (Q:VK),A4 X pins σ H s->AD x v->AD y u->r x y H Q->
  wpAny (model X.prog X.w) X.A (f v u) (EP X pins σ Q) X.xe s
def M6 (X:Cx)(f:Value->Sem Value)(r:V->Hp->VK->Prop):Prop:=
 ∀(pins:List (Addr×Obj)) (s:Shared) (σ:St) (H:Hp) (x:V) (v:Value) (Q:VK),A4 X pins σ H s->AD x v->r x H Q->
  wpAny (model X.prog X.w) X.A (f v) (EP X pins σ Q) X.xe s
def EC (X:Cx)(f:Value)(r:List V->Hp->VK->Prop):Prop:=
 ∀(pins:List (Addr×Obj)) (s:Shared) (σ:St) (H:Hp) (xs:List V) (us:List Value) (Q:VK),A4 X pins σ H s->Ay xs us->r xs H Q->
  wpAny (model X.prog X.w) X.A (call f us) (EP X pins σ Q) X.xe s
def IK (r:R2)(ta tb:TE):TE:=fun σ H Q=>ta σ H fun x H1=>tb σ H1 fun y H2=>r x y H2 Q
def Vf (r:V->Hp->VK->Prop)(ta:TE):TE:=fun σ H Q=>ta σ H fun x H1=>r x H1 Q
def rI (C:Int->Int->Prop)(g:Int->Int->V):R2:=fun x y H Q=>∃i j,x = .int i/\y = .int j/\C i j/\Q (g i j) H
def FT (g:Int->Int->V):R2:=fun x y H Q=>∃i j,x = .int i/\y = .int j/\Q (g i j) H
def rU (g:Int->V):V->Hp->VK->Prop:=fun x H Q=>∃i,x = .int i/\Q (g i) H
section
variable {X:Cx}{a b c:Expr}{ta tb tc:TE}{pos:Pos}
theorem Mm (ha:PE X a ta)(hb:PE X b tb){pins:List (Addr×Obj)}{s:Shared}{σ:St}{H:Hp}{R:V->V->Hp->Prop}(I:A4 X pins σ H s)
  (h:ta σ H fun x H1=>tb σ H1 fun y H2=>R x y H2) {Q:Value->Shared->Prop} {f:Value->Value->Sem Value}
  (hf:∀v u s2 x y H2,A4 X pins σ H2 s2->AD x v->AD y u->R x y H2->wpAny (model X.prog X.w) X.A (f v u) Q X.xe s2) :
  wpAny (model X.prog X.w) X.A (eval a X.env) (fun v s₁=>wpAny (model X.prog X.w) X.A (eval b X.env) (fun u s₂=>wpAny (model X.prog X.w) X.A (f v u) Q X.xe s₂) X.xe s₁) X.xe s:=by
 refine Au (ha pins s σ H _ I h) fun v s1 zz=>?_
 obtain⟨x,H1,I1,r1,q1⟩:=zz
 refine Au (hb pins s1 σ H1 _ I1 q1) fun u s2 zz=>?_
 obtain⟨y,H2,I2,r2,q2⟩:=zz
 exact hf v u s2 x y H2 I2 r1 r2 q2
theorem Ah {op:Operator}{r:R2}(ho:BF X (binaryOp op) r)(ha:PE X a ta)(hb:PE X b tb):PE X (.BinOp a op b pos) (IK r ta tb):=by
 intro pins s σ H Q I h
 exact wpAny_BinOp (Mm ha hb I h fun v u s2 x y H2 I2 rx ry q=>ho pins s2 σ H2 x y v u Q I2 rx ry q)
theorem Dm {op:UnaryOp}{r:V->Hp->VK->Prop}(ho:M6 X (unaryOp op) r)(ha:PE X a ta):PE X (.UnaryOp op a pos) (Vf r ta):=by
 intro pins s σ H Q I h
 refine UnaryOp_ (Au (ha pins s σ H _ I h) fun v s1 zz=>?_)
 obtain⟨x,H1,I1,r1,q1⟩:=zz
 exact ho pins s1 σ H1 x v Q I1 r1 q1
theorem IU {f:Value->Value->Sem Value}{C:Int->Int->Prop}{g:Int->Int->Int}
  (rule:∀(i j:Int) (t u:Tok) (s:Shared) (Q:Value->Shared->Prop) (E:Value->Shared->Prop),C i j->Q (.int (g i j) s.toks) {s with toks:=s.toks+1}->wpAny (model X.prog X.w) X.A (f (.int i t) (.int j u)) Q E s) :
  BF X f (rI C fun i j=>.int (g i j)):=by
 intro pins s σ H x y v u Q I rx ry h
 obtain⟨i,j,rfl,rfl,hc,q⟩:=h
 obtain⟨t,rfl⟩:=rx
 obtain⟨t',rfl⟩:=ry
 exact rule i j t t' s _ _ hc ⟨.int (g i j),H,I.tok _,⟨_,rfl⟩,q⟩
theorem Q2 {f:Value->Value->Sem Value}{g:Int->Int->Int}
  (rule:∀(i j:Int) (t u:Tok) (s:Shared) (Q:Value->Shared->Prop) (E:Value->Shared->Prop),Q (.int (g i j) s.toks) {s with toks:=s.toks+1}->wpAny (model X.prog X.w) X.A (f (.int i t) (.int j u)) Q E s) :
  BF X f (FT fun i j=>.int (g i j)):=by
 intro pins s σ H x y v u Q I rx ry h
 obtain⟨i,j,rfl,rfl,q⟩:=h
 obtain⟨t,rfl⟩:=rx
 obtain⟨t',rfl⟩:=ry
 exact rule i j t t' s _ _ ⟨.int (g i j),H,I.tok _,⟨_,rfl⟩,q⟩
theorem MO {f:Value->Value->Sem Value}{g:Int->Int->Bool}
  (rule:∀(i j:Int) (t u:Tok) (s:Shared) (Q:Value->Shared->Prop) (E:Value->Shared->Prop),Q (.bool (g i j)) s->wpAny (model X.prog X.w) X.A (f (.int i t) (.int j u)) Q E s) :
  BF X f (FT fun i j=>.bl (g i j)):=by
 intro pins s σ H x y v u Q I rx ry h
 obtain⟨i,j,rfl,rfl,q⟩:=h
 obtain⟨t,rfl⟩:=rx
 obtain⟨t',rfl⟩:=ry
 exact rule i j t t' s _ _ ⟨.bl (g i j),H,I,rfl,q⟩
def YI (i j:Int):Prop:=0<j/\j<1073741824
def Y5 (i j:Int):Prop:=0<=j/\j<=1000000/\i.natAbs<2 ^ 64
def Mg (i j:Int):Prop:=(-(2 ^ 64)<i/\i<2 ^ 64)\/(-(2 ^ 64)<j/\j<2 ^ 64)
theorem Mg.ok {i j:Int}(h:Mg i j):IntMulOk i j:=by
 rcases h with⟨h1,h2⟩|⟨h1,h2⟩
 .exact .of_left (intBits_le_64 h1 h2)
 .exact .of_right (intBits_le_64 h1 h2)
theorem B2:BF X (binaryOp .Add) (FT fun i j=>.int (i+j)):=Q2 fun _ _ _ _ _ _ _ q=>add_int q
theorem DF:BF X (binaryOp .Sub) (FT fun i j=>.int (i-j)):=Q2 fun _ _ _ _ _ _ _ q=>sub_int q
theorem Di:BF X (binaryOp .Mult) (rI Mg fun i j=>.int (i*j)):=IU fun _ _ _ _ _ _ _ hc q=>mul_int q hc.ok
theorem Hn:BF X (binaryOp .FloorDiv) (rI YI fun i j=>.int (i/j)):=IU fun i j _ _ _ _ _ hc q=>by
 have h1:(0:Int)<j:=hc.1
 have h2:j<1073741824:=hc.2
 exact floordiv_int (by lia) (by rw[Int.fdiv_eq_ediv_of_nonneg i (by lia)];exact q) (.inl (PyProof.noPylong_small (by lia)))
theorem E1:BF X (binaryOp .Mod) (rI (fun _ j=>0<j) fun i j=>.int (i%j)):=IU fun i j _ _ _ _ _ hc q=>by
 have h1:(0:Int)<j:=hc
 exact mod_int' (by lia) (by rw[Int.fmod_eq_emod_of_nonneg i (by lia)];exact q)
theorem Gf:BF X (binaryOp .Pow) (rI Y5 fun i j=>.int (i ^ j.toNat)):=IU fun _ _ _ _ _ _ _ hc q=>pow_int_small hc.1 hc.2.1 hc.2.2 q
theorem UP {f:Value->Sem Value}{g:Int->Int}
  (rule:∀(i:Int) (t:Tok) (s:Shared) (Q:Value->Shared->Prop) (E:Value->Shared->Prop),Q (.int (g i) s.toks) {s with toks:=s.toks+1}->wpAny (model X.prog X.w) X.A (f (.int i t)) Q E s) :
  M6 X f (rU fun i=>.int (g i)):=by
 intro pins s σ H x v Q I rx h
 obtain⟨i,rfl,q⟩:=h
 obtain⟨t,rfl⟩:=rx
 exact rule i t s _ _ ⟨.int (g i),H,I.tok _,⟨_,rfl⟩,q⟩
theorem Dy:M6 X (unaryOp .USub) (rU fun i=>.int (-i)):=UP fun _ _ _ _ _ q=>neg_int q
end
def OD:V->V->Bool
 |.non,.non=>true|.non,.int _=>true|.int _,.non=>true|.non,.bl _=>true|.bl _,.non=>true|.non,.str _=>true|.str _,.non=>true
 |.int _,.int _=>true|.bl _,.bl _=>true|.str _,.str _=>true|.byt _,.byt _=>true
 |.int _,.str _=>true|.str _,.int _=>true|.bl _,.str _=>true|.str _,.bl _=>true
 |_,_=>false
def PU:R2:=fun x y H Q=>OD x y=true/\Q (.bl (decide (x=y))) H
def Y1:R2:=fun x y H Q=>OD x y=true/\Q (.bl (!decide (x=y))) H
theorem Qa {i j:Int}:decide (V.int i=V.int j)=(i==j):=by
 rw[G9]
 simp
theorem Pk {i j:Bool}:decide (V.bl i=V.bl j)=(i==j):=by
 rw[G9]
 simp
theorem Pz {i j:Str}:decide (V.str i=V.str j)=(i==j):=by
 rw[G9]
 simp
theorem PL {i j:Array UInt8}:decide (V.byt i=V.byt j)=(i.toList==j.toList):=by
 rw[G9]
 cases i
 cases j
 simp
section
variable {X:Cx}{a b c:Expr}{ta tb tc:TE}{pos:Pos}
theorem BH {pins:List (Addr×Obj)}{σ:St}{H:Hp}{s:Shared}{Q:VK}{k k':Bool}(I:A4 X pins σ H s)(q:Q (.bl k) H)(e:k=k'):EP X pins σ Q (.bool k') s:=by
 subst e
 exact⟨.bl k,H,I,rfl,q⟩
theorem Cm:BF X (compareOp .Eq) PU:=by
 intro pins s σ H x y v u Q I rx ry h
 obtain⟨hs,q⟩:=h
 cases x with
 |
  non=>
  cases rx
  cases y with
  |non=>cases ry;exact PySem.EqNone.eq_none_none (BH I q (by simp))
  |bl j=>cases ry;exact PySem.EqNone.eq_none_bool (BH I q (by simp))
  |int j=>obtain⟨t',rfl⟩:=ry;exact PySem.EqNone.eq_none_int (BH I q (by simp))
  |str j=>obtain⟨t',rfl⟩:=ry;exact PySem.EqNone.eq_none_str (BH I q (by simp))
  |_=>exact absurd (show false=true from hs) Ci
 |
  bl i=>
  cases rx
  cases y with
  |non=>cases ry;exact PySem.EqNone.eq_bool_none (BH I q (by simp))
  |bl j=>cases ry;exact eq_bool (BH I q Pk)
  |str j=>obtain⟨t',rfl⟩:=ry;exact PySem.EqMixed.eq_bool_str (BH I q (by simp))
  |_=>exact absurd (show false=true from hs) Ci
 |
  int i=>
  obtain⟨t,rfl⟩:=rx
  cases y with
  |non=>cases ry;exact PySem.EqNone.eq_int_none (BH I q (by simp))
  |int j=>obtain⟨t',rfl⟩:=ry;exact eq_int (BH I q Qa)
  |str j=>obtain⟨t',rfl⟩:=ry;exact PySem.EqMixed.eq_int_str (BH I q (by simp))
  |_=>exact absurd (show false=true from hs) Ci
 |
  str i=>
  obtain⟨t,rfl⟩:=rx
  cases y with
  |non=>cases ry;exact PySem.EqNone.eq_str_none (BH I q (by simp))
  |bl j=>cases ry;exact PySem.EqMixed.eq_str_bool (BH I q (by simp))
  |int j=>obtain⟨t',rfl⟩:=ry;exact PySem.EqMixed.eq_str_int (BH I q (by simp))
  |str j=>obtain⟨t',rfl⟩:=ry;exact eq_str (BH I q Pz)
  |_=>exact absurd (show false=true from hs) Ci
 |
  byt i=>
  obtain⟨t,rfl⟩:=rx
  cases y with
  |byt j=>obtain⟨t',rfl⟩:=ry;exact PySem.W.eq_bytes (BH I q PL)
  |_=>exact absurd (show false=true from hs) Ci
 |_=>cases y<;>exact absurd (show false=true from hs) Ci
theorem Ek:BF X (compareOp .NotEq) Y1:=by
 intro pins s σ H x y v u Q I rx ry h
 obtain⟨hs,q⟩:=h
 cases x with
 |
  non=>
  cases rx
  cases y with
  |non=>cases ry;exact PySem.EqNone.ne_none_none (BH I q (by simp))
  |bl j=>cases ry;exact PySem.EqNone.ne_none_bool (BH I q (by simp))
  |int j=>obtain⟨t',rfl⟩:=ry;exact PySem.EqNone.ne_none_int (BH I q (by simp))
  |str j=>obtain⟨t',rfl⟩:=ry;exact PySem.EqNone.ne_none_str (BH I q (by simp))
  |_=>exact absurd (show false=true from hs) Ci
 |
  bl i=>
  cases rx
  cases y with
  |non=>cases ry;exact PySem.EqNone.ne_bool_none (BH I q (by simp))
  |bl j=>cases ry;exact ne_bool (BH I q (congrArg not Pk))
  |str j=>obtain⟨t',rfl⟩:=ry;exact PySem.EqMixed.ne_bool_str (BH I q (by simp))
  |_=>exact absurd (show false=true from hs) Ci
 |
  int i=>
  obtain⟨t,rfl⟩:=rx
  cases y with
  |non=>cases ry;exact PySem.EqNone.ne_int_none (BH I q (by simp))
  |int j=>obtain⟨t',rfl⟩:=ry;exact ne_int (BH I q (congrArg not Qa))
  |str j=>obtain⟨t',rfl⟩:=ry;exact PySem.EqMixed.ne_int_str (BH I q (by simp))
  |_=>exact absurd (show false=true from hs) Ci
 |
  str i=>
  obtain⟨t,rfl⟩:=rx
  cases y with
  |non=>cases ry;exact PySem.EqNone.ne_str_none (BH I q (by simp))
  |bl j=>cases ry;exact PySem.EqMixed.ne_str_bool (BH I q (by simp))
  |int j=>obtain⟨t',rfl⟩:=ry;exact PySem.EqMixed.ne_str_int (BH I q (by simp))
  |str j=>obtain⟨t',rfl⟩:=ry;exact ne_str (BH I q (congrArg not Pz))
  |_=>exact absurd (show false=true from hs) Ci
 |
  byt i=>
  obtain⟨t,rfl⟩:=rx
  cases y with
  |byt j=>obtain⟨t',rfl⟩:=ry;exact PySem.W.ne_bytes (BH I q (congrArg not PL))
  |_=>exact absurd (show false=true from hs) Ci
 |_=>cases y<;>exact absurd (show false=true from hs) Ci
theorem Ea:BF X (compareOp .Lt) (FT fun i j=>.bl (decide (i<j))):=MO fun _ _ _ _ _ _ _ q=>lt_int q
theorem N4:BF X (compareOp .LtE) (FT fun i j=>.bl (decide (i<=j))):=MO fun _ _ _ _ _ _ _ q=>le_int q
theorem FR:BF X (compareOp .Gt) (FT fun i j=>.bl (decide (j<i))):=MO fun _ _ _ _ _ _ _ q=>gt_int q
theorem RN:BF X (compareOp .Is) (fun x y H Q=>y = .non/\Q (.bl (decide (x = .non))) H):=by
 intro pins s σ H x y v u Q I rx ry h
 obtain⟨rfl,q⟩:=h
 cases ry
 refine is_none_gen (BH I q ?_)
 cases x<;>first
  |(cases rx;rfl)
  |(obtain⟨t,rfl⟩:=rx;rfl)
theorem Ue:BF X (compareOp .IsNot) (fun x y H Q=>y = .non/\Q (.bl (!decide (x = .non))) H):=by
 intro pins s σ H x y v u Q I rx ry h
 obtain⟨rfl,q⟩:=h
 cases ry
 refine isnot_none_gen (BH I q ?_)
 cases x<;>first
  |(cases rx;rfl)
  |(obtain⟨t,rfl⟩:=rx;rfl)
theorem AR (b:Expr){op:CmpOp}(h:op≠.In:=by decide)(h2:op≠.NotIn:=by decide):behindInMarks op b=false:=by
 have e1:(op==CmpOp.In)=false:=by cases op<;>first|rfl|exact absurd rfl h
 have e2:(op==CmpOp.NotIn)=false:=by cases op<;>first|rfl|exact absurd rfl h2
 cases b<;>simp[behindInMarks,e1,e2]
theorem ET {op:CmpOp}{r:R2}(ho:BF X (compareOp op) r)(ha:PE X a ta)(hb:PE X b tb)(hm:behindInMarks op b=false):PE X (.Compare a [op] [b] pos) (IK r ta tb):=by
 intro pins s σ H Q I h
 exact wpAny_Compare1 (Mm ha hb I h fun v u s2 x y H2 I2 rx ry q=>ho pins s2 σ H2 x y v u Q I2 rx ry q) hm
def MM (t:TE):TT:=fun σ H Q=>t σ H fun x H'=>∃k,x = .bl k/\Q k H'
theorem AZ {op:CmpOp}{r:R2}(ho:BF X (compareOp op) r)(ha:PE X a ta)(hb:PE X b tb)(hm:behindInMarks op b=false):PT X (.Compare a [op] [b] pos) (MM (IK r ta tb)):=by
 intro pins s σ H Q I h
 refine wpAny_isTrue_Compare1 (Au (ha pins s σ H _ I h) fun v s1 ⟨x,H1,I1,r1,q1⟩=>Au (hb pins s1 σ H1 _ I1 q1) fun u s2 ⟨y,H2,I2,r2,q2⟩=>
  Au (ho pins s2 σ H2 x y v u _ I2 r1 r2 q2) fun c s3 ⟨z,H3,I3,r3,k,e,q3⟩=>?_) hm
 subst e
 cases r3
 exact JB ⟨H3,I3,q3⟩
def RK (r r':R2)(ta tb tc:TE):TE:=fun σ H Q=>ta σ H fun x H1=>tb σ H1 fun y H2=>r x y H2 fun z H3=>∃k,z = .bl k/\
 (if k=true then tc σ H3 fun w' H4=>r' y w' H4 Q else Q (.bl false) H3)
theorem Pd {op op':CmpOp}{r r':R2}(ho:BF X (compareOp op) r)(ho':BF X (compareOp op') r')(ha:PE X a ta)(hb:PE X b tb)(hc:PE X c tc)
  (hm:lastMarks [op,op'] [b,c]=false:=by with_unfolding_all rfl):PT X (.Compare a [op,op'] [b,c] pos) (MM (RK r r' ta tb tc)):=by
 intro pins s σ H Q I h
 refine isTrue_chain (Au (ha pins s σ H _ I h) fun v s1 ⟨x,H1,I1,r1,q1⟩=>test_link (Au (hb pins s1 σ H1 _ I1 q1) fun u s2 ⟨y,H2,I2,r2,q2⟩=>
  Au (ho pins s2 σ H2 x y v u _ I2 r1 r2 q2) fun d s3 ⟨z,H3,I3,r3,k,e,q3⟩=>?_)) hm
 subst e
 cases r3
 refine JB ?_
 cases k with
 |
  false=>
  obtain⟨k',e',q'⟩:=q3
  cases e'
  exact ite_ff ⟨H3,I3,q'⟩
 |
  true=>
  refine ite_tt (test_last (Au (hc pins s3 σ H3 _ I3 q3) fun w' s4 zz=>?_))
  obtain⟨z',H4,I4,r4,q4⟩:=zz
  refine Au (ho' pins s4 σ H4 y z' u w' _ I4 r2 r4 q4) fun d' s5 zz=>?_
  obtain⟨z2,H5,I5,r5,k2,e2,q5⟩:=zz
  subst e2
  cases r5
  exact JB ⟨H5,I5,q5⟩
theorem Hc:(sizeLine:Nat)<2 ^ 63:=by rw[Nx];decide
theorem Jj:BF X (binaryOp .Add) (fun x y H Q=>∃i j,x = .str i/\y = .str j/\i.length+j.length<=sizeLine/\Q (.str (i++j)) H):=by
 intro pins s σ H x y v u Q I rx ry h
 obtain⟨i,j,rfl,rfl,hz,q⟩:=h
 obtain⟨t,rfl⟩:=rx
 obtain⟨t',rfl⟩:=ry
 exact add_str (fun t' tk=>⟨.str (i++j),H,I.tok _,⟨_,rfl⟩,q⟩) hz
theorem FE {x:V}{us:List Value}(r:Ay [x] us):∃u,us=[u]/\AD x u:=by
 cases r with
 |cons r1 r2=>cases r2;exact⟨_,rfl,r1⟩
theorem RJ {x y:V}{us:List Value}(r:Ay [x,y] us):∃u w',us=[u,w']/\AD x u/\AD y w':=by
 cases r with
 |
  cons r1 r2=>
  cases r2 with
  |cons r3 r4=>cases r4;exact⟨_,_,rfl,r1,r3⟩
theorem MU (hc:X.calm=true):EC X (.builtin "min") (fun xs H Q=>∃i j,xs=[.int i,.int j]/\Q (.int (if j<i then j else i)) H):=by
 intro pins s σ H xs us Q I r h
 obtain⟨i,j,rfl,q⟩:=h
 obtain⟨u,w',rfl,⟨t,rfl⟩,⟨t',rfl⟩⟩:=RJ r
 refine min_two_ints (I.ok.hd hc) fun h' tk k=>⟨_,H,I.kept k,?_,q⟩
 by_cases hj:j<i
 .rw[Ax hj,Ax hj];exact⟨_,rfl⟩
 .rw[As hj,As hj];exact⟨_,rfl⟩
theorem KU:EC X (.type "int") (fun xs H Q=>(∃i,xs=[.int i]/\Q (.int i) H)\/∃k,xs=[.bl k]/\Q (.int (if k then 1 else 0)) H):=by
 intro pins s σ H xs us Q I r h
 rcases h with⟨i,rfl,q⟩|⟨k,rfl,q⟩
 .obtain⟨u,rfl,t,rfl⟩:=FE r
  exact call_int_int ⟨.int i,H,I,⟨_,rfl⟩,q⟩
 .obtain⟨u,rfl,r1⟩:=FE r
  cases r1
  exact call_int_bool ⟨.int (if k then 1 else 0),H,I.tok _,⟨_,rfl⟩,q⟩
end
structure Gr (h:Heap)(x dx C:Addr)(mA:Str->Option Value):Prop where
 obj:h.get? x=some (PySem.W.instObj C dx)
 ns:h.Ns1 dx mA
 ne:dx≠x
theorem Tp {h:Heap}{dx:Addr}{mA:Str->Option Value}(n:h.Ns1 dx mA):∃od,h.get? dx=some od/\∀name,PySem.W.lookIn name od=some (mA name):=by
 obtain⟨o,es,ep,ho,hd,hk,_,hm⟩:=n
 refine⟨o,ho,fun name=>?_⟩
 have e:=hm name
 unfold nsFind findBy at e
 rw[←Array.find?_toList]at e
 unfold PySem.W.lookIn
 rw[hd]
 dsimp only
 split
 .rename_i y q
  rw[q]at e
  exact congrArg some e
 .rename_i q
  rw[q]at e
  have a:es.toList.any (·.refKey)=false:=by
   rw[List.any_eq_false]
   intro y hy
   obtain⟨z,t,hkey⟩:=hk y (Array.mem_toList_iff.mp hy)
   simp[DictEntry.refKey,hkey]
  have a':¬es.toList.any (·.refKey)=true:=by rw[a];exact Ci
  rw[As a']
  exact congrArg some e
theorem Gr.look {h:Heap}{x dx C:Addr}{mA:Str->Option Value}(I:Gr h x dx C mA):∃od,PySem.W.InstAt h x (PySem.W.instObj C dx) C (some od)/\∀name,PySem.W.lookIn name od=some (mA name):=
 let ⟨od,ho,hl⟩:=Tp I.ns
 ⟨od,⟨I.obj,rfl,rfl,ho⟩,hl⟩
section
variable {prog:Program}{w:World}{A:Around}{E:Value->Shared->Prop}{s:Shared}{K:YO}{x dx C f:Addr}{mA:Str->Option Value}{name:Str}{v:Value}
theorem WK {expr:Bool}{Q:Value->Shared->Prop}(X:K.In s.heap)(I:Gr s.heap x dx C mA)(hg:PySem.W.plainGet K C name=true)(hh:PySem.W.hasDictIn K C=true)
  (ha:PySem.W.findIn K (.ref C) name=some none) (hv:mA name=some v) (hv':PySem.W.handedIn v=true) (h:Q v {s with toks:=s.toks+1}) :
  wpAny (model prog w) A (getAttr (.ref x) name expr) Q E s:=by
 obtain⟨od,J,hl⟩:=I.look
 exact PySem.W.get_value X J (Qs hg).1 (PySem.W.findObj_own hh ha rfl (by rw[hl,hv])) hv' h
theorem Vu {pl:Sem Bool}{Q:Value×List Value->Shared->Prop}(X:K.In s.heap)(I:Gr s.heap x dx C mA)(hg:PySem.W.plainGet K C name=true)
  (hf:PySem.W.findIn K (.ref C) name=some (some (.ref f))) (ht:PySem.W.isFn K (.ref f)=true) (hv:mA name=none) (h:Q (.ref f,[.ref x]) s) :
  wpAny (model prog w) A (getMethod (.ref x) name pl) Q E s:=by
 obtain⟨od,J,hl⟩:=I.look
 exact PySem.W.method_fn X J (Qs hg).1 (Qs hg).2 hf (FN.mp ht) (by show(PySem.W.lookIn name od).map (·.isSome)=some false;rw[hl,hv];rfl) h
theorem Yc {ns:List Str}{Q:Unit->Shared->Prop}(X:K.In s.heap)(I:Gr s.heap x dx C mA)
  (hs:PySem.W.findIn K (.ref C) "__setattr__"=some (some (.builtin "object.__setattr__"))) (hp:PySem.W.plainOver K C=true) (ht:PySem.W.takerIn K C name=some none) (hh:PySem.W.hasDictIn K C=true)
  (hw:PySem.Within mA ns) (hsz:ns.length<=sizeLine)
  (h:∀h',Gr h' x dx C (fun y=>if y=name then some v else mA y)->Heap.SameBut dx s.heap h'->Q () {s with heap:=h',toks:=s.toks+2}) :
  wpAny (model prog w) A (setAttr (.ref x) name v) Q E s:=by
 obtain⟨od,J,hl⟩:=I.look
 refine PySem.W.set_plain X J hs (PySem.W.osa_open (s:={s with toks:=s.toks+1}) (r:=none) X J hp ht fun b=>?_)
 obtain⟨cd,hc,hd'⟩:=PySem.W.any_some hh
 have hx:s.heap.get? x=some ⟨.ref C,some dx,.plain,#[]⟩:=I.obj
 refine Ao (AY (Ao (Ao (wpAny_loadPart hx (Ao (PySem.W.Looks.here (s:={s with toks:=s.toks+1}) (PySem.W.looks_clsIn X hc) ?_))))))
 rw[hd']
 refine AY (a:=some dx) (Ao (AY (Ao ?_)))
 refine wpAny_nsSet1 (s:={s with toks:=s.toks+1}) I.ns fun h' hn2 hs2=>?_
 obtain⟨oD,esD,epD,hoD,hdD,hcD⟩:=hn2.count (PySem.Within.cons name v hw)
 refine Ao (wpAny_lookBehind hoD (by rw[hdD];exact pastItsLine_dict (E3 hcD (by rw[C9];lia))) ?_)
 exact AY (h _ ⟨(hs2.2 _ (Ne.symm I.ne)).trans I.obj,hn2,I.ne⟩ hs2)
theorem Ro {R:Result->Shared->Prop}{vs:List Value}{kw:List (Str×Value)}(X:K.In s.heap)(hm:PySem.W.makesIn K C=true)
  (hi:PySem.W.findIn K (.ref C) "__init__"=some (some (.ref f))) (hf:PySem.W.typeIn K (.ref f)=some (.type "function"))
  (h:codeAny (model prog w) (A.under (.builtin "type.__call__" ⟨.ref C::vs,kw⟩)) (.call (.ref f) ⟨.ref (s.heap.objs.size+1)::vs,kw⟩) (PySem.W.InitBack (s.heap.objs.size+1) R)
   {s with heap:=(s.heap.push PySem.W.emptyDict).push (PySem.W.instObj C s.heap.objs.size)}) :
  codeAny (model prog w) A (.call (.ref C) ⟨vs,kw⟩) R s:=by
 obtain⟨hh,g,d,t,os⟩:=s
 exact PySem.W.make_core (PySem.W.makes_of X hm) (PySem.W.looks_findIn X hi) (fun self=>PySem.W.bind_fn X self hf) (.inl rfl) h
end
def Dp (f:Str)(v:V):List (Str×V)->List (Str×V)
 |[]=>[(f,v)]
 |(g,x)::r=>if g=f then(g,v)::r else(g,x)::Dp f v r
theorem P2 (f g:Str)(v:V):∀fs:List (Str×V),(Dp f v fs).lookup g=if g=f then some v else fs.lookup g
 |
  []=>by
  show List.lookup g [(f,v)]=_
  by_cases h:g=f
  .have hb:(g==f)=true:=FN.mpr h
   simp only[List.lookup,hb,Ax h]
  .have hb:(g==f)=false:=JA.mpr h
   simp only[List.lookup,hb,As h]
 |
  (k,x)::r=>by
  have ih:=P2 f g v r
  rw[show Dp f v ((k,x)::r)=(if k=f then(k,v)::r else(k,x)::Dp f v r) from rfl]
  by_cases hk:k=f
  .rw[Ax hk]
   by_cases h:g=k
   .have hb:(g==k)=true:=FN.mpr h
    simp only[List.lookup,hb,Ax (h.trans hk)]
   .have hb:(g==k)=false:=JA.mpr h
    simp only[List.lookup,hb,As (fun e:g=f=>h (e.trans hk.symm))]
  .rw[As hk]
   by_cases h:g=k
   .have hb:(g==k)=true:=FN.mpr h
    simp only[List.lookup,hb,As (fun e:g=f=>hk (h.symm.trans e))]
   .have hb:(g==k)=false:=JA.mpr h
    simp only[List.lookup,hb]
    exact ih
theorem Mt (f:Str)(v:V):∀fs:List (Str×V),f∈(Dp f v fs).map (·.1)/\∀g,g∈fs.map (·.1)->g∈(Dp f v fs).map (·.1)
 |[]=>⟨by simp[Dp],fun g h=>by simp at h⟩
 |
  (k,x)::r=>by
  obtain⟨i1,i2⟩:=Mt f v r
  rw[show Dp f v ((k,x)::r)=(if k=f then(k,v)::r else(k,x)::Dp f v r) from rfl]
  by_cases hk:k=f
  .rw[Ax hk]
   subst hk
   exact⟨by simp,fun g h=>by simpa using h⟩
  .rw[As hk]
   refine⟨?_,fun g h=>?_⟩
   .rw[Bz]
    exact E5 _ i1
   .rw[Bz]at h ⊢
    rcases Bv.mp h with e|e
    .exact Bv.mpr (.inl e)
    .exact E5 _ (i2 g e)
theorem Om (f:Str)(v:V):∀fs:List (Str×V),(Dp f v fs).length<=fs.length+1
 |[]=>by simp[Dp]
 |
  (k,x)::r=>by
  have ih:=Om f v r
  rw[show Dp f v ((k,x)::r)=(if k=f then(k,v)::r else(k,x)::Dp f v r) from rfl]
  by_cases hk:k=f
  .rw[Ax hk,C9,C9];lia
  .rw[As hk,C9,C9];lia
theorem Dk.some_of {v:V}{o:Option Value}(r:Dk (some v) o):∃u,o=some u/\AD v u:=by
 cases o with
 |none=>exact(show False from r).elim
 |some u=>exact⟨u,rfl,r⟩
theorem Dk.none_of {o:Option Value}(r:Dk none o):o=none:=by
 cases o with
 |none=>rfl
 |some u=>exact(show False from r).elim
theorem W9 {v:V}{u:Value}(r:AD v u):PySem.W.handedIn u=true:=by
 cases v with
 |non=>cases (show u=Value.none from r);rfl
 |bl b=>cases (show u=Value.bool b from r);rfl
 |int i=>obtain⟨t,e⟩:=(show ∃t,u=Value.int i t from r);cases e;rfl
 |str x=>obtain⟨t,e⟩:=(show ∃t,u=Value.str x t from r);cases e;rfl
 |byt b=>obtain⟨t,e⟩:=(show ∃t,u=Value.bytes b t from r);cases e;rfl
 |flt b=>obtain⟨t,e⟩:=(show ∃t,u=Value.float b t from r);cases e;rfl
 |ref a=>cases (show u=Value.ref a from r);rfl
 |ty n=>cases (show u=Value.type n from r);rfl
section
variable {P:Program}{w:World}{H H':Hp}{h h':Heap}{a C dx:Addr}{fs fs':List (Str×V)}
theorem JW (hok:BC P w H h)(e:H a=some (.ins C dx fs)):∃mA,Gr h a dx C mA/\(∀f,Dk (fs.lookup f) (mA f))/\PySem.Within mA (fs.map (·.1))/\fs.length<=1000/\H dx=some (.own a):=by
 obtain⟨d,z,ne,ob,mA,n,r,q⟩:=(show BL P w H h a (.ins C dx fs) from hok a _ e)
 exact⟨mA,⟨ob,n,ne⟩,r,q,z,d⟩
end
structure Dt (K:YO)(C:Addr):Prop where
 pg:PySem.W.plainGet K C Str.empty=true
 hd:PySem.W.hasDictIn K C=true
 po:PySem.W.plainOver K C=true
 sa:PySem.W.findIn K (.ref C) "__setattr__"=some (some (.builtin "object.__setattr__"))
theorem Dt.get {K:YO}{C:Addr}(c:Dt K C)(f:Str):PySem.W.plainGet K C f=true:=c.pg
def Cw (K:YO)(C:Addr)(f:Str):Prop:=PySem.W.findIn K (.ref C) f=some none
theorem Cw.taker {K:YO}{C:Addr}{f:Str}(n:Cw K C f):PySem.W.takerIn K C f=some none:=by
 unfold PySem.W.takerIn
 rw[show PySem.W.findIn K (.ref C) f=some none from n]
 rfl
structure Ie (K:YO)(C:Addr)(m:Str)(f:Addr):Prop where
 at_:PySem.W.findIn K (.ref C) m=some (some (.ref f))
 fn:PySem.W.isFn K (.ref f)=true
 kp:PySem.W.keepIn K (.ref f)=true
section
variable {X:Cx}{pins:List (Addr×Obj)}{σ:St}{H:Hp}{s:Shared}{a C dx:Addr}{fs:List (Str×V)}{f:Str}{v:V}{A:Around}{E:Value->Shared->Prop}
theorem U1 {b:Bool}{Q:Value->Shared->Prop}(I:A4 X pins σ H s)(e:H a=some (.ins C dx fs))(c:Dt X.K C)(n:Cw X.K C f)(l:fs.lookup f=some v)
  (h:∀u s',A4 X pins σ H s'->AD v u->Q u s'):wpAny (model X.prog X.w) A (getAttr (.ref a) f b) Q E s:=by
 obtain⟨mA,O,r,_,_,_⟩:=JW I.hok e
 obtain⟨u,hu,ru⟩:=Dk.some_of (v:=v) (o:=mA f) (by rw[←l];exact r f)
 exact WK I.kIn O (c.get f) c.hd n hu (W9 ru) (h u _ (I.tok _) ru)
theorem Vc {m:Str}{g:Addr}{pl:Sem Bool}{Q:Value×List Value->Shared->Prop}(I:A4 X pins σ H s)(e:H a=some (.ins C dx fs))(c:Dt X.K C)(k:Ie X.K C m g)(l:fs.lookup m=none)
  (h:Q (.ref g,[.ref a]) s):wpAny (model X.prog X.w) A (getMethod (.ref a) m pl) Q E s:=by
 obtain⟨mA,O,r,_,_,_⟩:=JW I.hok e
 have hn:mA m=none:=Dk.none_of (by rw[←l];exact r m)
 exact Vu I.kIn O (c.get m) k.at_ k.fn hn h
theorem Uy {y:V}{u:Value}{Q:Unit->Shared->Prop}(I:A4 X pins σ H s)(e:H a=some (.ins C dx fs))(c:Dt X.K C)(n:Cw X.K C f)(hl:fs.length<1000)(ry:AD y u)
  (h:∀s',A4 X pins σ (upd H a (.ins C dx (Dp f y fs))) s'->Q () s'):wpAny (model X.prog X.w) A (setAttr (.ref a) f u) Q E s:=by
 obtain⟨mA,O,r,wi,_,ho⟩:=JW I.hok e
 have hz:(fs.map (·.1)).length<=sizeLine:=by rw[Aq,Nx];lia
 refine Yc I.kIn O c.sa c.po n.taker c.hd wi hz fun h' O' sb=>h _ ?_
 have hd:∃o,h'.get? dx=some o:=by obtain⟨o,_,_,e',_⟩:=O'.ns;exact⟨o,e'⟩
 refine I.write (x:=a) (e:=dx) (by rw[e];exact True.intro) (.inr ho) (fun b q hb z=>(sb.2 b hb).trans z) hd ?_
 refine⟨by rw[Am O.ne];exact ho,?_,O.ne,O'.obj,_,O'.ns,fun g=>?_,fun g hg=>?_⟩
 .have:=Om f y fs;lia
 .show Dk ((Dp f y fs).lookup g) (if g=f then some u else mA g)
  rw[P2]
  by_cases q:g=f
  .rw[Ax q,Ax q];exact ry
  .rw[As q,As q];exact r g
 .by_cases q:g=f
  .rw[q];exact(Mt f y fs).1
  .refine(Mt f y fs).2 g (wi g fun z=>hg ?_)
   show(if g=f then some u else mA g)=none
   rw[As q];exact z
theorem A4.made (I:A4 X pins σ H s):A4 X pins σ (upd (upd H s.heap.objs.size (.own (s.heap.objs.size+1))) (s.heap.objs.size+1) (.ins C s.heap.objs.size []))
  {s with heap:=(s.heap.push PySem.W.emptyDict).push (PySem.W.instObj C s.heap.objs.size)}:=by
 have e1:(s.heap.push PySem.W.emptyDict).get? s.heap.objs.size=some PySem.W.emptyDict:=CF s.heap rfl
 have e2:((s.heap.push PySem.W.emptyDict).push (PySem.W.instObj C s.heap.objs.size)).get? (s.heap.objs.size+1)=some (PySem.W.instObj C s.heap.objs.size):=by
  have:=CF (s.heap.push PySem.W.emptyDict) (o:=PySem.W.instObj C s.heap.objs.size) rfl
  rwa [GW]at this
 have e3:(s.heap.push PySem.W.emptyDict).Ns s.heap.objs.size (fun _=>none):=⟨PySem.W.emptyDict,#[],_,e1,rfl,(fun e he=>absurd he (by simp)),fun _=>rfl⟩
 have I1:=I.laid (a:=s.heap.objs.size) (o:=.own (s.heap.objs.size+1)) (h':=s.heap.push PySem.W.emptyDict) (t':=s.toks) (fun b u q=>Bk _ q) (Ap _) ⟨_,e1⟩
 refine I1.laid (a:=s.heap.objs.size+1) (o:=.ins C s.heap.objs.size []) (t':=s.toks) (fun b u q=>Bk _ q) (Nat.le_of_eq (GW _ _)) ?_
 have ne:s.heap.objs.size≠s.heap.objs.size+1:=Bu (Ln _)
 refine⟨by rw[Am ne,A6],BN _,ne,e2,fun _=>none,(Heap.Ns1.of_empty e3).at fun o q=>Bk _ q,fun _=>True.intro,fun y hy=>absurd rfl hy⟩
theorem XJ {prog:Program}{w:World}{env:Env}{e:Expr}{f:Str}{pos:Pos}{s:Shared}{Q:Value->Shared->Prop}(hb:attributeBase e f env (eval e env)=eval e env)
  (h:wpAny (model prog w) A (eval e env) (fun o s₁=>wpAny (model prog w) A (getAttr o f true) Q E s₁) E s):wpAny (model prog w) A (eval (.Attribute e f pos) env) Q E s:=
 Attribute_any_ h (by rw[arm_eval_Attribute,hb])
end
def Yq (K:YO)(ta:TE)(f:Str):TE:=fun σ H Q=>ta σ H fun x H1=>∃a C dx fs v,x = .ref a/\H1 a=some (.ins C dx fs)/\Dt K C/\Cw K C f/\fs.lookup f=some v/\Q v H1
def YJ (K:YO)(ta tv:TE)(f:Str):TS:=fun D σ H=>tv σ H fun y H1=>ta σ H1 fun x H2=>∃a C dx fs,x = .ref a/\H2 a=some (.ins C dx fs)/\Dt K C/\Cw K C f/\fs.length<1000/\
 D.nx σ (upd H2 a (.ins C dx (Dp f y fs)))
section
variable {X:Cx}{o e value:Expr}{f:Str}{pos pos' tpos:Pos}{ta tv:TE}
theorem Bx (he:PE X e ta)(hb:attributeBase e f X.env (eval e X.env)=eval e X.env):PE X (.Attribute e f pos) (Yq X.K ta f):=by
 intro pins s σ H Q I h
 refine XJ hb (Au (he pins s σ H _ I h) fun u s1 zz=>?_)
 obtain⟨x,H1,I1,rx,a,C,dx,fs,v,ex,ea,c,n,l,q⟩:=zz
 subst ex
 obtain rfl:u=Value.ref a:=rx
 exact U1 I1 ea c n l fun u' s2 I2 ru=>⟨v,H1,I2,ru,q⟩
theorem Dv (ha:PE X o ta)(hv:PE X value tv)(hs:swapsWith value (some (.Attribute o f pos')) pos.line X.env=pure false):PS X (.Assign [.Attribute o f pos'] value pos) (YJ X.K ta tv f):=by
 intro pins s σ H D I h
 refine plainObj_wpAny_Assign_Attribute (Au (hv pins s σ H _ I h) fun u s1 zz=>?_) hs
 obtain⟨y,H1,I1,ry,q⟩:=zz
 refine Au (ha pins s1 σ H1 _ I1 q) fun ov s2 zz=>?_
 obtain⟨x,H2,I2,rx,a,C,dx,fs,ex,ea,c,n,l,q2⟩:=zz
 subst ex
 obtain rfl:ov=Value.ref a:=rx
 exact Uy I2 ea c n l ry fun s3 I3=>⟨σ,_,I3,q2⟩
end
section
variable {X:Cx}{pins:List (Addr×Obj)}{σ:St}{H:Hp}{s:Shared}{A:Around}{E:Value->Shared->Prop}{Q:Value->Shared->Prop}{c:Value}{b:Bool}
inductive El (K:YO)(H:Hp):V->Value->Prop where
 |non:El K H .non (.type "NoneType")
 |bl (x:Bool):El K H (.bl x) (.type "bool")
 |int (i:Int):El K H (.int i) (.type "int")
 |str (x:Str):El K H (.str x) (.type "str")
 |flt (x:UInt64):El K H (.flt x) (.type "float")
 |lst {a:Addr} {xs:List V} (e:H a=some (.lst xs)):El K H (.ref a) (.type "list")
 |frz {a:Addr} {o:Obj} {xs:List V} (e:H a=some (.frz o (.lst xs))):El K H (.ref a) (.type "list")
 |tup {a:Addr} {xs:List V} (e:H a=some (.tup xs)):El K H (.ref a) (.type "tuple")
 |dK {a:Addr} {kvs:List (AU×V)} (e:H a=some (.dK kvs)):El K H (.ref a) (.type "dict")
 |dT {a:Addr} {kvs:List (List AU×V)} (e:H a=some (.dT kvs)):El K H (.ref a) (.type "dict")
 |ins {a C dx:Addr} {fs:List (Str×V)} (e:H a=some (.ins C dx fs)) (cl:Dt K C) (ha:PySem.W.findIn K (.ref C) "__class__"=some (some (.builtin "object.__class__")))
  (hn:PySem.W.specialIn K (.builtin "object.__class__") "__get__"=some (some (.builtin "getset_descriptor.__get__"))) (htk:PySem.W.takesIn K (.builtin "object.__class__")=some true)
  (hm:PySem.W.mroIn K C (.type "object")=some true):El K H (.ref a) (.ref C)
theorem WL {x:V}{u t:Value}(I:A4 X pins σ H s)(rx:AD x u)(ty:El X.K H x t)(e:PySem.W.kitOne X.K t c=some b)(h:∀tk,Q (.bool b) {s with toks:=tk}) :
  wpAny (model X.prog X.w) A (call (.builtin "isinstance") [u,c]) Q E s:=by
 cases ty with
 |non=>cases (show u=Value.none from rx);exact Fq PySem.W.kitx_none I.kIn True.intro e (fun z=>nomatch z) h
 |bl y=>cases (show u=Value.bool y from rx);exact Fq PySem.W.kitx_bool I.kIn True.intro e (fun z=>nomatch z) h
 |int i=>obtain⟨t,q⟩:=(show ∃t,u=Value.int i t from rx);cases q;exact Fq PySem.W.kitx_int I.kIn True.intro e (fun z=>nomatch z) h
 |str y=>obtain⟨t,q⟩:=(show ∃t,u=Value.str y t from rx);cases q;exact Fq PySem.W.kitx_str I.kIn True.intro e (fun z=>nomatch z) h
 |flt y=>obtain⟨t,q⟩:=(show ∃t,u=Value.float y t from rx);cases q;exact Fq PySem.W.kitx_float I.kIn True.intro e (fun z=>nomatch z) h
 |
  @lst a xs ea=>
  cases (show u=Value.ref a from rx)
  obtain⟨_,_,n,_,h1⟩:=(show BL X.prog X.w H s.heap a (.lst xs) from I.hok a _ ea)
  exact Fq PySem.W.kitx_list I.kIn ⟨_,h1,rfl⟩ e (fun z=>nomatch z) h
 |
  @frz a ob xs ea=>
  cases (show u=Value.ref a from rx)
  obtain⟨_,_,_,n,_,h1⟩:=(show BL X.prog X.w H s.heap a (.frz ob (.lst xs)) from I.hok a _ ea)
  exact Fq PySem.W.kitx_list I.kIn ⟨_,h1,rfl⟩ e (fun z=>nomatch z) h
 |
  @tup a xs ea=>
  cases (show u=Value.ref a from rx)
  obtain⟨_,_,_,p⟩:=(show BL X.prog X.w H s.heap a (.tup xs) from I.hok a _ ea)
  obtain⟨o,h1,h2,_⟩:=p
  exact Fq PySem.W.kitx_tuple I.kIn ⟨o,h1,h2⟩ e (fun z=>nomatch z) h
 |
  @dK a kvs ea=>
  cases (show u=Value.ref a from rx)
  obtain⟨_,_,vs,_,p⟩:=(show BL X.prog X.w H s.heap a (.dK kvs) from I.hok a _ ea)
  obtain⟨o,es,ep,h1,h2,_⟩:=p
  exact Fq PySem.W.kitx_dict I.kIn ⟨o,h1,h2.1⟩ e (fun z=>nomatch z) h
 |
  @dT a kvs ea=>
  cases (show u=Value.ref a from rx)
  obtain⟨_,_,xs,_,o,es,ep,h1,h2,_⟩:=(show BL X.prog X.w H s.heap a (.dT kvs) from I.hok a _ ea)
  exact Fq PySem.W.kitx_dict I.kIn ⟨o,h1,h2.1⟩ e (fun z=>nomatch z) h
 |
  @ins a C dx fs ea cl ha hn htk hm=>
  cases (show u=Value.ref a from rx)
  obtain⟨mA,O,_⟩:=JW I.hok ea
  obtain⟨od,J,_⟩:=O.look
  exact Fq (PySem.W.kitx_own (cl.get _) cl.hd ha hn htk hm) I.kIn J e (fun z=>nomatch z) h
end
structure C7 (k:Nat)(A:Around):Prop where
 hd:A.handled=none
 dp:A.depth+3*k+5<recursionLimit
 un:A.units+16*k+200<cLine
 gd:A.guards=some []
theorem C7.mono {j k:Nat}{A:Around}(r:C7 k A)(h:j<=k):C7 j A:=⟨r.hd,by have:=r.dp;lia,by have:=r.un;lia,r.gd⟩
theorem C7.deeper {k:Nat}{A:Around}(r:C7 (k+1) A)(env:Env):C7 k (A.deeper env):=
 ⟨r.hd,by have:=r.dp;show A.depth+1+3*k+5<_;lia,by have:=r.un;show A.units+3+16*k+200<_;lia,r.gd⟩
theorem Rf {A:Around}{C:Addr}{us:List Value}{kw:List (Str×Value)}:(A.under (.builtin "type.__call__" ⟨.ref C::us,kw⟩)).depth=A.depth+1:=by
 first|rfl|simp[Around.under,Code.weight,Code.isCreation,Code.isGuard,Code.isCaller,Code.frames,Code.isFrame,guardIds]
theorem R9 {A:Around}{C:Addr}{us:List Value}{kw:List (Str×Value)}:(A.under (.builtin "type.__call__" ⟨.ref C::us,kw⟩)).units=A.units+1:=by
 first|rfl|simp[Around.under,Code.cUnits,Code.frames,Code.isFrame]
theorem U8 {A:Around}{C:Addr}{us:List Value}{kw:List (Str×Value)}:(A.under (.builtin "type.__call__" ⟨.ref C::us,kw⟩)).guards=A.guards:=by
 have:Code.guards (.builtin "type.__call__" ⟨.ref C::us,kw⟩)=[]:=by first|rfl|simp[Code.guards,Code.isGuard,guardIds]
 show pushGuards (Code.guards (.builtin "type.__call__" ⟨.ref C::us,kw⟩)) A.guards=A.guards
 rw[this]
 cases A.guards<;>rfl
theorem C7.make {k:Nat}{A:Around}(r:C7 (k+1) A)(C:Addr)(us:List Value)(kw:List (Str×Value)):C7 k (A.under (.builtin "type.__call__" ⟨.ref C::us,kw⟩)):=
 ⟨r.hd,by have:=r.dp;rw[Rf];lia,by have:=r.un;rw[R9];lia,by rw[U8];exact r.gd⟩
theorem C7.depth {k:Nat}{A:Around}(r:C7 k A):A.depth<recursionLimit:=by have:=r.dp;lia
theorem C7.units {k:Nat}{A:Around}(r:C7 k A):A.units+64<cLine:=by have:=r.un;lia
def G2:TA:=fun _ H Q=>Q [] H
def MX (ta:TE)(tr:TA):TA:=fun σ H Q=>ta σ H fun x H1=>tr σ H1 fun xs H2=>Q (x::xs) H2
section
variable {X:Cx}{e:Expr}{es:List Expr}{te:TE}{t:TA}{pos:Pos}
theorem A2:PA X [] G2:=fun _ _ _ _ H Q I h=>Calls.spliced_nil ⟨[],H,I,.nil,h⟩
theorem A0 (ha:PE X e te)(hr:PA X es t)(hs:starEach (e::es) X.env=(false,eval e X.env)::starEach es X.env:=by rfl):PA X (e::es) (MX te t):=by
 intro pos pins s σ H Q I h
 rw[hs]
 show wpAny _ _ (spliced ((false,eval e X.env)::backTo pos (starEach es X.env))) _ _ s
 refine Calls.spliced_cons (Au (ha pins s σ H _ I h) fun u s1 zz=>?_)
 obtain⟨x,H1,I1,r1,q1⟩:=zz
 refine Au (hr pos pins s1 σ H1 _ I1 q1) fun us s2 zz=>?_
 obtain⟨xs,H2,I2,r2,q2⟩:=zz
 exact⟨x::xs,H2,I2,.cons r1 r2,q2⟩
def Pu (t:TA):TE:=fun σ H Q=>t σ H fun xs H1=>xs.length<=sizeLine/\∀p,H1 p=none->Q (.ref p) (upd H1 p (.tup xs))
def Qb (t:TA):TE:=fun σ H Q=>t σ H fun xs H1=>xs.length<=sizeLine/\∀p,H1 p=none->Q (.ref p) (upd H1 p (.lst xs))
theorem CM {x1}(h:PA X es t):PE X (.Tuple es x1 pos) (Pu t):=by
 intro pins s σ H Q I hq
 refine wpAny_Tuple_spliced (Au (h pos pins s σ H _ I hq) fun us s1 zz=>?_)
 obtain⟨xs,H1,I1,r,z,q⟩:=zz
 refine⟨by rw[←r.length];exact z,?_⟩
 have hf:H1 s1.heap.objs.size=none:=I1.hok.fresh (Ap _)
 refine⟨.ref s1.heap.objs.size,upd H1 s1.heap.objs.size (.tup xs),I1.laid (t':=s1.toks) (fun b u e=>Bk _ e) (Ap _) ?_,rfl,q _ hf⟩
 exact⟨z,us,r,⟨_,CF _ rfl,rfl,⟨_,rfl⟩,rfl⟩⟩
theorem B9 (h:PA X es t):PE X (.List es pos) (Qb t):=by
 intro pins s σ H Q I hq
 refine wpAny_List_spliced (Au (h pos pins s σ H _ I hq) fun us s1 zz=>?_)
 obtain⟨xs,H1,I1,r,z,q⟩:=zz
 refine⟨by rw[←r.length];exact z,?_⟩
 have hf:H1 s1.heap.objs.size=none:=I1.hok.fresh (Ap _)
 refine⟨.ref s1.heap.objs.size,upd H1 s1.heap.objs.size (.lst xs),I1.laid (t':=s1.toks) (fun b u e=>Bk _ e) (Ap _) ?_,rfl,q _ hf⟩
 exact⟨z,us,0,r,CF _ rfl⟩
end
abbrev Sp:=List V->Hp->VK->XK->Prop
abbrev EM:=List Env->Hp->Shared->XK->Value->Shared->Prop
structure GE (P:Program)(w:World)(K:YO)(mg:Str->Option Value)(base:Heap)(A:Around)(outer:List Env)(s:Shared)(H:Hp):Prop where
 frames:A.frames=some outer
 mod:Mod K mg base
 bs:∀b o,base.get? b=some o->s.heap.get? b=some o/\H b=none
 bsz:base.objs.size<=s.heap.objs.size
 funs:s.heap.FunFrames base outer
 frf:∀b∈DJ outer,H b=none
 hok:BC P w H s.heap
 bare:AllBare s.gens
def CE (outer:List Env)(P:Program)(w:World)(H:Hp)(s:Shared)(Q:VK)(u:Value)(s':Shared):Prop:=
 ∃v H',s'.os=s.os/\AllBare s'.gens/\Un (DJ outer) [] H H' s.heap s'.heap/\BC P w H' s'.heap/\AD v u/\Q v H'
def CR (CX:EM)(outer:List Env)(P:Program)(w:World)(H:Hp)(s:Shared)(Q:VK)(E:XK)(r:Result)(s':Shared):Prop:=
 match r with
 |.ok (.ret u)=>CE outer P w H s Q u s'
 |.ok _=>False
 |.error e=>CX outer H s E e s'
structure AB (P:Program)(w:World)(K:YO)(mg:Str->Option Value)(base:Heap)(CX:EM)(k:Nat)(f:Addr)(fd:FuncData)(ps:List Str)(sp:Sp):Prop where
 len:∀vs H Q E,sp vs H Q E->vs.length=ps.length
 run:∀(A:Around) (outer:List Env) (s:Shared) (H:Hp) (args:Args) (us:List Value) (vs:List V) (Q:VK) (E:XK),C7 k A->GE P w K mg base A outer s H->BindsTo s fd args (ps.zip us)->Ay vs us->sp vs H Q E->
  codeAny (model P w) A (.call (.ref f) args) (CR CX outer P w H s Q E) s
theorem GE.make {P:Program}{w:World}{K:YO}{mg:Str->Option Value}{base:Heap}{A:Around}{outer:List Env}{s:Shared}{H:Hp}(e:GE P w K mg base A outer s H)(C:Addr)(us:List Value)(kw:List (Str×Value)) :
 GE P w K mg base (A.under (.builtin "type.__call__" ⟨.ref C::us,kw⟩)) outer s H:=⟨by first|exact e.frames|(simpa[Around.under,Code.envs,Code.isFrame,pushEnvs] using e.frames),e.mod,e.bs,e.bsz,e.funs,e.frf,e.hok,e.bare⟩
section
variable {X:Cx}{pins:List (Addr×Obj)}{σ:St}{H:Hp}{s s':Shared}
theorem A4.env0 (I:A4 X pins σ H s):GE X.prog X.w X.K X.mg X.base X.A X.stack s H:=
 ⟨I.ok.frames,I.ok.mod,I.bs,E3 I.ok.bsz I.sz,I.stack,I.stkFree,I.hok,I.bare⟩
theorem A4.after {Q:VK}{u:Value}(I:A4 X pins σ H s)(h:CE X.stack X.prog X.w H s Q u s'):EP X pins σ Q u s':=by
 obtain⟨v,H',os,bare,un,hok,r,q⟩:=h
 obtain⟨hh,g,d,t,os'⟩:=s'
 obtain rfl:os'=s.os:=os
 exact⟨v,H',I.call (h':=hh) (g':=g) (d':=d) (t':=t) (ch:=[]) un hok bare (fun b z=>absurd z (by simp)),r,q⟩
end
def Vk (sp:Sp)(dvs:List V)(E:XK)(t:TA):TE:=fun σ H Q=>t σ H fun vs H1=>sp (vs++dvs) H1 Q E
def Jd (C:Addr)(m:Str)(sp:Sp)(dvs:List V)(E:XK)(ta:TE)(t:TA):TE:=fun σ H Q=>ta σ H fun x H1=>∃a dx fs,x = .ref a/\H1 a=some (.ins C dx fs)/\fs.lookup m=none/\
 t σ H1 fun vs H2=>sp (x::(vs++dvs)) H2 Q E
def Sw (C:Addr)(sp:Sp)(dvs:List V)(E:XK)(t:TA):TE:=fun σ H Q=>t σ H fun vs H1=>∀x dx,H1 x=none->H1 dx=none->dx≠x->
 sp (.ref x::(vs++dvs)) (upd (upd H1 dx (.own x)) x (.ins C dx [])) (fun v H2=>v = .non/\Q (.ref x) H2) E
def AE (K:YO)(fd:FuncData)(ps:List Str)(ds:List Value):Prop:=
 ∀(s:Shared) (us:List Value),K.In s.heap->(us++ds).length=ps.length->BindsTo s fd ⟨us,[]⟩ (ps.zip (us++ds))
theorem AE.all {K:YO}{fd:FuncData}{ps:List Str}(h:∀us:List Value,us.length=ps.length->bindArgs fd ⟨us,[]⟩=pure (ps.zip us)):AE K fd ps []:=fun s us _ hl=>by
 rw[DA]at hl ⊢
 exact .of_eq (h us hl)
def Ii (CX:EM)(X:Cx)(E:XK):Prop := ∀(pins:List (Addr×Obj)) (σ:St) (H:Hp) (s:Shared) (e:Value) (s':Shared),A4 X pins σ H s->CX X.stack H s E e s'->X.xe e s'
section
variable {X:Cx}{CX:EM}{k:Nat}{f C:Addr}{fd:FuncData}{ps:List Str}{sp:Sp}{dvs:List V}{ds:List Value}{E:XK}{x m:Str}{p pos apos:Pos}{e o:Expr}{es:List Expr}{ta:TE}{t:TA}
theorem On {pins:List (Addr×Obj)}{σ:St}{H:Hp}{s:Shared}{Q:VK}{us:List Value}{vs:List V}(F:AB X.prog X.w X.K X.mg X.base CX k f fd ps sp)(hr:C7 k X.A)(hb:AE X.K fd ps ds)(hd:Ay dvs ds)(hx:Ii CX X E)
  (I:A4 X pins σ H s) (r:Ay vs us) (h:sp (vs++dvs) H Q E):wpAny (model X.prog X.w) X.A (call (.ref f) us) (EP X pins σ Q) X.xe s:=by
 have r2:Ay (vs++dvs) (us++ds):=r.append hd
 have hl:(us++ds).length=ps.length:=by rw[←r2.length];exact F.len _ _ _ _ h
 refine wpAny_call (Ny (F.run X.A X.stack s H ⟨us,[]⟩ (us++ds) (vs++dvs) Q E hr I.env0 (hb s us I.kIn hl) r2 h) fun r s' hq=>?_)
 cases r with
 |error e=>exact hx pins σ H s e s' I hq
 |
  ok fl=>
  cases fl with
  |ret u=>exact I.after hq
  |next=>exact False.elim hq
  |brk=>exact False.elim hq
  |cont=>exact False.elim hq
theorem Aj (F:AB X.prog X.w X.K X.mg X.base CX k f fd ps sp)(hr:C7 k X.A)(hg:Gl X x)(hm:X.mg x=some (.ref f))(hk:PySem.W.keepIn X.K (.ref f)=true)(hb:AE X.K fd ps ds)(hd:Ay dvs ds)(hx:Ii CX X E)
  (ha:PA X (e::es) t) (hdb:(x==("__debug__":Str))=false:=by decide) (he:starEach (e::es) X.env=(false,eval e X.env)::starEach es X.env:=by rfl) (hpl:(backTo pos (starEach es X.env)).any (·.1)=false:=by rfl) :
  PE X (.Call (.Name x p) (e::es) [] pos) (Vk sp dvs E t):=by
 intro pins s σ H Q I h
 refine LD (NS I hg hm ?_ hdb)
 refine PySem.W.callWith_K (h₀:=X.base) I.ok.mod.kin hk (Au (ha pos pins s σ H _ I h) fun us s1 zz=>?_) he hpl
 obtain⟨vs,H1,I1,r,q⟩:=zz
 refine⟨I1.kIn,?_⟩
 exact On F hr hb hd hx I1 r q
theorem Es {pl:Sem Bool}(he:PE X o ta)(c:Dt X.K C)(hm:Ie X.K C m f)(F:AB X.prog X.w X.K X.mg X.base CX k f fd ps sp)(hr:C7 k X.A)(hb:AE X.K fd ps ds)(hd:Ay dvs ds)(hx:Ii CX X E)
  (ht:eval (.Call (.Attribute o m apos) [] [] pos) X.env=(do
   let ov ←eval o X.env
   standAt apos.atName
   let (f,first) ←holding [ov] (getMethod ov m pl)
   callWith pos f first (backTo pos (starEach [] X.env)) (backToKw pos (keywordEach [] X.env))):=by rfl) :
  PE X (.Call (.Attribute o m apos) [] [] pos) (Jd C m sp dvs E ta G2):=by
 intro pins s σ H Q I h
 refine PySem.W.methodCall_KW (pl:=pl) (Au (he pins s σ H _ I h) fun u s1 zz=>?_) ht
 obtain⟨x,H1,I1,rx,a,dx,fs,ex,ea,l,q⟩:=zz
 subst ex
 obtain rfl:u=Value.ref a:=rx
 refine Vc I1 ea c hm l ?_
 exact PySem.W.callWith_K0 (first:=[.ref a]) I1.kIn hm.kp (On (us:=[.ref a]) (vs:=[.ref a]) F hr hb hd hx I1 (.cons rfl .nil) q)
structure Mk (K:YO)(C f:Addr):Prop where
 makes:PySem.W.makesIn K C=true
 init:PySem.W.findIn K (.ref C) "__init__"=some (some (.ref f))
 fn:PySem.W.isFn K (.ref f)=true
 kp:PySem.W.keepIn K (.ref C)=true
theorem UH {pins:List (Addr×Obj)}{σ:St}{H:Hp}{s:Shared}{Q:VK}{us:List Value}{vs:List V}(M:Mk X.K C f)(F:AB X.prog X.w X.K X.mg X.base CX k f fd ps sp)(hr:C7 (k+1) X.A)(hb:AE X.K fd ps ds)(hd:Ay dvs ds)
  (hx:Ii CX X E) (I:A4 X pins σ H s) (r:Ay vs us)
  (h:∀x dx,H x=none->H dx=none->dx≠x->sp (.ref x::(vs++dvs)) (upd (upd H dx (.own x)) x (.ins C dx [])) (fun v H2=>v = .non/\Q (.ref x) H2) E) :
  wpAny (model X.prog X.w) X.A (call (.ref C) us) (EP X pins σ Q) X.xe s:=by
 have hq:=h (s.heap.objs.size+1) s.heap.objs.size (I.hok.fresh (GX _)) (I.hok.fresh (Ap _)) (Bu (Ln _))
 have I2:=A4.made (C:=C) I
 have r2:Ay (V.ref (s.heap.objs.size+1)::(vs++dvs)) (Value.ref (s.heap.objs.size+1)::(us++ds)):=.cons rfl (r.append hd)
 have hl:(Value.ref (s.heap.objs.size+1)::us++ds).length=ps.length:=by
  have e:=r2.length
  rw[F.len _ _ _ _ hq]at e
  exact e.symm
 refine wpAny_call (Ro (f:=f) I.kIn M.makes M.init (FN.mp M.fn) (Ny (F.run _ X.stack _ _ ⟨Value.ref (s.heap.objs.size+1)::us,[]⟩ (Value.ref (s.heap.objs.size+1)::(us++ds)) _ _ E (hr.make C us [])
  (I2.env0.make C us []) (hb _ (Value.ref (s.heap.objs.size+1)::us) I2.kIn hl) r2 hq) fun r s' hq'=>?_))
 cases r with
 |error e=>exact hx pins σ _ _ e s' I2 hq'
 |
  ok fl=>
  cases fl with
  |
   ret u=>
   obtain⟨v,H',I3,rv,ev,q3⟩:=I2.after hq'
   subst ev
   exact⟨rv,⟨V.ref (s.heap.objs.size+1),H',I3,rfl,q3⟩⟩
  |next=>exact False.elim hq'
  |brk=>exact False.elim hq'
  |cont=>exact False.elim hq'
theorem I0 (M:Mk X.K C f)(F:AB X.prog X.w X.K X.mg X.base CX k f fd ps sp)(hr:C7 (k+1) X.A)(hg:Gl X x)(hm:X.mg x=some (.ref C))(hb:AE X.K fd ps ds)(hd:Ay dvs ds)(hx:Ii CX X E)
  (ha:PA X (e::es) t) (hdb:(x==("__debug__":Str))=false:=by decide) (he:starEach (e::es) X.env=(false,eval e X.env)::starEach es X.env:=by rfl) (hpl:(backTo pos (starEach es X.env)).any (·.1)=false:=by rfl) :
  PE X (.Call (.Name x p) (e::es) [] pos) (Sw C sp dvs E t):=by
 intro pins s σ H Q I h
 refine LD (NS I hg hm ?_ hdb)
 refine PySem.W.callWith_K (h₀:=X.base) I.ok.mod.kin M.kp (Au (ha pos pins s σ H _ I h) fun us s1 zz=>?_) he hpl
 obtain⟨vs,H1,I1,r,q⟩:=zz
 refine⟨I1.kIn,?_⟩
 exact UH M F hr hb hd hx I1 r q
end
section
variable {X:Cx}{CX:EM}{k:Nat}{f C:Addr}{fd:FuncData}{ps ks:List Str}{sp:Sp}{E:XK}{x m:Str}{p pos apos kpos:Pos}{e o:Expr}{es:List Expr}{kws:List Keyword}{te ta:TE}{t tk:TA}{nm:Option Str}
variable {g:List Value->List Value->List Value}{gV:List V->List V->List V}
end
structure AJ (N P:List Str)(sc:Scope):Prop where
 kind:sc.kind = .function
 co:sc.isCoroutine=false
 gen:sc.isGenerator=false
 nd:N.Nodup
 pre:N.take P.length=P
 par:∀x∈P,sc.names.lookup x=some .local\/sc.names.lookup x=some .cell
 nofree:∀y∈sc.names,y.2≠.free
theorem NP {kindOf:Str->Option NameKind}{x:Str}:∀{binds:List (Str×Value)} {m:Str->Option Value},(∀v,(x,v)∉binds)->bindL kindOf binds m x=m x
 |[],_,_=>rfl
 |
  (n,v)::r,m,h=>by
  unfold bindL
  rw[NP fun w hw=>h w (E5 _ hw)]
  split
  .have:x≠n:=by rintro rfl;exact h v E4
   simp[this]
  .rfl
theorem OC {kindOf:Str->Option NameKind}{x:Str}:∀{binds:List (Str×Value)} {m:Str->Option Value},(∀v,(x,v)∉binds)->bindC kindOf binds m x=m x
 |[],_,_=>rfl
 |
  (n,v)::r,m,h=>by
  unfold bindC
  rw[OC fun w hw=>h w (E5 _ hw)]
  split
  .rfl
  .have:x≠n:=by rintro rfl;exact h v E4
   simp[this]
theorem Ox {kindOf:Str->Option NameKind}{x:Str}{v:Value}:∀{P:List Str} {vs:List Value} {i:Nat} {m:Str->Option Value},P.Nodup->P[i]?=some x->vs[i]?=some v->kindOf x=some .local->
  bindL kindOf (P.zip vs) m x=some v
 |[],_,_,_,_,h,_,_=>by simp at h
 |_::_,[],_,_,_,_,h,_=>by simp at h
 |
  p::P,w::vs,0,m,nd,h1,h2,hk=>by
  simp at h1 h2;subst h1;subst h2
  show bindL kindOf ((p,w)::P.zip vs) m p=_
  unfold bindL
  rw[NP fun v hv=>(Lo.mp nd).1 (Qt hv).1,Ax hk]
  simp
 |
  p::P,w::vs,i+1,m,nd,h1,h2,hk=>by
  show bindL kindOf ((p,w)::P.zip vs) m x=_
  unfold bindL
  exact Ox (i:=i) (Lo.mp nd).2 (by simpa using h1) (by simpa using h2) hk
theorem Pg {kindOf:Str->Option NameKind}{x:Str}{v:Value}:∀{P:List Str} {vs:List Value} {i:Nat} {m:Str->Option Value},P.Nodup->P[i]?=some x->vs[i]?=some v->kindOf x≠some .local->
  bindC kindOf (P.zip vs) m x=some v
 |[],_,_,_,_,h,_,_=>by simp at h
 |_::_,[],_,_,_,_,h,_=>by simp at h
 |
  p::P,w::vs,0,m,nd,h1,h2,hk=>by
  simp at h1 h2;subst h1;subst h2
  show bindC kindOf ((p,w)::P.zip vs) m p=_
  unfold bindC
  rw[OC fun v hv=>(Lo.mp nd).1 (Qt hv).1,As hk]
  simp
 |
  p::P,w::vs,i+1,m,nd,h1,h2,hk=>by
  show bindC kindOf ((p,w)::P.zip vs) m x=_
  unfold bindC
  exact Pg (i:=i) (Lo.mp nd).2 (by simpa using h1) (by simpa using h2) hk
def start (N:List Str)(vs:List V):St:=vs.map some++List.replicate (N.length-vs.length) none
def HS (CX:EM)(P:Program)(w:World)(K:YO)(mg:Str->Option Value)(base:Heap)(N:List Str)(qual:Str)(scope:Scope)(f:Addr)(cd:Value)(A:Around)(outer:List Env)(s:Shared)(H:Hp)(E:XK):Cx where
 prog:=P
 w:=w
 K:=K
 mg:=mg
 base:=base
 A:=A.deeper (envOfC qual scope s.heap.objs.size f cd)
 N:=N
 s₀:=s
 H₀:=H
 env:=envOfC qual scope s.heap.objs.size f cd
 outer:=outer
 stack:=envOfC qual scope s.heap.objs.size f cd::outer
 ex:=[]
 calm:=true
 fn:=fun _=>true
 pn:=[]
 xe:=fun e s'=>wpAny (model P w) (A.deeper (envOfC qual scope s.heap.objs.size f cd)) (leaving (envOfC qual scope s.heap.objs.size f cd) e) (fun _ s''=>CX outer H s E e s'') (fun e' s''=>CX outer H s E e' s'') s'
theorem NC {sc:Scope}{n:Nat}{x:Str}(h:sc.names.lookup x=some .cell):∃c,(cellsFrom n sc.names []).lookup x=some c:=by
 have q:=PySem.W.cellsFrom_some sc.names n [] (.inl h)
 exact Option.isSome_iff_exists.mp q
theorem We {CX:EM}{P:Program}{w:World}{K:YO}{mg:Str->Option Value}{base:Heap}{N ps:List Str}{qual:Str}{scope:Scope}{f:Addr}{cd:Value}{A:Around}{outer:List Env}{s s1:Shared}{H:Hp}{E:XK}{us:List Value}{vs:List V}
  (S:AJ N ps scope) (hd:A.handled=none) (e0:GE P w K mg base A outer s H) (hl:vs.length=ps.length) (r:Ay vs us)
  (x:InCallC s s.heap.objs.size (bindL (envOfC qual scope s.heap.objs.size f cd).kindOf (ps.zip us) fun _=>none) (cellsFrom (s.heap.objs.size+1) scope.names []) (bindC (envOfC qual scope s.heap.objs.size f cd).kindOf (ps.zip us) fun _=>none) s1) :
  A4 (HS CX P w K mg base N qual scope f cd A outer s H E) [] (start N vs) H s1:=by
 have hpl:ps.length<=N.length:=by have:=congrArg List.length S.pre;rw[Bg]at this;lia
 obtain⟨h1,tk,rfl,hk⟩:=x.done
 have noA:∀b:Addr,b∉(HS CX P w K mg base N qual scope f cd A outer s H E).ex:=fun b z=>absurd (show b∈([]:List Addr) from z) (by simp)
 refine⟨⟨e0.mod,S.kind,rfl,rfl,Ap _,fun y z c h1 h2=>?_,fun y hy=>?_,fun y c _ h=>?_,fun _=>hd,Around.frames_deeper e0.frames,.inr ⟨rfl,rfl⟩,fun b z=>absurd z (noA b),e0.bs,e0.bsz,fun b _ _=>noA b,fun b z=>absurd z (noA b),e0.funs,e0.frf⟩,
  rfl,e0.bare,Un.kept hk,⟨_,x.toInCall.ns,fun i y v h1 h2 h3=>?_⟩,fun y c h=>⟨_,x.cell y c h⟩,e0.hok.fresh (Ap _),fun y c h=>?_,fun p hp=>absurd (show p∈([]:List (Addr×Obj)) from hp) (by simp),e0.hok.kept hk,?_⟩
 .exact name_of_addr x.apart (Lq h1) (Lq h2)
 .have hy:scope.names.lookup y=some .cell\/scope.names.lookup y=some .free:=hy
  rcases hy with hy|hy
  .exact NC hy
  .exact absurd rfl (S.nofree _ (Lq hy))
 .exact EG (x.above y c (Lq h))
 .have hi:i<vs.length:=by
   unfold start at h2
   by_cases hi:i<vs.length
   .exact hi
   .rw[DQ (by simpa using hi)]at h2
    rw[List.getElem?_replicate]at h2
    split at h2<;>cases h2
  have ha:vs[i]?=some v:=by
   unfold start at h2
   rw[EH (by simpa using hi),BG]at h2
   cases e:vs[i]? with
   |none=>rw[e]at h2;cases h2
   |some a=>rw[e]at h2;cases h2;rfl
  obtain⟨u,hu,rv⟩:=r.get ha
  have hp:ps[i]?=some y:=by
   rw[←S.pre,Jq (by lia)];exact h1
  have ndP:ps.Nodup:=by rw[←S.pre];exact S.nd.sublist (List.take_sublist _ _)
  refine⟨u,rv,?_⟩
  rcases S.par y (Bh hp) with k|k
  .exact .inl ⟨k,Ox ndP hp hu k⟩
  .obtain⟨c,e⟩:=NC (n:=s.heap.objs.size+1) k
   refine .inr ⟨.inl k,c,e,?_⟩
   have q:=x.cell y c e
   rw[Pg ndP hp hu (by show scope.names.lookup y≠_;rw[k];decide)]at q
   exact q
 .exact e0.hok.fresh (EG (x.above y c (Lq h)))
 .unfold start
  show _=N.length
  rw[Az,Aq,Lr]
  lia
theorem W0 {CX:EM}{P:Program}{w:World}{K:YO}{mg:Str->Option Value}{base:Heap}{k:Nat}{f:Addr}{name qual:Str}{params:Arguments}{body:List Stmt}{scope:Scope}{dV kV doc pm cdv ct oc:Value}{an od:Option Addr}
  {osl:Array (Option Value)} {N ps:List Str} {sp:Sp} (lk:K.lookup f=some ⟨oc,od,.func (PySem.W.fnOf name qual params body scope dV kV doc pm an cdv ct),osl⟩) (hcd:PySem.W.codeIn K cdv qual=true) (S:AJ N ps scope)
  (len:∀vs H Q E,sp vs H Q E->vs.length=ps.length)
  (hbody:∀(A:Around) (outer:List Env) (s:Shared) (H:Hp) (vs:List V) (Q:VK) (E:XK),C7 k (A.deeper (envOfC qual scope s.heap.objs.size f cdv))->sp vs H Q E->
   ∃t,Eg (HS CX P w K mg base N qual scope f cdv A outer s H E) body t/\t {nx:=fun _ H'=>Q .non H',rt:=Q} (start N vs) H) :
  AB P w K mg base CX (k+1) f (PySem.W.fnOf name qual params body scope dV kV doc pm an cdv ct) ps sp:=by
 refine⟨len,fun A outer s H args us vs Q E hr e0 hb r hsp=>?_⟩
 have hl:=len _ _ _ _ hsp
 have KX:K.In s.heap:=e0.mod.kin.keeps fun b o e=>(e0.bs b o e).1
 have lim:s.heap.NoLimit:=e0.mod.nolimit.keeps fun b o e=>(e0.bs b o e).1
 have hkind:∀y∈ps.zip us,scope.names.lookup y.1=some .local\/(scope.names.lookup y.1=some .cell/\((cellsFrom (s.heap.objs.size+1) scope.names []).lookup y.1).isSome=true):=fun⟨n,v⟩ hy=>by
  rcases S.par n (Qt hy).1 with q|q
  .exact .inl q
  .exact .inr ⟨q,PySem.W.cellsFrom_some _ _ _ (.inl q)⟩
 refine codeAny_call_function hr.depth (KX _ _ lk) rfl S.co S.gen rfl (PySem.W.codeRec_of KX hcd) (hb _ _ _ _ ?_)
 refine wpAny_newFunctionEnv_cells S.kind hkind fun env he s1 x=>?_
 subst he
 refine⟨lim.keeps x.toInCall.keep,codeAny_func ?_⟩
 obtain⟨t,ht,hq⟩:=hbody A outer s H vs Q E (hr.deeper _) hsp
 have I:A4 (HS CX P w K mg base N qual scope f cdv A outer s H E) [] (start N vs) H s1:=We S hr.hd e0 hl r x
 refine E6 (ht [] s1 (start N vs) H _ I hq) (fun fl s' hs=>?_) fun e s' hs=>hs
 have fin:∀{σ':St} {H':Hp} {v:V} {u:Value},A4 (HS CX P w K mg base N qual scope f cdv A outer s H E) [] σ' H' s'->AD v u->Q v H'->CE outer P w H s Q u s':=
  fun{σ' H' v u} J rv q=>⟨v,H',J.os,J.bare,J.base,J.hok,rv,q⟩
 cases fl with
 |
  ret u=>
  obtain⟨v,σ',H',J,rv,q⟩:=hs
  exact fin J rv q
 |
  next=>
  obtain⟨σ',H',J,q⟩:=hs
  exact fin (v:=V.non) (u:=Value.none) J rfl q
 |
  brk=>
  obtain⟨_,_,_,q⟩:=hs
  exact False.elim q
 |
  cont=>
  obtain⟨_,_,_,q⟩:=hs
  exact False.elim q
section
variable {X:Cx}{x:Str}{p pos:Pos}{e:Expr}{es:List Expr}{t:TA}{id T:String}{r:List V->Hp->VK->Prop}
def M3 (r:List V->Hp->VK->Prop)(t:TA):TE:=fun σ H Q=>t σ H fun vs H1=>r vs H1 Q
theorem B3 (hc:EC X (.builtin id) r)(hg:Gl X x)(hm:X.mg x=none)(hv:bootBuiltins x=some (.builtin id))(ha:PA X (e::es) t)(hn:x≠"__name__":=by decide)(hdb:(x==("__debug__":Str))=false:=by decide)
  (he:starEach (e::es) X.env=(false,eval e X.env)::starEach es X.env:=by rfl) (hpl:(backTo pos (starEach es X.env)).any (·.1)=false:=by rfl):PE X (.Call (.Name x p) (e::es) [] pos) (M3 r t):=by
 intro pins s σ H Q I h
 refine LD (Fu I hg hm hv ?_ hn hdb)
 refine PyProof.Rows.callWith_builtin1 (Au (ha pos pins s σ H _ I h) fun us s1 zz=>?_) he hpl
 obtain⟨vs,H1,I1,r1,q1⟩:=zz
 exact hc pins s1 σ H1 vs us Q I1 r1 q1
theorem Ec (hc:EC X (.type T) r)(hg:Gl X x)(hm:X.mg x=none)(hv:bootBuiltins x=some (.type T))(ha:PA X (e::es) t)(hn:x≠"__name__":=by decide)(hdb:(x==("__debug__":Str))=false:=by decide)
  (he:starEach (e::es) X.env=(false,eval e X.env)::starEach es X.env:=by rfl) (hpl:(backTo pos (starEach es X.env)).any (·.1)=false:=by rfl):PE X (.Call (.Name x p) (e::es) [] pos) (M3 r t):=by
 intro pins s σ H Q I h
 refine LD (Fu I hg hm hv ?_ hn hdb)
 refine Ik (Au (ha pos pins s σ H _ I h) fun us s1 zz=>?_) he hpl
 obtain⟨vs,H1,I1,r1,q1⟩:=zz
 exact hc pins s1 σ H1 vs us Q I1 r1 q1
end
end L2
namespace HT
open PySem PyProof.Rows
section
open PySem.SeqAt
open PySem.AutoSeq1 (wpAny_loadPart')
open PySem.MeetsSeq PySem.MeetsSeq2 PySem.MeetsSeq3
end
section
variable {prog:Program}{w:World}{A:Around}{E:Value->Shared->Prop}{s:Shared}
def sIx (n d:Nat):Option Int->Nat
 |none=>d
 |some v=>if v<0 then(v+(n:Int)).toNat else min v.toNat n
theorem sIx_none (n d:Nat):sIx n d none=d:=rfl
theorem sIx_nat (n d k:Nat):sIx n d (some (k:Int))=min k n:=by
 show(if(k:Int)<0 then((k:Int)+(n:Int)).toNat else min (k:Int).toNat n)=min k n
 rw[As (by lia),Em]
theorem sIx_le (n d:Nat)(hd:d<=n)(o:Option Int):sIx n d o<=n:=by
 cases o with
 |none=>exact hd
 |
  some v=>
  show(if v<0 then(v+(n:Int)).toNat else min v.toNat n)<=n
  by_cases hv:v<0
  .rw[Ax hv];lia
  .rw[As hv];exact Nat.min_le_right _ _
theorem Pb (v:Int)(n d:Nat):(if v<0 then max (v+(n:Int)) 0 else min v (n:Int))=((sIx n d (some v):Nat):Int):=by
 show(if v<0 then max (v+(n:Int)) 0 else min v (n:Int))=(((if v<0 then(v+(n:Int)).toNat else min v.toNat n):Nat):Int)
 by_cases hv:v<0
 .simp only[Ax hv];lia
 .simp only[As hv];lia
theorem Ub (lo hi:Option Int)(n:Nat):Builtin.Slice.sliceAdjust lo hi 1 (n:Int)=(((sIx n 0 lo:Nat):Int),((sIx n n hi:Nat):Int)):=by
 have h1:¬((1:Int)<0):=by lia
 unfold Builtin.Slice.sliceAdjust
 simp only[h1,if_false]
 refine Prod.ext ?_ ?_
 .cases lo with
  |none=>rfl
  |some v=>exact Pb v n 0
 .cases hi with
  |none=>rfl
  |some v=>exact Pb v n n
theorem QO (i j:Nat):Builtin.Slice.slicePlaces (i:Int) (j:Int) 1=j-i:=by
 unfold Builtin.Slice.slicePlaces
 have h1:(1:Int)>0:=by lia
 simp only[h1,Gb,Int.ediv_one]
 split<;>lia
theorem PB {v:Value}{o:Option Int}{Q:Option Int->Shared->Prop}(p:IsPart v o)(h:Q o s):wpAny (model prog w) A (Builtin.Slice.slicePartIndex v) Q E s:=by
 cases p with
 |none=>exact slicePart_none h
 |int i t=>exact slicePart_int h
theorem Qj {sl:Addr}{vl vu:Value}{lo hi:Option Int}{n:Nat}{Q:Int×Int×Nat->Shared->Prop}(hs:s.heap.IsSliceOf sl vl vu .none)(pl:IsPart vl lo)(pu:IsPart vu hi)
  (h:Q (((sIx n 0 lo:Nat):Int),1,sIx n n hi-sIx n 0 lo) s):wpAny (model prog w) A (Builtin.Slice.sliceApplied (.ref sl) (pure (n:Int))) Q E s:=by
 obtain⟨os,hos,hcs,hds⟩:=id hs
 unfold Builtin.Slice.sliceApplied Builtin.Slice.sliceFields
 refine Ao (Ao (Hb hos hds (x:=vl) rfl (Ao (Hb hos hds (x:=vu) rfl (Ao (Hb hos hds (x:=.none) rfl (AY ?_)))))))
 refine Ao (slicePart_none ?_)
 show wpAny _ _ (if((1:Int)==0)=true then _ else _) _ _ s
 rw[As (by decide)]
 refine Ao (PB pl (Ao (PB pu (Ao (AY ?_)))))
 show wpAny _ _ (match Builtin.Slice.sliceAdjust lo hi 1 (n:Int) with|(lo,hi)=>pure (lo,(1:Int),Builtin.Slice.slicePlaces lo hi 1)) _ _ s
 rw[Ub lo hi n]
 show wpAny _ _ (pure (((sIx n 0 lo:Nat):Int),(1:Int),Builtin.Slice.slicePlaces ((sIx n 0 lo:Nat):Int) ((sIx n n hi:Nat):Int) 1)) _ _ s
 rw[QO]
 exact AY h
theorem Xy (xs:Array Value)(i k:Nat):((List.range k).filterMap fun(m:Nat)=>xs[((i:Int)+(m:Int)*1).toNat]?).toArray=((xs.toList.drop i).take k).toArray:=by
 have e:(fun(m:Nat)=>xs[((i:Int)+(m:Int)*1).toNat]?)=fun m=>xs[i+m]?:=by
  funext m
  have:((i:Int)+(m:Int)*1).toNat=i+m:=by lia
  rw[this]
 rw[e]
 have:=pick_run xs i k
 rw[List.filterMap_map]at this
 have e2:((fun x=>xs[x]?)∘fun x=>i+x)=fun m=>xs[i+m]?:=rfl
 rw[e2]at this
 rw[this]
theorem getItem_tuple_cut {t sl:Addr}{items:Array Value}{vl vu:Value}{lo hi:Option Int}{Q:Value->Shared->Prop}(ht:IsTup s.heap t items)(hs:s.heap.IsSliceOf sl vl vu .none)(pl:IsPart vl lo)(pu:IsPart vu hi)
  (hw:¬(sIx items.size 0 lo=0/\sIx items.size items.size hi=items.size))
  (h:Q (.ref s.heap.objs.size) {s with heap:=s.heap.push {cls:=.type "tuple",data:=.seq ((items.toList.drop (sIx items.size 0 lo)).take (sIx items.size items.size hi-sIx items.size 0 lo)).toArray}})
  (hsz:items.size<=sizeLine):wpAny (model prog w) A (getItem (.ref t) (.ref sl)) Q E s:=by
 have htake:sizeOk (.seq ((items.toList.drop (sIx items.size 0 lo)).take (sIx items.size items.size hi-sIx items.size 0 lo)).toArray):=by
  show((items.toList.drop (sIx items.size 0 lo)).take (sIx items.size items.size hi-sIx items.size 0 lo)).toArray.size<=sizeLine
  rw[Bi,Bg,Il,Qr]
  lia
 have hj:sIx items.size items.size hi<=items.size:=sIx_le _ _ (Ap _) hi
 obtain⟨os,hos,hcs,hds⟩:=id hs
 have hTs:s.TypeIs (.ref sl) "slice":=⟨os,hos,hcs⟩
 unfold getItem
 try with_reducible refine FM ?_
 first|refine Ao (AY ?_)|skip
 refine Ao (wpAny_sequenceKey ht.typeIs (by decide) ?_)
 refine Ao (wpAny_callSpecial?_slot (name:=Str.ofString "__getitem__") ht.typeIs Nj
  (Nz Nj ht.typeIs entry_tuple_getitem ?_ (args_tuple_getitem _ _)))
 show wpAny _ _ (Builtin.Tuple.tupleItemsOf (.ref t)>>=_) _ _ s
 refine Ao (tupleItemsOf_ ht ?_)
 refine Ao (wpAny_typeOf hTs ?_)
 rw[Ax (by decide)]
 refine Ao (Qj hs pl pu ?_)
 have hno:¬((((sIx items.size 0 lo:Nat):Int)==0&&(1:Int)==1&&(sIx items.size items.size hi-sIx items.size 0 lo)==items.size)=true):=by
  intro q
  rw[CU,CU]at q
  have q1:((sIx items.size 0 lo:Nat):Int)=0:=eq_of_beq q.1.1
  have q2:sIx items.size items.size hi-sIx items.size 0 lo=items.size:=eq_of_beq q.2
  exact hw ⟨by lia,by lia⟩
 show wpAny _ _ (if(((sIx items.size 0 lo:Nat):Int)==0&&(1:Int)==1&&(sIx items.size items.size hi-sIx items.size 0 lo)==items.size)=true then _ else _) _ _ s
 rw[As hno,Xy]
 first
  |exact Ao (m:=Builtin.Tuple.tupleExact _) (JC (AY ⟨_,rfl,AY h⟩) htake)
  |exact Ao (m:=Builtin.Tuple.tupleExact _) (JC (Ao (AY (AY ⟨_,rfl,AY h⟩))) htake)
  |exact Ao (Ao (m:=Builtin.Tuple.tupleExact _) (JC (AY (AY ⟨_,rfl,AY h⟩)) htake))
  |exact Ao (Ao (m:=Builtin.Tuple.tupleExact _) (JC (AY ⟨_,rfl,AY h⟩) htake))
end
end HT
namespace L2
open PySem PySem.Spec PyProof.Rows
abbrev TO:=St->Hp->(Option Int->Hp->Prop)->Prop
def PO (X:Cx)(e:Option Expr)(t:TO):Prop:=
 ∀(pins:List (Addr×Obj)) (s:Shared) (σ:St) (H:Hp) (Q:Option Int->Hp->Prop),A4 X pins σ H s->t σ H Q->
  wpAny (model X.prog X.w) X.A (evalPart e X.env) (fun u s'=>∃o H',A4 X pins σ H' s'/\IsPart u o/\Q o H') X.xe s
def WI:TO:=fun _ H Q=>Q none H
def RO (t:TE):TO:=fun σ H Q=>t σ H fun x H1=>∃i,x = .int i/\Q (some i) H1
section
variable {X:Cx}{e:Expr}{te:TE}{lo hi:Option Expr}{tl th:TO}{pos p2:Pos}
theorem DH:PO X none WI:=by
 intro pins s σ H Q I h
 rw[evalPart_none]
 exact AY ⟨none,H,I,.none,h⟩
theorem D9 (h:PE X e te):PO X (some e) (RO te):=by
 intro pins s σ H Q I hw
 rw[evalPart_some]
 refine Au (h pins s σ H _ I hw) fun u s1 zz=>?_
 obtain⟨x,H1,I1,r1,q1⟩:=zz
 obtain⟨i,rfl,q⟩:=q1
 obtain⟨t,rfl⟩:=r1
 exact⟨some i,H1,I1,.int i t,q⟩
def Jf (X:Cx)(r:V->Option Int->Option Int->Hp->VK->Prop):Prop:=
 ∀(pins:List (Addr×Obj)) (s:Shared) (σ:St) (H:Hp) (x:V) (v vl vu:Value) (lo hi:Option Int) (sl:Addr) (Q:VK),A4 X pins σ H s->AD x v->s.heap.IsSliceOf sl vl vu .none->IsPart vl lo->IsPart vu hi->r x lo hi H Q->
  ∃T id,typeLookup (.type T) "__getitem__"=pure (some (.builtin id))/\s.TypeIs v T/\wpAny (model X.prog X.w) X.A (getItem v (.ref sl)) (EP X pins σ Q) X.xe s
def Tj (r:V->Option Int->Option Int->Hp->VK->Prop)(te:TE)(tl th:TO):TE:=fun σ H Q=>te σ H fun x H1=>tl σ H1 fun l H2=>th σ H2 fun u H3=>r x l u H3 Q
theorem Ds {r:V->Option Int->Option Int->Hp->VK->Prop}(hr:Jf X r)(he:PE X e te)(hl:PO X lo tl)(hu:PO X hi th):PE X (.Subscript e (.Slice lo hi none p2) pos) (Tj r te tl th):=by
 intro pins s σ H Q I h
 refine Subscript_ (Au (he pins s σ H _ I h) fun v s1 zz=>?_)
 obtain⟨x,H1,I1,r1,q1⟩:=zz
 refine wpAny_Slice (Au (hl pins s1 σ H1 _ I1 q1) fun vl s2 zz=>?_)
 obtain⟨l,H2,I2,pl,q2⟩:=zz
 refine Au (hu pins s2 σ H2 _ I2 q2) fun vu s3 zz=>?_
 obtain⟨u,H3,I3,pu,q3⟩:=zz
 rw[evalPart_none]
 refine AY ?_
 have I4:A4 X pins σ H3 {s3 with heap:=s3.heap.push {cls:=.type "slice",data:=.fields #[vl,vu,.none]}}:=I3.kept (t':=s3.toks) fun b ob q=>Bk _ q
 obtain⟨T,id,hT,ht,hg⟩:=hr pins {s3 with heap:=s3.heap.push {cls:=.type "slice",data:=.fields #[vl,vu,.none]}} σ H3 x v vl vu l u s3.heap.objs.size Q I4 r1 (Heap.IsSliceOf.new ..) pl pu q3
 show wpAny (model X.prog X.w) X.A (subscriptTail e (.Slice lo hi none p2) v (.ref s3.heap.objs.size)) (EP X pins σ Q) X.xe {s3 with heap:=s3.heap.push {cls:=.type "slice",data:=.fields #[vl,vu,.none]}}
 exact tail_any (ops:=[.ref s3.heap.objs.size,v]) ht hT hg (by with_unfolding_all rfl)
def C2 (xs:List V)(lo hi:Option Int):List V:=(xs.drop (HT.sIx xs.length 0 lo)).take (HT.sIx xs.length xs.length hi-HT.sIx xs.length 0 lo)
theorem Pa (xs:List V)(lo hi:Option Int):(C2 xs lo hi).length<=xs.length:=by
 unfold C2
 rw[Bg,Il]
 lia
def YE (K:YO):V->Option Int->Option Int->Hp->VK->Prop:=fun x lo hi H Q=>∃a xs,x = .ref a/\A3 K H a xs/\
 ¬(HT.sIx xs.length 0 lo=0/\HT.sIx xs.length xs.length hi=xs.length)/\∀p,H p=none->Q (.ref p) (upd H p (.tup (C2 xs lo hi)))
theorem RP:Jf X (YE X.K):=by
 intro pins s σ H x v vl vu lo hi sl Q I rx hs pl pu h
 obtain⟨a,xs,rfl,hx,hw,q⟩:=h
 cases rx
 obtain⟨its,r,ht,hz⟩:=I.tuple hx
 have hlen:its.toArray.size=xs.length:=by rw[Bi];exact r.length.symm
 refine⟨"tuple",_,PyProof.Rows.slot_tuple_getitem.lookup,ht.typeIs,?_⟩
 refine HT.getItem_tuple_cut ht hs pl pu (by rw[hlen];exact hw) ?_ (by rw[hlen];exact hz)
 rw[hlen]
 refine⟨.ref s.heap.objs.size,_,I.laid (t':=s.toks) (o:=.tup (C2 xs lo hi)) (fun b ob q=>Bk _ q) (Ap _) ?_,rfl,q _ (I.hok.fresh (Ap _))⟩
 exact⟨E3 (Pa xs lo hi) hz,_,(r.drop (HT.sIx xs.length 0 lo)).take (HT.sIx xs.length xs.length hi-HT.sIx xs.length 0 lo),F7.new _ _⟩
end
def EO (n:Nat)(i:Int):Option Nat:=if 0<=i then(if i<n then some i.toNat else none) else if -(n:Int)<=i then some (i+n).toNat else none
def B8 {α:Type}(xs:List α)(i:Int):Option α:=(EO xs.length i).bind fun j=>xs[j]?
theorem PX {n:Nat}{i:Int}{j:Nat}(h:EO n i=some j):seqIndex? i n=some j/\j<n/\-(n:Int)<=i/\i<n:=by
 unfold EO at h
 by_cases h0:0<=i
 .rw[Ax h0]at h
  by_cases h1:i<n
  .rw[Ax h1]at h
   have e:i.toNat=j:=Cg h
   exact⟨by rw[seqIndex_of h0 h1,e],by lia,by lia,h1⟩
  .rw[As h1]at h;cases h
 .rw[As h0]at h
  by_cases h1 : -(n:Int)<=i
  .rw[Ax h1]at h
   have e:(i+n).toNat=j:=Cg h
   exact⟨by rw[seqIndex_neg (by lia) h1,e],by lia,h1,by lia⟩
  .rw[As h1]at h;cases h
theorem Na {α:Type}{xs:List α}{i:Int}{v:α}(h:B8 xs i=some v):∃j,seqIndex? i xs.length=some j/\xs[j]?=some v/\j<xs.length/\-(xs.length:Int)<=i/\i<xs.length:=by
 unfold B8 at h
 cases e:EO xs.length i with
 |none=>rw[e]at h;cases h
 |
  some j=>
  rw[e]at h
  obtain⟨h1,h2,h3,h4⟩:=PX e
  exact⟨j,h1,h,h2,h3,h4⟩
theorem By {α:Type}{xs:List α}{j:Nat}{v:α}(h:xs[j]?=some v):B8 xs (j:Int)=some v:=by
 have hj:j<xs.length:=(AX.mp h).1
 have e:EO xs.length (j:Int)=some j:=by
  unfold EO
  rw[Ax (by lia),Ax (by lia)];simp
 unfold B8;rw[e];exact h
theorem K2 {α:Type}(xs:List α)(v:α):B8 (xs++[v]) (-1)=some v:=by
 have hl:(xs++[v]).length=xs.length+1:=by simp
 have e:EO (xs++[v]).length (-1)=some xs.length:=by
  unfold EO
  rw[hl,As (by decide),Ax (by lia)]
  congr 1
  lia
 unfold B8
 rw[e]
 show(xs++[v])[xs.length]?=some v
 simp
def Ur (b:Expr):Prop := ∀o i,subscripted b false o i=operate [o,i] (getItem o i)
def Cn (X:Cx)(r:R2):Prop:=
 ∀(value slice:Expr) (pins:List (Addr×Obj)) (s:Shared) (σ:St) (H:Hp) (x y:V) (v u:Value) (Q:VK),A4 X pins σ H s->AD x v->AD y u->r x y H Q->
  subscripted slice false v u=operate [v,u] (getItem v u)->wpAny (model X.prog X.w) X.A (subscriptTail value slice v u) (EP X pins σ Q) X.xe s
def Mw (X:Cx)(id:String)(r:V->List V->Hp->VK->Prop):Prop:=
 ∀(pins:List (Addr×Obj)) (s:Shared) (σ:St) (H:Hp) (x:V) (xs:List V) (v:Value) (us:List Value) (Q:VK),A4 X pins σ H s->AD x v->Ay xs us->r x xs H Q->
  wpAny (model X.prog X.w) X.A (call (.builtin id) (v::us)) (EP X pins σ Q) X.xe s
section
variable {X:Cx}{a b:Expr}{ta tb:TE}{pos:Pos}
theorem A7 {r:R2}(hr:Cn X r)(ha:PE X a ta)(hb:PE X b tb)(hs:Ur b):PE X (.Subscript a b pos) (IK r ta tb):=by
 intro pins s σ H Q I h
 exact Subscript_ (Mm ha hb I h fun v u s2 x y H2 I2 rx ry q=>hr a b pins s2 σ H2 x y v u Q I2 rx ry q (hs _ _))
def JQ (K:YO):R2:=fun x y H Q=>∃p xs i v,x = .ref p/\y = .int i/\A5 K H p xs/\B8 xs i=some v/\Q v H
def CY (K:YO):R2:=fun x y H Q=>∃p xs i v,x = .ref p/\y = .int i/\A3 K H p xs/\B8 xs i=some v/\Q v H
def RF:R2:=fun x y H Q=>∃z i c,x = .str z/\y = .int i/\z.length<=sizeLine/\B8 z.cps.toList i=some c/\Q (.str ⟨#[c]⟩) H
theorem AH:Cn X (JQ X.K):=by
 intro value slice pins s σ H x y v u Q I rx ry h hs
 obtain⟨p,xs,i,z,rfl,rfl,hq,he,q⟩:=h
 cases rx
 obtain⟨t,rfl⟩:=ry
 obtain⟨its,r,pl,hz⟩:=I.list hq
 obtain⟨j,h1,h2,h3,h4,h5⟩:=Na he
 obtain⟨w,ew,rw'⟩:=r.get h2
 have hl:=r.length
 have hn:=Hc
 have fin:EP X pins σ Q w s:=⟨z,H,I,rw',q⟩
 by_cases h0:0<=i
 .have hj:i.toNat=j:=by
   rw[seqIndex_of h0 h5]at h1
   exact Cg h1
  exact item_listR pl.isList h0 (by lia) (by rw[hj];simpa using ew) fin hs
 .have hj:(i+(its.toArray.size:Int)).toNat=j:=by
   rw[seqIndex_neg (by lia) h4]at h1
   rw[Bi,←hl]
   exact Cg h1
  exact subscriptTail_builtinR (x:=w) pl.isList.typeIs slot_list_getitem.lookup
   (wpAny_getItem_list_neg (Q:=fun r s'=>r=w/\EP X pins σ Q r s') pl.isList (by lia) (by rw[Bi]<;>lia) (by lia) (by rw[hj];simpa using ew) ⟨rfl,fin⟩) hs
theorem Ac:Cn X (CY X.K):=by
 intro value slice pins s σ H x y v u Q I rx ry h hs
 obtain⟨p,xs,i,z,rfl,rfl,hq,he,q⟩:=h
 cases rx
 obtain⟨t,rfl⟩:=ry
 obtain⟨its,r,pl,hz⟩:=I.tuple hq
 obtain⟨j,h1,h2,h3,h4,h5⟩:=Na he
 obtain⟨w,ew,rw'⟩:=r.get h2
 have hl:=r.length
 have hn:=Hc
 have fin:EP X pins σ Q w s:=⟨z,H,I,rw',q⟩
 exact subscriptTail_builtinR (x:=w) pl.typeIs slot_tuple_getitem.lookup
  (getItem_tuple (j:=j) (Q:=fun r s'=>r=w/\EP X pins σ Q r s') pl (by lia) (by lia) (by rw[Bi,←hl];exact h1) (by simpa using ew) ⟨rfl,fin⟩) hs
theorem K7:Cn X RF:=by
 intro value slice pins s σ H x y v u Q I rx ry h hs
 obtain⟨z,i,c,rfl,rfl,hz,he,q⟩:=h
 obtain⟨t,rfl⟩:=rx
 obtain⟨t',rfl⟩:=ry
 obtain⟨j,h1,h2,h3,h4,h5⟩:=Na he
 have hl:z.cps.toList.length=z.length:=by simp[Str.length]
 rw[hl]at h1 h4 h5
 have hn:=Hc
 exact tail_any (typeIs_str s z t) slot_str_getitem.lookup (getItem_str (c:=c) (by
  have e1:decide (i < -(2 ^ 63:Int))=false:=BO (by lia)
  have e2:decide (i≥2 ^ 63)=false:=BO (by lia)
  rw[e1,e2,Bool.or_false]) (by rw[h1];simpa using h2) ⟨.str ⟨#[c]⟩,H,I.tok _,⟨_,rfl⟩,q⟩) hs
theorem Yh (its:List Value)(n j:Nat)(u:Value):Obj.mapSeq (·.setIfInBounds j u) {cls:=.type "list",data:=.seq its.toArray n}={cls:=.type "list",data:=.seq (its.set j u).toArray n}:=by
 simp[Obj.mapSeq]
theorem A4.lst {pins:List (Addr×Obj)}{σ:St}{H:Hp}{s:Shared}{p:Addr}{xs:List V}(I:A4 X pins σ H s)(h:H p=some (.lst xs)) :
  ∃(its:List Value) (n:Nat),Ay xs its/\s.heap.get? p=some {cls:=.type "list",data:=.seq its.toArray n}/\xs.length<=sizeLine:=by
 obtain⟨z,its,n,r,e⟩:=I.hok p _ h
 exact⟨its,n,r,e,z⟩
theorem A4.lstUpd {pins:List (Addr×Obj)}{σ:St}{H:Hp}{s:Shared}{p:Addr}{xs ys:List V}{its its':List Value}{n n':Nat}{f:Obj->Obj}(I:A4 X pins σ H s)(h:H p=some (.lst xs))
  (ho:s.heap.get? p=some {cls:=.type "list",data:=.seq its.toArray n}) (hf:f {cls:=.type "list",data:=.seq its.toArray n}={cls:=.type "list",data:=.seq its'.toArray n'}) (r:Ay ys its') (hz:ys.length<=sizeLine) (t:Nat) :
  A4 X pins σ (upd H p (.lst ys)) {s with heap:=s.heap.update p f,toks:=t}:=by
 have e:(s.heap.update p f).get? p=some {cls:=.type "list",data:=.seq its'.toArray n'}:=by
  rw[Heap.get?_update_self f ho (by rw[hf]<;>rfl),hf]
 refine I.write (x:=p) (e:=p) (by rw[h];trivial) (.inl rfl) (fun b u hb q=>(Jr _ _ (Ne.symm hb)).trans q) ⟨_,e⟩ ?_
 exact⟨hz,its',n',r,e⟩
def SU:V->V->V->Hp->(Hp->Prop)->Prop:=fun o i v H Q=>∃p xs k j,o = .ref p/\i = .int k/\H p=some (.lst xs)/\EO xs.length k=some j/\Q (upd H p (.lst (xs.set j v)))
theorem LR:Oy X SU:=by
 intro pins s σ H o i v ov iv u Q I ro ri rv h
 obtain⟨p,xs,k,j,rfl,rfl,hp,hj,q⟩:=h
 cases ro
 obtain⟨t,rfl⟩:=ri
 obtain⟨its,n,r,ho,hz⟩:=I.lst hp
 obtain⟨h1,h2,h3,h4⟩:=PX hj
 have hl:=r.length
 have hn:=Hc
 have I':A4 X pins σ (upd H p (.lst (xs.set j v))) {s with heap:=s.heap.update p (Obj.mapSeq (·.setIfInBounds j u))}:=
  I.lstUpd hp ho (Yh its n j u) (r.set rv j) (by rw[List.length_set];exact hz) s.toks
 by_cases h0:0<=k
 .have hk:k.toNat=j:=by
   rw[seqIndex_of h0 h4]at h1
   exact Cg h1
  exact PySem.W.ki_setAt ho h0 (by lia) (by rw[Bi,←hl];exact h4) (by rw[hk];exact⟨_,I',q⟩)
 .have hk:(k+(its.toArray.size:Int)).toNat=j:=by
   rw[seqIndex_neg (by lia) h3]at h1
   rw[Bi,←hl]
   exact Cg h1
  exact PySem.W.ki_setBack ho (by lia) (by rw[Bi,←hl];exact h3) (by lia) (by rw[hk];exact⟨_,I',q⟩)
theorem Ui (lo hi:Option Int)(n:Nat):(sliceBounds lo hi none n).1=((HT.sIx n 0 lo:Nat):Int)/\(sliceBounds lo hi none n).2.1=((HT.sIx n n hi:Nat):Int)/\(sliceBounds lo hi none n).2.2=1:=by
 refine⟨?_,?_,rfl⟩
 .cases lo with
  |none=>simp[sliceBounds,HT.sIx]
  |
   some i=>
   simp only[sliceBounds,HT.sIx,Option.getD_none,show(1:Int)>0 by decide,Gb]
   by_cases h:i<0
   .simp only[h,Gb]<;>lia
   .simp only[h,if_false]<;>lia
 .cases hi with
  |none=>simp[sliceBounds,HT.sIx]
  |
   some i=>
   simp only[sliceBounds,HT.sIx,Option.getD_none,show(1:Int)>0 by decide,Gb]
   by_cases h:i<0
   .simp only[h,Gb]<;>lia
   .simp only[h,if_false]<;>lia
theorem YH (its:List Value)(lo hi:Option Int):slicePick its.toArray lo hi none=((its.drop (HT.sIx its.length 0 lo)).take (HT.sIx its.length its.length hi-HT.sIx its.length 0 lo)).toArray:=by
 obtain⟨h1,h2,h3⟩:=Ui lo hi its.toArray.size
 unfold slicePick
 rw[h1,h2,h3]
 simp only[sliceRange_one,pick_run,Bi]<;>rfl
def Rr (K:YO):V->Option Int->Option Int->Hp->VK->Prop:=fun x lo hi H Q=>∃a xs,x = .ref a/\A5 K H a xs/\∀p,H p=none->Q (.ref p) (upd H p (.lst (C2 xs lo hi)))
theorem Fk:Jf X (Rr X.K):=by
 intro pins s σ H x v vl vu lo hi sl Q I rx hs pl pu h
 obtain⟨a,xs,rfl,hx,q⟩:=h
 cases rx
 obtain⟨its,r,ht,hz⟩:=I.list hx
 have hlen:=r.length
 refine⟨"list",_,slot_list_getitem.lookup,ht.isList.typeIs,?_⟩
 refine wpAny_getItem_list_slice ht.isList hs pl pu .none (by simp) ?_ (by rw[Bi]<;>lia)
 rw[YH,←hlen]
 refine⟨.ref s.heap.objs.size,_,I.laid (t':=s.toks) (o:=.lst (C2 xs lo hi)) (fun b ob q=>Bk _ q) (Ap _) ?_,rfl,q _ (I.hok.fresh (Ap _))⟩
 exact⟨E3 (Pa xs lo hi) hz,_,0,(r.drop (HT.sIx xs.length 0 lo)).take (HT.sIx xs.length xs.length hi-HT.sIx xs.length 0 lo),CF _ rfl⟩
def E8:V->Bool
 |.non=>true
 |.bl _=>true
 |.int _=>true
 |.str _=>true
 |_=>false
def Do:V->V->Bool
 |.non,.non=>true
 |.bl a,.bl b=>a==b
 |.bl a,.int b=>(if a then 1 else 0)==b
 |.int a,.bl b=>a==(if b then 1 else 0)
 |.int a,.int b=>a==b
 |.str a,.str b=>a==b
 |_,_=>false
theorem LM {A:Around}{s:Shared}{y x:V}{u v:Value}(ry:AD y u)(rx:AD x v)(fy:E8 y=true)(fx:E8 x=true):SeqAt.EqAt A s u v (Do y x):=by
 cases y with
 |
  non=>
  cases ry
  cases x with
  |non=>cases rx;exact SeqAt.EqAt.same _
  |bl b=>cases rx;exact SeqAt.EqAt.none_bool b
  |int b=>obtain⟨t,rfl⟩:=rx;exact SeqAt.EqAt.none_int b t
  |str b=>obtain⟨t,rfl⟩:=rx;exact SeqAt.EqAt.none_str b t
  |_=>exact absurd (show false=true from fx) Ci
 |
  bl a=>
  cases ry
  cases x with
  |non=>cases rx;exact SeqAt.EqAt.bool_none a
  |bl b=>cases rx;exact SeqAt.EqAt.bool_bool a b
  |int b=>obtain⟨t,rfl⟩:=rx;exact SeqAt.EqAt.bool_int a b t
  |str b=>obtain⟨t,rfl⟩:=rx;exact SeqAt.EqAt.bool_str a b t
  |_=>exact absurd (show false=true from fx) Ci
 |
  int a=>
  obtain⟨t',rfl⟩:=ry
  cases x with
  |non=>cases rx;exact SeqAt.EqAt.int_none a t'
  |bl b=>cases rx;exact SeqAt.EqAt.int_bool a t' b
  |int b=>obtain⟨t,rfl⟩:=rx;exact SeqAt.EqAt.int_int a t' b t
  |str b=>obtain⟨t,rfl⟩:=rx;exact SeqAt.EqAt.int_str a t' b t
  |_=>exact absurd (show false=true from fx) Ci
 |
  str a=>
  obtain⟨t',rfl⟩:=ry
  cases x with
  |non=>cases rx;exact SeqAt.EqAt.str_none a t'
  |bl b=>cases rx;exact SeqAt.EqAt.str_bool a t' b
  |int b=>obtain⟨t,rfl⟩:=rx;exact SeqAt.EqAt.str_int a t' b t
  |str b=>obtain⟨t,rfl⟩:=rx;exact SeqAt.EqAt.str_str a t' b t
  |_=>exact absurd (show false=true from fx) Ci
 |_=>exact absurd (show false=true from fy) Ci
def DC (x:V)(u:Value):Bool:=match u with
 |.none=>Do .non x
 |.bool b=>Do (.bl b) x
 |.int i _=>Do (.int i) x
 |.str z _=>Do (.str z) x
 |_=>false
theorem Qi {x y:V}{u:Value}(r:AD y u)(f:E8 y=true):DC x u=Do y x:=by
 cases y with
 |non=>cases r;rfl
 |bl b=>cases r;rfl
 |int i=>obtain⟨t,rfl⟩:=r;rfl
 |str z=>obtain⟨t,rfl⟩:=r;rfl
 |_=>exact absurd (show false=true from f) Ci
theorem IH {x:V}:∀{xs:List V} {us:List Value},Ay xs us->xs.all E8=true->us.any (DC x)=xs.any fun y=>Do y x
 |_,_,.nil,_=>rfl
 |
  y::xs,u::us,.cons r t,f=>by
  rw[List.all_cons,CU]at f
  rw[Im,Im,Qi r f.1,IH t f.2]
theorem IW {A:Around}{s:Shared}{x:V}{v:Value}(rx:AD x v)(fx:E8 x=true):∀{xs:List V} {us:List Value},Ay xs us->xs.all E8=true->∀u∈us,SeqAt.EqAt A s u v (DC x u)
 |_,_,.nil,_=>fun u hu=>by cases hu
 |
  y::xs,u::us,.cons r t,f=>fun u' hu=>by
  rw[List.all_cons,CU]at f
  rcases Bv.mp hu with rfl|hu
  .rw[Qi r f.1];exact LM r rx f.1 fx
  .exact IW rx fx t f.2 u' hu
def GA (x:V)(xs:List V):Bool:=xs.any fun y=>Do y x
def Mi (K:YO)(neg:Bool):R2:=fun x y H Q=>∃p xs,y = .ref p/\(A5 K H p xs\/A3 K H p xs)/\E8 x=true/\xs.all E8=true/\Q (.bl (if neg then !GA x xs else GA x xs)) H
theorem LS:BF X (compareOp .In) (Mi X.K false):=by
 intro pins s σ H x y v u Q I rx ry h
 obtain⟨p,xs,rfl,hq,fx,fs,q⟩:=h
 cases ry
 rcases hq with hq|hq
 .obtain⟨its,r,pl,hz⟩:=I.list hq
  refine SeqAt.in_listAt (DC x) pl.isList (fun w hw=>IW rx fx r fs w (by simpa using hw)) ⟨.bl _,H,I,rfl,?_⟩
  rw[show its.toArray.any (DC x)=its.any (DC x) by simp,IH r fs]
  exact q
 .obtain⟨its,r,pl,hz⟩:=I.tuple hq
  refine SeqAt.in_tupleAt (DC x) pl (fun w hw=>IW rx fx r fs w (by simpa using hw)) ⟨.bl _,H,I,rfl,?_⟩
  rw[show its.toArray.any (DC x)=its.any (DC x) by simp,IH r fs]
  exact q
theorem UO:BF X (compareOp .NotIn) (Mi X.K true):=by
 intro pins s σ H x y v u Q I rx ry h
 obtain⟨p,xs,rfl,hq,fx,fs,q⟩:=h
 cases ry
 rcases hq with hq|hq
 .obtain⟨its,r,pl,hz⟩:=I.list hq
  refine SeqAt.notIn_listAt (DC x) pl.isList (fun w hw=>IW rx fx r fs w (by simpa using hw)) ⟨.bl _,H,I,rfl,?_⟩
  rw[show its.toArray.any (DC x)=its.any (DC x) by simp,IH r fs]
  exact q
 .obtain⟨its,r,pl,hz⟩:=I.tuple hq
  refine SeqAt.notIn_tupleAt (DC x) pl (fun w hw=>IW rx fx r fs w (by simpa using hw)) ⟨.bl _,H,I,rfl,?_⟩
  rw[show its.toArray.any (DC x)=its.any (DC x) by simp,IH r fs]
  exact q
theorem Bp:EC X (.builtin "len") (fun xs H Q=>∃p ys,xs=[.ref p]/\(A5 X.K H p ys\/A3 X.K H p ys)/\Q (.int ys.length) H):=by
 intro pins s σ H xs us Q I r h
 obtain⟨p,ys,rfl,hq,q⟩:=h
 obtain⟨u,rfl,rx⟩:=FE r
 cases rx
 have hn:=Hc
 rcases hq with hq|hq
 .obtain⟨its,r',pl,hz⟩:=I.list hq
  have hlen:=r'.length
  exact Calls.call_len_list pl.isList (by simp only[Bi]<;>lia) ⟨.int ys.length,H,I.tok _,⟨s.toks+1,by rw[Bi,hlen]⟩,q⟩
 .obtain⟨its,r',pl,hz⟩:=I.tuple hq
  have hlen:=r'.length
  exact len_tuple pl (by simp only[Bi]<;>lia) ⟨.int ys.length,H,I.tok _,⟨s.toks+1,by rw[Bi,hlen]⟩,q⟩
theorem YF:EC X (.builtin "len") (fun xs H Q=>∃z,xs=[.str z]/\z.length<=sizeLine/\Q (.int z.length) H):=by
 intro pins s σ H xs us Q I r h
 obtain⟨z,rfl,hz,q⟩:=h
 obtain⟨u,rfl,t,rfl⟩:=FE r
 have hn:=Hc
 exact len_str (by lia) ⟨.int z.length,H,I.tok _,⟨_,rfl⟩,q⟩
theorem O6:EC X (.type "list") (fun xs H Q=>∃p ys,xs=[.ref p]/\(A5 X.K H p ys\/A3 X.K H p ys)/\∀l,H l=none->Q (.ref l) (upd H l (.lst ys))):=by
 intro pins s σ H xs us Q I r h
 obtain⟨p,ys,rfl,hq,q⟩:=h
 obtain⟨u,rfl,rx⟩:=FE r
 cases rx
 have fin:∀(its:List Value),Ay ys its->ys.length<=sizeLine->∀(h':Heap) (c':Nat),(∀b o',s.heap.get? b=some o'->h'.get? b=some o')->
   h'.get? s.heap.objs.size=some {cls:=.type "list",dict:=none,data:=.seq its.toArray c',slots := #[]}->EP X pins σ Q (.ref s.heap.objs.size) {s with heap:=h'}:=fun its r' hz h' c' kp e=>
  ⟨.ref s.heap.objs.size,_,I.laid (t':=s.toks) kp (Ap _) (show BL X.prog X.w _ h' _ (.lst ys) from⟨hz,its,c',r',e⟩),rfl,q _ (I.hok.fresh (Ap _))⟩
 rcases hq with hq|hq
 .obtain⟨its,r',pl,hz⟩:=I.list hq
  have hlen:=r'.length
  obtain⟨o,ho,hc,n,hd⟩:=pl.isList
  exact call_list_seq p (.inl rfl) ho hc hd (fun h' c' kp e=>fin its r' hz h' c' kp e) (by simp only[Bi]<;>lia)
 .obtain⟨its,r',pl,hz⟩:=I.tuple hq
  have hlen:=r'.length
  obtain⟨o,ho,hc,n,hd⟩:=pl
  exact call_list_seq p (.inr rfl) ho hc hd (fun h' c' kp e=>fin its r' hz h' c' kp e) (by simp only[Bi]<;>lia)
theorem GH:EC X (.type "tuple") (fun xs H Q=>∃p ys,xs=[.ref p]/\((A5 X.K H p ys/\∀l,H l=none->Q (.ref l) (upd H l (.tup ys)))\/(A3 X.K H p ys/\Q (.ref p) H))):=by
 intro pins s σ H xs us Q I r h
 obtain⟨p,ys,rfl,h⟩:=h
 obtain⟨u,rfl,rx⟩:=FE r
 cases rx
 rcases h with⟨hq,q⟩|⟨hq,q⟩
 .obtain⟨its,r',pl,hz⟩:=I.list hq
  have hlen:=r'.length
  refine call_tuple_list pl.isList (fun h' kp=>?_) (by simp only[Bi]<;>lia)
  have I1:A4 X pins σ H {s with heap:=h'}:=I.kept (t':=s.toks) kp
  have I2:A4 X pins σ (upd H h'.objs.size (.tup ys)) {s with heap:=h'.push {cls:=.type "tuple",data:=.seq its.toArray}}:=
   I1.laid (t':=s.toks) (fun b o e=>Bk _ e) (Ap _) (show BL X.prog X.w _ _ _ (.tup ys) from⟨hz,its,r',F7.new _ _⟩)
  exact⟨.ref h'.objs.size,_,I2,rfl,q _ (I1.hok.fresh (Ap _))⟩
 .obtain⟨its,r',pl,hz⟩:=I.tuple hq
  exact call_tuple_same pl ⟨.ref p,H,I,rfl,q⟩
def Nf (K:YO)(T:String)(x:V)(H:Hp):Prop:=match x with
 |.str _=>T="str"
 |.int _=>T="int"
 |.ref p=>(T="list"/\∃xs,A5 K H p xs)\/(T="tuple"/\∃o,K.lookup p=some o/\o.cls = .type "tuple"/\o.dict=none)\/
  (T="dict"/\((∃kvs,H p=some (.dK kvs))\/∃kvs,H p=some (.dT kvs)))\/(T="set"/\∃S n,H p=some (.set S n))
 |_=>False
theorem Qe {pins:List (Addr×Obj)}{σ:St}{H:Hp}{s:Shared}{T:String}{x:V}{v:Value}(I:A4 X pins σ H s)(r:AD x v)(ty:Nf X.K T x H) :
  s.TypeIs v T/\∀a,v = .ref a->∃ob,s.heap.get? a=some ob/\ob.dict=none:=by
 cases x with
 |
  str z=>
  obtain⟨t,rfl⟩:=r
  cases (show T="str" from ty)
  exact⟨typeIs_str s z t,fun _ e=>nomatch e⟩
 |
  int i=>
  obtain⟨t,rfl⟩:=r
  cases (show T="int" from ty)
  exact⟨typeIs_int s i t,fun _ e=>nomatch e⟩
 |
  ref p=>
  cases r
  rcases ty with⟨rfl,xs,hq⟩|⟨rfl,o,hk,hc,hd⟩|⟨rfl,hk⟩|⟨rfl,S,n,hk⟩
  .obtain⟨its,_,pl,_⟩:=I.list hq
   refine⟨pl.isList.typeIs,fun a e=>?_⟩
   cases e
   obtain⟨o,n,e,c,hd,_⟩:=pl
   exact⟨o,e,hd⟩
  .refine⟨⟨o,I.kIn p o hk,hc⟩,fun a e=>?_⟩
   cases e
   exact⟨o,I.kIn _ o hk,hd⟩
  .have z:∃o,s.heap.get? p=some o/\o.ExactDict:=by
    rcases hk with⟨kvs,hk⟩|⟨kvs,hk⟩
    .obtain⟨_,_,_,_,o,_,_,e,ex,_⟩:=I.hok p _ hk
     exact⟨o,e,ex⟩
    .obtain⟨_,_,_,_,o,_,_,e,ex,_⟩:=I.hok p _ hk
     exact⟨o,e,ex⟩
   obtain⟨o,e,ex⟩:=z
   refine⟨⟨o,e,ex.1⟩,fun a e2=>?_⟩
   cases e2
   exact⟨o,e,ex.2.1⟩
  .obtain⟨o,_,_,_,e,ex,_⟩:=I.hok p _ hk
   refine⟨⟨o,e,ex.1⟩,fun a e2=>?_⟩
   cases e2
   exact⟨o,e,ex.2.1⟩
 |_=>exact False.elim ty
def XE (K:YO)(T:String)(r:V->List V->Hp->VK->Prop)(to:TE):TE:=fun σ H Q=>to σ H fun x H1=>Nf K T x H1/\r x [] H1 Q
def RC (K:YO)(T:String)(r:V->List V->Hp->VK->Prop)(to:TE)(t:TA):TE:=fun σ H Q=>to σ H fun x H1=>Nf K T x H1/\t σ H1 fun xs H2=>r x xs H2 Q
variable {o e:Expr}{es:List Expr}{to:TE}{t:TA}{name:Str}{apos cpos:Pos}{T id:String}{r:V->List V->Hp->VK->Prop}
theorem P7 (pa:PlainAttrs T)(slot:Slot T name id)(hty:typeOf (.builtin id)=pure (.type "method_descriptor"))(hm:Mw X id r)(ho:PE X o to)
  (hbase:attributeBase o name X.env (eval o X.env)=eval o X.env:=by rfl) (hline:(apos.endLine==cpos.line)=true:=by rfl):PE X (.Call (.Attribute o name apos) [] [] cpos) (XE X.K T r to):=by
 intro pins s σ H Q I h
 refine wpAny_Call_method0_late hbase hline (Au (ho pins s σ H _ I h) fun v s1 zz=>?_)
 obtain⟨x,H1,I1,r1,ty,q1⟩:=zz
 obtain⟨h1,h2⟩:=Qe I1 r1 ty
 exact⟨T,id,pa,slot,hty,h1,h2,Calls.callWith_builtin rfl (PySem.evalArgs_none (hm pins s1 σ H1 x [] v [] Q I1 r1 .nil q1))⟩
theorem BR (pa:PlainAttrs T)(slot:Slot T name id)(hty:typeOf (.builtin id)=pure (.type "method_descriptor"))(hm:Mw X id r)(ho:PE X o to)(ha:PA X (e::es) t)
  (hbase:attributeBase o name X.env (eval o X.env)=eval o X.env:=by rfl)
  (hfew:((backTo cpos (starEach (e::es) X.env)).all (fun x=>!x.1)&&(backToKw cpos (keywordEach [] X.env)).all (fun x=>x.1.isSome)
   && decide ((e::es).length+([]:List Keyword).length+(if([]:List Keyword).isEmpty then 0 else 1)<30))=true:=by rfl)
  (hline:(apos.endLine==cpos.line)=true:=by rfl) (hs:starEach (e::es) X.env=(false,eval e X.env)::starEach es X.env:=by rfl) (hplain:(backTo cpos (starEach es X.env)).any (·.1)=false:=by rfl) :
  PE X (.Call (.Attribute o name apos) (e::es) [] cpos) (RC X.K T r to t):=by
 intro pins s σ H Q I h
 refine wpAny_Call_method_late hbase hfew hline rfl (Au (ho pins s σ H _ I h) fun v s1 zz=>?_)
 obtain⟨x,H1,I1,r1,ty,q1⟩:=zz
 obtain⟨h1,h2⟩:=Qe I1 r1 ty
 refine⟨T,id,pa,slot,hty,h1,h2,?_⟩
 have hA:=ha cpos pins s1 σ H1 _ I1 q1
 rw[hs]at hA ⊢
 refine Calls.callWith_builtin (by show(false||(backTo cpos (starEach es X.env)).any (·.1))=false;rw[hplain]<;>rfl) (Calls.evalArgs_plain ?_)
 refine Au hA fun us s2 zz=>?_
 obtain⟨vs,H2,I2,r2,q2⟩:=zz
 exact hm pins s2 σ H2 x vs v us Q I2 r1 r2 q2
end
def Hd (X:Cx)(id:String)(r:V->List V->Hp->VK->Prop):Prop:=
 ∀(pins:List (Addr×Obj)) (s:Shared) (σ:St) (H:Hp) (x:V) (xs:List V) (v:Value) (us:List Value) (Q:VK),A4 X pins σ H s->AD x v->Ay xs us->r x xs H Q->
  wpAny (model X.prog X.w) X.A (call (.builtin id) (v::us)) (EP X pins σ Q) X.xe s
theorem Ay.one:∀{x:V} {us:List Value},Ay [x] us->∃u,us=[u]/\AD x u:=by
 intro x us h
 cases h with
 |
  cons r q=>
  cases q
  exact⟨_,rfl,r⟩
theorem Ay.two:∀{x y:V} {us:List Value},Ay [x,y] us->∃u v,us=[u,v]/\AD x u/\AD y v:=by
 intro x y us h
 cases h with
 |
  cons r q=>
  obtain⟨v,rfl,z⟩:=Ay.one q
  exact⟨_,_,rfl,r,z⟩
theorem Ay.zero:∀{us:List Value},Ay [] us->us=[]
 |_,.nil=>rfl
theorem Ay.dropLast {xs:List V}{us:List Value}(h:Ay xs us):Ay xs.dropLast us.dropLast:=by
 induction h with
 |nil=>exact .nil
 |
  cons r t ih=>
  cases t with
  |nil=>exact .nil
  |cons q t'=>exact .cons r ih
theorem Ay.rep {xs:List V}{us:List Value}(h:Ay xs us):∀k:Nat,Ay (List.replicate k xs).flatten (List.replicate k us).flatten
 |0=>.nil
 |
  k+1=>by
  rw[Lu,Lu,Lv,Lv]
  exact Ay.append h (Ay.rep h k)
theorem QQ {α:Type}(l:List α):l.eraseIdx (l.length-1)=l.dropLast:=by
 induction l with
 |nil=>rfl
 |
  cons a r ih=>
  cases r with
  |nil=>rfl
  |
   cons b r=>
   have e:(a::b::r).length-1=((b::r).length-1)+1:=by
    have h1:(a::b::r).length=r.length+2:=rfl
    have h2:(b::r).length=r.length+1:=rfl
    lia
   rw[e,List.eraseIdx_cons_succ,ih]
   all_goals rfl
theorem Os (its:List Value):∀(k:Nat) (acc:List Value),
  List.foldl (fun x1 x2=>x1++x2) acc.toArray (List.replicate k its.toArray)=(acc++(List.replicate k its).flatten).toArray
 |0,acc=>by simp
 |
  k+1,acc=>by
  have e:acc.toArray++its.toArray=(acc++its).toArray:=by simp
  have e2:(acc++its)++(List.replicate k its).flatten=acc++(List.replicate (k+1) its).flatten:=by
   rw[Lu,Lv,DR]
  rw[←e2,←Os its k (acc++its),←e,Lu,List.foldl_cons]
section
variable {X:Cx}{pins:List (Addr×Obj)}{σ:St}{H:Hp}{s:Shared}{l b:Addr}{xs ys zs:List V}
theorem A4.lset {its its':List Value}{n:Nat}{f:Array Value->Array Value}{t':Nat}(I:A4 X pins σ H s)(hH:H l=some (.lst xs))
  (e:s.heap.get? l=some {cls:=.type "list",data:=.seq its.toArray n}) (hf:f its.toArray=its'.toArray) (hv:Ay ys its') (hz:ys.length<=sizeLine) :
  A4 X pins σ (upd H l (.lst ys)) {s with heap:=s.heap.update l (Obj.mapSeq f),toks:=t'}:=by
 have q:=Qu e f
 rw[hf]at q
 refine I.write (x:=l) (e:=l) (by rw[hH];exact trivial) (.inl rfl) (fun b' u hb hu=>(Jr s.heap (Obj.mapSeq f) (Ne.symm hb)).trans hu) ⟨_,q⟩ ?_
 exact⟨hz,its',_,hv,q⟩
theorem A4.lnew {its:List Value}{t':Nat}(I:A4 X pins σ H s)(hv:Ay ys its)(hz:ys.length<=sizeLine) :
  A4 X pins σ (upd H s.heap.objs.size (.lst ys)) {s with heap:=s.heap.push {cls:=.type "list",data:=.seq its.toArray},toks:=t'}:=
 I.laid (fun _ _ q=>Bk _ q) (Ap _) ⟨hz,its,0,hv,CF _ rfl⟩
theorem A4.fresh (I:A4 X pins σ H s):H s.heap.objs.size=none:=I.hok.fresh (Ap _)
theorem A4.lstM (I:A4 X pins σ H s)(hH:H l=some (.lst xs)):xs.length<=sizeLine/\∃(its:List Value) (n:Nat),Ay xs its/\xs.length=its.length/\s.heap.get? l=some {cls:=.type "list",data:=.seq its.toArray n}:=by
 obtain⟨z,its,n,r,e⟩:=I.hok l _ hH
 exact⟨z,its,n,r,r.length,e⟩
theorem Px {n:Nat}(h:n<=sizeLine):Builtin.List.listTooLong n=false:=by
 unfold Builtin.List.listTooLong
 exact BO (by lia)
end
section
variable {X:Cx}
def T6:V->List V->Hp->VK->Prop:=fun x vs H Q=>∃l xs y,x = .ref l/\vs=[y]/\H l=some (.lst xs)/\xs.length<sizeLine/\Q .non (upd H l (.lst (xs++[y])))
theorem Ca:Hd X "list.append" T6:=by
 intro pins s σ H x vs v us Q I rx rv h
 obtain⟨l,xs,y,rfl,rfl,hH,hz,q⟩:=h
 cases rx
 obtain⟨u,rfl,ru⟩:=rv.one
 obtain⟨z,its,n,r,hl,e⟩:=I.lstM hH
 refine Gc F.slot_list_append ⟨_,e,rfl⟩ F.entry_list_append (F.args_list_append_2 _ _) (Qv l its.toArray n u (by rw[Bi];lia)) ⟨e,?_⟩
 refine⟨.non,_,I.lset (its':=its++[u]) hH e (by simp) (r.append (.cons ru .nil)) ?_,rfl,q⟩
 rw[Az,BI]
 lia
def W1:V->List V->Hp->VK->Prop:=fun x vs H Q=>∃l b xs zs,x = .ref l/\vs=[.ref b]/\H l=some (.lst xs)/\H b=some (.lst zs)/\xs.length+zs.length<=sizeLine/\Q .non (upd H l (.lst (xs++zs)))
theorem OR:Hd X "list.extend" W1:=by
 intro pins s σ H x vs v us Q I rx rv h
 obtain⟨l,b,xs,zs,rfl,rfl,hH,hB,hz,q⟩:=h
 cases rx
 obtain⟨u,rfl,ru⟩:=rv.one
 cases ru
 obtain⟨z,its,n,r,hl,e⟩:=I.lstM hH
 obtain⟨z2,its2,n2,r2,hl2,e2⟩:=I.lstM hB
 have hsz:its.toArray.size+its2.toArray.size<=sizeLine:=by rw[Bi,Bi];lia
 have hlong:¬(!its.toArray.isEmpty&&Builtin.List.listTooLong (its.toArray.size+its2.toArray.size))=true:=by
  rw[Px hsz,Lw]
  exact Ci
 refine Gc F.slot_list_extend ⟨_,e,rfl⟩ F.entry_list_extend (F.args_list_extend_2 _ _)
  (AutoSeq1.list_extend_list_list_0 l its.toArray n b its2.toArray n2 hlong (by rw[Bi];lia) (by lia)) ⟨e,e2,?_⟩
 refine⟨.non,_,I.lset (its':=its++its2) hH e (by simp) (r.append r2) ?_,rfl,q⟩
 rw[Az]
 lia
def Vx:V->List V->Hp->VK->Prop:=fun x vs H Q=>∃l xs y,x = .ref l/\vs=[]/\H l=some (.lst xs)/\xs[xs.length-1]?=some y/\Q y (upd H l (.lst xs.dropLast))
theorem UE:Hd X "list.pop" Vx:=by
 intro pins s σ H x vs v us Q I rx rv h
 obtain⟨l,xs,y,rfl,rfl,hH,hy,q⟩:=h
 cases rx
 have hus:=rv.zero
 subst hus
 obtain⟨z,its,n,r,hl,e⟩:=I.lstM hH
 obtain⟨u,hu,ru⟩:=r.get hy
 have hy':its.toArray[its.toArray.size-1]?=some u:=by
  show its.toArray[its.length-1]?=some u
  rw[←Array.getElem?_toList,←hl]
  exact hu
 refine Gc F.slot_list_pop ⟨_,e,rfl⟩ F.entry_list_pop (F.args_list_pop_1 _) (MeetsSeq.list_pop_last l its.toArray n u hy' (by rw[Bi];lia)) ⟨e,?_⟩
 refine⟨y,_,I.lset (its':=its.dropLast) hH e ?_ r.dropLast ?_,ru,q⟩
 .show its.toArray.eraseIdxIfInBounds (its.toArray.size-1)=its.dropLast.toArray
  rw[Bi,List.eraseIdxIfInBounds_toArray,QQ]
 .rw[List.length_dropLast]
  lia
def Xk:V->List V->Hp->VK->Prop:=fun x vs H Q=>∃l xs,x = .ref l/\vs=[]/\H l=some (.lst xs)/\Q .non (upd H l (.lst []))
theorem Vg:Hd X "list.clear" Xk:=by
 intro pins s σ H x vs v us Q I rx rv h
 obtain⟨l,xs,rfl,rfl,hH,q⟩:=h
 cases rx
 have hus:=rv.zero
 subst hus
 obtain⟨z,its,n,r,hl,e⟩:=I.lstM hH
 refine Gc F.slot_list_clear ⟨_,e,rfl⟩ F.entry_list_clear (F.args_list_clear_1 _) (AutoSeq1.list_clear_list_0 l its.toArray n (by rw[Bi];lia)) ⟨e,?_⟩
 exact⟨.non,_,I.lset (its':=[]) (ys:=[]) hH e rfl .nil (BN _),rfl,q⟩
def Rn:R2:=fun x y H Q=>∃l b xs zs,x = .ref l/\y = .ref b/\H l=some (.lst xs)/\H b=some (.lst zs)/\xs.length+zs.length<=sizeLine/\∀p,H p=none->Q (.ref p) (upd H p (.lst (xs++zs)))
theorem Dl:BF X (binaryOp .Add) Rn:=by
 intro pins s σ H x y v u Q I rx ry h
 obtain⟨l,b,xs,zs,rfl,rfl,hH,hB,hz,q⟩:=h
 cases rx
 cases ry
 obtain⟨z,its,n,r,hl,e⟩:=I.lstM hH
 obtain⟨z2,its2,n2,r2,hl2,e2⟩:=I.lstM hB
 refine PySem.P.add_list e e2 ?_ (by rw[Bi,Bi];lia)
 have ea:its.toArray++its2.toArray=(its++its2).toArray:=by simp
 rw[ea]
 exact⟨.ref _,_,I.lnew (t':=s.toks) (r.append r2) (by rw[Az];lia),rfl,q _ I.fresh⟩
def Uz:R2:=fun x y H Q=>∃l k xs,x = .ref l/\y = .int k/\H l=some (.lst xs)/\-(2 ^ 63)<=k/\k<2 ^ 63/\xs.length*k.toNat<=sizeLine/\
 ∀p,H p=none->Q (.ref p) (upd H p (.lst (List.replicate k.toNat xs).flatten))
theorem VT {α:Type}(xs:List α)(k:Nat):(List.replicate k xs).flatten.length=k*xs.length:=by
 induction k with
 |zero=>simp
 |succ k ih=>rw[Lu,Lv,Az,ih,Nat.succ_mul,Js]
theorem Oo:BF X (binaryOp .Mult) Uz:=by
 intro pins s σ H x y v u Q I rx ry h
 obtain⟨l,k,xs,rfl,rfl,hH,h1,h2,hz,q⟩:=h
 cases rx
 obtain⟨t,rfl⟩:=ry
 obtain⟨z,its,n,r,hl,e⟩:=I.lstM hH
 have hlen:its.toArray.size*k.toNat<=sizeLine:=by rw[Bi,←hl];exact hz
 have hcap:¬its.toArray.size*k.toNat>(2 ^ 63-1)/8:=by
  have:(sizeLine:Nat)<=(2 ^ 63-1)/8:=by decide
  lia
 have hfit:¬(!Builtin.List.listFitsIndex k)=true:=by
  rw[fitsIndex_both h1 h2]
  exact Ci
 have hlong:¬Builtin.List.listTooLong (its.toArray.size*k.toNat)=true:=by
  rw[Px hlen]
  exact Ci
 have hnew:List.foldl (fun x1 x2=>x1++x2) #[] (List.replicate (if its.toArray.isEmpty=true then 0 else k.toNat) its.toArray)=(List.replicate k.toNat its).flatten.toArray:=by
  have f0:∀m:Nat,List.foldl (fun x1 x2=>x1++x2) #[] (List.replicate m its.toArray)=(List.replicate m its).flatten.toArray:=fun m=>by
   have:=Os its m []
   rw[List.nil_append]at this
   exact this
  rw[f0]
  cases its with
  |nil=>simp
  |cons a r'=>rw[As (by simp)]
 refine wpAny_binaryOp_repeat_ref (T:="list") (U:="int") (by decide) ⟨_,e,rfl⟩ (fun s'=>typeIs_int s' k t) noFill_list_mul F.fills_int_mul F.slot_int_rmul repeat_list F.slot_int_index.lookup
  (Gc F.slot_int_rmul (typeIs_int s k t) F.entry_int_rmul (F.args_int_rmul_2 _ _) (int___rmul___int_list k t l its.toArray n)
   ⟨e,rfl,⟨_,e,rfl⟩,Gc F.slot_list_mul ⟨_,e,rfl⟩ F.entry_list_mul (F.args_list_mul_2 _ _) (AutoListH.list___mul___list_int_3 l its.toArray n k t hfit hcap hlong) ⟨e,?_⟩⟩)
 rw[hnew]
 exact⟨.ref _,_,I.lnew (t':=s.toks) (r.rep k.toNat) (by rw[VT,Nat.mul_comm];exact hz),rfl,q _ I.fresh⟩
end
section
variable {prog:Program}{w:World}{A:Around}{E:Value->Shared->Prop}{s:Shared}
set_option maxRecDepth 100000 in
end
section
variable {X:Cx}
end
section
variable {κ:Type}[DecidableEq κ]
def Ck (kvs:List (κ×V))(k:κ):Option V:=(kvs.find? fun kv=>decide (kv.1=k)).map (·.2)
def DG (kvs:List (κ×V))(k:κ)(v:V):List (κ×V):=
 if(kvs.any fun kv=>decide (kv.1=k))=true then kvs.map (fun kv=>if kv.1=k then(kv.1,v) else kv) else kvs++[(k,v)]
theorem EW {p:κ×V}{r:List (κ×V)}{k:κ}(e:p.1=k):Ck (p::r) k=some p.2:=by simp[Ck,Jt,e]
theorem ER {p:κ×V}{r:List (κ×V)}{k:κ}(e:¬p.1=k):Ck (p::r) k=Ck r k:=by simp[Ck,Jt,e]
theorem KE (k:κ):∀kvs:List (κ×V),(kvs.any fun kv=>decide (kv.1=k))=(Ck kvs k).isSome
 |[]=>rfl
 |
  p::r=>by
  rw[Im]
  by_cases e:p.1=k
  .simp only[EW e,B6 e,Bool.true_or,Option.isSome_some]
  .rw[ER e,BO e,Bool.false_or];exact KE k r
theorem Pf (k j:κ)(y:V):∀kvs:List (κ×V),Ck (kvs.map fun kv=>if kv.1=k then(kv.1,y) else kv) j=(Ck kvs j).map fun x=>if j=k then y else x
 |[]=>rfl
 |
  p::r=>by
  have ih:=Pf k j y r
  rw[Bz]
  by_cases h:p.1=k
  .rw[Ax h]
   by_cases e:p.1=j
   .rw[EW (p:=(p.1,y)) e,EW e,Lx,Ax (e.symm.trans h)]
   .rw[ER (p:=(p.1,y)) e,ER e,ih]
  .rw[As h]
   by_cases e:p.1=j
   .rw[EW (p:=p) e,EW e,Lx,As (fun z=>h (e.trans z))]
   .rw[ER (p:=p) e,ER e,ih]
theorem Q3 (k j:κ)(y:V):∀kvs:List (κ×V),Ck kvs k=none->Ck (kvs++[(k,y)]) j=if j=k then some y else Ck kvs j
 |
  [],_=>by
  by_cases e:k=j
  .rw[Ax e.symm];exact EW (p:=(k,y)) e
  .rw[As (fun z=>e z.symm)];exact ER (p:=(k,y)) e
 |
  p::r,hn=>by
  rw[List.cons_append]
  have hk:¬p.1=k:=fun z=>by rw[EW z]at hn;cases hn
  rw[ER hk]at hn
  have ih:=Q3 k j y r hn
  by_cases e:p.1=j
  .rw[EW e,EW e,As (fun z=>hk (e.trans z))]
  .rw[ER e,ER e,ih]
theorem Qf (kvs:List (κ×V))(k j:κ)(y:V):Ck (DG kvs k y) j=if j=k then some y else Ck kvs j:=by
 unfold DG
 by_cases a:(kvs.any fun kv=>decide (kv.1=k))=true
 .rw[Ax a,Pf]
  rw[KE]at a
  by_cases e:j=k
  .obtain⟨x,hx⟩:=Option.isSome_iff_exists.mp a
   rw[Ax e,e,hx,Lx,Ax rfl]
  .rw[As e]
   cases Ck kvs j with
   |none=>rfl
   |some x=>rw[Lx,As e]
 .rw[As a]
  refine Q3 k j y kvs ?_
  rw[KE]at a
  cases q:Ck kvs k with
  |none=>rfl
  |some x=>rw[q]at a;exact(a rfl).elim
theorem NF (kvs:List (κ×V))(k:κ)(v:V):(DG kvs k v).length<=kvs.length+1:=by
 unfold DG
 split
 .rw[Aq];lia
 .rw[Az,C9,List.length_nil];lia
theorem Dk.isSome_eq {o:Option V}{u:Option Value}(r:Dk o u):o.isSome=u.isSome:=by
 cases o with
 |
  none=>cases u with
  |none=>rfl
  |some _=>exact(show False from r).elim
 |
  some _=>cases u with
  |none=>exact(show False from r).elim
  |some _=>rfl
theorem KV.val {kvs:List (κ×V)}{vs:List (κ×Value)}(r:KV kvs vs)(k:κ):Dk (Ck kvs k) (valueAt vs k):=by
 unfold KV at r
 induction r with
 |nil=>exact True.intro
 |
  @cons p q ps qs h t ih=>
  obtain⟨h1,h2⟩:=h
  by_cases e:p.1=k
  .have e':q.1=k:=h1.symm.trans e
   have b:valueAt (q::qs) k=some q.2:=by simp[valueAt,Jt,e']
   rw[EW e,b];exact h2
  .have e':¬q.1=k:=fun z=>e (h1.trans z)
   have b:valueAt (q::qs) k=valueAt qs k:=by simp[valueAt,Jt,e']
   rw[ER e,b];exact ih
theorem KV.any {kvs:List (κ×V)}{vs:List (κ×Value)}(r:KV kvs vs)(k:κ):(kvs.any fun kv=>decide (kv.1=k))=vs.any fun kv=>decide (kv.1=k):=by
 unfold KV at r
 induction r with
 |nil=>rfl
 |cons h t ih=>rw[Im,Im,ih,h.1]
theorem KV.repl {kvs:List (κ×V)}{vs:List (κ×Value)}(r:KV kvs vs)(k:κ){y:V}{u:Value}(ry:AD y u) :
  KV (kvs.map fun kv=>if kv.1=k then(kv.1,y) else kv) (vs.map fun kv=>if kv.1=k then(kv.1,u) else kv):=by
 unfold KV at r ⊢
 induction r with
 |nil=>exact .nil
 |
  @cons p q ps qs h t ih=>
  rw[Bz,Bz]
  refine .cons ?_ ih
  obtain⟨h1,h2⟩:=h
  by_cases e:p.1=k
  .rw[Ax e,Ax (h1.symm.trans e)];exact⟨h1,ry⟩
  .rw[As e,As (fun z=>e (h1.trans z))];exact⟨h1,h2⟩
theorem KV.put {kvs:List (κ×V)}{vs:List (κ×Value)}(r:KV kvs vs)(k:κ){y:V}{u:Value}(ry:AD y u):KV (DG kvs k y) (stored vs k u):=by
 unfold DG stored
 rw[r.any k]
 by_cases e:(vs.any fun kv=>decide (kv.1=k))=true
 .rw[Ax e,Ax e];exact r.repl k ry
 .rw[As e,As e];exact Paired.snoc r ⟨rfl,ry⟩
theorem KV.length {kvs:List (κ×V)}{vs:List (κ×Value)}(r:KV kvs vs):kvs.length=vs.length:=Paired.length r
end
theorem LQ {P:Program}{w:World}{k:AU}{u:Value}(r:AD (kV k) u):(Ej P w).is k u=true:=by
 cases k with
 |inl i=>obtain⟨t,e⟩:=(show ∃t,u=Value.int i t from r);subst e;exact Sl P w i t
 |inr x=>obtain⟨t,e⟩:=(show ∃t,u=Value.str x t from r);subst e;exact X4 P w x t
theorem O7 {P:Program}{w:World}:∀{ks:List AU} {us:List Value},Ay (ks.map kV) us->ItemsAre (Ej P w) ks us
 |[],_,r=>by rw[Io]at r;cases r;exact .nil
 |
  k::ks,_,r=>by
  rw[Bz]at r
  cases r with
  |cons h t=>exact .cons (LQ h) (O7 t)
abbrev KT (H:Hp):List (List AU×V)->List (List AU×Addr×Value)->Prop:=Paired fun p q=>p.1=q.1/\H q.2.1=some (.tup (p.1.map kV))/\AD p.2 q.2.2
theorem KT.val {H:Hp}{kvs:List (List AU×V)}{xs:List (List AU×Addr×Value)}(r:KT H kvs xs)(k:List AU):Dk (Ck kvs k) ((atKey xs k).map (·.2)):=by
 induction r with
 |nil=>exact True.intro
 |
  @cons p q ps qs h t ih=>
  obtain⟨h1,_,h2⟩:=h
  by_cases e:p.1=k
  .have e':q.1=k:=h1.symm.trans e
   have b:atKey (q::qs) k=some q.2:=by simp[atKey,Jt,e']
   rw[EW e,b];exact h2
  .have e':¬q.1=k:=fun z=>e (h1.trans z)
   have b:atKey (q::qs) k=atKey qs k:=by simp[atKey,Jt,e']
   rw[ER e,b];exact ih
theorem KT.repl {H:Hp}{kvs:List (List AU×V)}{xs:List (List AU×Addr×Value)}(r:KT H kvs xs)(k:List AU){y:V}{u:Value}(ry:AD y u) :
  KT H (kvs.map fun kv=>if kv.1=k then(kv.1,y) else kv) (xs.map (putAt k u)):=by
 induction r with
 |nil=>exact .nil
 |
  @cons p q ps qs h t ih=>
  rw[Bz,Bz]
  refine .cons ?_ ih
  obtain⟨h1,h2,h3⟩:=h
  unfold putAt
  by_cases e:p.1=k
  .rw[Ax e,Ax (h1.symm.trans e)];exact⟨h1,h2,ry⟩
  .rw[As e,As (fun z=>e (h1.trans z))];exact⟨h1,h2,h3⟩
theorem KT.put {H:Hp}{kvs:List (List AU×V)}{xs:List (List AU×Addr×Value)}(r:KT H kvs xs)(k:List AU){b:Addr}{y:V}{u:Value}(hb:H b=some (.tup (k.map kV)))(ry:AD y u) :
  KT H (DG kvs k y) (storedH xs k b u):=by
 have e:(kvs.any fun kv=>decide (kv.1=k))=(atKey xs k).isSome:=by
  rw[KE,(r.val k).isSome_eq,Option.isSome_map]
 unfold DG storedH
 rw[e]
 by_cases q:(atKey xs k).isSome=true
 .rw[Ax q,Ax q];exact r.repl k ry
 .rw[As q,As q];exact Paired.snoc r ⟨rfl,hb,ry⟩
theorem KT.keeps {H H':Hp}{kvs:List (List AU×V)}{xs:List (List AU×Addr×Value)}(r:KT H kvs xs)(ht:∀b ys,H b=some (.tup ys)->H' b=some (.tup ys)):KT H' kvs xs:=
 Paired.mapP r fun _ _ z=>⟨z.1,ht _ _ z.2.1,z.2.2⟩
section
variable {P:Program}{w:World}{H:Hp}{h:Heap}{a:Addr}
theorem O5 {u:HO}(ok:BC P w H h)(e:Rd H a u):BL P w H h a u:=e.ok ok
theorem MQ {kvs:List (AU×V)}(ok:BC P w H h)(e:Rd H a (.dK kvs)):kvs.length<=sizeLine/\(a==sysModules)=false/\∃vs,KV kvs vs/\h.DictOf (Ej P w) a vs:=
 show BL P w H h a (.dK kvs) from O5 ok e
theorem XS {kvs:List (AU×V)}(ok:BC P w H h)(e:H a=some (.dK kvs)):kvs.length<=sizeLine/\(a==sysModules)=false/\∃vs,KV kvs vs/\h.DictOf (Ej P w) a vs:=MQ ok (.inl e)
theorem N1 {ks:List AU}(ok:BC P w H h)(e:H a=some (.tup (ks.map kV))):(tupleKind (Ej P w)).is h ks a:=by
 obtain⟨_,its,r,o,h1,h2,⟨n,h3⟩,_⟩:=(show BL P w H h a (.tup (ks.map kV)) from ok a _ e)
 exact⟨o,its.toArray,n,h1,h2,h3,by simpa using O7 r⟩
theorem Mr {kvs:List (List AU×V)}(ok:BC P w H h)(e:Rd H a (.dT kvs)):kvs.length<=sizeLine/\(a==sysModules)=false/\
  ∃xs,KT H kvs xs/\h.DictOfH (tupleKind (Ej P w)) a xs:=by
 obtain⟨z,y,xs,r,o,es,ep,h1,h2,h3,h4,h5⟩:=(show BL P w H h a (.dT kvs) from O5 ok e)
 refine⟨z,y,xs,r,o,es,ep,h1,h2,h3,h4,fun x hx=>?_,h5⟩
 have all:∀{l:List (List AU×V)} {m:List (List AU×Addr×Value)},KT H l m->∀x∈m,(tupleKind (Ej P w)).is h x.1 x.2.1:=by
  intro l m q
  induction q with
  |nil=>intro x hx;exact nomatch hx
  |
   @cons p q ps qs hq t ih=>
   intro x hx
   rcases Bv.mp hx with e|hx
   .subst e
    exact N1 ok (by rw[←hq.1];exact hq.2.1)
   .exact ih x hx
 exact all r x hx
theorem S8 {kvs:List (List AU×V)}(ok:BC P w H h)(e:H a=some (.dT kvs)):kvs.length<=sizeLine/\(a==sysModules)=false/\
 ∃xs,KT H kvs xs/\h.DictOfH (tupleKind (Ej P w)) a xs:=Mr ok (.inl e)
end
def GJ (H:Hp)(a:Addr)(y:V)(r:Option V):Prop:=
 (∃kvs k,Rd H a (.dK kvs)/\y=kV k/\r=Ck kvs k)\/∃kvs k b,Rd H a (.dT kvs)/\y = .ref b/\H b=some (.tup (k.map kV))/\r=Ck kvs k
def IV (H:Hp)(a:Addr)(y v:V)(H':Hp):Prop:=
 (∃kvs k,H a=some (.dK kvs)/\y=kV k/\kvs.length<sizeLine/\H'=upd H a (.dK (DG kvs k v)))\/
 ∃kvs k b,H a=some (.dT kvs)/\y = .ref b/\H b=some (.tup (k.map kV))/\kvs.length<sizeLine/\H'=upd H a (.dT (DG kvs k v))
theorem GJ.k {H:Hp}{a:Addr}{kvs:List (AU×V)}{k:AU}(e:H a=some (.dK kvs)):GJ H a (kV k) (Ck kvs k):=.inl ⟨kvs,k,.inl e,rfl,rfl⟩
theorem IV.k {H:Hp}{a:Addr}{kvs:List (AU×V)}{k:AU}{v:V}(e:H a=some (.dK kvs))(hl:kvs.length<sizeLine):IV H a (kV k) v (upd H a (.dK (DG kvs k v))):=.inl ⟨kvs,k,e,rfl,hl,rfl⟩
section
variable {X:Cx}{pins:List (Addr×Obj)}{σ:St}{H:Hp}{s:Shared}{a:Addr}{y v:V}{u r:Value}{o:Option V}{A:Around}{E:Value->Shared->Prop}
theorem A4.big (I:A4 X pins σ H s):sysModules<s.heap.objs.size:=by
 have h:mainGlobals<s.heap.objs.size:=(I.mod.glob.keeps I.bk).lt
 exact Nat.lt_trans (by decide) h
theorem VU {Q:Value->Shared->Prop}(hu:A.units+1<cLine)(I:A4 X pins σ H s)(g:GJ H a y (some v))(ry:AD y u)(h:∀w' s',A4 X pins σ H s'->AD v w'->Q w' s') :
  wpAny (model X.prog X.w) A (getItem (.ref a) u) Q E s:=by
 rcases g with⟨kvs,k,e,ey,l⟩|⟨kvs,k,b,e,ey,eb,l⟩
 .subst ey
  obtain⟨z,hd,vs,rel,dd⟩:=MQ I.hok e
  obtain⟨w',hw,rw'⟩:=Dk.some_of (v:=v) (o:=valueAt vs k) (by rw[l];exact rel.val k)
  exact wpAny_getItem_of (LQ ry) dd.mapOf hw (h w' _ (I.tok _) rw')
 .subst ey
  cases (show u=Value.ref b from ry)
  obtain⟨z,hd,xs,rel,dd⟩:=Mr I.hok e
  obtain⟨w',hw,rw'⟩:=Dk.some_of (v:=v) (o:=(atKey xs k).map (·.2)) (by rw[l];exact rel.val k)
  obtain⟨p,hp,hp2⟩:=Ju.mp hw
  refine wpAny_getItem_heap (tupleKind_room_in1 hu) (N1 I.hok eb) dd hp ?_
  rw[hp2]
  exact h w' _ (I.tok _) rw'
theorem Qm {h':Heap}{t':Nat}{ob:HO}(I:A4 X pins σ H s)(mu:Jl (H a))(hs:Heap.SameBut a s.heap h')(he:∃q,h'.get? a=some q)(new:BL X.prog X.w (upd H a ob) h' a ob) :
  A4 X pins σ (upd H a ob) {s with heap:=h',toks:=t'}:=
 I.write (x:=a) (e:=a) mu (.inl rfl) (fun b q hb z=>(hs.2 b hb).trans z) he new
theorem Re {P:Program}{w:World}{H':Hp}{h':Heap}{kvs:List (AU×V)}{vs:List (AU×Value)}(z:kvs.length<=sizeLine)(hd:(a==sysModules)=false)(rel:KV kvs vs)(dd:h'.DictOf (Ej P w) a vs) :
 BL P w H' h' a (.dK kvs):=⟨z,hd,vs,rel,dd⟩
theorem Ye {H':Hp}{Q:Unit->Shared->Prop}(hu:A.units+1<cLine)(I:A4 X pins σ H s)(g:IV H a y v H')(ry:AD y u)(rv:AD v r)(h:∀s',A4 X pins σ H' s'->Q () s') :
  wpAny (model X.prog X.w) A (setItem (.ref a) u r) Q E s:=by
 rcases g with⟨kvs,k,e,ey,l,eH⟩|⟨kvs,k,b,e,ey,eb,l,eH⟩
 .subst ey eH
  obtain⟨z,hd,vs,rel,dd⟩:=XS I.hok e
  have hz:vs.length<=sizeLine:=by rw[←rel.length];exact z
  have hl:(DG kvs k v).length<=sizeLine:=by have:=NF kvs k v;lia
  refine wpAny_setItem_pairs (hsz:=hz) (LQ ry) dd fun h' dd' hs=>h _ ?_
  have he:∃q,h'.get? a=some q:=by obtain⟨q,_,_,hq,_⟩:=dd';exact⟨q,hq⟩
  exact Qm I (by rw[e];exact True.intro) hs he (Re hl hd (rel.put k rv) dd')
 .subst ey eH
  cases (show u=Value.ref b from ry)
  obtain⟨z,hd,xs,rel,dd⟩:=S8 I.hok e
  have hz:xs.length<=sizeLine:=by rw[←Paired.length rel];exact z
  have hl:(DG kvs k v).length<=sizeLine:=by have:=NF kvs k v;lia
  refine wpAny_setItem_heap (hsz:=hz) (tupleKind_room_in1 hu) (N1 I.hok eb) dd fun h' dd' hs=>h _ ?_
  obtain⟨q,es,ep,hq,h2,h3,h4,_,h5⟩:=dd'
  refine Qm I (by rw[e];exact True.intro) hs ⟨q,hq⟩ ⟨hl,hd,_,(rel.put k eb rv).keeps fun c ys ec=>?_,q,es,ep,hq,h2,h3,h4,h5⟩
  rw[Am (F8 ec e (fun z=>nomatch z))]
  exact ec
end
section
variable {X:Cx}{pins:List (Addr×Obj)}{σ:St}{H:Hp}{s:Shared}{a:Addr}{kvs:List (AU×V)}{k:AU}{u:Value}{A:Around}{E:Value->Shared->Prop}
end
def Oq (i:Expr):Prop := ∀ov iv,subscripted i false ov iv=operate [ov,iv] (getItem ov iv)
theorem U3 {prog:Program}{w:World}{A:Around}{E:Value->Shared->Prop}{s:Shared}{env:Env}{value slice:Expr}{pos:Pos}{T id:String}{Q:Value->Shared->Prop}
  (hl:typeLookup (.type T) "__getitem__"=pure (some (.builtin id))) (hs:Oq slice)
  (h:wpAny (model prog w) A (eval value env) (fun o s₁=>wpAny (model prog w) A (eval slice env) (fun i s₂=>s₂.TypeIs o T/\wpAny (model prog w) A (getItem o i) Q E s₂) E s₁) E s) :
  wpAny (model prog w) A (eval (.Subscript value slice pos) env) Q E s:=by
 refine Subscript_ (E6 h (fun o s₁ h₁=>E6 h₁ (fun i s₂ h₂=>?_) fun _ _ x=>x) fun _ _ x=>x)
 obtain⟨hT,h₂⟩:=h₂
 unfold subscriptTail
 refine Ao ?_
 rw[getitemInPython_of_ne hT.not_modules]
 refine Ao (wpAny_specialOf hT hl ?_)
 have fin:wpAny (model prog w) A (subscripted slice false o i) (fun r s₃=>wpAny (model prog w) A (letTemporaryGo value o r>>=fun _=>pure r) Q E s₃) E s₂:=by
  rw[hs o i]
  exact wpAny_operating (E6 h₂ (fun r s₃ h₃=>Ao (wpAny_letTemporaryGo (AY h₃))) fun _ _ x=>x)
 first
  |exact AY (Ao fin)
  |exact Ao (AY (Ao fin))
  |exact Ao fin
theorem Vm {X:Cx}{pins:List (Addr×Obj)}{σ:St}{H:Hp}{s:Shared}{a:Addr}{y:V}{o:Option V}(I:A4 X pins σ H s)(g:GJ H a y o):s.TypeIs (.ref a) "dict":=by
 rcases g with⟨kvs,k,e,_,_⟩|⟨kvs,k,b,e,_,_,_⟩
 .obtain⟨_,_,vs,_,dd⟩:=MQ I.hok e
  exact dd.typeIs
 .obtain⟨_,_,xs,_,dd⟩:=Mr I.hok e
  exact dd.typeIs
def TR (td ty:TE):TE:=fun σ H Q=>td σ H fun x H1=>ty σ H1 fun y H2=>∃a v,x = .ref a/\GJ H2 a y (some v)/\Q v H2
def UC (td ty tv:TE):TS:=fun D σ H=>tv σ H fun v H1=>td σ H1 fun x H2=>ty σ H2 fun y H3=>∃a H4,x = .ref a/\IV H3 a y v H4/\D.nx σ H4
section
variable {X:Cx}{o i e value:Expr}{pos pos' tpos:Pos}{td ty tv:TE}
theorem XW (hu:X.A.units+1<cLine)(ho:PE X o td)(hi:PE X i ty)(hs:Oq i):PE X (.Subscript o i pos) (TR td ty):=by
 intro pins s σ H Q I h
 refine U3 PySem.F.slot_dict_getitem.lookup hs (Au (ho pins s σ H _ I h) fun u s1 zz=>?_)
 obtain⟨x,H1,I1,rx,q1⟩:=zz
 refine Au (hi pins s1 σ H1 _ I1 q1) fun iv s2 zz=>?_
 obtain⟨y,H2,I2,ry,a,v,ex,g,q2⟩:=zz
 subst ex
 obtain rfl:u=Value.ref a:=rx
 exact⟨Vm I2 g,VU hu I2 g ry fun w' s3 I3 rw'=>⟨v,H2,I3,rw',q2⟩⟩
theorem WM (hu:X.A.units+1<cLine)(ho:PE X o td)(hi:PE X i ty)(hv:PE X value tv)(hs:swapsWith value (some (.Subscript o i pos')) pos.line X.env=pure false) :
  PS X (.Assign [.Subscript o i pos'] value pos) (UC td ty tv):=by
 intro pins s σ H D I h
 refine wpAny_Assign_Subscript (Au (hv pins s σ H _ I h) fun r s1 zz=>?_) hs
 obtain⟨v,H1,I1,rv,q1⟩:=zz
 refine Au (ho pins s1 σ H1 _ I1 q1) fun u s2 zz=>?_
 obtain⟨x,H2,I2,rx,q2⟩:=zz
 refine Au (hi pins s2 σ H2 _ I2 q2) fun iv s3 zz=>?_
 obtain⟨y,H3,I3,ry,a,H4,ex,g,q3⟩:=zz
 subst ex
 obtain rfl:u=Value.ref a:=rx
 exact Ye hu I3 g ry rv fun s4 I4=>⟨σ,H4,I4,q3⟩
end
theorem Sa {P:Program}{w:World}{H:Hp}(h:Heap)(hb:sysModules<h.objs.size):BL P w H (h.push {cls:=.type "dict",data:=.dict #[]}) h.objs.size (.dK []):=
 ⟨BN _,JA.mpr (Ne.symm (Bu hb)),[],.nil,Heap.DictOf.new h⟩
def Vy:TE:=fun _ H Q=>∀p,H p=none->Q (.ref p) (upd H p (.dK []))
section
variable {X:Cx}{pos:Pos}
theorem Wc:PE X (.Dict [] [] pos) Vy:=fun pins s σ H Q I h=>
 wpAny_Dict_empty ⟨.ref s.heap.objs.size,_,I.laid (a:=s.heap.objs.size) (o:=.dK []) (t':=s.toks) (fun _ _ q=>Bk _ q) (Ap _) (Sa s.heap I.big),rfl,h _ (I.hok.fresh (Ap _))⟩
end
section
variable {X:Cx}{pins:List (Addr×Obj)}{σ:St}{H:Hp}{s:Shared}{a:Addr}{y d:V}{u r:Value}{o:Option V}{A:Around}{E:Value->Shared->Prop}
end
section
variable {X:Cx}{o e f:Expr}{apos cpos:Pos}{td ty tx:TE}
end
section
variable {X:Cx}{pins:List (Addr×Obj)}{σ:St}{H:Hp}{s:Shared}{a:Addr}{kvs:List (AU×V)}{A:Around}{E:Value->Shared->Prop}
end
section
variable {X:Cx}{pins:List (Addr×Obj)}{σ:St}{H:Hp}{s:Shared}{a:Addr}{y:V}{u:Value}{A:Around}{E:Value->Shared->Prop}
end
end L2
namespace Att
open PySem PySem.W PySem.Calls PyProof.Rows
theorem Xg {P:Params}{h:Heap}:∀(ns:List Int) (vs:List Value),WellAll P h vs (ns.map WData.int)->IntsAre vs ns:=by
 intro ns
 induction ns with
 |
  nil=>
  intro vs w
  rw[Io]at w
  cases w
  exact .nil
 |
  cons n ns ih=>
  intro vs w
  rw[Bz]at w
  cases w with
  |
   cons a b=>
   cases a
   exact .cons _ _ (ih _ b)
theorem SD {l:OpenLaw}{n:Nat}(hn:l.most=some n){P:Params}{h:Heap}{args:List WData}{vals:List Value}
  (hpre:l.row.toRowW.claim.pre args=true) (hwl:WellAll P h vals args) :
  ∃a vs ns,vals=[Value.ref a]/\args=[WData.list (ns.map WData.int)]/\h.get? a=some {cls:=.type "list",data:=.seq vs.toArray}/\IntsAre vs ns/\ns.length<=n:=by
 have hsh:WShape.hasAll [] args [.list .int]=true:=(pre_splitW hpre).1
 have hc:l.pre.holds [] {args:=args}=true:=(pre_splitW hpre).2
 obtain⟨d,r,rfl,h1,h2⟩:=hasAllW_cons hsh
 obtain rfl:=hasAllW_nil h2
 obtain⟨xs,rfl,h3⟩:=hasW_list h1
 obtain⟨ns,rfl⟩:=items_int h3
 have hlen:ns.length<=n:=by
  unfold OpenLaw.pre at hc
  have h4:(WTm.not (.lt (.lit (.int (n:Int))) (.len (.arg 0)))).holds [] {args:=[.list (ns.map .int)]}=true:=by
   have h4:=(holds_andW hc).1
   rw[hn]at h4
   exact h4
  have h5:=condW_of h4 (w_not (w_lt w_lit (w_len_list (w_arg rfl))))
  rw[Aq]at h5
  refine Nat.le_of_not_lt fun q=>?_
  have q':(n:Int)<((ns.length:Nat):Int):=by lia
  first
   |(rw[B6 q']at h5;exact absurd h5 (by decide))
   |(simp at h5;lia)
 cases hwl with
 |
  cons w1 w2=>
  cases w2
  cases w1 with
  |list ho hall=>exact⟨_,_,ns,rfl,rfl,ho,Xg ns _ hall,hlen⟩
theorem SW (l:OpenLaw)(args:List WData):l.row.toRowW.claim.post args (.bool true) args=true:=
 postW_of (r:=l.row.toRowW) (X:=(true==true))
  (show WShape.has [] (.bool true) .bool=true by first|rfl|decide|simp[WShape.has,WShape.arms,WShape.armsAll])
  (show(WTm.eq .res (.lit (.bool true))).value [] {args:=args,res:=some (.bool true),after:=args}=some (.bool (true==true)) from w_eq_bool (w_res rfl) w_lit) rfl
theorem attach_call {l:OpenLaw}{n:Nat}{q:Program}{loose:List Str}{XP:(Str->Option Value)->Heap->Prop}{YP:World->Heap->Prop}{d:DefRec}
  (hn:l.most=some n) (hdf:d.params.defaults=[])
  (call:∀(w:World) (s₀ s₁:Shared) (mg mb:Str->Option Value) (fa:Addr) (o:Obj) (pm cd doc:Value) (a:Addr) (vs:List Value) (ns:List Int),
   Ground q loose [] XP w s₀ mg mb s₁.heap->YP w s₁.heap->
   s₁.heap.get? fa=some o->o.data = .func (docDef d.name d.params d.body d.scope pm cd doc)->s₁.heap.CodeRec cd d.name->mg d.name=some (.ref fa)->
   s₁.heap.get? a=some {cls:=.type "list",data:=.seq vs.toArray}->IntsAre vs ns->ns.length<=n->s₁.gens = #[]->
   codeAny (model l.prog w) callerA (.call (.ref fa) ⟨[.ref a],[]⟩) (fun r s'=>r = .ok (.ret (.bool true))/\OldK s₁.heap s'.heap/\s'.os=s₁.os/\AllBare s'.gens) s₁) :
  WalkO q loose XP YP l.row.toRowW d [] (fun f vs=>PySem.call f vs):=by
 intro w s₀ s₁ mg mb G Y fa o pm cd doc dV kV ho hd hcd hD hmg hg args vals as hpre hlay hrd hwl hlo
 obtain rfl:dV = .none:=Dflts.none hD hdf
 obtain rfl:kV = .none:=Dflts.noKw hD
 obtain⟨a,vs,ns,rfl,rfl,hobj,hints,hlen⟩:=SD hn hpre hwl
 refine enter_call (Ny (call w s₀ s₁ mg mb fa o pm cd doc a vs ns G Y ho (fd_plain hd) hcd hmg hobj hints hlen hg) fun r s' hq=>?_)
 obtain⟨rfl,h2,h3,h4⟩:=hq
 exact⟨.inl ⟨.bool true,.bool true,[],rfl,fun _=>rfl,.bool true,SW l _,fun _=>⟨List.Pairwise.nil,fun _ hm=>(nomatch hm)⟩⟩,h2,h3,h4⟩
section
variable {prog:Program}{w:World}{A:Around}{E:Value->Shared->Prop}{s:Shared}{K:Frag}
end
end Att
namespace L2
open PySem PySem.Spec PyProof.Rows
theorem OI:∀{vs:List Value} {ns:List Int},IntsAre vs ns->Ay (ns.map V.int) vs
 |_,_,.nil=>.nil
 |_,_,.cons n t h=>.cons ⟨t,rfl⟩ (OI h)
def Lm (H:Hp):Prop := ∀b,H b=none\/∃o xs,H b=some (.frz o (.lst xs))
theorem Us {P:Program}{w:World}{K:YO}{mg mb:Str->Option Value}{CX:EM}{k:Nat}{fa a:Addr}{fd:FuncData}{x:Str}{sp:Sp}{s₁:Shared}{vs:List Value}{ns:List Int}
  (KX:K.In s₁.heap) (hns:s₁.heap.Ns mainGlobals mg) (hb:s₁.heap.Ns builtinsNs mb) (hbb:∀x:Str,x≠"__name__"->mb x=bootBuiltins x) (hlim:s₁.heap.NoLimit) (hg:s₁.gens = #[])
  (ha:s₁.heap.get? a=some {cls:=.type "list",data:=.seq vs.toArray}) (hi:IntsAre vs ns) (hl:ns.length<=sizeLine) (hr:C7 k callerA)
  (F:∀base:Heap,K.In base->base.Ns mainGlobals mg->AB P w K mg base CX k fa fd [x] sp) (hbind:∀(s:Shared) (u:Value),BindsTo s fd ⟨[u],[]⟩ [(x,u)])
  (hsp:∀H:Hp,Lm H->A5 K H a (ns.map V.int)->sp [.ref a] H (fun v _=>v = .bl true) fun _ _ _=>False)
  (hCX:∀H e s',CX [] H s₁ (fun _ _ _=>False) e s'->False) :
  codeAny (model P w) callerA (.call (.ref fa) ⟨[.ref a],[]⟩) (fun r s'=>r = .ok (.ret (.bool true))/\OldK s₁.heap s'.heap/\s'.os=s₁.os/\AllBare s'.gens) s₁:=by
 have rv:=OI hi
 have lenV:=hi.length
 have core:∀H:Hp,Lm H->A5 K H a (ns.map V.int)->BC P w H s₁.heap->(∀b,H b≠none->b=a)->(H a≠none->K.lookup a=none)->
   codeAny (model P w) callerA (.call (.ref fa) ⟨[.ref a],[]⟩) (fun r s'=>r = .ok (.ret (.bool true))/\OldK s₁.heap s'.heap/\s'.os=s₁.os/\AllBare s'.gens) s₁:=by
  intro H hO hS hok hA hK
  have base_of:∀{b:Addr} {o:Obj},s₁.heap.get? b=some o->H b=none->(Ft s₁.heap H).get? b=some o:=fun e n=>Tb e n
  have noA:∀{b:Addr} {o:Obj} {es:Array DictEntry} {ep:Nat},s₁.heap.get? b=some o->o.data = .dict es ep->H b=none:=fun{b o es ep} e d=>by
   cases q:H b with
   |none=>rfl
   |
    some u=>
    have e':b=a:=hA b (by rw[q];simp)
    subst e'
    rw[ha]at e;cases e
    have d':Data.seq vs.toArray _=Data.dict es ep:=d
    cases d'
  have nsK:∀{b:Addr} {m:Str->Option Value},s₁.heap.Ns b m->(Ft s₁.heap H).Ns b m:=fun{b m} ⟨o,es,ep,e,d,r⟩=>⟨o,es,ep,base_of e (noA e d),d,r⟩
  have hKb:K.In (Ft s₁.heap H):=fun b o e=>base_of (KX b o e) (by
   cases q:H b with
   |none=>rfl
   |
    some u=>
    have e':b=a:=hA b (by rw[q];simp)
    subst e'
    rw[hK (by rw[q];simp)]at e;cases e)
  have hM:Mod K mg (Ft s₁.heap H):=⟨hKb,nsK hns,⟨mb,nsK hb,hbb⟩,let ⟨mc,h1,h2⟩:=hlim;⟨mc,nsK h1,h2⟩⟩
  have e0:GE P w K mg (Ft s₁.heap H) callerA [] s₁ H:=⟨rfl,hM,fun b o e=>Xd e,Nat.le_of_eq (W2 _ _),trivial,fun b hb=>absurd (show b∈([]:List Addr) from hb) (by simp),hok,.of_eq hg⟩
  refine Ny ((F _ hKb (nsK hns)).run callerA [] s₁ H ⟨[.ref a],[]⟩ [.ref a] [.ref a] _ _ hr e0 (hbind s₁ (.ref a)) (.cons rfl .nil) (hsp H hO hS)) fun r s' h=>?_
  cases r with
  |error e=>exact(hCX H e s' h).elim
  |
   ok fl=>
   cases fl with
   |next=>exact False.elim h
   |brk=>exact False.elim h
   |cont=>exact False.elim h
   |
    ret u=>
    obtain⟨v,H',os,bare,un,hok',r',q⟩:=h
    have q':v = .bl true:=q
    subst q'
    obtain rfl:u=Value.bool true:=r'
    refine⟨rfl,OldK.of_keep fun b o e=>?_,os,bare⟩
    cases q:H b with
    |none=>exact un.keep b o e q (by intro z;exact absurd (show b∈([]:List Addr) from z) (by simp)) (by simp)
    |
     some u=>
     rcases hO b with z|⟨ob,xs,z⟩
     .rw[q]at z;cases z
     .have z2:=un.frzs b ob _ z
      obtain⟨e1,_⟩:=hok b _ z
      obtain⟨e2,_⟩:=hok' b _ z2
      rw[e]at e1;cases e1
      exact e2
 cases hk:K.lookup a with
 |
  some o=>
  have e:=KX a o hk
  rw[ha]at e
  cases e
  refine core (fun _=>none) (fun _=>.inl rfl) (.inr ⟨_,vs.toArray,_,hk,rfl,rfl,rfl,by rw[Bi,lenV];exact hl,by simpa using rv⟩) (fun b u z=>by have z':(none:Option HO)=some u:=z;cases z') (fun b z=>absurd rfl z) fun z=>absurd rfl z
 |
  none=>
  refine core (fun b=>if b=a then some (.frz {cls:=.type "list",data:=.seq vs.toArray} (.lst (ns.map V.int))) else none) (fun b=>?_) (.inl (.inr ⟨{cls:=.type "list",data:=.seq vs.toArray},Ax rfl⟩)) (fun b u z=>?_) (fun b z=>?_) fun _=>hk
  .by_cases hb:b=a
   .exact .inr ⟨_,_,Ax hb⟩
   .exact .inl (As hb)
  .by_cases hb:b=a
   .have z':=(Ax hb).symm.trans z
    cases z'
    subst hb
    exact⟨ha,by rw[Aq];exact hl,vs,_,rv,ha⟩
   .have z':=(As hb).symm.trans z
    cases z'
  .by_cases hb:b=a
   .exact hb
   .exact absurd (As hb) z
theorem walk_of {l:PySem.W.OpenLaw}{n k:Nat}{q:Program}{loose:List Str}{XP:(Str->Option Value)->Heap->Prop}{YP:World->Heap->Prop}{d:DefRec}{K:Params->YO}{CX:World->EM}{sp:World->Sp}{x:Str}
  (hn:l.most=some n) (hn2:n<=sizeLine) (hdf:d.params.defaults=[]) (hr:C7 k callerA)
  (hY:∀(w:World) (h:Heap),YP w h->(K w.params).In h)
  (F:∀(w:World) (mg:Str->Option Value) (fa:Addr) (h:Heap),(K w.params).In h->h.Ns mainGlobals mg->mg d.name=some (.ref fa)->
   ∃fd:FuncData,(∀(s:Shared) (u:Value),BindsTo s fd ⟨[u],[]⟩ [(x,u)])/\
    ∀base:Heap,(K w.params).In base->base.Ns mainGlobals mg->AB l.prog w (K w.params) mg base (CX w) k fa fd [x] (sp w))
  (hsp:∀(w:World) (H:Hp) (a:Addr) (ns:List Int),ns.length<=n->Lm H->A5 (K w.params) H a (ns.map V.int)->sp w [.ref a] H (fun v _=>v = .bl true) fun _ _ _=>False)
  (hCX:∀(w:World) (H:Hp) (s:Shared) (e:Value) (s':Shared),CX w [] H s (fun _ _ _=>False) e s'->False) :
  PySem.W.WalkO q loose XP YP l.row.toRowW d [] (fun f vs=>PySem.call f vs):=by
 refine Att.attach_call hn hdf fun w s₀ s₁ mg mb fa o pm cd doc a vs ns G Y ho hd hcd hmg hobj hints hlen hg=>?_
 have KX:=hY w _ Y
 obtain⟨fd,hb,hF⟩:=F w mg fa _ KX G.T.g hmg
 exact Us KX G.T.g G.T.b G.T.builtins G.T.nolimit hg hobj hints (E3 hlen hn2) hr hF hb (fun H hO hS=>hsp w H a ns hlen hO hS) fun H e s'=>hCX w H s₁ e s'
def F4 (s:Stmt)(j:Nat):Stmt:=match s with
 |.ClassDef _ _ _ body _ _ _ _ _ _ _=>body.getD j (.Pass ⟨0,0,0,0⟩)
 |_=>.Pass ⟨0,0,0,0⟩
def IC (s:Stmt):Arguments:=match s with
 |.FunctionDef _ a _ _ _ _ _ _ _ _=>a
 |_=>{posonlyargs:=[],args:=[],vararg:=none,kwonlyargs:=[],kw_defaults:=[],kwarg:=none,defaults:=[]}
def HQ (s:Stmt):List Stmt:=match s with
 |.FunctionDef _ _ b _ _ _ _ _ _ _=>b
 |_=>[]
def Aw (s:Stmt):Scope:=match s with
 |.FunctionDef _ _ _ _ _ _ sc _ _ _=>sc
 |_=>{kind:=.function,names:=[],isGenerator:=false,isCoroutine:=false}
abbrev AI:EM:=fun _ _ _ _ _ _=>False
abbrev E0:XK:=fun _ _ _=>False
theorem Af {X:Cx}:Ii AI X E0:=fun _ _ _ _ _ _ _ h=>h.elim
structure AF (K:YO)(x qual:Str)(st:Stmt)(f:Addr)(fd:FuncData):Prop where
 ex:∃(oc:Value) (od:Option Addr) (kV doc pm:Value) (an:Option Addr) (cdv ct:Value) (osl:Array (Option Value)),
  fd=PySem.W.fnOf x qual (IC st) (HQ st) (Aw st) .none kV doc pm an cdv ct/\K.lookup f=some ⟨oc,od,.func fd,osl⟩/\PySem.W.codeIn K cdv qual=true
 kp:PySem.W.keepIn K (.ref f)=true
section
variable {P:Program}{w:World}{K:YO}{mg:Str->Option Value}{base:Heap}
theorem AF.ok {x qual:Str}{st:Stmt}{f:Addr}{fd:FuncData}{N ps:List Str}{k:Nat}{sp:Sp}(F:AF K x qual st f fd)(S:AJ N ps (Aw st))(len:∀vs H Q E,sp vs H Q E->vs.length=ps.length)
  (hbody:∀(cdv:Value) (A:Around) (outer:List Env) (s:Shared) (H:Hp) (vs:List V) (Q:VK) (E:XK),C7 k (A.deeper (envOfC qual (Aw st) s.heap.objs.size f cdv))->sp vs H Q E->
   ∃t,Eg (HS AI P w K mg base N qual (Aw st) f cdv A outer s H E).nox (HQ st) t/\t {nx:=fun _ H'=>Q .non H',rt:=Q} (start N vs) H):AB P w K mg base AI (k+1) f fd ps sp:=by
 obtain⟨oc,od,kV,doc,pm,an,cdv,ct,osl,rfl,lk,hcd⟩:=F.ex
 refine W0 lk hcd S len fun A outer s H vs Q E hr hsp=>?_
 obtain⟨t,h,q⟩:=hbody cdv A outer s H vs Q E hr hsp
 exact⟨t,h.nox,q⟩
theorem AF.binds {x qual:Str}{st:Stmt}{f:Addr}{fd:FuncData}{ps:List Str}(F:AF K x qual st f fd)
  (h:∀(kV doc pm:Value) (an:Option Addr) (cdv ct:Value) (us:List Value),us.length=ps.length->bindArgs (PySem.W.fnOf x qual (IC st) (HQ st) (Aw st) .none kV doc pm an cdv ct) ⟨us,[]⟩=pure (ps.zip us)):AE K fd ps []:=by
 obtain⟨oc,od,kV,doc,pm,an,cdv,ct,osl,rfl,lk,hcd⟩:=F.ex
 exact .all (h kV doc pm an cdv ct)
theorem fun_mk {x qual:Str}{st:Stmt}{f:Addr}{oc:Value}{od an:Option Addr}{osl:Array (Option Value)}{kV doc pm cdv ct:Value}(l:K.lookup f=some ⟨oc,od,.func (PySem.W.fnOf x qual (IC st) (HQ st) (Aw st) .none kV doc pm an cdv ct),osl⟩)
 (c:PySem.W.codeIn K cdv qual=true) (k:PySem.W.keepIn K (.ref f)=true):AF K x qual st f (PySem.W.fnOf x qual (IC st) (HQ st) (Aw st) .none kV doc pm an cdv ct):=⟨⟨oc,od,kV,doc,pm,an,cdv,ct,osl,rfl,l,c⟩,k⟩
end
theorem Oe {A:Around}{k:Nat}(hr:C7 k A):A.units+1<cLine:=Nat.lt_of_le_of_lt (Nat.add_le_add_left (by decide:1<=64) _) hr.units
section
variable {X:Cx}
theorem pv (i:Nat){x:Str}{pos:Pos}(hN:X.N[i]?=some x:=by rfl)(hv:IA X.env.scope x:=by first|exact Or.inl rfl|exact Or.inr (.inl rfl)|exact Or.inr (.inr rfl))(hd:(x==("__debug__":Str))=false:=by decide)
 (hcd:(x==("__classdict__":Str))=false:=by decide):PE X (.Name x pos) (My i):=Ud hN hv hd hcd
end
theorem AO {A B:Prop}(h:B):if false=true then A else B:=by
 rw[As Ci]
 exact h
theorem BE {A B:Prop}(h:A):if true=true then A else B:=by
 rw[Ax rfl]
 exact h
theorem Cf {c A B:Prop}[Decidable c](h1:c->A)(h2:¬c->B):if c then A else B:=by
 by_cases h:c
 .rw[Ax h]
  exact h1 h
 .rw[As h]
  exact h2 h
def A9 (H H':Hp):Prop := ∀b o,H b=some o->H' b=some o
theorem A9.refl (H:Hp):A9 H H:=fun _ _ h=>h
theorem A9.trans {H H1 H2:Hp}(a:A9 H H1)(b:A9 H1 H2):A9 H H2:=fun c o h=>b c o (a c o h)
theorem A9.free {H H':Hp}(e:A9 H H'){l:Addr}(h:H' l=Option.none):H l=Option.none:=by
 cases q:H l with
 |none=>rfl
 |
  some o=>
  rw[e l o q]at h
  cases h
theorem A9.seq {K:YO}{H H':Hp}{a:Addr}{xs:List V}(e:A9 H H')(h:A5 K H a xs):A5 K H' a xs:=by
 rcases h with(h|⟨o,h⟩)|h
 .exact .inl (.inl (e _ _ h))
 .exact .inl (.inr ⟨o,e _ _ h⟩)
 .exact .inr h
section
variable {κ:Type}[DecidableEq κ]
end
theorem MW (env:Env):∀(l:List (Str×NameKind)) (cs:List (Str×Addr)),(∀n,(n,NameKind.free)∈l->∃c,env.cells.lookup n=some c)->(∀x c,cs.lookup x=some c->env.cells.lookup x=some c)->
  ∃cl,(forIn l cs fun x s=>if(x.snd==NameKind.free)=true then do let c ←cellOf env x.fst;pure (ForInStep.yield ((x.fst,c)::s)) else pure (ForInStep.yield s))=(pure cl:Sem (List (Str×Addr)))/\
   (∀x c,cl.lookup x=some c->env.cells.lookup x=some c)/\(∀n,(n,NameKind.free)∈l->∃c,cl.lookup n=some c)/\∀n c,cs.lookup n=some c->∃c',cl.lookup n=some c'
 |[],cs,_,h=>⟨cs,rfl,h,(fun _ z=>nomatch z),(fun n c e=>⟨c,e⟩)⟩
 |
  (n,k)::r,cs,hf,h=>by
  by_cases hk:k = .free
  .subst hk
   obtain⟨c,hc⟩:=hf n E4
   have e:cellOf env n=pure c:=by unfold cellOf;rw[hc]
   obtain⟨cl,e1,h1,h2,h3⟩:=MW env r ((n,c)::cs) (fun m hm=>hf m (E5 _ hm)) (fun x c' q=>by
    rw[EI]at q
    by_cases hx:x=n
    .subst hx;simp at q;subst q;exact hc
    .have:(x==n)=false:=by simpa using hx
     rw[this]at q;exact h x c' q)
   refine⟨cl,?_,h1,fun m hm=>?_,fun m c' q=>?_⟩
   .rw[Nk]
    show((do let c ←cellOf env n;pure (ForInStep.yield ((n,c)::cs)))>>=_)=_
    rw[e]
    exact e1
   .rcases Bv.mp hm with z|z
    .cases z;exact h3 n c (by simp)
    .exact h2 m z
   .by_cases hx:m=n
    .subst hx;exact h3 m c (by simp)
    .have:(m==n)=false:=by simpa using hx
     exact h3 m c' (by rw[EI,this];exact q)
  .have hb:(k==NameKind.free)=false:=by simpa using hk
   obtain⟨cl,e1,h1,h2,h3⟩:=MW env r cs (fun m hm=>hf m (E5 _ hm)) h
   refine⟨cl,?_,h1,fun m hm=>?_,h3⟩
   .rw[Nk]
    dsimp only
    rw[hb]
    exact e1
   .rcases Bv.mp hm with z|z
    .cases z;exact absurd rfl hk
    .exact h2 m z
theorem M5 {scope:Scope}{env:Env}(h:∀n,(n,NameKind.free)∈scope.names->∃c,env.cells.lookup n=some c) :
  ∃cl,closureFor scope env=pure cl/\(∀x c,cl.lookup x=some c->env.cells.lookup x=some c)/\∀n,(n,NameKind.free)∈scope.names->∃c,cl.lookup n=some c:=by
 obtain⟨cl,e,h1,h2,_⟩:=MW env scope.names [] h (fun _ _ z=>by simp at z)
 refine⟨cl,?_,h1,h2⟩
 simp only[closureFor]
 rw[e]
 rfl
def CD (X:Cx)(scope:Scope)(N':List Str)(cl:List (Str×Addr))(C:Addr)(s:Shared)(H:Hp)(fp:List Addr)(pins:List (Addr×Obj)):Cx where
 prog:=X.prog
 w:=X.w
 K:=X.K
 mg:=X.mg
 base:=X.base
 A:=X.A
 N:=N'
 s₀:=s
 H₀:=H
 env:=compEnvC scope cl C X.env
 outer:=X.stack
 stack:=X.stack
 ex:=fp
 calm:=X.calm
 fn:=fun _=>false
 pn:=X.pn++pins
 xe:=fun _ _=>False
structure Hx (sc:Scope)(out:Scope):Prop where
 kind:sc.kind = .function
 cell:∀y∈sc.names,y.2≠.cell
 loc:∀y∈sc.names,y.2 = .local->sc.names.lookup y.1=some .local
 free:∀y∈sc.names,y.2 = .free->out.names.lookup y.1=some .cell\/out.names.lookup y.1=some .free
def Bl (ρ:List (Option Nat))(σ:St):St:=ρ.map fun o=>match o with|some i=>(σ[i]?).getD none|none=>none
def G0 (sc:Scope)(env:Env)(N N':List Str)(ρ:List (Option Nat)):Prop:=
 ρ.length=N'.length/\∀(j i:Nat) (x:Str),ρ[j]?=some (some i)->N'[j]?=some x->N[i]?=some x/\IA env.scope x/\(x,NameKind.free)∈sc.names
theorem Q6 {names:List (Str×NameKind)}{env:Env}{x:Str}{k:NameKind}(h:(names.map fun(n,k)=>if(k==NameKind.free&&env.scope.kind == .function&&env.kindOf n==some .cell) then(n,NameKind.cell) else(n,k)).lookup x=some k)
  (hk:k = .cell\/k = .free) (hc:∀y∈names,y.2≠.cell):(x,NameKind.free)∈names:=by
 induction names with
 |nil=>simp at h
 |
  cons p r ih=>
  obtain⟨n,k'⟩:=p
  by_cases hx:x=n
  .subst hx
   have hk':k' = .free:=by
    by_cases hc':(k'==NameKind.free&&env.scope.kind == .function&&env.kindOf x==some .cell)=true
    .simp only[CU,FN]at hc'
     exact hc'.1.1
    .simp only[Bz]at h
     rw[As hc']at h
     simp at h
     subst h
     rcases hk with z|z
     .exact absurd z (hc (x,k') E4)
     .exact z
   rw[hk'];exact E4
  .have hb:(x==n)=false:=by simpa using hx
   refine E5 _ (ih ?_ fun y hy=>hc y (E5 _ hy))
   simp only[Bz]at h
   by_cases hc':(k'==NameKind.free&&env.scope.kind == .function&&env.kindOf n==some .cell)=true
   .rw[Ax hc',EI,hb]at h;exact h
   .rw[As hc',EI,hb]at h;exact h
theorem Ou:∀{names:List (Str×NameKind)} {env:Env} {x:Str},(x,NameKind.free)∈names->(names.map fun(n,k)=>if(k==NameKind.free&&env.scope.kind == .function&&env.kindOf n==some .cell) then(n,NameKind.cell) else(n,k)).lookup x=some .cell\/
  (names.map fun(n,k)=>if(k==NameKind.free&&env.scope.kind == .function&&env.kindOf n==some .cell) then(n,NameKind.cell) else(n,k)).lookup x=some .free\/names.lookup x≠some .free:=by
 intro names env x hm
 by_cases hl:names.lookup x=some .free
 .induction names with
  |nil=>simp at hl
  |
   cons p r ih=>
   obtain⟨n,k'⟩:=p
   by_cases hx:x=n
   .subst hx
    simp at hl
    subst hl
    by_cases hc':(NameKind.free==NameKind.free&&env.scope.kind == .function&&env.kindOf x==some .cell)=true
    .left;simp only[Bz];rw[Ax hc'];simp
    .right;left;simp only[Bz];rw[As hc'];simp
   .have hb:(x==n)=false:=by simpa using hx
    rw[EI,hb]at hl
    have hm':(x,NameKind.free)∈r:=by
     rcases Bv.mp hm with z|z
     .cases z;exact absurd rfl hx
     .exact z
    have q:=ih hm' hl
    simp only[Bz]
    by_cases hc':(k'==NameKind.free&&env.scope.kind == .function&&env.kindOf n==some .cell)=true
    .rw[Ax hc',EI,hb,EI,hb];exact q
    .rw[As hc',EI,hb,EI,hb];exact q
 .exact .inr (.inr hl)
section
variable {X:Cx}{pins:List (Addr×Obj)}{σ:St}{H:Hp}{s:Shared}{scope:Scope}{N':List Str}{ρ:List (Option Nat)}{cl:List (Str×Addr)}{fp:List Addr}{C D:Addr}
theorem Tq (I:A4 X pins σ H s)(S:Hx scope X.env.scope)(hf:∀b∈fp,Dq X pins H b)(h1:∀x c,cl.lookup x=some c->X.env.cells.lookup x=some c)(h2:∀n,(n,NameKind.free)∈scope.names->∃c,cl.lookup n=some c)
  (hC:s.heap.objs.size<=C) (hfs:∀b∈fp,b<s.heap.objs.size):(CD X scope N' cl C s H fp pins).Ok where
 mod:=I.ok.mod
 kind:=S.kind
 glob:=I.ok.glob
 blt:=I.ok.blt
 above:=hC
 inj:=fun x y c e1 e2=>I.ok.inj x y c (h1 x c e1) (h1 y c e2)
 has:=fun x hk=>h2 x (by
  rcases hk with hk|hk
  .exact Q6 (env:=X.env) hk (.inl rfl) S.cell
  .exact Q6 (env:=X.env) hk (.inr rfl) S.cell)
 cab:=fun _ _ z=>nomatch z
 hd:=I.ok.hd
 frames:=I.ok.frames
 stk:=.inl rfl
 exf:=fun b hb=>⟨Bu (BJ (hfs b hb) hC),fun x c e=>(hf b hb).2.2.2.2.1 x c (h1 x c e)⟩
 bs:=I.bs
 bsz:=E3 I.ok.bsz I.sz
 noex:=fun b o e hb=>by
  rcases(hf b hb).2.2.2.1 with z|z
  .exact I.ok.noex b o e z
  .exact absurd (BJ (BJ (B5 e) I.ok.bsz) z) (Dd _)
 exfs:=fun b hb z=>by
  rcases Bv.mp (I.stkSub b z) with q|q
  .exact(hf b hb).2.1 q
  .exact(hf b hb).2.2.1 q
 funs:=I.stack
 frf:=I.stkFree
theorem Uo {h₁:Heap}{tk:Nat}(I:A4 X pins σ H s)(S:Hx scope X.env.scope)(hρ:G0 scope X.env X.N N' ρ)(hf:∀b∈fp,Dq X pins H b)(h1:∀x c,cl.lookup x=some c->X.env.cells.lookup x=some c)
  (h2:∀n,(n,NameKind.free)∈scope.names->∃c,cl.lookup n=some c) (hC:s.heap.objs.size<=C) (hfs:∀b∈fp,b<s.heap.objs.size) (hn:h₁.Ns C (fun _=>none)) (hk:∀b o,s.heap.get? b=some o->h₁.get? b=some o)
  (hl:∀x,(x,NameKind.free)∈scope.names->scope.names.lookup x=some .free) :
  A4 (CD X scope N' cl C s H fp pins) [] (Bl ρ σ) H {s with heap:=h₁,toks:=tk} where
 ok:=Tq I S hf h1 h2 hC hfs
 os:=rfl
 bare:=I.bare
 base:=Un.kept hk
 loc:=by
  refine⟨_,hn,fun j x v e1 e2 hv=>?_⟩
  obtain⟨m,hm,hl'⟩:=I.loc
  unfold Bl at e2
  rw[BG]at e2
  cases hr:ρ[j]? with
  |none=>rw[hr]at e2;simp at e2
  |
   some o=>
   cases o with
   |none=>rw[hr]at e2;simp at e2
   |
    some i=>
    rw[hr]at e2
    obtain⟨q1,q2,q3⟩:=hρ.2 j i x hr e1
    have e3:σ[i]?=some (some v):=by
     cases hσ:σ[i]? with
     |none=>simp[hσ]at e2
     |some z=>simp[hσ]at e2;rw[e2]
    obtain⟨u,r,lk⟩:=hl' i x v q1 e3 q2
    refine⟨u,r,?_⟩
    obtain⟨c,hc⟩:=h2 x q3
    have hkind:(relabel scope X.env).names.lookup x=some .cell\/(relabel scope X.env).names.lookup x=some .free:=by
     rcases Ou (env:=X.env) q3 with z|z|z
     .exact .inl z
     .exact .inr z
     .exact absurd (hl x q3) z
    refine .inr ⟨hkind,c,hc,?_⟩
    rcases lk with⟨k,_⟩|⟨_,c',e',z⟩
    .rcases S.free (x,.free) q3 rfl with z|z
     .have k':X.env.scope.names.lookup x=some .local:=k
      rw[z]at k';cases k'
     .have k':X.env.scope.names.lookup x=some .local:=k
      rw[z]at k';cases k'
    .have:=h1 x c hc
     rw[e']at this;cases this
     obtain⟨o,ho,hd⟩:=z
     exact⟨o,hk _ _ ho,hd⟩
 cell:=fun x c e=>by
  obtain⟨v,o,ho,hd⟩:=I.cell x c (h1 x c e)
  exact⟨v,o,hk _ _ ho,hd⟩
 free:=I.hok.fresh hC
 freeC:=fun x c e=>I.freeC x c (h1 x c e)
 pin:=fun p hp=>by
  have hp':p∈X.pn++pins:=by simpa[CD] using hp
  obtain⟨e,n,ne,nf,d⟩:=I.pin p hp'
  refine⟨hk _ _ e,n,Bu (BJ (B5 e) hC),fun z=>?_,d⟩
  rcases Bv.mp (I.stkSub p.1 z) with q|q
  .exact ne q
  .exact nf q
 hok:=I.hok.kept hk
 len:=by
  show(Bl ρ σ).length=N'.length
  unfold Bl
  rw[Aq];exact hρ.1
end
theorem BC.track {P:Program}{w:World}{H:Hp}{h:Heap}{D:Addr}{o:HO}(x:BC P w H h)(n:H D=none)(new:BL P w (upd H D o) h D o):BC P w (upd H D o) h:=fun b u e=>by
 by_cases hb:b=D
 .subst hb;rw[A6]at e;cases e;exact new
 .rw[Am hb]at e
  exact(x b u e).stay (fun c v _ q=>q) (fun c q=>by rw[Am (AC q n)];exact q) fun c xs q=>by rw[Am (AC q n)];exact q
section
variable {prog:Program}{w:World}{A:Around}{R:Result->Shared->Prop}{s:Shared}
theorem Po {elt target iter:Expr}{ifs:List Expr}{scope:Scope}{pos:Pos}{it acc:Value}{env:Env}(I:Nat->Shared->Prop)
  (turn:∀n s,I n s->wpAny (model prog w) A (pyNext it) (fun r s₁=>match r with
   |none=>R (.ok .next) s₁
   |some v=>wpAny (model prog w) A (letOwnedTupleGo target it v) (fun _ s₁'=>wpAny (model prog w) A (assign target env v) (fun _ s₂=>
    wpAny (model prog w) A (forIn ifs true fun c r=>if r=true then do let ok ←isTrue c env (eval c env);pure (ForInStep.yield ok) else pure (ForInStep.yield r)) (fun ok s₃=>
     if ok=true then wpAny (model prog w) A (eval elt env) (fun x s₄=>
      wpAny (model prog w) A (call (.builtin "list.append") [acc,x]) (fun _ s₅=>∃m,m<n/\I m s₅) (fun _ _=>False) s₄) (fun _ _=>False) s₃
     else ∃m,m<n/\I m s₃) (fun _ _=>False) s₂) (fun _ _=>False) s₁') (fun _ _=>False) s₁) (fun _ _=>False) s)
  (n:Nat) (h:I n s) :
  codeAny (model prog w) A (.compLoop (.ListComp elt [⟨target,iter,ifs,0⟩] scope pos) 0 it acc env) R s:=by
 refine codeAny_loop rfl I (fun n s hI=>?_) n h
 show wpAny _ A ((compTurn (.ListComp elt [⟨target,iter,ifs,0⟩] scope pos) 0 it acc env).onRaise (fun x=>do noteFrame x env;theTreesLotGoes x)) _ _ s
 refine wpAny_noted ?_
 rw[compTurn_list]
 refine Ao (Nw (Ao (E6 (turn n s hI) (fun r s₁ h₁=>?_) fun _ _ h'=>h'.elim)))
 cases r with
 |none=>exact AY h₁
 |
  some v=>
  refine Ao (E6 h₁ (fun _ s₁' h₁=>?_) fun _ _ h'=>h'.elim)
  refine Ao (E6 h₁ (fun _ s₂ h₂=>Ao (E6 h₂ (fun ok s₃ h₃=>?_) fun _ _ h'=>h'.elim)) fun _ _ h'=>h'.elim)
  cases ok with
  |false=>exact AY ⟨rfl,h₃⟩
  |
   true=>
   exact Ao (Ao (E6 h₃ (fun x s₄ h₄=>Ao (E6 h₄ (fun _ s₅ h₅=>AY (AY ⟨rfl,h₅⟩)) fun _ _ h'=>h'.elim)) fun _ _ h'=>h'.elim))
end
def Ff (X:Cx)(ifs:List Expr)(t:TT):Prop:=
 ∀(pins:List (Addr×Obj)) (s:Shared) (σ:St) (H:Hp) (Q:Bool->Hp->Prop),A4 X pins σ H s->t σ H Q->
  wpAny (model X.prog X.w) X.A (forIn ifs true fun c r=>if r=true then do let ok ←isTrue c X.env (eval c X.env);pure (ForInStep.yield ok) else pure (ForInStep.yield r)) (TP X pins σ Q) X.xe s
def Ux:TT:=fun _ H Q=>Q true H
theorem DP {X:Cx}:Ff X [] Ux:=fun _ _ _ H _ I h=>wpAny_tests_nil ⟨H,I,h⟩
theorem JO {X:Cx}{c:Expr}{t:TT}(h:PT X c t):Ff X [c] t:=fun pins s σ H Q I hw=>wpAny_tests_one (h pins s σ H Q I hw)
def J7 (ρ:List (Option Nat))(σ σ2:St):Prop:=σ2.length=ρ.length/\∀(j:Nat) v,(Bl ρ σ)[j]?=some (some v)->σ2[j]?=some (some v)
def FX (ρ:List (Option Nat))(g:TG)(tt:TT)(te:TE)(σ:St)(Q:VK)(J:It)(H1:Hp):Prop := ∃W:Nat->Nat->List V->Hp->Prop,(∃m,W 0 m [] H1)/\∀i m ys H',W i m ys H'->
 (J.stop i H'/\ys.length<=sizeLine/\∀p,H' p=none->Q (.ref p) (upd H' p (.lst ys)))\/
 (J.go i H'/\ys.length<sizeLine/\∃N:List V->Hp->Prop,(∀ys' H'',N ys' H''->∃m',m'<m/\W (i+1) m' ys' H'')/\∀x H2,J.yld i H' x H2->g x (Bl ρ σ) H2 fun σ2 H3=>J7 ρ σ σ2/\tt σ2 H3 fun ok H4=>if ok=true then te σ2 H4 fun v H5=>N (ys++[v]) H5 else N ys H4)
def FC (ρ:List (Option Nat))(wi:TI)(g:TG)(tt:TT)(te:TE):TE:=fun σ H Q=>wi σ H fun J H1=>FX ρ g tt te σ Q J H1
theorem OQ {X:Cx}{elt iter tg:Expr}{ifs:List Expr}{scope:Scope}{pos:Pos}{N':List Str}{ρ:List (Option Nat)}{wi:TI}{g:TG}{tt:TT}{te:TE}{cl:List (Str×Addr)}{RR:Value->Addr->Result->Shared->Prop}(hc:X.calm=true)(hi:PI X tg iter wi)(S:Hx scope X.env.scope)(hρ:G0 scope X.env X.N N' ρ)
  (hl:∀x,(x,NameKind.free)∈scope.names->scope.names.lookup x=some .free)
  (inner:∀(cl:List (Str×Addr)) (C:Addr) (s:Shared) (H:Hp) (fp:List Addr) (pins:List (Addr×Obj)),PG (CD X scope N' cl C s H fp pins) tg g/\Ff (CD X scope N' cl C s H fp pins) ifs tt/\PE (CD X scope N' cl C s H fp pins) elt te)
  {pins:List (Addr×Obj)} {s:Shared} {σ:St} {H:Hp} {Q:VK} (I:A4 X pins σ H s) (h:FC ρ wi g tt te σ H Q)
  (h1:∀x c,cl.lookup x=some c->X.env.cells.lookup x=some c) (h2:∀n,(n,NameKind.free)∈scope.names->∃c,cl.lookup n=some c)
  (fin:∀D C s' H' m,A4 X pins σ H' s'->Q (.ref D) H'->s'.heap.Ns C m->Dq X pins H' C->RR (.ref D) C (.ok .next) s') :
  wpAny (model X.prog X.w) X.A (eval iter X.env) (fun x s₁=>wpAny (model X.prog X.w) X.A (pyIter x) (fun it s₂=>wpAny (model X.prog X.w) X.A (newList []) (fun acc s₃=>
   wpAny (model X.prog X.w) X.A (newFunctionEnv scope X.env.globals cl [] X.env.qual none .none (some X.env)) (fun cenv s₄=>
    codeAny (model X.prog X.w) X.A (.compStart (.ListComp elt [⟨tg,iter,ifs,0⟩] scope pos) 0 it acc {cenv with scope:=relabel scope X.env}) (RR acc cenv.locals) s₄) X.xe s₃) X.xe s₂) X.xe s₁) X.xe s:=by
 refine Au (hi pins s σ H _ I h) fun v s1 h1'=>Au h1' fun itv s2 hx=>?_
 obtain⟨it,fp,tn,J,H2,e,I2,T,st2,f2,W,⟨m0,w0⟩,turn⟩:=hx
 subst e
 have hfs:∀b∈fp,b<s2.heap.objs.size:=fun b hb=>by
  obtain⟨o,e,_⟩:=T.obj _ _ st2 b hb
  exact B5 e
 refine JC (wpAny_newFunctionEnv S.cell (by intro y hy;simp at hy) (fun h₁ hns₁ hsb₁=>?_) S.kind)
 dsimp only at hns₁ hsb₁ ⊢
 generalize hH2:s2.heap.push {cls:=.type "list",dict:=none,data:=.seq ([]:List Value).toArray}=G at hns₁ hsb₁ ⊢
 have hC:G.objs.size=s2.heap.objs.size+1:=by rw[←hH2,GW]
 have hDC:s2.heap.objs.size≠G.objs.size:=by rw[hC];exact Bu (Ln _)
 have hCle:s2.heap.objs.size<=G.objs.size:=by rw[hC];exact GX _
 have old:∀b o,s2.heap.get? b=some o->h₁.get? b=some o:=fun b o e=>hsb₁.extBut b o (Bu (BJ (B5 e) hCle)) (Bk _ (hH2▸Bk _ e))
 have hacc:h₁.get? s2.heap.objs.size=some {cls:=.type "list",dict:=none,data:=.seq ([]:List Value).toArray}:=hsb₁.extBut _ _ hDC (Bk _ (hH2▸CF _ rfl))
 have hns₂:h₁.Ns G.objs.size (fun _=>none):=hns₁
 generalize hXX:CD X scope N' cl G.objs.size s2 H2 fp pins=XX at *
 have IN:∀(tk:Nat),A4 XX [] (Bl ρ σ) H2 {s2 with heap:=h₁,toks:=tk}:=fun tk=>hXX▸Uo (N':=N') I2 S hρ f2 h1 h2 hCle hfs hns₂ old hl
 obtain⟨pg,pt,pe⟩:=inner cl G.objs.size s2 H2 fp pins
 rw[hXX]at pg pt pe
 have eP:XX.prog=X.prog:=by rw[←hXX];rfl
 have eW:XX.w=X.w:=by rw[←hXX];rfl
 have eK:XX.K=X.K:=by rw[←hXX];rfl
 have eA:XX.A=X.A:=by rw[←hXX];rfl
 have eE:XX.env=compEnvC scope cl G.objs.size X.env:=by rw[←hXX];rfl
 have eL:XX.env.locals=G.objs.size:=by rw[eE];rfl
 have ec:XX.calm=true:=by rw[←hXX];exact hc
 have ex:XX.xe=fun _ _=>False:=by rw[←hXX];rfl
 have es0:XX.s₀=s2:=by rw[←hXX];rfl
 have eex:XX.ex=fp:=by rw[←hXX];rfl
 have efs:XX.fs=DJ X.stack:=by rw[←hXX];rfl
 have eH0:XX.H₀=H2:=by rw[←hXX];rfl
 have epn:XX.pn=X.pn++pins:=by rw[←hXX];rfl
 have ecl:XX.env.cells=cl:=by rw[eE];rfl
 have stat:∀{H':Hp} {ps:List (Addr×Obj)},(∀b∈fp,H' b=none)->(∀p∈ps,p.1=s2.heap.objs.size)->∀b∈fp,Dq XX ps H' b:=fun{H' ps} hn hp b hb=>by
  refine⟨hn b hb,?_,?_,?_,?_,?_⟩
  .rw[eL];exact Bu (BJ (hfs b hb) hCle)
  .rw[efs]
   intro z
   rcases Bv.mp (I2.stkSub b z) with q|q
   .exact(f2 b hb).2.1 q
   .exact(f2 b hb).2.2.1 q
  .rw[eex];exact .inl hb
  .rw[ecl];exact fun x c e=>(f2 b hb).2.2.2.2.1 x c (h1 x c e)
  .intro p hp' z
   rw[epn]at hp'
   rcases Co.mp hp' with q|q
   .exact(f2 b hb).2.2.2.2.2 p q z
   .rw[hp p q]at z
    exact absurd (hfs b hb) (by rw[z];exact Dd _)
 have nofsD:s2.heap.objs.size∉XX.fs:=by
  rw[efs];intro z
  rcases Bv.mp (I2.stkSub _ z) with q|q
  .exact absurd I2.lt (by rw[←q];exact Dd _)
  .exact I2.nofs (Ap _) q
 have pinD:∀{σ':St} {H':Hp} {s':Shared} {its:List Value} {n:Nat},A4 XX [] σ' H' s'->H' s2.heap.objs.size=none->s'.heap.get? s2.heap.objs.size=some {cls:=.type "list",data:=.seq its.toArray n}->
   A4 XX [(s2.heap.objs.size,{cls:=.type "list",data:=.seq its.toArray n})] σ' H' s':=fun{σ' H' s' its n} I' hn ho=>I'.pins_of fun p hp=>by
  have e:p=(s2.heap.objs.size,{cls:=.type "list",data:=.seq its.toArray n}):=by simpa using hp
  subst e
  refine⟨ho,hn,by rw[eL];exact hDC,nofsD,fun v z=>?_⟩
  have z':Data.seq its.toArray n=Data.cell v:=z
  cases z'
 have loop:∀s₃:Shared,(∃tk,s₃={s2 with heap:=h₁,toks:=tk})->
   codeAny (model X.prog X.w) X.A (.compLoop (.ListComp elt [⟨tg,iter,ifs,0⟩] scope pos) 0 (.ref it) (.ref s2.heap.objs.size) (compEnvC scope cl G.objs.size X.env)) (RR (.ref s2.heap.objs.size) G.objs.size) s₃:=by
  rintro s₃ ⟨tk,rfl⟩
  refine Po (fun n s'=>∃i ys its k H',A4 XX [] (Bl ρ σ) H' s'/\tn i s'.heap/\(∀b∈fp,H' b=none)/\H' s2.heap.objs.size=none/\Ay ys its/\
   s'.heap.get? s2.heap.objs.size=some {cls:=.type "list",data:=.seq its.toArray k}/\W i n ys H') ?_ m0
   ⟨0,[],[],0,H2,IN tk,T.keep _ _ _ st2 fun b _ o e=>old b o e,fun b hb=>(f2 b hb).1,I2.hok.fresh (Ap _),.nil,hacc,w0⟩
  rintro n s3 ⟨i,ys,its,k,H3,I3,st3,fr3,hD3,rv,ho3,w3⟩
  rcases turn i n ys H3 w3 with⟨stop,hz,qn⟩|⟨go,hz,N,hN,step⟩
  .have I3p:=pinD I3 hD3 ho3
   have q:=T.done XX eP eW eK ec i _ s3 (Bl ρ σ) H3 (fun _ _=>False) I3p (stat fr3 (by simp)) st3 stop
   rw[eA]at q
   refine Au q fun r s4 zz=>?_
   obtain⟨hr,I4⟩:=zz
   subst hr
   have ho4:=(I4.pin (s2.heap.objs.size,{cls:=.type "list",data:=.seq its.toArray k}) (by simp)).1
   obtain⟨m,hm,_⟩:=I4.loc
   rw[eL]at hm
   have hun:Un (DJ X.stack) fp H2 (upd H3 s2.heap.objs.size (.lst ys)) s2.heap s4.heap:=by
    have u:=I4.base
    rw[efs,eex,eH0,es0]at u
    refine⟨u.keep,u.slot,fun b o e n hx=>?_,u.there,fun b xs e=>?_,fun b o xs e=>?_,fun b ps e=>?_⟩
    .rw[Am (Bu (B5 e))];exact u.free b o e n hx
    .have q:=u.tups b xs e
     rw[Am (AC q hD3)];exact q
    .have q:=u.frzs b o xs e
     rw[Am (AC q hD3)];exact q
    .obtain⟨more,q⟩:=u.tbls b ps e
     exact⟨more,by rw[Am (AC q hD3)];exact q⟩
   have hok:BC X.prog X.w (upd H3 s2.heap.objs.size (.lst ys)) s4.heap:=by
    have q:=I4.hok
    rw[eP,eW]at q
    exact q.track hD3 ⟨hz,its,k,rv,ho4⟩
   have hfr:∀b∈fp,(b∈X.ex\/X.s₀.heap.objs.size<=b)/\b≠X.env.locals/\(∀x c,X.env.cells.lookup x=some c->c≠b)/\∀p∈X.pn++pins,p.1≠b:=fun b hb=>⟨(f2 b hb).2.2.2.1,(f2 b hb).2.1,(f2 b hb).2.2.2.2.1,(f2 b hb).2.2.2.2.2⟩
   have IO:A4 X pins σ (upd H3 s2.heap.objs.size (.lst ys)) s4:=I2.call' (by have:=I4.os;rw[es0]at this;exact this) hun hok I4.bare hfr
   refine fin _ _ s4 _ m IO (qn _ hD3) hm (I2.fpOk hCle ?_)
   rw[Am (Ne.symm hDC)]
   have:=I4.free
   rw[eL]at this
   exact this
  .have I3p:=pinD I3 hD3 ho3
   have q:=T.item XX eP eW eK ec i _ s3 (Bl ρ σ) H3 (fun _ _=>False) I3p (stat fr3 (by simp)) st3 go
   rw[eA]at q
   refine Au q fun r s4 zz=>?_
   obtain⟨u,hr,h4⟩:=zz
   subst hr
   refine Au h4 fun _ s5 zz=>?_
   obtain⟨x,H5,I5,r5,y5,st5,fr5⟩:=zz
   have I5':=I5.pinned (stat fr5 (by simp)) (T.obj _ _ st5)
   have qa:=pg _ s5 (Bl ρ σ) H5 x u _ I5' r5 (step x H5 y5)
   rw[eP,eW,eA,eE,ex]at qa
   refine Au qa fun _ s6 zz=>?_
   obtain⟨σ6,H6,I6,⟨ou1,ou2⟩,q6⟩:=zz
   have hw6:(Bl ρ σ).length=σ6.length:=by rw[ou1];unfold Bl;rw[Aq]
   have qt:=pt _ s6 σ6 H6 _ I6 q6
   rw[eP,eW,eA,eE,ex]at qt
   refine Au qt fun ok s7 zz=>?_
   obtain⟨H7,I7,q7⟩:=zz
   have back:∀{s8:Shared} {H8:Hp},A4 XX ([(s2.heap.objs.size,{cls:=.type "list",data:=.seq its.toArray k})]++GI fp s5.heap) σ6 H8 s8->tn (i+1) s8.heap/\(∀b∈fp,H8 b=none)/\H8 s2.heap.objs.size=none/\
     s8.heap.get? s2.heap.objs.size=some {cls:=.type "list",data:=.seq its.toArray k}:=fun{s8 H8} I8=>by
    refine⟨T.keep _ _ _ st5 fun b hb o e=>(I8.pin (b,o) (Dz _ (Dz _ (Gi hb e)))).1,fun b hb=>?_,?_,?_⟩
    .obtain⟨o,e,d⟩:=T.obj _ _ st5 b hb
     exact(I8.pin (b,o) (Dz _ (Dz _ (Gi hb e)))).2.1
    .exact(I8.pin (s2.heap.objs.size,{cls:=.type "list",data:=.seq its.toArray k}) (by simp)).2.1
    .exact(I8.pin (s2.heap.objs.size,{cls:=.type "list",data:=.seq its.toArray k}) (by simp)).1
   cases ok with
   |
    false=>
    obtain⟨m',hm,w7⟩:=hN _ _ q7
    obtain⟨b1,b2,b3,b4⟩:=back I7
    exact⟨m',hm,i+1,ys,its,k,H7,(I7.pins_of (pins':=[]) (fun _ z=>nomatch z)).weak hw6 ou2,b1,b2,b3,rv,b4,w7⟩
   |
    true=>
    have qe:=pe _ s7 σ6 H7 _ I7 q7
    rw[eP,eW,eA,eE,ex]at qe
    refine Au qe fun y s8 zz=>?_
    obtain⟨v8,H8,I8,r8,n8⟩:=zz
    obtain⟨m',hm,w8⟩:=hN _ _ n8
    obtain⟨b1,b2,b3,b4⟩:=back I8
    have hlen:=rv.length
    refine Gc F.slot_list_append ⟨_,b4,rfl⟩ F.entry_list_append (F.args_list_append_2 _ _) (Qv s2.heap.objs.size its.toArray k y (by rw[Bi];lia)) ⟨b4,?_⟩
    have qL:=Qu b4 (fun xs=>xs.push y)
    have I8':A4 XX [] σ6 H8 s8:=I8.pins_of (fun _ z=>nomatch z)
    have I9:A4 XX [] σ6 H8 {s8 with heap:=s8.heap.update s2.heap.objs.size (Obj.mapSeq fun xs=>xs.push y),toks:=s8.toks}:=I8'.turned (it:=s2.heap.objs.size) (fun b o hb e=>(Jr s8.heap _ (Ne.symm hb)).trans e) b3
     (by rw[eL];exact hDC) (.inr (by rw[es0];exact Ap _)) (by
      rw[ecl];intro x c e z
      obtain⟨v,qc⟩:=I2.cell x c (h1 x c e)
      exact absurd qc.lt (by rw[z];exact Dd _)) (by
      intro p hp z
      have hp':p∈X.pn++pins:=by rw[epn]at hp;simpa using hp
      exact absurd (B5 (I2.pin p hp').1) (by rw[z];exact Dd _))
    have hnd:s2.heap.objs.size∉fp:=fun z=>Dd _ (hfs _ z)
    rw[show its.toArray.push y=(its++[y]).toArray by simp]at qL
    refine⟨m',hm,i+1,ys++[v8],its++[y],_,H8,I9.weak hw6 ou2,T.keep _ _ _ b1 fun b hb o e=>(Jr s8.heap _ (by rintro rfl;exact hnd hb)).trans e,b2,b3,rv.append (.cons r8 .nil),qL,w8⟩
 refine codeAny_compStart_list (loop _ ⟨_,rfl⟩) (T.self X.A 0 _ _ _ (T.keep _ _ _ st2 fun b _ o e=>old b o e) (loop _ ⟨_,rfl⟩))
theorem Tf {X:Cx}{elt iter tg:Expr}{ifs:List Expr}{scope:Scope}{pos:Pos}(N':List Str)(ρ:List (Option Nat)){wi:TI}{g:TG}{tt:TT}{te:TE}(hc:X.calm=true)(hi:PI X tg iter wi)(S:Hx scope X.env.scope)(hρ:G0 scope X.env X.N N' ρ)
  (hl:∀x,(x,NameKind.free)∈scope.names->scope.names.lookup x=some .free)
  (inner:∀(cl:List (Str×Addr)) (C:Addr) (s:Shared) (H:Hp) (fp:List Addr) (pins:List (Addr×Obj)),PG (CD X scope N' cl C s H fp pins) tg g/\Ff (CD X scope N' cl C s H fp pins) ifs tt/\PE (CD X scope N' cl C s H fp pins) elt te)
  (hs:∀x,foldedSetIterable iter X.env x=pure x:=by intro _;rfl):PE X (.ListComp elt [⟨tg,iter,ifs,0⟩] scope pos) (FC ρ wi g tt te):=by
 intro pins s σ H Q I h
 obtain⟨cl,hcl,h1,h2⟩:=M5 (scope:=scope) (env:=X.env) (fun n hn=>I.ok.has n (S.free (n,.free) hn rfl))
 rw[eval_ListComp]
 refine QH (use:=none) rfl hs hcl S.kind S.loc ?_
 refine OQ (RR:=fun acc C=>compPost (model X.prog X.w) X.A X.xe none (EP X pins σ Q) acc C) hc hi S hρ hl inner I h h1 h2 ?_
 intro D C s' H' m I' q hm hf
 refine⟨m,hm,fun h' sb=>⟨.ref D,H',?_,rfl,q⟩⟩
 exact I'.turned (t':=s'.toks) (fun b o hb e=>(sb.2 b hb).trans e) hf.1 hf.2.1 hf.2.2.2.1 hf.2.2.2.2.1 hf.2.2.2.2.2
theorem VE {X:Cx}{elt iter tg:Expr}{ifs:List Expr}{scope:Scope}{pos pos' spos:Pos}{i:Nat}{x:Str}(N':List Str)(ρ:List (Option Nat)){wi:TI}{g:TG}{tt:TT}{te:TE}(hN:X.N.Nodup)(hix:X.N[i]?=some x)(hx:Gj X.env.scope x)
  (hc:X.calm=true) (hi:PI X tg iter wi) (S:Hx scope X.env.scope) (hρ:G0 scope X.env X.N N' ρ)
  (hl:∀x,(x,NameKind.free)∈scope.names->scope.names.lookup x=some .free)
  (inner:∀(cl:List (Str×Addr)) (C:Addr) (s:Shared) (H:Hp) (fp:List Addr) (pins:List (Addr×Obj)),PG (CD X scope N' cl C s H fp pins) tg g/\Ff (CD X scope N' cl C s H fp pins) ifs tt/\PE (CD X scope N' cl C s H fp pins) elt te)
  (hsw:swapsWith (.ListComp elt [⟨tg,iter,ifs,0⟩] scope pos) (some (.Name x pos')) spos.line X.env=pure true:=by rfl)
  (hs:∀x,foldedSetIterable iter X.env x=pure x:=by intro _;rfl) (hf:X.fn x=true\/X.env.scope.names.lookup x=some .local:=by first|exact .inl rfl|exact .inr rfl|assumption) :
  PS X (.Assign [.Name x pos'] (.ListComp elt [⟨tg,iter,ifs,0⟩] scope pos) spos) (Jg (FC ρ wi g tt te) (Ag i)):=by
 intro pins s σ H Dn I h
 obtain⟨cl,hcl,h1,h2⟩:=M5 (scope:=scope) (env:=X.env) (fun n hn=>I.ok.has n (S.free (n,.free) hn rfl))
 rw[exec_Assign_Name_used _ _ _ _ hsw]
 refine Ao (Nw (Ao ?_))
 show wpAny _ X.A (do let _ ←comprehension (.ListComp elt [⟨tg,iter,ifs,0⟩] scope pos) scope X.env _ (newList []) false (eval iter X.env) (some (assign (.Name x pos') X.env))) _ _ s
 refine Ao (E6 (QH (use:=some (assign (.Name x pos') X.env)) (Q:=fun _ s'=>SP X pins Dn .next s') rfl hs hcl S.kind S.loc ?_) (fun _ s' hq=>AY (AY hq)) fun _ _ e=>e)
 refine OQ (RR:=fun acc C=>compPost (model X.prog X.w) X.A X.xe (some (assign (.Name x pos') X.env)) (fun _ s'=>SP X pins Dn .next s') acc C) hc hi S hρ hl inner I h h1 h2 ?_
 intro D C s' H' m I' q hm hfC
 obtain⟨oC,es,ep,hoC,hr⟩:=id hm
 have pin:A4 X (pins++GI [C] s'.heap) σ H' s':=I'.pinned (fun b hb=>by
  have e:b=C:=by simpa using hb
  subst e
  exact hfC) (fun b hb=>by
  have e:b=C:=by simpa using hb
  subst e
  exact⟨oC,hoC,fun v z=>by rw[hr.1]at z;cases z⟩)
 show wpAny _ X.A (assign (.Name x pos') X.env (.ref D)) _ _ _
 refine wpAny_assign_Name ?_
 refine Li (M:=model X.prog X.w) (A:=X.A) (E:=X.xe) pin hN hix hx (v:=.ref D) (u:=.ref D) rfl (fun s'' I''=>?_) hf
 have pC:=(I''.pin (C,oC) (Dz _ (Dz _ (Gi (by simp) hoC))))
 refine⟨m,⟨oC,es,ep,pC.1,hr⟩,fun h' sb=>⟨_,H',?_,q⟩⟩
 have I2:A4 X pins (σ.set i (some (.ref D))) H' s'':=I''.unpinned
 exact I2.turned (t':=s''.toks) (fun b o hb e=>(sb.2 b hb).trans e) hfC.1 hfC.2.1 hfC.2.2.2.1 hfC.2.2.2.2.1 hfC.2.2.2.2.2
theorem Jm (σ:St)(o:Option Nat)(ρ:List (Option Nat)):Bl (o::ρ) σ=(match o with|some i=>(σ[i]?).getD none|none=>none)::Bl ρ σ:=rfl
theorem Yn {ρ:List (Option Nat)}{σ:St}(o:Option V):J7 (none::ρ) σ (o::Bl ρ σ):=by
 refine⟨by unfold Bl;simp,fun j v e=>?_⟩
 cases j with
 |zero=>rw[Jm]at e;simp at e
 |succ j=>rw[Jm]at e;simpa using e
theorem Py {ρ:List (Option Nat)}{σ:St}(o o':Option V):J7 (none::none::ρ) σ (o::o'::Bl ρ σ):=by
 refine⟨by unfold Bl;simp,fun j v e=>?_⟩
 cases j with
 |zero=>rw[Jm]at e;simp at e
 |
  succ j=>
  rw[Jm,Jm]at e
  cases j with
  |zero=>simp at e
  |succ j=>simpa using e
theorem JN {J:It}{n:Nat}{X:Nat->V->Prop}{ρ:List (Option Nat)}{tt:TT}{te:TE}{σ:St}{H:Hp}{Q:VK}(Pv:Nat->List V->Hp->Prop)(h0:Pv 0 [] H)(hlen:n<=sizeLine)
  (hy:∀i ys H,i<=n->Pv i ys H->ys.length<=i) (hgo:∀i ys H,i<n->Pv i ys H->J.go i H) (hyl:∀i ys H x H',i<n->Pv i ys H->J.yld i H x H'->H'=H/\X i x) (hst:∀ys H,Pv n ys H->J.stop n H)
  (hs:∀i x ys H,i<n->X i x->Pv i ys H->tt (some x::Bl ρ σ) H fun ok H4=>if ok=true then te (some x::Bl ρ σ) H4 fun v H5=>Pv (i+1) (ys++[v]) H5 else Pv (i+1) ys H4)
  (hd:∀ys H,Pv n ys H->∀p,H p=none->Q (.ref p) (upd H p (.lst ys))) :
  FX (none::ρ) (Ag 0) tt te σ Q J H:=by
 refine⟨fun i m ys H=>m=n-i/\i<=n/\Pv i ys H,⟨n,by simp,BN _,h0⟩,?_⟩
 rintro i m ys H ⟨rfl,hi,p⟩
 have hl:=hy i ys H hi p
 by_cases hlt:i<n
 .refine .inr ⟨hgo i ys H hlt p,by lia,Pv (i+1),fun ys' H'' p'=>⟨n-(i+1),by lia,rfl,hlt,p'⟩,fun x H' y=>?_⟩
  obtain⟨e,y2⟩:=hyl i ys H x H' hlt p y
  subst e
  exact⟨Yn _,hs i x ys _ hlt y2 p⟩
 .have e:i=n:=by lia
  subst e
  exact .inl ⟨hst ys H p,by lia,hd ys H p⟩
theorem Me {K:YO}{a:Addr}{xs:List V}{ρ:List (Option Nat)}{tt:TT}{te:TE}{σ:St}{H:Hp}{Q:VK}(Pv:Nat->List V->Hp->Prop)(h0:Pv 0 [] H)(hlen:xs.length<=sizeLine)(hl:∀i ys H,i<=xs.length->Pv i ys H->A3 K H a xs/\ys.length<=i)
  (hs:∀i x ys H,xs[i]?=some x->Pv i ys H->tt (some x::Bl ρ σ) H fun ok H4=>if ok=true then te (some x::Bl ρ σ) H4 fun v H5=>Pv (i+1) (ys++[v]) H5 else Pv (i+1) ys H4)
  (hd:∀ys H,Pv xs.length ys H->∀p,H p=none->Q (.ref p) (upd H p (.lst ys))) :
  FX (none::ρ) (Ag 0) tt te σ Q (Hz K a) H:=
 JN (n:=xs.length) (X:=fun i x=>xs[i]?=some x) Pv h0 hlen (fun i ys H hi p=>(hl i ys H hi p).2) (fun i ys H hi p=>⟨xs,xs[i],(hl i ys H (EG hi) p).1,by simp[hi]⟩) (fun i ys H x H' hi p y=>⟨y.1,y.2 xs (hl i ys H (EG hi) p).1⟩)
  (fun ys H p=>⟨xs,(hl _ ys H (Ap _) p).1,Ap _⟩) (fun i x ys H _ e p=>hs i x ys H e p) hd
theorem G5 {K:YO}{a:Addr}{xs:List V}{ρ:List (Option Nat)}{tt:TT}{te:TE}{σ:St}{H:Hp}{Q:VK}(Pv:Nat->List V->Hp->Prop)(h0:Pv 0 [] H)(hlen:xs.length<=sizeLine)(hl:∀i ys H,i<=xs.length->Pv i ys H->A5 K H a xs/\ys.length<=i)
  (hs:∀i x ys H,xs[i]?=some x->Pv i ys H->tt (some x::Bl ρ σ) H fun ok H4=>if ok=true then te (some x::Bl ρ σ) H4 fun v H5=>Pv (i+1) (ys++[v]) H5 else Pv (i+1) ys H4)
  (hd:∀ys H,Pv xs.length ys H->∀p,H p=none->Q (.ref p) (upd H p (.lst ys))) :
  FX (none::ρ) (Ag 0) tt te σ Q (Gy K a) H:=
 JN (n:=xs.length) (X:=fun i x=>xs[i]?=some x) Pv h0 hlen (fun i ys H hi p=>(hl i ys H hi p).2) (fun i ys H hi p=>⟨xs,xs[i],(hl i ys H (EG hi) p).1,by simp[hi]⟩) (fun i ys H x H' hi p y=>⟨y.1,y.2 xs (hl i ys H (EG hi) p).1⟩)
  (fun ys H p=>⟨xs,(hl _ ys H (Ap _) p).1,Ap _⟩) (fun i x ys H _ e p=>hs i x ys H e p) hd
theorem Jk {lo:Int}{n:Nat}{ρ:List (Option Nat)}{tt:TT}{te:TE}{σ:St}{H:Hp}{Q:VK}(Pv:Nat->List V->Hp->Prop)(h0:Pv 0 [] H)(hlen:n<=sizeLine)(hl:∀i ys H,i<=n->Pv i ys H->ys.length<=i)
  (hs:∀i ys H,i<n->Pv i ys H->tt (some (.int (lo+i))::Bl ρ σ) H fun ok H4=>if ok=true then te (some (.int (lo+i))::Bl ρ σ) H4 fun v H5=>Pv (i+1) (ys++[v]) H5 else Pv (i+1) ys H4)
  (hd:∀ys H,Pv n ys H->∀p,H p=none->Q (.ref p) (upd H p (.lst ys))) :
  FX (none::ρ) (Ag 0) tt te σ Q (GM lo n) H:=
 JN (n:=n) (X:=fun i x=>x = .int (lo+i)) Pv h0 hlen hl (fun i ys H hi p=>hi) (fun i ys H x H' hi p y=>y) (fun ys H p=>Ap _) (fun i x ys H hi e p=>by subst e;exact hs i ys H hi p) hd
abbrev AS (x:Str):List Nat:=x.cps.toList
theorem PJ (x:Str):(AS x).length=x.length:=by simp[AS,Str.length]
theorem J6 {x y:Str}(h:AS x=AS y):x=y:=StrLaws.mk_of_toList (x:=x) h▸(StrLaws.mk_of_toList (x:=y) rfl).symm
theorem GS (x y:Str):AS (x++y)=AS x++AS y:=by simp[AS,Str.cps_append]
theorem SH (l:List Nat):AS ⟨l.toArray⟩=l:=by simp[AS]
def Bn (l:List Nat):Str:=⟨l.toArray⟩
theorem CZ (l:List Nat):AS (Bn l)=l:=by simp[AS,Bn]
theorem ON (x:Str):Bn (AS x)=x:=J6 (CZ _)
def F3 {α:Type}(xs:List α)(lo hi:Option Int):List α:=(xs.drop (HT.sIx xs.length 0 lo)).take (HT.sIx xs.length xs.length hi-HT.sIx xs.length 0 lo)
theorem Pj (n:Nat)(i:Int)(k:Nat):max 0 (min (if i<0 then i+(n:Int) else i) (n:Int))=((HT.sIx n k (some i):Nat):Int):=by
 unfold HT.sIx
 dsimp only
 split<;>lia
theorem Rb (lo hi:Option Int)(n:Nat):Builtin.Str.strSliceIndices lo hi 1 n=(List.range (HT.sIx n n hi-HT.sIx n 0 lo)).map (fun k=>HT.sIx n 0 lo+k):=by
 have e:Builtin.Str.strSliceIndices lo hi 1 n=sliceRange ((HT.sIx n 0 lo:Nat):Int) ((HT.sIx n n hi:Nat):Int) 1:=by
  unfold Builtin.Str.strSliceIndices
  simp only[show((1:Int)>0)=True by simp,Gb]
  congr 1
  .cases lo with
   |none=>rfl
   |some i=>exact Pj n i 0
  .cases hi with
   |none=>rfl
   |some i=>exact Pj n i n
 rw[e]
 unfold sliceRange
 simp only[show((1:Int)>0)=True by simp,Gb]
 generalize HT.sIx n 0 lo=a
 generalize HT.sIx n n hi=b
 by_cases h:(a:Int)<b
 .rw[Ax h,show(((b:Int)-a+1-1)/1).toNat=b-a by simp<;>lia]
  refine Qw fun k _=>?_
  lia
 .rw[As h,show b-a=0 by lia]
  rfl
theorem WR (x:Str)(lo hi:Option Int):AS (Txt.slice x lo hi)=F3 (AS x) lo hi:=by
 unfold Txt.slice F3
 have hl:=PJ x
 rw[hl,Rb]
 have b1:=HT.sIx_le x.length 0 (BN _) lo
 have b2:=HT.sIx_le x.length x.length (Ap _) hi
 generalize HT.sIx x.length 0 lo=a at *
 generalize HT.sIx x.length x.length hi=b at *
 split
 .rename_i h
  have hb:b-a=x.length:=by simpa using h
  have ha:a=0:=by lia
  subst ha
  rw[Nl,hb,←hl,DS]
 .by_cases hab:a<=b
  .have q:=StrLaws.picks (AS x) (b-a) a (by lia)
   have q2:(List.filterMap (fun x_1=>x.cps[x_1]?) (List.map (fun k=>a+k) (List.range (b-a))))=List.filterMap (fun x_1=>(AS x)[x_1]?) (List.map (fun k=>a+k) (List.range (b-a))):=by
    simp[AS]
   rw[SH,q2,q]
  .rw[show b-a=0 by lia]
   simp[AS]
section
variable {X:Cx}
def Rq:V->Option Int->Option Int->Hp->VK->Prop:=fun x lo hi H Q=>∃z,x = .str z/\z.length<=sizeLine/\Q (.str (Bn (F3 (AS z) lo hi))) H
theorem Mn:Jf X Rq:=by
 intro pins s σ H x v vl vu lo hi sl Q I rx hs pl pu h
 obtain⟨z,rfl,hz,q⟩:=h
 obtain⟨t,rfl⟩:=rx
 rw[←WR,ON]at q
 refine⟨"str",_,F.slot_str_getitem.lookup,typeIs_str _ _ _,?_⟩
 have go:∀(l u:Option (Int×Tok)),l.map (·.1)=lo->u.map (·.1)=hi->s.heap.IsSlice sl l u none->wpAny (model X.prog X.w) X.A (getItem (.str z t) (.ref sl)) (EP X pins σ Q) X.xe s:=fun l u e1 e2 hS=>by
  subst e1 e2
  exact wpAny_getItem_str_slice hS rfl (post_val_or_str ⟨E3 (Txt.slice_le z _ _) hz,fun t' k=>⟨.str _,H,I.tok _,⟨_,rfl⟩,q⟩⟩)
 cases pl with
 |
  none=>
  cases pu with
  |none=>exact go none none rfl rfl hs
  |int j u=>exact go none (some (j,u)) rfl rfl hs
 |
  int i t'=>
  cases pu with
  |none=>exact go (some (i,t')) none rfl rfl hs
  |int j u=>exact go (some (i,t')) (some (j,u)) rfl rfl hs
def Wt (K:YO):V->List V->Hp->VK->Prop:=fun x xs H Q=>∃z p ys,x = .str z/\xs=[.ref p]/\(A5 K H p (ys.map V.str)\/A3 K H p (ys.map V.str))/\(ys.map (·.length)).sum+ys.length*z.length<=16777216/\Q (.str (Txt.join z ys)) H
theorem M4:∀{ys:List Str} {us:List Value},Ay (ys.map V.str) us->StrsAre us ys
 |[],_,.nil=>.nil
 |
  y::ys,_,.cons r t=>by
  obtain⟨k,rfl⟩:=r
  exact .cons y k (M4 t)
theorem S2:Mw X "str.join" (Wt X.K):=by
 intro pins s σ H x xs v us Q I rx rv h
 obtain⟨z,p,ys,rfl,rfl,hq,hz,q⟩:=h
 obtain⟨t,rfl⟩:=rx
 obtain⟨u,rfl,ru⟩:=rv.one
 cases ru
 rcases hq with hq|hq
 .obtain⟨its,r,pl,_⟩:=I.list hq
  exact join_list pl.isList (by simpa using M4 r) hz fun t' k=>⟨.str _,H,I.tok _,⟨_,rfl⟩,q⟩
 .obtain⟨its,r,pl,_⟩:=I.tuple hq
  exact join_tuple pl (by simpa using M4 r) hz fun t' k=>⟨.str _,H,I.tok _,⟨_,rfl⟩,q⟩
end
def LN (z:Str):It:=⟨fun i _=>i<(AS z).length,fun i H x H'=>H'=H/\∃c,(AS z)[i]?=some c/\x = .str ⟨#[c]⟩,fun i _=>(AS z).length<=i⟩
theorem Q8 {P:Program}{w:World}{K:YO}{tg:Expr}(it:Addr)(z:Str)(t:Tok)(ty:String)(hty:ty="str_ascii_iterator"\/ty="str_iterator"):G3 P w K tg (LN z) [it] it (fun i h=>h.IsStrIter it ty z t i) where
 mem:=by simp
 obj:=fun i h st b hb=>by
  have e:b=it:=by simpa using hb
  subst e
  obtain⟨o,e,c,d⟩:=st
  exact⟨o,e,fun v z=>by rw[d]at z;cases z⟩
 keep:=fun i h h' st k=>let ⟨o,ho,r⟩:=st;⟨o,k it (by simp) o ho,r⟩
 item:=by
  intro X hP hw hK hc i pins s σ H E I hf st hg
  subst hP hw hK
  obtain⟨f0,f1,f2,f3,f4,f5⟩:=hf it (by simp)
  have hlt:i<z.cps.size:=by have:i<(AS z).length:=hg;simpa[AS] using this
  have W:Walks X.prog X.w X.A it [it] [it] z.cps.size (SignAt z) (fun i h=>h.IsStrIter it ty z t i):=by
   rcases hty with rfl|rfl
   .exact Walks.strAscii (I.ok.hd hc) it z t
   .exact Walks.strWide (I.ok.hd hc) it z t
  refine W.item i s _ _ hlt st fun v h' tk hv st' kk=>?_
  obtain⟨c,u,hcu,rfl⟩:=hv
  have I1:A4 X pins σ H {s with heap:=h',toks:=tk}:=I.turned (fun b o hb e=>kk b o (by simpa using hb) e) f0 f1 f3 f4 f5
  obtain⟨o,e,c1,d⟩:=id st'
  refine⟨_,rfl,Kz (s:={s with heap:=h',toks:=tk}) e c1 d (by rcases hty with rfl|rfl<;>decide) ⟨.str ⟨#[c]⟩,H,I1,⟨u,rfl⟩,⟨rfl,c,by simpa[AS] using hcu,rfl⟩,st',fun b hb=>(hf b hb).1⟩⟩
 done:=by
  intro X hP hw hK hc i pins s σ H E I hf st hg
  subst hP hw hK
  obtain⟨f0,f1,f2,f3,f4,f5⟩:=hf it (by simp)
  have hle:z.cps.size<=i:=by have:(AS z).length<=i:=hg;simpa[AS] using this
  have hn:z.cps[i]?=none:=by simp[hle]
  rcases hty with rfl|rfl
  .exact wpAny_pyNext_ascii_end (I.ok.hd hc) st hn fun h' he'=>⟨rfl,I.turned (t':=s.toks) (fun b o hb e=>he' b o hb e) f0 f1 f3 f4 f5⟩
  .exact wpAny_pyNext_wide_end (I.ok.hd hc) st hn fun h' he'=>⟨rfl,I.turned (t':=s.toks) (fun b o hb e=>he' b o hb e) f0 f1 f3 f4 f5⟩
 self:=fun _ _ _ _ _ st h=>by
  rcases hty with rfl|rfl
  .exact wpAny_pyIter_striter_ascii st h
  .exact wpAny_pyIter_striter_wide st h
def S0 (tl:TE):TI:=fun σ H R=>tl σ H fun x H1=>∃z,x = .str z/\R (LN z) H1
theorem Yy {X:Cx}{tg l:Expr}{tl:TE}(hl:PE X l tl):PI X tg l (S0 tl):=by
 intro pins s σ H R I h
 refine Au (hl pins s σ H _ I h) fun v s1 zz=>?_
 obtain⟨x,H1,I1,r1,q1⟩:=zz
 obtain⟨z,e,q⟩:=q1
 subst e
 obtain⟨t,rfl⟩:=r1
 have fin:∀b∈[s1.heap.objs.size],Dq X pins H1 b:=fun b hb=>by
  have e:b=s1.heap.objs.size:=by simpa using hb
  subst e
  exact I1.fpOk (Ap _) (I1.hok.fresh (Ap _))
 cases ha:z.cps.all (· < 128)
 .refine wpAny_pyIter_wide ha ?_
  exact⟨s1.heap.objs.size,[s1.heap.objs.size],_,_,H1,rfl,I1.kept (t':=s1.toks) fun b o e=>Bk _ e,Q8 _ z t _ (.inr rfl),⟨_,CF _ rfl,rfl,rfl⟩,fin,q⟩
 .refine wpAny_pyIter_ascii ha ?_
  exact⟨s1.heap.objs.size,[s1.heap.objs.size],_,_,H1,rfl,I1.kept (t':=s1.toks) fun b o e=>Bk _ e,Q8 _ z t _ (.inl rfl),⟨_,CF _ rfl,rfl,rfl⟩,fin,q⟩
theorem QY {z:Str}{ρ:List (Option Nat)}{tt:TT}{te:TE}{σ:St}{H:Hp}{Q:VK}(Pv:Nat->List V->Hp->Prop)(h0:Pv 0 [] H)(hlen:(AS z).length<=sizeLine)(hl:∀i ys H,i<=(AS z).length->Pv i ys H->ys.length<=i)
  (hs:∀i c ys H,(AS z)[i]?=some c->Pv i ys H->tt (some (.str ⟨#[c]⟩)::Bl ρ σ) H fun ok H4=>if ok=true then te (some (.str ⟨#[c]⟩)::Bl ρ σ) H4 fun v H5=>Pv (i+1) (ys++[v]) H5 else Pv (i+1) ys H4)
  (hd:∀ys H,Pv (AS z).length ys H->∀p,H p=none->Q (.ref p) (upd H p (.lst ys))) :
  FX (none::ρ) (Ag 0) tt te σ Q (LN z) H:=
 JN (n:=(AS z).length) (X:=fun i x=>∃c,(AS z)[i]?=some c/\x = .str ⟨#[c]⟩) Pv h0 hlen hl (fun i ys H hi p=>hi) (fun i ys H x H' hi p y=>y) (fun ys H p=>Ap _) (fun i x ys H hi ⟨c,hc,e⟩ p=>by subst e;exact hs i c ys H hc p) hd
section
variable {X:Cx}
def Yx:V->Option Value
 |.ty n=>some (.type n)
 |.ref a=>some (.ref a)
 |_=>none
theorem Fn:EC X (.builtin "isinstance") (fun xs H Q=>∃x c t cv b,xs=[x,c]/\Yx c=some cv/\El X.K H x t/\PySem.W.kitOne X.K t cv=some b/\Q (.bl b) H):=by
 intro pins s σ H xs us Q I r h
 obtain⟨x,c,t,cv,b,rfl,rc,ty,e,q⟩:=h
 obtain⟨u,w',rfl,rx,rw'⟩:=r.two
 have:w'=cv:=by
  cases c with
  |ref a=>cases rc;exact rw'
  |ty a=>cases rc;exact rw'
  |_=>cases rc
 subst this
 exact WL I rx ty e fun tk=>⟨.bl b,H,I.tok _,rfl,q⟩
end
def Cu (sc out:Scope)(N N':List Str)(ρ:List (Option Nat)):Bool:=
 decide (sc.kind = .function)&&sc.names.all (fun y=>decide (y.2≠.cell))&&sc.names.all (fun y=>decide (y.2 = .local->sc.names.lookup y.1=some .local)) &&
 sc.names.all (fun y=>decide (y.2 = .free->sc.names.lookup y.1=some .free/\(out.names.lookup y.1=some .cell\/out.names.lookup y.1=some .free))) &&
 decide (ρ.length=N'.length)&&decide N'.Nodup &&
 (ρ.zip N').all (fun p=>match p.1 with|none=>true|some i=>decide (N[i]?=some p.2)&&decide (out.names.lookup p.2=some .local\/out.names.lookup p.2=some .cell\/out.names.lookup p.2=some .free)&&sc.names.any (fun y=>decide (y=(p.2,NameKind.free))))
structure Wo (sc:Scope)(env:Env)(N N':List Str)(ρ:List (Option Nat)):Prop where
 S:Hx sc env.scope
 sl:G0 sc env N N' ρ
 hl:∀x,(x,NameKind.free)∈sc.names->sc.names.lookup x=some .free
 nd:N'.Nodup
theorem P0 {sc:Scope}{env:Env}{N N':List Str}{ρ:List (Option Nat)}(h:Cu sc env.scope N N' ρ=true):Wo sc env N N' ρ:=by
 unfold Cu at h
 simp only[CU,JD,Ly]at h
 obtain⟨⟨⟨⟨⟨⟨h1,h2⟩,h3⟩,h4⟩,h5⟩,h6⟩,h7⟩:=h
 refine⟨⟨h1,h2,h3,fun y hy e=>(h4 y hy e).2⟩,⟨h5,fun j i x e1 e2=>?_⟩,fun x hx=>(h4 _ hx rfl).1,h6⟩
 have hm:(some i,x)∈ρ.zip N':=by
  refine Bh (i:=j) ?_
  rw[Qx]
  exact⟨e1,e2⟩
 have q:=h7 _ hm
 simp only[CU,JD,Qy]at q
 obtain⟨⟨q1,q2⟩,y,hy,e⟩:=q
 exact⟨q1,q2,e▸hy⟩
theorem DZ {X:Cx}{elt iter tg:Expr}{ifs:List Expr}{scope:Scope}{pos:Pos}(N':List Str)(ρ:List (Option Nat)){wi:TI}{g:TG}{tt:TT}{te:TE}(hc:X.calm=true)(hi:PI X tg iter wi)(h:Cu scope X.env.scope X.N N' ρ=true)
  (inner:∀(cl:List (Str×Addr)) (C:Addr) (s:Shared) (H:Hp) (fp:List Addr) (pins:List (Addr×Obj)),PG (CD X scope N' cl C s H fp pins) tg g/\Ff (CD X scope N' cl C s H fp pins) ifs tt/\PE (CD X scope N' cl C s H fp pins) elt te)
  (hs:∀x,foldedSetIterable iter X.env x=pure x:=by intro _;rfl):PE X (.ListComp elt [⟨tg,iter,ifs,0⟩] scope pos) (FC ρ wi g tt te):=
 have F:=P0 h
 Tf N' ρ hc hi F.S F.sl F.hl inner hs
theorem JJ {X:Cx}{elt iter tg:Expr}{ifs:List Expr}{scope:Scope}{pos pos' spos:Pos}{i:Nat}{x:Str}(N':List Str)(ρ:List (Option Nat)){wi:TI}{g:TG}{tt:TT}{te:TE}(hN:X.N.Nodup)(hix:X.N[i]?=some x)(hx:Gj X.env.scope x)
  (hc:X.calm=true) (hi:PI X tg iter wi) (h:Cu scope X.env.scope X.N N' ρ=true)
  (inner:∀(cl:List (Str×Addr)) (C:Addr) (s:Shared) (H:Hp) (fp:List Addr) (pins:List (Addr×Obj)),PG (CD X scope N' cl C s H fp pins) tg g/\Ff (CD X scope N' cl C s H fp pins) ifs tt/\PE (CD X scope N' cl C s H fp pins) elt te)
  (hsw:swapsWith (.ListComp elt [⟨tg,iter,ifs,0⟩] scope pos) (some (.Name x pos')) spos.line X.env=pure true:=by rfl)
  (hs:∀x,foldedSetIterable iter X.env x=pure x:=by intro _;rfl) (hf:X.fn x=true\/X.env.scope.names.lookup x=some .local:=by first|exact .inl rfl|exact .inr rfl|assumption) :
  PS X (.Assign [.Name x pos'] (.ListComp elt [⟨tg,iter,ifs,0⟩] scope pos) spos) (Jg (FC ρ wi g tt te) (Ag i)):=
 have F:=P0 h
 VE N' ρ hN hix hx hc hi F.S F.sl F.hl inner hsw hs hf
def Mj (K:YO):Sp:=fun vs H Q _=>∃(a:Addr) (ns:List Int),vs=[.ref a]/\A5 K H a (ns.map V.int)/\ns.length<=63/\Lm H/\∀H',Q (.bl true) H'
theorem law_walk {l:PySem.W.OpenLaw}{q:Program}{loose:List Str}{XP:(Str->Option Value)->Heap->Prop}{YP:World->Heap->Prop}{d:DefRec}{K:Params->YO}{x:Str}(k:Nat)(hk:k<=200)(hn:l.most=some 63)(hdf:d.params.defaults=[])
  (hY:∀(w:World) (h:Heap),YP w h->(K w.params).In h)
  (F:∀(w:World) (mg:Str->Option Value) (fa:Addr) (h:Heap),(K w.params).In h->h.Ns mainGlobals mg->mg d.name=some (.ref fa)->
   ∃fd:FuncData,(∀(s:Shared) (u:Value),BindsTo s fd ⟨[u],[]⟩ [(x,u)])/\∀base:Heap,(K w.params).In base->base.Ns mainGlobals mg->AB l.prog w (K w.params) mg base AI k fa fd [x] (Mj (K w.params))) :
  PySem.W.WalkO q loose XP YP l.row.toRowW d [] (fun f vs=>PySem.call f vs):=
 L2.walk_of (n:=63) (k:=k) (x:=x) (CX:=fun _=>AI) (sp:=fun w=>Mj (K w.params)) hn (by decide) hdf
  ⟨rfl,by
    have:callerA.depth+605<recursionLimit:=by decide
    lia,by
     have:callerA.units+3400<cLine:=by decide
     lia,rfl⟩ hY F (fun _ H a ns hl hO hS=>⟨a,ns,rfl,hS,hl,hO,fun _=>rfl⟩) fun _ _ _ _ _ z=>z
def CI (l:List (Str×NameKind)):Scope:={kind:=.function,names:=l,isGenerator:=false,isCoroutine:=false,more:=[]}
theorem Bo:bootBuiltins "len"=some (.builtin "len"):=by decide +kernel
theorem Fm:bootBuiltins "isinstance"=some (.builtin "isinstance"):=by decide +kernel
theorem MJ:bootBuiltins "min"=some (.builtin "min"):=by decide +kernel
theorem TH:bootBuiltins "sum"=some (.builtin "sum"):=by decide +kernel
theorem Jc:bootBuiltins "int"=some (.type "int"):=by decide +kernel
theorem Xt:bootBuiltins "str"=some (.type "str"):=by decide +kernel
theorem SE:bootBuiltins "bool"=some (.type "bool"):=by decide +kernel
theorem J4:bootBuiltins "list"=some (.type "list"):=by decide +kernel
theorem Ew:bootBuiltins "tuple"=some (.type "tuple"):=by decide +kernel
theorem Bc {n:Nat}(h:n<=1000000):n<=sizeLine:=by rw[Nx];lia
theorem Ak {n:Nat}(h:Nat.ble n 1000000=true):n<=sizeLine:=Bc (Nat.le_of_ble_eq_true h)
theorem C5 {n:Nat}(h:n<1000000):n<sizeLine:=by rw[Nx];lia
theorem Aa {H:Hp}{p:Addr}(h:H p=none)(o:HO):A9 H (upd H p o):=fun b u q=>by rw[Am (AC q h)];exact q
theorem dT {p:Prop}[Decidable p](h:decide p=true):p:=Gd h
theorem dF {p:Prop}[Decidable p](h:¬decide p=true):¬p:=fun z=>h (B6 z)
theorem FD {ns:List Int}{k:Int}(h0:0<=k)(h:k<(ns.length:Int)):B8 (ns.map V.int) k=some (.int (ns.getD k.toNat 0)):=by
 have hk:k.toNat<ns.length:=by lia
 have ek:k=((k.toNat:Nat):Int):=by lia
 have q:B8 (ns.map V.int) ((k.toNat:Nat):Int)=some (.int (ns.getD k.toNat 0)):=By (by rw[BG,AL hk];simp[Cp,hk])
 rw[←ek]at q
 exact q
def isInt:V->Bool
 |.int _=>true
 |_=>false
def Sm:V->Bool
 |.int _=>true
 |.bl _=>true
 |.non=>true
 |.str _=>true
 |_=>false
def XY:Sp:=fun vs H Q _=>∃x,vs=[x]/\Sm x=true/\Q (.bl (isInt x)) H
theorem CJ {α:Type}{l:List α}{i:Nat}{c:α}(h:l[i]?=some c):l.take (i+1)=l.take i++[c]:=by
 rw[List.take_succ,h];rfl
theorem ED {t u:TS}{D:De}{σ:St}{H:Hp}(M:St->Hp->Prop)(hu:∀σ' H',M σ' H'->u D σ' H')(ht:(∀σ' H',M σ' H'->u D σ' H')->t {D with nx:=u D} σ H):DN t u D σ H:=ht hu
theorem EA {p:Prop}[Decidable p](h:p):(!decide p)=false:=by rw[B6 h];rfl
theorem M1 {p:Prop}[Decidable p](h:¬p):(!decide p)=true:=by rw[BO h];rfl
theorem AG {b:Bool}{A B:Prop}{v:Bool}(e:b=v)(h:if v=true then A else B):if b=true then A else B:=by rw[e];exact h
theorem Hg (l:List Nat):(Bn l).length=l.length:=by rw[←PJ,CZ]
theorem Ph (x y:Str):(x++y).length=x.length+y.length:=Str.length_append x y
set_option genInjectivity true in
inductive Tr where
 |v (x:V)
 |lst (l:List Tr)
 |tup (l:List Tr)
mutual
inductive BA (K:YO)(H:Hp):V->Tr->Prop
 |flat {x:V}:E8 x=true->BA K H x (.v x)
 |lst {p:Addr} {xs:List V} {l:List Tr}:A5 K H p xs->BW K H xs l->BA K H (.ref p) (.lst l)
 |tup {p:Addr} {xs:List V} {l:List Tr}:A3 K H p xs->BW K H xs l->BA K H (.ref p) (.tup l)
inductive BW (K:YO)(H:Hp):List V->List Tr->Prop
 |nil:BW K H [] []
 |cons {x:V} {t:Tr} {xs:List V} {l:List Tr}:BA K H x t->BW K H xs l->BW K H (x::xs) (t::l)
end
mutual
def BU:Tr->Tr->Bool
 |.v x,.v y=>Do x y
 |.lst l,.lst m=>BM l m
 |.tup l,.tup m=>BM l m
 |_,_=>false
def BM:List Tr->List Tr->Bool
 |[],[]=>true
 |x::l,y::m=>BU x y&&BM l m
 |_,_=>false
end
mutual
def C4:Tr->Tr->Bool
 |.v _,.v _=>true
 |.lst l,.lst m=>Eo l m
 |.tup l,.tup m=>Eo l m
 |_,_=>false
def Eo:List Tr->List Tr->Bool
 |x::l,y::m=>C4 x y&&Eo l m
 |_,_=>true
end
mutual
def Ct:Tr->Nat
 |.v _=>0
 |.lst l=>CO l+1
 |.tup l=>CO l+1
def CO:List Tr->Nat
 |[]=>0
 |x::l=>max (Ct x) (CO l)
end
theorem YC {x:V}(h:E8 x=true):Do x x=true:=by
 cases x<;>first|rfl|(simp[Do];done)|(simp[E8]at h)
mutual
def Fy:Tr->Bool
 |.v x=>E8 x
 |.lst l=>FQ l
 |.tup l=>FQ l
def FQ:List Tr->Bool
 |[]=>true
 |x::l=>Fy x&&FQ l
end
mutual
theorem Le:∀t:Tr,Fy t=true->BU t t=true
 |.v x,h=>by rw[BU];exact YC (by simpa[Fy] using h)
 |.lst l,h=>by rw[BU];exact MY l (by simpa[Fy] using h)
 |.tup l,h=>by rw[BU];exact MY l (by simpa[Fy] using h)
theorem MY:∀l:List Tr,FQ l=true->BM l l=true
 |[],_=>by rw[BM]
 |
  x::l,h=>by
  rw[FQ,CU]at h
  rw[BM,Le x h.1,MY l h.2];rfl
end
mutual
theorem NK:∀t:Tr,C4 t t=true
 |.v x=>by rw[C4]
 |.lst l=>by rw[C4];exact MD l
 |.tup l=>by rw[C4];exact MD l
theorem MD:∀l:List Tr,Eo l l=true
 |[]=>by simp[Eo]
 |x::l=>by rw[Eo,NK x,MD l];rfl
end
mutual
theorem BA.ok {K:YO}{H:Hp}:∀{x:V} {t:Tr},BA K H x t->Fy t=true
 |
  _,_,h=>by
  cases h with
  |flat h=>rw[Fy];exact h
  |lst _ h=>rw[Fy];exact h.ok
  |tup _ h=>rw[Fy];exact h.ok
theorem BW.ok {K:YO}{H:Hp}:∀{xs:List V} {l:List Tr},BW K H xs l->FQ l=true
 |
  _,_,h=>by
  cases h with
  |nil=>rw[FQ]
  |cons h r=>rw[FQ,h.ok,r.ok];rfl
end
theorem BW.length {K:YO}{H:Hp}:∀{xs:List V} {l:List Tr},BW K H xs l->xs.length=l.length
 |
  _,_,h=>by
  cases h with
  |nil=>rfl
  |cons _ r=>simp[r.length]
theorem LJ:∀{l m:List Tr},l.length≠m.length->BM l m=false
 |[],[],h=>absurd rfl h
 |[],_::_,_=>by rw[BM]<;>simp
 |_::_,[],_=>by rw[BM]<;>simp
 |
  x::l,y::m,h=>by
  rw[BM,LJ (l:=l) (m:=m) (fun e=>h (by simp[e])),Lw]
section
variable {X:Cx}{pins:List (Addr×Obj)}{σ:St}{H:Hp}{s:Shared}
mutual
theorem BA.inj (I:A4 X pins σ H s):∀{t t':Tr} {x:V},BA X.K H x t->BA X.K H x t'->t=t'
 |
  _,_,_,h,h'=>by
  cases h with
  |
   flat h=>
   cases h' with
   |flat _=>rfl
   |lst _ _=>cases h
   |tup _ _=>cases h
  |
   lst hq hr=>
   cases h' with
   |flat h=>cases h
   |
    lst hq' hr'=>
    have e:=I.list_inj hq hq'
    subst e
    rw[BW.inj I hr hr']
   |
    tup hq' hr'=>
    obtain⟨_,_,⟨o,n,e1,c1,_⟩,_⟩:=I.list hq
    obtain⟨_,_,⟨o',e2,c2,_⟩,_⟩:=I.tuple hq'
    rw[e1]at e2;cases e2
    rw[c1]at c2;simp at c2
  |
   tup hq hr=>
   cases h' with
   |flat h=>cases h
   |
    tup hq' hr'=>
    have e:=I.tuple_inj hq hq'
    subst e
    rw[BW.inj I hr hr']
   |
    lst hq' hr'=>
    obtain⟨_,_,⟨o,n,e1,c1,_⟩,_⟩:=I.list hq'
    obtain⟨_,_,⟨o',e2,c2,_⟩,_⟩:=I.tuple hq
    rw[e1]at e2;cases e2
    rw[c1]at c2;simp at c2
theorem BW.inj (I:A4 X pins σ H s):∀{l l':List Tr} {xs:List V},BW X.K H xs l->BW X.K H xs l'->l=l'
 |
  _,_,_,h,h'=>by
  cases h with
  |
   nil=>
   cases h'
   rfl
  |
   cons h r=>
   cases h' with
   |cons h2 r2=>rw[BA.inj I h h2,BW.inj I r r2]
end
theorem Ta {α:Type}{e:Nat->Bool}{f:α->Bool}:∀{l:List α},(∀j x,l[j]?=some x->e j=f x)->(List.range l.length).all e=l.all f:=by
 intro l h
 rw[G9]
 simp only[Ly,Fp]
 constructor
 .intro q x hx
  obtain⟨i,hi,hx⟩:=Lz.mp hx
  rw[←h i x (by rw[AL hi,hx])]
  exact q i hi
 .intro q i hi
  rw[h i l[i] (AL hi)]
  exact q _ (Jv hi)
theorem NQ:∀{l m:List Tr},l.length=m.length->BM l m=(l.zip m).all fun p=>BU p.1 p.2
 |[],[],_=>by rw[BM];rfl
 |[],_::_,h=>by simp at h
 |_::_,[],h=>by simp at h
 |
  x::l,y::m,h=>by
  rw[BM,NQ (l:=l) (m:=m) (by simpa using h)]
  rfl
theorem BW.at {K:YO}{H:Hp}:∀{xs:List V} {l:List Tr} {j:Nat} {t:Tr},BW K H xs l->l[j]?=some t->∃x,xs[j]?=some x/\BA K H x t
 |_,_,_,_,.nil,h=>by simp at h
 |_,_,0,_,.cons h _,e=>by simp at e;subst e;exact⟨_,rfl,h⟩
 |
  _,_,j+1,_,.cons _ r,e=>by
  obtain⟨x,h1,h2⟩:=r.at (j:=j) (by simpa using e)
  exact⟨x,by simpa using h1,h2⟩
theorem IQ:∀{l m:List Tr} {j:Nat} {t t':Tr},Eo l m=true->l[j]?=some t->m[j]?=some t'->C4 t t'=true
 |[],_,_,_,_,_,h,_=>by simp at h
 |_::_,[],_,_,_,_,_,h=>by simp at h
 |
  x::l,y::m,0,t,t',h,e1,e2=>by
  simp at e1 e2;subst e1 e2
  rw[Eo,CU]at h;exact h.1
 |
  x::l,y::m,j+1,t,t',h,e1,e2=>by
  rw[Eo,CU]at h
  exact IQ (j:=j) h.2 (by simpa using e1) (by simpa using e2)
theorem IS:∀{l:List Tr} {j:Nat} {t:Tr},l[j]?=some t->Ct t<=CO l
 |[],_,_,h=>by simp at h
 |x::l,0,t,h=>by simp at h;subst h;rw[CO];lia
 |
  x::l,j+1,t,h=>by
  have:=IS (l:=l) (j:=j) (t:=t) (by simpa using h)
  rw[CO];lia
theorem Lh {A:Around}{l m:List Tr}{xs ys:List V}{its jts:List Value}(hr:BW X.K H xs l)(hr':BW X.K H ys m)(rv:Ay xs its)(rv':Ay ys jts)
  (ih:∀(j:Nat) (t t':Tr) (x y:V) (u v:Value),l[j]?=some t->m[j]?=some t'->BA X.K H x t->AD x u->BA X.K H y t'->AD y v->SeqAt.EqAt A.in1 s u v (BU t t')) :
  ∀j (h1:j<its.toArray.size) (h2:j<jts.toArray.size),SeqAt.EqAt A.in1 s its.toArray[j] jts.toArray[j] (match l[j]?,m[j]? with|some t,some t'=>BU t t'|_,_=>true):=by
 intro j h1 h2
 have l1:=hr.length;have l2:=hr'.length;have l3:=rv.length;have l4:=rv'.length
 rw[Bi]at h1 h2
 obtain⟨t,ht⟩:∃t,l[j]?=some t:=⟨l[j]'(by lia),AL (by lia)⟩
 obtain⟨t',ht'⟩:∃t',m[j]?=some t':=⟨m[j]'(by lia),AL (by lia)⟩
 obtain⟨x,hx,hxt⟩:=hr.at ht
 obtain⟨y,hy,hyt⟩:=hr'.at ht'
 obtain⟨u,hu,ru⟩:=rv.get hx
 obtain⟨v,hv,rw'⟩:=rv'.get hy
 rw[ht,ht']
 have e1:its.toArray[j]=u:=by
  have:=AL (l:=its) (i:=j) h1
  rw[hu]at this
  simpa using(Cg this).symm
 have e2:jts.toArray[j]=v:=by
  have:=AL (l:=jts) (i:=j) h2
  rw[hv]at this
  simpa using(Cg this).symm
 rw[e1,e2]
 exact ih j t t' x y u v ht ht' hxt ru hyt rw'
theorem OW {l m:List Tr}(h:l.length=m.length):(List.range l.length).all (fun j=>match l[j]?,m[j]? with|some t,some t'=>BU t t'|_,_=>true)=BM l m:=by
 rw[NQ h]
 have e:l.length=(l.zip m).length:=by rw[List.length_zip];lia
 rw[e]
 refine Ta fun j p hp=>?_
 obtain⟨h1,h2⟩:=Qx.mp hp
 rw[h1,h2]
theorem O3 {A:Around}{p q:Addr}{xs ys:List V}{l m:List Tr}(I:A4 X pins σ H s)(hu:A.units<cLine)(hq:A5 X.K H p xs)(hr:BW X.K H xs l)(hq':A5 X.K H q ys)(hr':BW X.K H ys m)
  (ih:∀(j:Nat) (t t':Tr) (x y:V) (u v:Value),l[j]?=some t->m[j]?=some t'->BA X.K H x t->AD x u->BA X.K H y t'->AD y v->SeqAt.EqAt A.in1 s u v (BU t t')) :
  SeqAt.RcAt A s (.ref p) (.ref q) (BM l m)/\SeqAt.RcNeAt A s (.ref p) (.ref q) (!BM l m):=by
 obtain⟨its,rv,pl,_⟩:=I.list hq
 obtain⟨jts,rv',pl',_⟩:=I.list hq'
 have l1:=hr.length;have l2:=hr'.length;have l3:=rv.length;have l4:=rv'.length
 by_cases hl:l.length=m.length
 .have e:its.toArray.size=l.length:=by rw[Bi];lia
  have a:=SeqAt.RcAt.lists (A:=A) pl.isList pl'.isList (by rw[Bi,Bi];lia) hu (Lh hr hr' rv rv' ih)
  have b:=SeqAt.RcNeAt.lists (A:=A) pl.isList pl'.isList (by rw[Bi,Bi];lia) hu (Lh hr hr' rv rv' ih)
  rw[e,OW hl]at a b
  exact⟨a,b⟩
 .rw[LJ hl]
  have hne:(its.toArray.size != jts.toArray.size)=true:=by
   rw[Bi,Bi]
   simp only[bne_iff_ne,ne_eq];lia
  exact⟨SeqAt.RcAt.lists_lengths pl.isList pl'.isList hne hu,SeqAt.RcNeAt.lists_lengths pl.isList pl'.isList hne hu⟩
theorem NG {A:Around}{p q:Addr}{xs ys:List V}{l m:List Tr}(I:A4 X pins σ H s)(hu:A.units<cLine)(hq:A3 X.K H p xs)(hr:BW X.K H xs l)(hq':A3 X.K H q ys)(hr':BW X.K H ys m)
  (ih:∀(j:Nat) (t t':Tr) (x y:V) (u v:Value),l[j]?=some t->m[j]?=some t'->BA X.K H x t->AD x u->BA X.K H y t'->AD y v->SeqAt.EqAt A.in1 s u v (BU t t')) :
  SeqAt.RcAt A s (.ref p) (.ref q) (BM l m)/\SeqAt.RcNeAt A s (.ref p) (.ref q) (!BM l m):=by
 obtain⟨its,rv,pl,_⟩:=I.tuple hq
 obtain⟨jts,rv',pl',_⟩:=I.tuple hq'
 have l1:=hr.length;have l2:=hr'.length;have l3:=rv.length;have l4:=rv'.length
 have a:=SeqAt.RcAt.tuples (A:=A) (show s.heap.IsTuple p its.toArray from pl) (show s.heap.IsTuple q jts.toArray from pl') hu (Lh hr hr' rv rv' ih)
 have b:=SeqAt.RcNeAt.tuples (A:=A) (show s.heap.IsTuple p its.toArray from pl) (show s.heap.IsTuple q jts.toArray from pl') hu (Lh hr hr' rv rv' ih)
 have e:((List.range (min its.toArray.size jts.toArray.size)).all (fun j=>match l[j]?,m[j]? with|some t,some t'=>BU t t'|_,_=>true)&&its.toArray.size==jts.toArray.size)=BM l m:=by
  by_cases hl:l.length=m.length
  .have e1:min its.toArray.size jts.toArray.size=l.length:=by rw[Bi,Bi];lia
   have e2:(its.toArray.size==jts.toArray.size)=true:=by rw[Bi,Bi];simp;lia
   rw[e1,e2,OW hl,Bool.and_true]
  .have e2:(its.toArray.size==jts.toArray.size)=false:=by rw[Bi,Bi];simp;lia
   rw[e2,LJ hl,Lw]
 rw[e]at a b
 exact⟨a,b⟩
theorem Ml (I:A4 X pins σ H s)(n:Nat):∀(A:Around) (t t':Tr) (x y:V) (u v:Value),Ct t<=n->A.units+n<cLine->C4 t t'=true->BA X.K H x t->AD x u->BA X.K H y t'->AD y v->SeqAt.EqAt A s u v (BU t t'):=by
 induction n with
 |
  zero=>
  intro A t t' x y u v hd hu hs hx rx hy ry
  cases hx with
  |
   flat fx=>
   cases hy with
   |flat fy=>rw[BU];exact LM rx ry fx fy
   |lst _ _=>simp[C4]at hs
   |tup _ _=>simp[C4]at hs
  |lst _ _=>simp[Ct]at hd
  |tup _ _=>simp[Ct]at hd
 |
  succ n ih=>
  intro A t t' x y u v hd hu hs hx rx hy ry
  cases hx with
  |
   flat fx=>
   cases hy with
   |flat fy=>rw[BU];exact LM rx ry fx fy
   |lst _ _=>simp[C4]at hs
   |tup _ _=>simp[C4]at hs
  |
   @lst p xs l hq hr=>
   cases hy with
   |flat fy=>simp[C4]at hs
   |tup _ _=>simp[C4]at hs
   |
    @lst q ys m hq' hr'=>
    cases rx;cases ry
    rw[Ct]at hd
    rw[C4]at hs
    by_cases e:p=q
    .subst e
     have e1:=BA.inj I (BA.lst hq hr) (BA.lst hq' hr')
     rw[←e1,Le _ (BA.lst hq hr).ok]
     exact SeqAt.EqAt.same _
    .rw[BU]
     refine SeqAt.EqAt.of_refs e (O3 I (by lia) hq hr hq' hr' fun j t t' x y u v h1 h2 h3 h4 h5 h6=>?_).1
     exact ih A.in1 t t' x y u v (by have:=IS h1;lia) (by show A.units+1+n<cLine;lia) (IQ hs h1 h2) h3 h4 h5 h6
  |
   @tup p xs l hq hr=>
   cases hy with
   |flat fy=>simp[C4]at hs
   |lst _ _=>simp[C4]at hs
   |
    @tup q ys m hq' hr'=>
    cases rx;cases ry
    rw[Ct]at hd
    rw[C4]at hs
    by_cases e:p=q
    .subst e
     have e1:=BA.inj I (BA.tup hq hr) (BA.tup hq' hr')
     rw[←e1,Le _ (BA.tup hq hr).ok]
     exact SeqAt.EqAt.same _
    .rw[BU]
     refine SeqAt.EqAt.of_refs e (NG I (by lia) hq hr hq' hr' fun j t t' x y u v h1 h2 h3 h4 h5 h6=>?_).1
     exact ih A.in1 t t' x y u v (by have:=IS h1;lia) (by show A.units+1+n<cLine;lia) (IQ hs h1 h2) h3 h4 h5 h6
end
section
variable {X:Cx}
def J5 (K:YO)(neg:Bool):R2:=fun x y H Q=>∃t t',BA K H x t/\BA K H y t'/\(∃p,x = .ref p)/\(∃p,y = .ref p)/\C4 t t'=true/\Ct t<=60/\Q (.bl (if neg then !BU t t' else BU t t')) H
theorem O1 {neg:Bool}(hu:X.A.units+64<cLine):BF X (compareOp (if neg then .NotEq else .Eq)) (J5 X.K neg):=by
 intro pins s σ H x y v u Q I rx ry h
 obtain⟨t,t',hx,hy,⟨p,rfl⟩,⟨q,rfl⟩,hs,hd,q'⟩:=h
 cases rx;cases ry
 have done:∀l m,SeqAt.RcAt X.A s (.ref p) (.ref q) (BM l m)/\SeqAt.RcNeAt X.A s (.ref p) (.ref q) (!BM l m)->Q (.bl (if neg then !BM l m else BM l m)) H->
   wpAny (model X.prog X.w) X.A (compareOp (if neg then .NotEq else .Eq) (.ref p) (.ref q)) (EP X pins σ Q) X.xe s:=fun l m hb hq=>by
  cases neg with
  |false=>exact hb.1 X.prog X.w X.xe _ ⟨.bl _,H,I,rfl,hq⟩
  |true=>exact hb.2 X.prog X.w X.xe _ ⟨.bl _,H,I,rfl,hq⟩
 cases hx with
 |flat fx=>cases fx
 |
  @lst _ xs l hq hr=>
  cases hy with
  |flat fy=>cases fy
  |tup _ _=>simp[C4]at hs
  |
   @lst _ ys m hq' hr'=>
   rw[Ct]at hd
   rw[C4]at hs
   rw[BU]at q'
   refine done l m (O3 I (by lia) hq hr hq' hr' fun j t t' x y u v h1 h2 h3 h4 h5 h6=>?_) q'
   exact Ml I 60 X.A.in1 t t' x y u v (by have:=IS h1;lia) (by show X.A.units+1+60<cLine;lia) (IQ hs h1 h2) h3 h4 h5 h6
 |
  @tup _ xs l hq hr=>
  cases hy with
  |flat fy=>cases fy
  |lst _ _=>simp[C4]at hs
  |
   @tup _ ys m hq' hr'=>
   rw[Ct]at hd
   rw[C4]at hs
   rw[BU]at q'
   refine done l m (NG I (by lia) hq hr hq' hr' fun j t t' x y u v h1 h2 h3 h4 h5 h6=>?_) q'
   exact Ml I 60 X.A.in1 t t' x y u v (by have:=IS h1;lia) (by show X.A.units+1+60<cLine;lia) (IQ hs h1 h2) h3 h4 h5 h6
theorem Mc (hu:X.A.units+64<cLine):BF X (compareOp .Eq) (J5 X.K false):=O1 (neg:=false) hu
theorem UQ (hu:X.A.units+64<cLine):BF X (compareOp .NotEq) (J5 X.K true):=O1 (neg:=true) hu
theorem Jo {A:Around}{k:Nat}(hr:C7 k A):A.units+64<cLine:=by have:=hr.un;lia
end
section
variable {X:Cx}
end
theorem Ut {k:AU}{v:V}{kvs:List (AU×V)}:(DG kvs k v).length<=kvs.length+1:=by
 unfold DG
 split
 .rw[Aq];lia
 .rw[Az];simp
theorem Yi:∀ys:List Str,AS (Txt.join "" ys)=(ys.map AS).flatten:=by
 intro ys
 show AS (Builtin.Str.glued "" ys)=_
 rw[StrLaws.glued_eq_join]
 induction ys with
 |nil=>rfl
 |
  cons y r ih=>
  cases r with
  |nil=>simp[Str.join]
  |
   cons z r=>
   show AS (y++""++Str.join "" (z::r))=_
   rw[GS,GS,ih]
   have:AS ("":Str)=[]:=by decide +kernel
   rw[this,DA]
   rfl
abbrev DI:Str:="abcdefghijklmnopqrstuvwxyz"
theorem X1:AS DI=(List.range 26).map (97 + ·):=by decide +kernel
def FW (x:Int):Nat:=97+(x%26).toNat
theorem N0 (x:Int):B8 (AS DI) (x%26)=some (FW x):=by
 have h0:=FJ x (show(26:Int)≠0 by decide)
 have h1:=FK x (show(0:Int)<26 by decide)
 have e:x%26=(((x%26).toNat:Nat):Int):=by lia
 rw[e]
 refine By ?_
 rw[X1,BG,Jw (by lia)]
 rfl
theorem Kj:DI.length<=sizeLine:=Bc (by decide +kernel)
def GP:List (List Nat):=[AS "for",AS "end",AS "size"]
theorem U0 (z:List Nat):GA (.str (Bn z)) [.str "for",.str "end",.str "size"]=decide (z∈GP):=by
 have key:∀y:Str,Do (.str y) (.str (Bn z))=decide (z=AS y):=fun y=>by
  show(y==Bn z)=_
  rw[G9]
  simp only[FN,JD]
  exact⟨fun e=>by rw[e,CZ],fun e=>by rw[e,ON]⟩
 unfold GA GP
 simp only[Im,List.any_nil,key,Bool.or_false]
 rw[G9]
 simp
theorem IX {α:Type}(l:List α){k:Int}(h:0<=k):F3 l none (some k)=l.take k.toNat:=by
 unfold F3
 have e:k=((k.toNat:Nat):Int):=by lia
 rw[HT.sIx_none,e,HT.sIx_nat,Nl,Nat.sub_zero]
 rw[show(((k.toNat:Nat):Int)).toNat=k.toNat by lia]
 by_cases h:k.toNat<=l.length
 .rw[EY h]
 .rw[Nm (by lia),EZ (by lia),EZ (by lia)]
theorem V3 {α:Type}(l:List α){i j:Int}(hi:0<=i)(hj:0<=j)(hl:j<=(l.length:Int))(hij:i<=j):F3 l (some i) (some j)=(l.drop i.toNat).take (j.toNat-i.toNat):=by
 unfold F3
 have e1:i=((i.toNat:Nat):Int):=by lia
 have e2:j=((j.toNat:Nat):Int):=by lia
 rw[e1,e2,HT.sIx_nat,HT.sIx_nat]
 rw[show(((i.toNat:Nat):Int)).toNat=i.toNat by lia,show(((j.toNat:Nat):Int)).toNat=j.toNat by lia,EY (by lia),EY (by lia)]
theorem OY {α:Type}(l:List α){i:Int}(hi:0<=i):F3 l (some i) none=l.drop i.toNat:=by
 unfold F3
 have e1:i=((i.toNat:Nat):Int):=by lia
 rw[e1,HT.sIx_nat,HT.sIx_none,show(((i.toNat:Nat):Int)).toNat=i.toNat by lia]
 by_cases h:i.toNat<=l.length
 .rw[EY h,EZ (by rw[Il];lia)]
 .rw[Nm (by lia),Fs,List.take_zero,List.drop_eq_nil_of_le (by lia)]
def RG (C:Addr):Sp:=fun vs H Q _=>∃(x dx:Addr) (v1 v2 v3 v4 v5 v6 v7:V),vs=[.ref x,v1,v2,v3,v4,v5,v6,v7]/\H x=some (.ins C dx [])/\∀H',(∀b o,H b=some o->b≠x->H' b=some o)->(∃dx,H' x=some (.ins C dx [("names",v1),("lows",v2),("highs",v3),("table",v4),("spots",v5),("term",v6),("path",v7)]))->Q .non H'
def RU:Sp:=fun vs H Q _=>∃(p1 p2:Addr) (xs ys:List Int) (m k:Nat),vs=[.ref p1,.ref p2,.int (m:Int)]/\H p1=some (.tup (xs.map V.int))/\H p2=some (.tup (ys.map V.int))/\m<=xs.length/\m<=ys.length/\m<=1000/\k<=m/\(∀e<k,xs.getD e 0=ys.getD e 0)/\(k<m->xs.getD k 0≠ys.getD k 0)/\Q (.int (k:Int)) H
def wo (H:Hp)(l:Addr):Hp:=fun b=>if b=l then none else H b
theorem K6 {H:Hp}{l:Addr}:A9 (wo H l) H:=fun b o h=>by
 unfold wo at h
 split at h
 .cases h
 .exact h
theorem Mu {H H':Hp}{l:Addr}(e:A9 H H'):A9 (wo H l) (wo H' l):=fun b o h=>by
 unfold wo at h ⊢
 split at h
 .cases h
 .rename_i c;rw[As c];exact e b o h
theorem OA {H:Hp}{l:Addr}{o:HO}:wo (upd H l o) l=wo H l:=by
 funext b
 unfold wo
 by_cases c:b=l
 .rw[Ax c,Ax c]
 .rw[As c,As c,Am c]
theorem GN {H:Hp}{l b:Addr}(h:b≠l):wo H l b=H b:=by unfold wo;rw[As h]
theorem Gq (l m:List V)(hm:0<m.length){n:Int}(hn:n = -(m.length:Int)):C2 (l++m) none (some n)=l:=by
 unfold C2
 have hl:(l++m).length=l.length+m.length:=Az
 have e1:HT.sIx (l++m).length 0 none=0:=rfl
 have e2:HT.sIx (l++m).length (l++m).length (some n)=l.length:=by
  show(if n<0 then(n+((l++m).length:Int)).toNat else min n.toNat (l++m).length)=l.length
  rw[hl,Ax (by lia)]
  lia
 rw[e1,e2,Nl,Nat.sub_zero,Nn]
 rfl
theorem F6 {α:Type}{l:List α}{n:Nat}(h:l.length=n+1):∃p x,l=p++[x]/\p.length=n:=by
 have hne:l≠[]:=fun e=>by rw[e]at h;cases h
 exact⟨l.dropLast,l.getLast hne,(List.dropLast_concat_getLast hne).symm,by rw[List.length_dropLast];lia⟩
theorem Hs {H H2:Hp}{x dx C:Addr}(hx:H x=none)(hdx:H dx=none)(k:∀b o,(upd (upd H dx (.own x)) x (.ins C dx [])) b=some o->b≠x->H2 b=some o):A9 H H2:=fun b o e=>by
 have n1:=AC e hx
 have n2:=AC e hdx
 exact k b o (by rw[Am n1,Am n2];exact e) n1
section
variable {X:Cx}{pins:List (Addr×Obj)}{σ:St}{H:Hp}{s:Shared}{h':Heap}
theorem A4.turnedL {t':Nat}{ch:List Addr}(I:A4 X pins σ H s)(k:∀b o,b∉ch->s.heap.get? b=some o->h'.get? b=some o)(hf:∀b∈ch,Dq X pins H b):A4 X pins σ H {s with heap:=h',toks:=t'}:=by
 have nit:∀b u,H b=some u->b∉ch:=fun b u e z=>by rw[(hf b z).1]at e;cases e
 have hL:X.env.locals∉ch:=fun z=>(hf _ z).2.1 rfl
 refine I.step (g':=s.gens) (d':=s.drawn) (ch:=ch) (fun b hb=>?_) (fun b o _ _ hc e _=>k b o hc e) (fun b o _ _ hc e _=>⟨o.slots,k b o hc e⟩) (fun _ _ _ _ n=>n)
  (fun b o hc e=>⟨o,k b o hc e⟩) (fun _ _ e=>e) (fun _ _ _ e=>e) (fun b ps e=>⟨#[],by rw[e];simp⟩) (fun m hm=>?_) (fun b u e=>?_) I.bare
 .obtain⟨f0,f1,f2,f3,f4,f5⟩:=hf b hb
  exact⟨f3,f1,f4,f5⟩
 .obtain⟨o,es,ep,ho,r⟩:=hm
  exact⟨o,es,ep,k _ o hL ho,r⟩
 .refine(I.hok b u e).stay (fun c v hc q=>k c v ?_ q) (fun _ q=>q) fun _ _ q=>q
  rcases hc with z|z
  .rw[z];exact nit b u e
  .exact nit c _ z
end
def HI (K:YO)(a:Addr):It:=
 ⟨fun i H=>∃xs x,A5 K H a xs/\xs[i]?=some x,fun i H v H'=>∃x T,(∀xs,A5 K H a xs->xs[i]?=some x)/\H T=none/\v = .ref T/\H'=upd H T (.tup [.int i,x]),fun i H=>∃xs,A5 K H a xs/\xs.length<=i⟩
theorem YD {P:Program}{w:World}{K:YO}{elts:List Expr}{x1:Nat}{pos:Pos}(a e it:Addr)(hei:e≠it):G3 P w K (.Tuple elts x1 pos) (HI K a) [e,it] e (fun i h=>(∃old,IsEnum h e it i old)/\h.IsListIter it a i) where
 mem:=by simp
 obj:=fun i h st b hb=>by
  obtain⟨⟨old,he⟩,hit⟩:=st
  rcases Bv.mp hb with rfl|hb
  .exact⟨_,he,fun v z=>by cases z⟩
  .have e:b=it:=by simpa using hb
   subst e
   obtain⟨o,e,c,d⟩:=hit
   exact⟨o,e,fun v z=>by rw[d]at z;cases z⟩
 keep:=fun i h h' st k=>by
  obtain⟨⟨old,he⟩,hit⟩:=st
  exact⟨⟨old,k e (by simp) _ he⟩,hit.at fun o e=>k it (by simp) o e⟩
 item:=by
  intro X hP hw hK hc i pins s σ H E I hf st hg
  subst hP hw hK
  obtain⟨xs,x,hq,hx⟩:=hg
  obtain⟨its,rv,p,hz⟩:=I.list hq
  obtain⟨u,hu,ru⟩:=rv.get hx
  obtain⟨⟨old,he⟩,hit⟩:=st
  refine wpAny_pyNext_enum_item he hit p.isList (x:=u) (by simpa using hu) hei fun h1 ho hit' hT hsz hk=>⟨_,rfl,?_⟩
  refine wpAny_letOwnedTupleGo_enum ho fun h2 he2 hs2=>?_
  have hTn:H s.heap.objs.size=none:=I.hok.fresh (Ap _)
  have helt:e<s.heap.objs.size:=B5 he
  have hilt:it<s.heap.objs.size:=by obtain⟨_,x,_⟩:=hit;exact B5 x
  have I1:A4 X pins σ (upd H s.heap.objs.size (.tup [.int i,x])) {s with heap:=s.heap.push {cls:=.type "tuple",data:=.seq #[.int i s.toks,u]},toks:=s.toks+1}:=I.laid (t':=s.toks+1) (o:=.tup [.int i,x]) (fun b o e=>Bk _ e) (Ap _) ⟨Ak rfl,[.int i s.toks,u],.cons ⟨_,rfl⟩ (.cons ru .nil),F7.new _ _⟩
  have I2:A4 X pins σ (upd H s.heap.objs.size (.tup [.int i,x])) {s with heap:=h2,toks:=s.toks+1}:=by
   refine A4.turnedL (s:={s with heap:=s.heap.push {cls:=.type "tuple",data:=.seq #[.int i s.toks,u]},toks:=s.toks+1}) (h':=h2) (ch:=[e,it]) (t':=s.toks+1) I1 (fun b o hb q=>?_) (fun b hb=>?_)
   .have nbe:b≠e:=fun z=>hb (by simp[z])
    have nbi:b≠it:=fun z=>hb (by simp[z])
    show h2.get? b=some o
    rw[hs2.2 b nbe]
    rcases Qz q with⟨rfl,rfl⟩|q
    .exact hT
    .exact hk b o nbe nbi q
   .obtain⟨f0,f1,f2,f3,f4,f5⟩:=hf b hb
    have nb:b≠s.heap.objs.size:=by
     rcases Bv.mp hb with rfl|hb
     .exact Bu helt
     .have:b=it:=by simpa using hb
      subst this
      exact Bu hilt
    exact⟨by rw[Am nb];exact f0,f1,f2,f3,f4,f5⟩
  refine⟨.ref s.heap.objs.size,_,I2,rfl,⟨x,_,fun ys hy=>by rw[I.list_inj hy hq];exact hx,hTn,rfl,rfl⟩,⟨⟨_,by simpa using he2⟩,hit'.at fun o y=>(hs2.2 it hei.symm).trans y⟩,fun b hb=>?_⟩
  obtain⟨f0,f1,f2,f3,f4,f5⟩:=hf b hb
  have nb:b≠s.heap.objs.size:=by
   rcases Bv.mp hb with rfl|hb
   .exact Bu helt
   .have:b=it:=by simpa using hb
    subst this
    exact Bu hilt
  rw[Am nb]
  exact f0
 done:=by
  intro X hP hw hK hc i pins s σ H E I hf st hg
  subst hP hw hK
  obtain⟨xs,hq,hx⟩:=hg
  obtain⟨its,rv,p,hz⟩:=I.list hq
  obtain⟨⟨old,he⟩,hit⟩:=st
  have hl:=rv.length
  refine wpAny_pyNext_enum_end (I.ok.hd hc) he hit p.isList (by simp;lia) fun h' eb=>⟨rfl,?_⟩
  exact I.turnedL (ch:=[e,it]) (t':=s.toks) (fun b o hb q=>eb b o (fun z=>hb (by simp[z])) q) hf
 self:=fun _ _ _ _ _ st h=>by
  obtain⟨⟨old,he⟩,_⟩:=st
  exact wpAny_pyIter_enum he h
def QM (K:YO)(ta:TA):TI:=fun σ H R=>ta σ H fun vs H1=>∃a:Addr,vs=[.ref a]/\(∃xs,A5 K H1 a xs)/\R (HI K a) H1
theorem IJ {X:Cx}{a:Expr}{ta:TA}{p pos:Pos}{elts:List Expr}{x1:Nat}{pos2:Pos}(hg:Gl X "enumerate")(hm:X.mg "enumerate"=none)(ha:PA X [a] ta)(hs:starEach [a] X.env=[(false,eval a X.env)]:=by rfl):PI X (.Tuple elts x1 pos2) (.Call (.Name "enumerate" p) [a] [] pos) (QM X.K ta):=by
 intro pins s σ H R I h
 refine Call_ (Fu I hg hm boot_enumerate (Ik (Au (ha pos pins s σ H _ I h) fun us s1 zz=>?_) hs rfl))
 obtain⟨vs,H1,I1,r1,q1⟩:=zz
 obtain⟨l,rfl,⟨xs,hq⟩,q⟩:=q1
 cases r1 with
 |
  cons r rr=>
  cases rr
  cases r
  obtain⟨its,rv,pl,hz⟩:=I1.list hq
  refine call_enumerate_list pl.isList fun h' he hit hsz hk=>?_
  refine wpAny_pyIter_enum he ?_
  refine⟨_,[s1.heap.objs.size+1,s1.heap.objs.size],_,_,H1,rfl,I1.kept (t':=s1.toks) hk,YD l _ _ (G8 (Ln _)),⟨⟨_,he⟩,hit⟩,fun b hb=>?_,q⟩
  rcases Bv.mp hb with rfl|hb
  .exact I1.fpOk (GX _) (I1.hok.fresh (GX _))
  .have e:b=s1.heap.objs.size:=by simpa using hb
   subst e
   exact I1.fpOk (Ap _) (I1.hok.fresh (Ap _))
theorem Lc {K:YO}{a:Addr}{xs:List V}{g:TG}{tb:TS}{D:De}{σ:St}{H:Hp}(Pv:Nat->St->Hp->Prop)(h0:Pv 0 σ H)(hl:∀i σ H,i<=xs.length->Pv i σ H->A5 K H a xs)
  (hs:∀i x T σ H,xs[i]?=some x->Pv i σ H->H T=none->g (.ref T) σ (upd H T (.tup [.int i,x])) fun σ2 H2=>tb {D with nx:=Pv (i+1),ct:=Pv (i+1),bk:=D.nx} σ2 H2) (hd:∀σ H,Pv xs.length σ H->D.nx σ H) :
  ∃W:Nat->Nat->St->Hp->Prop,(∃m,W 0 m σ H)/\∀i m σ H,W i m σ H->
   ((HI K a).stop i H/\D.nx σ H)\/((HI K a).go i H/\∃N:St->Hp->Prop,(∀σ' H',N σ' H'->∃m',m'<m/\W (i+1) m' σ' H')/\∀x H',(HI K a).yld i H x H'->g x σ H' fun σ2 H2=>tb {D with nx:=N,ct:=N,bk:=D.nx} σ2 H2):=by
 refine⟨fun i m σ H=>m=xs.length-i/\i<=xs.length/\Pv i σ H,⟨xs.length,by simp,BN _,h0⟩,?_⟩
 rintro i m σ H ⟨rfl,hi,p⟩
 have q:=hl i σ H hi p
 by_cases hlt:i<xs.length
 .refine .inr ⟨⟨xs,xs[i],q,AL hlt⟩,Pv (i+1),fun σ' H' p'=>⟨xs.length-(i+1),by lia,rfl,hlt,p'⟩,fun v H' y=>?_⟩
  obtain⟨x,T,hx,hT,rfl,rfl⟩:=y
  exact hs i x T σ H (hx xs q) p hT
 .have e:i=xs.length:=by lia
  subst e
  exact .inl ⟨⟨xs,q,Ap _⟩,hd σ H p⟩
def Iu (K:YO)(a b:Addr):It:=
 ⟨fun i H=>∃xs ys x y,A5 K H a xs/\A5 K H b ys/\xs[i]?=some x/\ys[i]?=some y,fun i H v H'=>∃x y T,(∀xs,A5 K H a xs->xs[i]?=some x)/\(∀ys,A5 K H b ys->ys[i]?=some y)/\H T=none/\v = .ref T/\H'=upd H T (.tup [x,y]),
  fun i H=>∃xs ys,A5 K H a xs/\A5 K H b ys/\(xs.length<=i\/ys.length<=i)⟩
theorem Wv {P:Program}{w:World}{K:YO}{elts:List Expr}{x1:Nat}{pos:Pos}(a b z TI TO i1 i2:Addr)(D:ZipApart z TI TO i1 i2 a b) :
  G3 P w K (.Tuple elts x1 pos) (Iu K a b) [z,TI,TO,i1,i2] z (fun i h=>IsZip h z TI TO .none/\IsPair h TI (.ref i1) (.ref i2)/\(∃p q,IsPair h TO p q)/\h.IsListIter i1 a i/\h.IsListIter i2 b i) where
 mem:=by simp
 obj:=fun i h st c hc=>by
  obtain⟨hz,hTI,⟨p,q,hTO⟩,h1,h2⟩:=st
  simp only[Bv,DB,or_false]at hc
  rcases hc with rfl|rfl|rfl|rfl|rfl
  .exact⟨_,hz,fun v z=>by cases z⟩
  .exact⟨_,hTI,fun v z=>by cases z⟩
  .exact⟨_,hTO,fun v z=>by cases z⟩
  .obtain⟨o,e,c,d⟩:=h1
   exact⟨o,e,fun v z=>by rw[d]at z;cases z⟩
  .obtain⟨o,e,c,d⟩:=h2
   exact⟨o,e,fun v z=>by rw[d]at z;cases z⟩
 keep:=fun i h h' st k=>by
  obtain⟨hz,hTI,⟨p,q,hTO⟩,h1,h2⟩:=st
  exact⟨k z (by simp) _ hz,k TI (by simp) _ hTI,⟨p,q,k TO (by simp) _ hTO⟩,h1.at fun o e=>k i1 (by simp) o e,h2.at fun o e=>k i2 (by simp) o e⟩
 item:=by
  intro X hP hw hK hc i pins s σ H E I hf st hg
  subst hP hw hK
  obtain⟨xs,ys,x,y,hq1,hq2,hx,hy⟩:=hg
  obtain⟨its1,rv1,p1,_⟩:=I.list hq1
  obtain⟨its2,rv2,p2,_⟩:=I.list hq2
  obtain⟨u,hu,ru⟩:=rv1.get hx
  obtain⟨v,hv,rv⟩:=rv2.get hy
  obtain⟨hz,hTI,⟨pa,qa,hTO⟩,h1,h2⟩:=st
  refine wpAny_pyNext_zip_item D hz hTI hTO h1 h2 p1.isList p2.isList (x:=u) (y:=v) (by simpa using hu) (by simpa using hv) fun hh hz' hTO' h1' h2' hT hsz hk=>⟨_,rfl,?_⟩
  refine wpAny_letOwnedTupleGo_zip hz' fun h3 hz3 hs3=>?_
  have hTn:H s.heap.objs.size=none:=I.hok.fresh (Ap _)
  have lts:∀c∈[z,TI,TO,i1,i2],c<s.heap.objs.size:=fun c hc=>by
   simp only[Bv,DB,or_false]at hc
   rcases hc with rfl|rfl|rfl|rfl|rfl
   .exact B5 hz
   .exact B5 hTI
   .exact B5 hTO
   .obtain⟨_,e,_⟩:=h1;exact B5 e
   .obtain⟨_,e,_⟩:=h2;exact B5 e
  have I1:A4 X pins σ (upd H s.heap.objs.size (.tup [x,y])) {s with heap:=s.heap.push {cls:=.type "tuple",data:=.seq #[u,v]}}:=I.laid (t':=s.toks) (o:=.tup [x,y]) (fun b o e=>Bk _ e) (Ap _) ⟨Ak rfl,[u,v],.cons ru (.cons rv .nil),F7.new _ _⟩
  have I2:A4 X pins σ (upd H s.heap.objs.size (.tup [x,y])) {s with heap:=h3}:=by
   refine A4.turnedL (s:={s with heap:=s.heap.push {cls:=.type "tuple",data:=.seq #[u,v]}}) (h':=h3) (ch:=[z,TI,TO,i1,i2]) (t':=s.toks) I1 (fun b o hb q=>?_) (fun b hb=>?_)
   .simp only[Bv,DB,or_false,not_or]at hb
    obtain⟨n1,n2,n3,n4,n5⟩:=hb
    show h3.get? b=some o
    rw[hs3.2 b n1]
    rcases Qz q with⟨rfl,rfl⟩|q
    .exact hT
    .exact hk b o n1 n3 n4 n5 q
   .obtain⟨f0,f1,f2,f3,f4,f5⟩:=hf b hb
    exact⟨by rw[Am (Bu (lts b hb))];exact f0,f1,f2,f3,f4,f5⟩
  have k3:∀c,c≠z->∀o,hh.get? c=some o->h3.get? c=some o:=fun c hc o e=>(hs3.2 c hc).trans e
  refine⟨.ref s.heap.objs.size,_,I2,rfl,⟨x,y,_,fun zs hy=>by rw[I.list_inj hy hq1];exact hx,fun zs hy'=>by rw[I.list_inj hy' hq2];exact hy,hTn,rfl,rfl⟩,⟨hz3,k3 TI D.TIz _ (hk TI _ D.TIz D.TITO D.TIi1 D.TIi2 hTI),⟨u,v,k3 TO D.TOz _ hTO'⟩,h1'.at (k3 i1 D.i1z),h2'.at (k3 i2 D.i2z)⟩,fun b hb=>?_⟩
  rw[Am (Bu (lts b hb))]
  exact(hf b hb).1
 done:=by
  intro X hP hw hK hc i pins s σ H E I hf st hg
  subst hP hw hK
  obtain⟨xs,ys,hq1,hq2,hl⟩:=hg
  obtain⟨its1,rv1,p1,_⟩:=I.list hq1
  obtain⟨its2,rv2,p2,_⟩:=I.list hq2
  obtain⟨hz,hTI,⟨pa,qa,hTO⟩,h1,h2⟩:=st
  have hl1:=rv1.length
  have hl2:=rv2.length
  refine wpAny_pyNext_zip_end (I.ok.hd hc) D hz hTI hTO h1 h2 p1.isList p2.isList (hl.imp (fun z=>by simp;lia) (fun z=>by simp;lia)) fun h' hk=>⟨rfl,?_⟩
  refine I.turnedL (ch:=[z,TI,TO,i1,i2]) (t':=s.toks) (fun b o hb q=>?_) hf
  simp only[Bv,DB,or_false,not_or]at hb
  obtain⟨n1,n2,n3,n4,n5⟩:=hb
  exact hk b o n1 n3 n4 n5 q
 self:=fun _ _ _ _ _ st h=>by
  obtain⟨hz,_⟩:=st
  exact NA hz h
def Yv (K:YO)(ta:TA):TI:=fun σ H R=>ta σ H fun vs H1=>∃a b:Addr,vs=[.ref a,.ref b]/\(∃xs,A5 K H1 a xs)/\(∃ys,A5 K H1 b ys)/\R (Iu K a b) H1
theorem XO {X:Cx}{a b:Expr}{ta:TA}{p pos:Pos}{elts:List Expr}{x1:Nat}{pos2:Pos}(hg:Gl X "zip")(hm:X.mg "zip"=none)(ha:PA X [a,b] ta)(hs:starEach [a,b] X.env=[(false,eval a X.env),(false,eval b X.env)]:=by rfl)(hs2:starEach [b] X.env=[(false,eval b X.env)]:=by rfl) :
  PI X (.Tuple elts x1 pos2) (.Call (.Name "zip" p) [a,b] [] pos) (Yv X.K ta):=by
 intro pins s σ H R I h
 refine Call_ (Fu I hg hm boot_zip (Ik (Au (ha pos pins s σ H _ I h) fun us s1 zz=>?_) (by rw[hs,hs2]) (by rw[hs2];rfl)))
 obtain⟨vs,H1,I1,r1,q1⟩:=zz
 obtain⟨l1,l2,rfl,⟨xs,hq1⟩,⟨ys,hq2⟩,q⟩:=q1
 cases r1 with
 |
  cons r rr=>
  cases rr with
  |
   cons r' rr=>
   cases rr
   cases r
   cases r'
   obtain⟨its1,rv1,p1,_⟩:=I1.list hq1
   obtain⟨its2,rv2,p2,_⟩:=I1.list hq2
   have lt1:l1<s1.heap.objs.size:=by obtain⟨_,e,_⟩:=p1.isList;exact B5 e
   have lt2:l2<s1.heap.objs.size:=by obtain⟨_,e,_⟩:=p2.isList;exact B5 e
   refine call_zip_2 p1.isList p2.isList fun h' hz hTI hTO h1 h2 hsz hk=>?_
   refine NA hz ?_
   have ne:∀{m n:Nat},m<n->(m:Nat)≠n:=fun h=>Bu h
   refine⟨_,[s1.heap.objs.size+4,s1.heap.objs.size+2,s1.heap.objs.size+3,s1.heap.objs.size,s1.heap.objs.size+1],_,_,H1,rfl,I1.kept (t':=s1.toks) hk,Wv l1 l2 _ _ _ _ _ ⟨?_,?_,?_,?_,?_,?_,?_,?_,?_,?_,?_,?_,?_,?_,?_,?_,?_,?_⟩,⟨hz,hTI,⟨_,_,hTO⟩,h1,h2⟩,fun b hb=>?_,q⟩
   case refine_19=>
    simp only[Bv,DB,or_false]at hb
    have hb':s1.heap.objs.size<=b:=by
     rcases hb with rfl|rfl|rfl|rfl|rfl
     .exact EJ _ 4
     .exact EJ _ 2
     .exact EJ _ 3
     .exact Ap _
     .exact EJ _ 1
    exact I1.fpOk hb' (I1.hok.fresh hb')
   all_goals first
    |exact Bu lt1
    |exact Bu lt2
    |exact Bu (BJ lt1 (EJ _ _))
    |exact Bu (BJ lt2 (EJ _ _))
    |(show(_:Nat)≠_;lia)
theorem XD {K:YO}{a b:Addr}{xs ys:List V}{g:TG}{tb:TS}{D:De}{σ:St}{H:Hp}(hlen:xs.length=ys.length)(Pv:Nat->St->Hp->Prop)(h0:Pv 0 σ H)(hl:∀i σ H,i<=xs.length->Pv i σ H->A5 K H a xs/\A5 K H b ys)
  (hs:∀i x y T σ H,xs[i]?=some x->ys[i]?=some y->Pv i σ H->H T=none->g (.ref T) σ (upd H T (.tup [x,y])) fun σ2 H2=>tb {D with nx:=Pv (i+1),ct:=Pv (i+1),bk:=D.nx} σ2 H2) (hd:∀σ H,Pv xs.length σ H->D.nx σ H) :
  ∃W:Nat->Nat->St->Hp->Prop,(∃m,W 0 m σ H)/\∀i m σ H,W i m σ H->
   ((Iu K a b).stop i H/\D.nx σ H)\/((Iu K a b).go i H/\∃N:St->Hp->Prop,(∀σ' H',N σ' H'->∃m',m'<m/\W (i+1) m' σ' H')/\∀x H',(Iu K a b).yld i H x H'->g x σ H' fun σ2 H2=>tb {D with nx:=N,ct:=N,bk:=D.nx} σ2 H2):=by
 refine⟨fun i m σ H=>m=xs.length-i/\i<=xs.length/\Pv i σ H,⟨xs.length,by simp,BN _,h0⟩,?_⟩
 rintro i m σ H ⟨rfl,hi,p⟩
 obtain⟨q1,q2⟩:=hl i σ H hi p
 by_cases hlt:i<xs.length
 .refine .inr ⟨⟨xs,ys,xs[i],ys[i],q1,q2,AL hlt,AL (by lia)⟩,Pv (i+1),fun σ' H' p'=>⟨xs.length-(i+1),by lia,rfl,hlt,p'⟩,fun v H' yy=>?_⟩
  obtain⟨x,y,T,hx,hy,hT,rfl,rfl⟩:=yy
  exact hs i x y T σ H (hx xs q1) (hy ys q2) p hT
 .have e:i=xs.length:=by lia
  subst e
  exact .inl ⟨⟨xs,ys,q1,q2,.inl (Ap _)⟩,hd σ H p⟩
theorem FA {X:Cx}{e:Expr}{t u:TE}(h1:PE X e t)(h2:PE X e u):PE X e (fun σ H Q=>t σ H Q\/u σ H Q):=by
 intro pins s σ H Q I h
 exact h.elim (h1 pins s σ H Q I) (h2 pins s σ H Q I)
end L2
namespace Bd
structure Bond where
 x:Nat
 y:Nat
 c:Int
structure Sv where
 v:Nat->Int
 p:Nat->Option Nat
 low:Option Nat
def Cb {α:Type}(f:Nat->α)(i:Nat)(a:α):Nat->α:=fun j=>if j=i then a else f j
theorem DY {α:Type}{f:Nat->α}{i:Nat}{a:α}:Cb f i a i=a:=Ax rfl
theorem Eb {α:Type}{f:Nat->α}{i j:Nat}{a:α}(h:j≠i):Cb f i a j=f j:=As h
def HR (i:Nat)(b:Bond)(s:Sv):Sv:=if s.v b.x>s.v b.y+b.c then⟨Cb s.v b.x (s.v b.y+b.c),Cb s.p b.x (some i),some b.x⟩ else s
def rnd (B:List Bond):Nat->Sv->Sv
 |0,s=>s
 |
  k+1,s=>match B[k]? with
  |some b=>HR k b (rnd B k s)
  |none=>rnd B k s
def CT (B:List Bond)(s:Sv):Sv:=rnd B B.length {s with low:=none}
def go (B:List Bond):Nat->Sv->Sv ⊕ Sv
 |0,s=>.inr s
 |
  k+1,s=>match (CT B s).low with
  |none=>.inl (CT B s)
  |some _=>go B k (CT B s)
def st0:Sv:=⟨fun _=>0,fun _=>none,none⟩
def pb (B:List Bond)(p:Nat->Option Nat)(x:Nat):Bond:=match p x with
 |some i=>B.getD i ⟨0,0,0⟩
 |none=>⟨0,0,0⟩
def it (B:List Bond)(p:Nat->Option Nat):Nat->Nat->Nat
 |0,x=>x
 |k+1,x=>it B p k (pb B p x).y
def sm (B:List Bond)(p:Nat->Option Nat):Nat->Nat->Int
 |0,_=>0
 |k+1,x=>(pb B p x).c+sm B p k (pb B p x).y
theorem GQ (B:List Bond)(p:Nat->Option Nat)(k x:Nat):it B p (k+1) x=(pb B p (it B p k x)).y:=by
 induction k generalizing x with
 |zero=>rfl
 |succ k ih=>exact ih _
theorem Er (B:List Bond)(p:Nat->Option Nat)(j k x:Nat):it B p (j+k) x=it B p k (it B p j x):=by
 induction j generalizing x with
 |zero=>rw[GY];rfl
 |succ j ih=>rw[Nat.succ_add];exact ih _
theorem VG (B:List Bond)(p:Nat->Option Nat)(k x:Nat):sm B p (k+1) x=sm B p k x+(pb B p (it B p k x)).c:=by
 induction k generalizing x with
 |zero=>simp[sm,it]
 |succ k ih=>rw[sm,ih,sm,it];lia
def Gx (B:List Bond)(p:Nat->Option Nat)(k x:Nat):Prop := ∀j<k,∃i,p (it B p j x)=some i
theorem Gx.tail {B:List Bond}{p:Nat->Option Nat}{k x:Nat}(h:Gx B p (k+1) x):Gx B p k (pb B p x).y:=fun j hj=>h (j+1) (by lia)
structure A4 (B:List Bond)(r j:Nat)(s:Sv)(last:Nat->Nat):Prop where
 le:∀x,last x<=r
 par:∀x i,s.p x=some i->∃b,B[i]?=some b/\b.x=x/\s.v b.y+b.c<=s.v x/\last x<=last b.y+1
 has:∀x,1<=last x->∃i,s.p x=some i
 ok1:∀k<j,∀b,B[k]?=some b->s.v b.x<=s.v b.y+b.c\/r<=last b.y
 ok2:∀k,j<=k->∀b,B[k]?=some b->s.v b.x<=s.v b.y+b.c\/r<=last b.y+1
 neg:∀k x,Gx B s.p (k+1) x->it B s.p (k+1) x=x->sm B s.p (k+1) x<0
 lowN:s.low=none->∀x,last x+1<=r
 lowS:∀x,s.low=some x->last x=r
theorem Fc {B:List Bond}{p:Nat->Option Nat}{x i:Nat}{b:Bond}(h:p x=some i)(e:B[i]?=some b):pb B p x=b:=by
 unfold pb;rw[h];simp only[];rw[Cp,e];rfl
theorem RM {B:List Bond}{v:Nat->Int}{p:Nat->Option Nat}{i:Nat}{b:Bond}(hb:B[i]?=some b)(hlt:v b.x>v b.y+b.c)
  (par:∀x i,p x=some i->∃b,B[i]?=some b/\b.x=x/\v b.y+b.c<=v x) :
  ∀k x,Gx B (Cb p b.x (some i)) k x->v (it B (Cb p b.x (some i)) k x)+sm B (Cb p b.x (some i)) k x<=v x/\
   ((it B (Cb p b.x (some i)) k x=it B p k x/\sm B (Cb p b.x (some i)) k x=sm B p k x/\Gx B p k x)\/v (it B (Cb p b.x (some i)) k x)+sm B (Cb p b.x (some i)) k x<v x):=by
 intro k
 induction k with
 |zero=>intro x _;exact⟨by simp[it,sm],.inl ⟨rfl,rfl,fun j hj=>by lia⟩⟩
 |
  succ k ih=>
  intro x ha
  obtain⟨l,hl⟩:=ha 0 (by lia)
  change Cb p b.x (some i) x=some l at hl
  have ha':=ha.tail
  by_cases hx:x=b.x
  .have e:pb B (Cb p b.x (some i)) x=b:=Fc (by rw[hx];exact DY) hb
   simp only[it,sm]
   rw[e]at ha' ⊢
   obtain⟨h1,_⟩:=ih _ ha'
   subst hx
   exact⟨by lia,.inr (by lia)⟩
  .have hp:Cb p b.x (some i) x=p x:=Eb hx
   rw[hp]at hl
   obtain⟨b',hb',hx',hv⟩:=par _ _ hl
   have e:pb B (Cb p b.x (some i)) x=b':=Fc (by rw[hp];exact hl) hb'
   have e2:pb B p x=b':=Fc hl hb'
   simp only[it,sm]
   rw[e]at ha' ⊢
   rw[e2]
   obtain⟨h1,h2⟩:=ih _ ha'
   refine⟨by lia,?_⟩
   rcases h2 with⟨h2,h3,h4⟩|h2
   .refine .inl ⟨h2,by rw[h3],fun j hj=>?_⟩
    cases j with
    |zero=>exact⟨_,hl⟩
    |
     succ j=>
     show ∃i,p (it B p j (pb B p x).y)=some i
     rw[e2]
     exact h4 j (by lia)
   .exact .inr (by lia)
theorem A4.step {B:List Bond}{r j:Nat}{s:Sv}{last:Nat->Nat}(h:A4 B r j s last){b:Bond}(hb:B[j]?=some b):∃last',A4 B r (j+1) (HR j b s) last':=by
 unfold HR
 by_cases c:s.v b.x>s.v b.y+b.c
 .rw[Ax c]
  have hy:r<=last b.y+1:=by
   rcases h.ok2 j (Ap _) b hb with g|g
   .lia
   .exact g
  have hv:∀x,Cb s.v b.x (s.v b.y+b.c) x<=s.v x:=fun x=>by
   by_cases e:x=b.x
   .rw[e,DY];lia
   .rw[Eb e];exact GZ _
  have hl:∀x,last x<=Cb last b.x r x:=fun x=>by
   by_cases e:x=b.x
   .rw[e,DY];exact h.le _
   .rw[Eb e];exact Ap _
  refine⟨Cb last b.x r,⟨fun x=>?_,fun x i e=>?_,fun x e=>?_,fun k hk b' hb'=>?_,fun k hk b' hb'=>?_,fun k x ha e=>?_,fun e=>?_,fun x e=>?_⟩⟩
  .by_cases e:x=b.x
   .rw[e,DY];exact Ap _
   .rw[Eb e];exact h.le _
  .by_cases ex:x=b.x
   .subst ex
    simp only[]at e ⊢
    rw[DY]at e
    cases e
    refine⟨b,hb,rfl,?_,?_⟩
    .rw[DY]
     by_cases ey:b.y=b.x
     .rw[ey,DY];rw[ey]at c;lia
     .rw[Eb ey];exact GZ _
    .rw[DY]
     have:=hl b.y
     lia
   .simp only[]at e ⊢
    rw[Eb ex]at e
    obtain⟨b',g1,g2,g3,g4⟩:=h.par x i e
    refine⟨b',g1,g2,?_,?_⟩
    .rw[Eb ex]
     have:=hv b'.y
     lia
    .rw[Eb ex]
     have:=hl b'.y
     lia
  .simp only[]
   by_cases ex:x=b.x
   .rw[ex,DY];exact⟨_,rfl⟩
   .rw[Eb ex]at e ⊢
    exact h.has x e
  .simp only[]
   by_cases ey:b'.y=b.x
   .right;rw[ey,DY];exact Ap _
   .by_cases ek:k=j
    .subst ek
     rw[hb]at hb';cases hb'
     left;rw[DY,Eb ey];exact GZ _
    .rcases h.ok1 k (by lia) b' hb' with g|g
     .left;rw[Eb ey];have:=hv b'.x;lia
     .right;have:=hl b'.y;lia
  .simp only[]
   by_cases ey:b'.y=b.x
   .right;rw[ey,DY];lia
   .rcases h.ok2 k (by lia) b' hb' with g|g
    .left;rw[Eb ey];have:=hv b'.x;lia
    .right;have:=hl b'.y;lia
  .have:=RM hb c (fun x i e=>by obtain⟨b',g1,g2,g3,_⟩:=h.par x i e;exact⟨b',g1,g2,g3⟩) (k+1) x ha
   simp only[]at e ⊢
   rw[e]at this
   obtain⟨_,⟨g1,g2,g3⟩|g⟩:=this
   .rw[g2];exact h.neg k x g3 g1.symm
   .lia
  .cases e
  .cases e;exact DY
 .rw[As c]
  refine⟨last,h.le,h.par,h.has,fun k hk b' hb'=>?_,fun k hk=>h.ok2 k (by lia),h.neg,h.lowN,h.lowS⟩
  by_cases ek:k=j
  .subst ek
   rw[hb]at hb';cases hb'
   left;lia
  .exact h.ok1 k (by lia) b' hb'
theorem A4.rnd {B:List Bond}{r:Nat}{s:Sv}{last:Nat->Nat}(h:A4 B r 0 s last):∀k,k<=B.length->∃last',A4 B r k (Bd.rnd B k s) last'
 |0,_=>⟨last,h⟩
 |
  k+1,hk=>by
  obtain⟨l1,h1⟩:=A4.rnd h k (by lia)
  have e:B[k]?=some B[k]:=AL (by lia)
  unfold Bd.rnd
  rw[e]
  exact h1.step e
theorem A4.next {B:List Bond}{r:Nat}{s:Sv}{last:Nat->Nat}(h:A4 B r B.length s last):A4 B (r+1) 0 {s with low:=none} last:=
 ⟨fun x=>by have:=h.le x;lia,h.par,h.has,fun k hk=>by lia,fun k _ b hb=>by
  have:=h.ok1 k (AX.mp hb).1 b hb
  rcases this with g|g
  .exact .inl g
  .right;lia,h.neg,fun _ x=>by have:=h.le x;lia,fun x e=>by cases e⟩
theorem A4.start (B:List Bond):A4 B 1 0 {st0 with low:=none} (fun _=>0):=
 ⟨fun _=>BN _,fun x i e=>(by cases e),fun x e=>(by lia),fun k hk b hb=>(by lia),fun k hk b hb=>.inr (Ap _),fun k x ha=>(by obtain⟨i,hi⟩:=ha 0 (by lia);cases hi),fun _ x=>Ap _,fun x e=>(by cases e)⟩
theorem A4.holds {B:List Bond}{r:Nat}{s:Sv}{last:Nat->Nat}(h:A4 B r B.length s last)(e:s.low=none):∀b∈B,s.v b.x<=s.v b.y+b.c:=fun b hb=>by
 obtain⟨k,hk,rfl⟩:=Lz.mp hb
 rcases h.ok1 k hk _ (AL hk) with g|g
 .exact g
 .have:=h.lowN e B[k].y
  lia
theorem P6 {B:List Bond}:∀{k r:Nat} {s:Sv} {last:Nat->Nat},A4 B r 0 {s with low:=none} last->∀{s'},go B k s = .inl s'->∀b∈B,s'.v b.x<=s'.v b.y+b.c
 |0,r,s,last,h,s',e=>by cases e
 |
  k+1,r,s,last,h,s',e=>by
  obtain⟨l1,h1⟩:=h.rnd B.length (Ap _)
  change A4 B r B.length (CT B s) l1 at h1
  unfold go at e
  split at e
  .rename_i c;cases e
   exact h1.holds c
  .exact P6 h1.next e
theorem Qd {B:List Bond}:∀{k r:Nat} {s:Sv} {last:Nat->Nat},A4 B r 0 {s with low:=none} last->∀{s'},go B (k+1) s = .inr s'->∃last x,A4 B (r+k) B.length s' last/\s'.low=some x
 |
  k,r,s,last,h,s',e=>by
  obtain⟨l1,h1⟩:=h.rnd B.length (Ap _)
  change A4 B r B.length (CT B s) l1 at h1
  unfold go at e
  split at e
  .cases e
  .rename_i x c
   cases k with
   |zero=>cases e;exact⟨l1,x,h1,c⟩
   |
    succ k=>
    obtain⟨l2,x2,g1,g2⟩:=Qd (k:=k) h1.next e
    exact⟨l2,x2,by rw[show r+(k+1)=r+1+k by lia];exact g1,g2⟩
theorem nodup_le {α:Type}[DecidableEq α]:∀{l k:List α},l.Nodup->(∀x∈l,x∈k)->l.length<=k.length
 |[],_,_,_=>BN _
 |
  a::l,k,hn,hs=>by
  have ha:=hs a E4
  have h2:=Lo.mp hn
  have:=nodup_le (l:=l) (k:=k.erase a) h2.2 fun x hx=>(List.mem_erase_of_ne (show x≠a from fun e=>h2.1 (by rw[←e];exact hx))).mpr (hs x (E5 _ hx))
  rw[List.length_erase_of_mem ha]at this
  have:0<k.length:=Np ha
  simp only[C9]
  lia
theorem UM {n:Nat}{u:Nat->Nat}(h:∀i,i<=n->u i<n):∃i j,i<j/\j<=n/\u i=u j:=by
 apply QA
 intro c
 have hn:((List.range (n+1)).map u).Nodup:=by
  rw[List.nodup_iff_pairwise_ne,List.pairwise_map]
  refine(List.pairwise_lt_range (n:=n+1)).imp_of_mem fun{i j} hi hj hij e=>c ⟨i,j,hij,?_,e⟩
  have:=Fp.mp hj
  lia
 have:=nodup_le hn (k:=List.range n) fun x hx=>by
  obtain⟨i,hi,rfl⟩:=D5.mp hx
  have:=Fp.mp hi
  exact Fp.mpr (h i (by lia))
 simp at this
 lia
theorem least {P:Nat->Prop}:∀n,P n->∃m,m<=n/\P m/\∀k<m,¬P k:=by
 intro n
 induction n using Nat.strongRecOn with
 |
  ind n ih=>
  intro h
  by_cases c:∃k,k<n/\P k
  .obtain⟨k,hk,pk⟩:=c
   obtain⟨m,h1,h2,h3⟩:=ih k hk pk
   exact⟨m,by lia,h2,h3⟩
  .exact⟨n,Ap _,h,fun k hk pk=>c ⟨k,hk,pk⟩⟩
structure Gk (n:Nat)(B:List Bond)(p:Nat->Option Nat)(x0 m:Nat):Prop where
 walk:∀j<n,∃i b,p (it B p j x0)=some i/\B[i]?=some b/\b.x=it B p j x0
 lt:∀k,k<=n->it B p k x0<n
 pos:0<m
 le:m<=n
 back:it B p m (it B p n x0)=it B p n x0
 least:∀k,0<k->k<m->it B p k (it B p n x0)≠it B p n x0
 alive:∀k,∃i b,p (it B p k (it B p n x0))=some i/\B[i]?=some b/\b.x=it B p k (it B p n x0)
 neg:sm B p m (it B p n x0)<0
theorem A4.ring {B:List Bond}{n:Nat}{s:Sv}{last:Nat->Nat}{x0:Nat}(hn:0<n)(h:A4 B n B.length s last)(e:s.low=some x0)(hB:∀b∈B,b.x<n/\b.y<n):∃m,Gk n B s.p x0 m:=by
 have hl:∀k,k<=n->n<=last (it B s.p k x0)+k:=by
  intro k
  induction k with
  |zero=>intro _;have:=h.lowS _ e;show n<=last x0+0;lia
  |
   succ k ih=>
   intro hk
   have:=ih (by lia)
   obtain⟨i,hi⟩:=h.has (it B s.p k x0) (by lia)
   obtain⟨b,g1,g2,g3,g4⟩:=h.par _ _ hi
   rw[GQ,Fc hi g1]
   lia
 have hw:Gx B s.p n x0:=fun j hj=>h.has _ (by have:=hl j (by lia);lia)
 have hstep:∀x i,s.p x=some i->x<n/\it B s.p 1 x<n:=fun x i hi=>by
  obtain⟨b,g1,g2,_⟩:=h.par x i hi
  have:=hB b (Bh g1)
  show x<n/\(pb B s.p x).y<n
  rw[Fc hi g1]
  exact⟨g2▸this.1,this.2⟩
 have hlt:∀k,k<=n->it B s.p k x0<n:=fun k hk=>by
  by_cases c:k<n
  .obtain⟨i,hi⟩:=hw k c
   exact(hstep _ _ hi).1
  .obtain⟨i,hi⟩:=hw (n-1) (by lia)
   have:=(hstep _ _ hi).2
   rw[show k=(n-1)+1 by lia,Er]
   exact this
 obtain⟨i,j,hij,hj,eij⟩:=UM (u:=fun k=>it B s.p k x0) hlt
 change it B s.p i x0=it B s.p j x0 at eij
 have hper:it B s.p (j-i) (it B s.p n x0)=it B s.p n x0:=by
  have e1:it B s.p n x0=it B s.p (n-i) (it B s.p i x0):=by rw[←Er];congr 1;lia
  rw[e1,←Er,Js,Er]
  congr 1
  rw[←Er,show i+(j-i)=j by lia,eij]
 obtain⟨m,hm1,⟨hm2,hm3⟩,hm4⟩:=least (P:=fun m=>0<m/\it B s.p m (it B s.p n x0)=it B s.p n x0) (j-i) ⟨by lia,hper⟩
 have hP:∀q,it B s.p (q*(j-i)) (it B s.p n x0)=it B s.p n x0:=fun q=>by
  induction q with
  |zero=>rw[Nat.zero_mul];rfl
  |succ q ih=>rw[Nat.succ_mul,Er,ih];exact hper
 have hback:it B s.p n x0=it B s.p (n-(j-i)) x0:=by
  have e1:it B s.p n x0=it B s.p (n-j) (it B s.p j x0):=by rw[←Er];congr 1;lia
  rw[e1,←eij,←Er]
  congr 1
  lia
 have hat:∀k,∃l,l<n/\it B s.p k (it B s.p n x0)=it B s.p l x0:=fun k=>by
  have hp:0<j-i:=by lia
  have hm:=LA k hp
  refine⟨n-(j-i)+k%(j-i),by lia,?_⟩
  have e1:it B s.p k (it B s.p n x0)=it B s.p (k%(j-i)) (it B s.p n x0):=by
   have:=Nat.div_add_mod k (j-i)
   conv=>lhs;rw[←this,Nat.mul_comm,Er,hP]
  rw[e1,hback,←Er]
 have hal:∀k,∃i b,s.p (it B s.p k (it B s.p n x0))=some i/\B[i]?=some b/\b.x=it B s.p k (it B s.p n x0):=fun k=>by
  obtain⟨l,hl1,hl2⟩:=hat k
  obtain⟨i,hi⟩:=hw l hl1
  rw[hl2]
  obtain⟨b,g1,g2,_⟩:=h.par _ _ hi
  exact⟨i,b,hi,g1,g2⟩
 refine⟨m,fun j hj=>(by obtain⟨i,hi⟩:=hw j hj;obtain⟨b,g1,g2,_⟩:=h.par _ _ hi;exact⟨i,b,hi,g1,g2⟩),hlt,hm2,by lia,hm3,fun k k1 k2 e=>hm4 k k2 ⟨k1,e⟩,hal,?_⟩
 obtain⟨m',rfl⟩:∃m',m=m'+1:=⟨m-1,by lia⟩
 exact h.neg m' _ (fun j _=>by obtain⟨i,b,g,_⟩:=hal j;exact⟨i,g⟩) hm3
def DE (B:List Bond)(p:Nat->Option Nat)(s m:Nat):List Nat:=(List.range m).map fun k=>(p (it B p k s)).getD 0
def J1 (B:List Bond)(p:Nat->Option Nat)(s:Nat):Nat->Nat->List Nat
 |0,_=>[]
 |f+1,x=>if x=s then[] else(p x).getD 0::J1 B p s f (pb B p x).y
theorem Of {B:List Bond}{p:Nat->Option Nat}{s m:Nat}(hb:it B p m s=s)(hl:∀k,0<k->k<m->it B p k s≠s):∀(f j:Nat),0<j->j<=m->m-j<=f->J1 B p s f (it B p j s)=(List.range (m-j)).map fun k=>(p (it B p (j+k) s)).getD 0
 |0,j,h0,h1,h2=>by rw[show m-j=0 by lia];rfl
 |
  f+1,j,h0,h1,h2=>by
  unfold J1
  by_cases c:j=m
  .subst c
   rw[Ax hb,Fs];rfl
  .rw[As (hl j h0 (by lia)),←GQ,Of hb hl f (j+1) (by lia) (by lia) (by lia)]
   rw[show m-j=(m-(j+1))+1 by lia,QB,Bz,Jx,Nat.add_zero]
   congr 1
   refine Qw fun k _=>?_
   show(p (it B p (j+1+k) s)).getD 0=(p (it B p (j+(k+1)) s)).getD 0
   rw[show j+1+k=j+(k+1) by lia]
def bd0:Bond:=⟨0,0,0⟩
def sumC (B:List Bond):List Nat->Int
 |[]=>0
 |i::R=>(B.getD i bd0).c+sumC B R
theorem Sz (B:List Bond)(R S:List Nat):sumC B (R++S)=sumC B R+sumC B S:=by
 induction R with
 |nil=>simp[sumC]
 |cons i R ih=>rw[List.cons_append,sumC,sumC,ih];lia
def WF (n:Nat)(B:List Bond):Prop := ∀b∈B,b.x<n/\b.y<n
def Holds (f:Nat->Int)(B:List Bond):Prop := ∀b∈B,f b.x-f b.y<=b.c
structure RingOk (B:List Bond)(R:List Nat)(u:Nat->Nat):Prop where
 pos:0<R.length
 nd:R.Nodup
 bond:∀k i,R[k]?=some i->∃b,B[i]?=some b/\b.x=u k/\b.y=u (k+1)
 back:u R.length=u 0
 neg:sumC B R<0
def ringOf (n:Nat)(B:List Bond)(s:Sv):List Nat:=
 (s.p (it B s.p n (s.low.getD 0))).getD 0::J1 B s.p (it B s.p n (s.low.getD 0)) n (pb B s.p (it B s.p n (s.low.getD 0))).y
theorem NR {B:List Bond}{p:Nat->Option Nat}{e:Nat}(h:∀k,∃i b,p (it B p k e)=some i/\B[i]?=some b/\b.x=it B p k e):∀m,sumC B (DE B p e m)=sm B p m e
 |0=>rfl
 |
  m+1=>by
  have ih:=NR h m
  obtain⟨i,b,h1,h2,h3⟩:=h m
  unfold DE at ih ⊢
  rw[FL,Bq,Sz,ih,VG,Fc h1 h2]
  show _+(sumC B [(p (it B p m e)).getD 0])=_
  rw[h1]
  show _+((B.getD i bd0).c+0)=_
  rw[Cp,h2]
  simp
theorem Gk.eq {n:Nat}{B:List Bond}{s:Sv}{x0 m:Nat}(r:Gk n B s.p x0 m)(e:s.low=some x0):ringOf n B s=DE B s.p (it B s.p n x0) m:=by
 unfold ringOf
 rw[e]
 simp only[QC]
 have:=Of r.back r.least n 1 (by lia) r.pos (by have:=r.le;lia)
 rw[GQ]at this
 change J1 B s.p (it B s.p n x0) n (pb B s.p (it B s.p n x0)).y=_ at this
 rw[this]
 unfold DE
 obtain⟨m',hm⟩:∃m',m=m'+1:=⟨m-1,by have:=r.pos;lia⟩
 subst hm
 rw[QB,Bz,Jx]
 congr 1
 refine Qw fun k _=>?_
 show _=(s.p (it B s.p (k+1) (it B s.p n x0))).getD 0
 rw[Js 1 k]
theorem Gk.ok {n:Nat}{B:List Bond}{s:Sv}{x0 m:Nat}(r:Gk n B s.p x0 m)(e:s.low=some x0):RingOk B (ringOf n B s) (fun k=>it B s.p k (it B s.p n x0)):=by
 rw[r.eq e]
 have hlen:(DE B s.p (it B s.p n x0) m).length=m:=by unfold DE;rw[Aq,CL]
 refine⟨by rw[hlen];exact r.pos,?_,fun k i hk=>?_,?_,?_⟩
 .unfold DE
  rw[List.nodup_iff_pairwise_ne,List.pairwise_map]
  refine(List.pairwise_lt_range (n:=m)).imp_of_mem fun{i j} hi hj hij ee=>?_
  have hi:=Fp.mp hi
  have hj:=Fp.mp hj
  obtain⟨i1,b1,g1,g2,g3⟩:=r.alive i
  obtain⟨i2,b2,k1,k2,k3⟩:=r.alive j
  rw[g1,k1]at ee
  simp only[QC]at ee
  subst ee
  rw[g2]at k2
  cases k2
  have hij2:it B s.p i (it B s.p n x0)=it B s.p j (it B s.p n x0):=g3.symm.trans k3
  have:it B s.p (m-j+i) (it B s.p n x0)=it B s.p n x0:=by
   rw[Js,Er,hij2,←Er,show j+(m-j)=m by lia]
   exact r.back
  exact r.least (m-j+i) (by lia) (by lia) this
 .unfold DE at hk
  rw[BG]at hk
  have hlt:k<m:=by
   cases c:(List.range m)[k]? with
   |none=>rw[c]at hk;cases hk
   |some z=>have:=(AX.mp c).1;simpa using this
  rw[Jw hlt]at hk
  obtain⟨i1,b1,g1,g2,g3⟩:=r.alive k
  simp only[Lx,g1,QC,Option.some.injEq]at hk
  subst hk
  refine⟨b1,g2,g3,?_⟩
  show b1.y=it B s.p (k+1) (it B s.p n x0)
  rw[GQ,Fc g1 g2]
 .rw[hlen];exact r.back
 .rw[NR r.alive];exact r.neg
theorem go_ok {n:Nat}{B:List Bond}(hn:0<n)(w:WF n B):(∃s,go B n st0 = .inl s/\Holds (fun i=>s.v i-s.v 0) B)\/∃s x0 m,go B n st0 = .inr s/\s.low=some x0/\Gk n B s.p x0 m:=by
 cases c:go B n st0 with
 |
  inl s=>
  refine .inl ⟨s,rfl,fun b hb=>?_⟩
  have:=P6 (A4.start B) c b hb
  simp only[]
  lia
 |
  inr s=>
  obtain⟨k,rfl⟩:∃k,n=k+1:=⟨n-1,by lia⟩
  obtain⟨last,x,h1,h2⟩:=Qd (A4.start B) c
  rw[Js]at h1
  obtain⟨m,hm⟩:=h1.ring hn h2 w
  exact .inr ⟨s,x,m,rfl,h2,hm⟩
end Bd
namespace L2
open PySem PySem.Spec PyProof.Rows Bd
section
variable {es:List Expr}{env:Env}{p:Pos}
theorem B7 {c:Const}{n:Nat}:starEach (.Constant c n p::es) env=(false,eval (.Constant c n p) env)::starEach es env:=rfl
theorem AK {x:Str}:starEach (.Name x p::es) env=(false,eval (.Name x p) env)::starEach es env:=rfl
theorem CC {a b:Expr}{o:Operator}:starEach (.BinOp a o b p::es) env=(false,eval (.BinOp a o b p) env)::starEach es env:=rfl
theorem Fi {f:Expr}{as:List Expr}{ks:List Keyword}:starEach (.Call f as ks p::es) env=(false,eval (.Call f as ks p) env)::starEach es env:=rfl
theorem Ed {a b:Expr}:starEach (.Subscript a b p::es) env=(false,eval (.Subscript a b p) env)::starEach es env:=rfl
theorem VC {as:List Expr}{n:Nat}:starEach (.Tuple as n p::es) env=(false,eval (.Tuple as n p) env)::starEach es env:=rfl
theorem L8 {o:UnaryOp}{a:Expr}:starEach (.UnaryOp o a p::es) env=(false,eval (.UnaryOp o a p) env)::starEach es env:=rfl
theorem O0 {a:Expr}{x:Str}:starEach (.Attribute a x p::es) env=(false,eval (.Attribute a x p) env)::starEach es env:=rfl
end
@[irreducible] def FF (X:Cx) (es:List Expr) (t:TA):Prop:=PA X es t
section
variable {X:Cx}{e:Expr}{es:List Expr}{te:TE}{t:TA}{pos:Pos}
theorem Bm:FF X [] G2:=by unfold FF;exact A2
theorem Ab (ha:PE X e te)(hr:FF X es t)(hs:starEach (e::es) X.env=(false,eval e X.env)::starEach es X.env):FF X (e::es) (MX te t):=by unfold FF at *;exact A0 ha hr hs
theorem Hf (h:FF X es t):PE X (.List es pos) (Qb t):=by unfold FF at h;exact B9 h
theorem BB {x1:Nat}(h:FF X es t):PE X (.Tuple es x1 pos) (Pu t):=by unfold FF at h;exact CM h
end
def Gn:Option Nat->V
 |none=>.non
 |some i=>.int (i:Int)
def rl (n:Nat)(f:Nat->V):List V:=(List.range n).map f
def vl (n:Nat)(f:Nat->Int):List V:=rl n fun i=>.int (f i)
def pl (n:Nat)(p:Nat->Option Nat):List V:=rl n fun i=>Gn (p i)
theorem Hr (n:Nat)(f:Nat->V):(rl n f).length=n:=by unfold rl;rw[Aq,CL]
theorem J9 (n:Nat)(f:Nat->Int):(vl n f).length=n:=Hr _ _
theorem TB (n:Nat)(f:Nat->Option Nat):(pl n f).length=n:=Hr _ _
theorem Kr {n x:Nat}{f:Nat->V}(h:x<n):(rl n f)[x]?=some (f x):=by unfold rl;rw[BG,Jw h];rfl
theorem NJ {n x:Nat}{f:Nat->V}(h:x<n):B8 (rl n f) (x:Int)=some (f x):=By (Kr h)
theorem LI {n x:Nat}{f:Nat->Int}(h:x<n):B8 (vl n f) (x:Int)=some (.int (f x)):=NJ h
theorem Mv {n x:Nat}{f:Nat->Option Nat}(h:x<n):B8 (pl n f) (x:Int)=some (Gn (f x)):=NJ h
theorem OZ {n x:Nat}(h:x<n):EO n (x:Int)=some x:=by
 unfold EO
 rw[Ax (by lia),Ax (by lia)]
 rfl
theorem PY {n x:Nat}{f:Nat->V}{a:V}:(rl n f).set x a=rl n (Cb f x a):=by
 refine List.ext_getElem? fun k=>?_
 rw[List.getElem?_set]
 by_cases hk:k<n
 .rw[Kr hk,Kr hk,Hr]
  by_cases e:x=k
  .subst e;rw[Ax rfl,Ax hk,DY]
  .rw[As e,Eb (Ne.symm e)]
 .have h1:(rl n f)[k]?=none:=Nq (by rw[Hr];lia)
  have h2:(rl n (Cb f x a))[k]?=none:=Nq (by rw[Hr];lia)
  rw[h1,h2,Hr]
  by_cases e:x=k
  .subst e;rw[Ax rfl,As hk]
  .rw[As e]
theorem UT {n x:Nat}{f:Nat->Int}{a:Int}:(vl n f).set x (.int a)=vl n (Cb f x a):=by
 unfold vl
 rw[PY]
 congr 1
 funext j
 unfold Cb
 split<;>rfl
theorem Vw {n x:Nat}{f:Nat->Option Nat}{a:Nat}:(pl n f).set x (.int (a:Int))=pl n (Cb f x (some a)):=by
 unfold pl
 rw[PY]
 congr 1
 funext j
 unfold Cb
 split<;>rfl
theorem P1 (n:Nat)(a:V):(List.replicate n [a]).flatten=rl n fun _=>a:=by
 unfold rl
 induction n with
 |zero=>rfl
 |succ n ih=>rw[List.replicate_succ',List.flatten_concat,ih,FL,Bq];rfl
theorem Xu {L:List Int}{i:Int}(h0:0<=i)(h1:i<(L.length:Int)):∃z∈L,B8 (L.map V.int) i=some (.int z):=by
 have e:L[i.toNat]?=some L[i.toNat]:=AL (by lia)
 refine⟨L[i.toNat],Jv _,?_⟩
 have h:B8 (L.map V.int) ((i.toNat:Nat):Int)=some (.int L[i.toNat]):=By (by rw[BG,e];rfl)
 rwa [LB h0]at h
theorem Gh {L:List Int}{i:Int}(n:Nat)(hn:L.length=n)(h0:0<=i)(h1:i<(n:Int)):∃z∈L,B8 (L.map V.int) i=some (.int z):=Xu h0 (by rw[hn];exact h1)
theorem M7 {c:TT}{tb:TS}{D:De}{σ:St}{H:Hp}(k:Nat)(Pv:Nat->St->Hp->Prop)(h0:Pv 0 σ H)
  (hs:∀i σ H,i<=k->Pv i σ H->c σ H fun b H1=>if b=true then i<k/\tb {D with nx:=Pv (i+1),ct:=Pv (i+1),bk:=D.nx} σ H1 else D.nx σ H1)
  (mono:∀σ H Q Q',(∀b H1,Q b H1->Q' b H1)->c σ H Q->c σ H Q'):NZ c tb D σ H:=by
 refine⟨fun m σ H=>∃i,i<=k/\m=k-i/\Pv i σ H,⟨_,0,BN _,rfl,h0⟩,?_⟩
 rintro m σ H ⟨i,hi,rfl,p⟩
 refine mono σ H _ _ (fun b H1 q=>?_) (hs i σ H hi p)
 cases b with
 |true=>exact⟨Pv (i+1),fun σ' H' p'=>⟨k-(i+1),by have:=q.1;lia,i+1,by have:=q.1;lia,rfl,p'⟩,q.2⟩
 |false=>exact q
def CG (R:List Nat):List V:=(R.map fun i=>((i:Nat):Int)).map V.int
theorem L6 (R:List Nat):(CG R).length=R.length:=by unfold CG;rw[Aq,Aq]
theorem VY {R:List Nat}{k i:Nat}(h:R[k]?=some i):(CG R)[k]?=some (.int (i:Int)):=by unfold CG;rw[BG,BG,h];rfl
theorem Sx (R:List Nat)(i:Nat):CG R++[.int (i:Int)]=CG (R++[i]):=by unfold CG;rw[Bq,Bq];rfl
def KW (H:Hp)(v:V)(b:Bond):Prop := ∃t,v = .ref t/\H t=some (.tup [.int (b.x:Int),.int (b.y:Int),.int b.c])
def HV (H:Hp)(vs:List V)(B:List Bond):Prop:=vs.length=B.length/\∀(i:Nat) (v:V) (b:Bond),vs[i]?=some v->B[i]?=some b->KW H v b
def Ge (H:Hp)(l:Addr)(B:List Bond):Prop := ∃vs,H l=some (.lst vs)/\HV H vs B
theorem KW.over {H H':Hp}{v:V}{b:Bond}(h:KW H v b)(e:A9 H H'):KW H' v b:=by
 obtain⟨t,h1,h2⟩:=h
 exact⟨t,h1,e _ _ h2⟩
theorem HV.over {H H':Hp}{vs:List V}{B:List Bond}(h:HV H vs B)(e:A9 H H'):HV H' vs B:=⟨h.1,fun i v b x y=>(h.2 i v b x y).over e⟩
theorem Ge.over {H H':Hp}{l:Addr}{B:List Bond}(h:Ge H l B)(e:A9 H H'):Ge H' l B:=by
 obtain⟨vs,h1,h2⟩:=h
 exact⟨vs,e _ _ h1,h2.over e⟩
def MF (H H':Hp)(v l:Addr):Prop := ∀a o,H a=some o->a≠v->a≠l->H' a=some o
def Fb (n:Nat)(B:List Bond):V×List V:=match go B n st0 with
 |.inl s=>(.str "values",vl n fun i=>s.v i-s.v 0)
 |.inr s=>(.str "ring",CG (ringOf n B s))
theorem HV.get {H:Hp}{vs:List V}{B:List Bond}(h:HV H vs B){i:Nat}{b:Bond}(hb:B[i]?=some b):∃t,B8 vs (i:Int)=some (.ref t)/\H t=some (.tup [.int (b.x:Int),.int (b.y:Int),.int b.c]):=by
 have hi:i<vs.length:=by rw[h.1];exact(AX.mp hb).1
 obtain⟨t,e,ht⟩:=h.2 i vs[i] b (AL hi) hb
 exact⟨t,(By (AL hi)).trans (by rw[e]),ht⟩
theorem S9 (i:Nat)(f:Nat->Int):vl (i+1) f=vl i f++[.int (f i)]:=by unfold vl rl;rw[FL,Bq];rfl
theorem Wh (n:Nat)(f:Nat->Int):vl n f=((List.range n).map f).map V.int:=by unfold vl rl;rw[Jx];rfl
def QR:Sp:=fun vs H Q _=>∃(b v l:Addr) (B:List Bond) (n:Nat) (s:Sv),vs=[.ref b,.ref v,.ref l]/\b≠v/\b≠l/\v≠l/\Ge H b B/\WF n B/\H v=some (.lst (vl n s.v))/\H l=some (.lst (pl n s.p))/\
 ∀H',MF H H' v l->H' v=some (.lst (vl n (CT B s).v))->H' l=some (.lst (pl n (CT B s).p))->Q (Gn (CT B s).low) H'
def Vj:Sp:=fun vs H Q _=>∃(n:Nat) (b l:Addr) (B:List Bond) (s:Sv) (x0 m:Nat),vs=[.int (n:Int),.ref b,.ref l,.int (x0:Int)]/\Ge H b B/\B.length<=1000/\n<=1000/\H l=some (.lst (pl n s.p))/\s.low=some x0/\Gk n B s.p x0 m/\WF n B/\
 ∀(r:Addr) (H':Hp),A9 H H'->H r=none->H' r=some (.lst (CG (ringOf n B s)))->Q (.ref r) H'
def TU:Sp:=fun vs H Q _=>∃(n:Nat) (b:Addr) (B:List Bond),vs=[.int (n:Int),.ref b]/\Ge H b B/\WF n B/\0<n/\n<=1000/\B.length<=1000/\
 ∀(t l:Addr) (H':Hp),A9 H H'->H l=none->H' t=some (.tup [(Fb n B).1,.ref l])->H' l=some (.lst (Fb n B).2)->Q (.ref t) H'
end L2
namespace Bd
end Bd
namespace L2
open PySem PySem.Spec PyProof.Rows
section
open Bd
theorem LK {tt:TT}{ta tb:TS}{D:De}{σ:St}{H:Hp}(M:Hp->Prop)(ha:∀H',M H'->ta D σ H')(h:(∀H',M H'->ta D σ H')->LU tt ta tb D σ H):LU tt ta tb D σ H:=h ha
theorem O8:∀{ns:List Int} {its:List Value},Ay (ns.map V.int) its->IntsAre its ns
 |[],_,.nil=>.nil
 |n::ns,_,.cons ⟨t,h⟩ r=>by subst h;exact .cons n t (O8 r)
theorem V6 {X:Cx}(hc:X.calm=true):EC X (.builtin "sum") (fun xs H Q=>∃(p:Addr) (ns:List Int),xs=[.ref p]/\A5 X.K H p (ns.map V.int)/\Q (.int ns.sum) H):=by
 intro pins s σ H xs us Q I r h
 obtain⟨p,ns,rfl,hq,q⟩:=h
 obtain⟨u,rfl,ru⟩:=FE r
 cases ru
 obtain⟨its,rv,pl,hz⟩:=I.list hq
 have hi:=O8 rv
 obtain⟨xs,ex⟩:=hi.allInts.items
 have hn:xs.toList.map (·.1)=ns:=by rw[←nums_intItems,←ex];exact hi.numsOf
 have hl:=pl.isList
 rw[ex]at hl
 refine sum_intListG (I.ok.hd hc) hl fun h' tk t' hk=>?_
 rw[preSum_eq,EZ (by simp),hn]
 exact⟨.int ns.sum,H,I.kept (t':=tk) hk,⟨_,rfl⟩,q⟩
end
section
open Bd
def Ig (c k:Int):Int:=((c+7919*k+1)*48271%2147483647)*((c+7919*k+1)*48271%2147483647)%2147483629
theorem Xr (c k:Int):0<=Ig c k/\Ig c k<2147483629:=⟨FJ _ (by decide),FK _ (by decide)⟩
def CQ (m:Int)(n:Nat):List Nat:=(List.range n).map fun k:Nat=>FW (m/((k:Int)+9))
theorem GD (m:Int)(n:Nat):(CQ m n).length=n:=by unfold CQ;rw[Aq,CL]
def BZ (m:Int):Nat:=(m%8).toNat
theorem Mf (m:Int):BZ m<=7:=by
 have:=FJ m (show(8:Int)≠0 by decide)
 have:=FK m (show(0:Int)<8 by decide)
 unfold BZ;lia
def E9 (m:Int):Nat:=(m/8%((BZ m:Int)+1)).toNat
theorem LW (m:Int):E9 m<=BZ m/\((E9 m:Nat):Int)=m/8%((BZ m:Int)+1):=by
 have:=FJ (m/8) (show((BZ m:Int)+1)≠0 by lia)
 have:=FK (m/8) (show(0:Int)<(BZ m:Int)+1 by lia)
 unfold E9;lia
def GL (m e:Int):List Nat:=(CQ m (BZ m)).take (E9 m)++[FW (m/72+5*e)]++(CQ m (BZ m)).drop (E9 m)
def MS (m e:Int):List Nat:=(CQ m (BZ m)++AS "qrstuvwx").take (5+e).toNat
def Cj (m e:Int):List Nat:=if m/5003%4=1 then MS m e else GL m e
def DD (m e:Int):List Nat:=if Cj m e∈GP then Cj m e++[115] else Cj m e
theorem M0 (m e:Int):(GL m e).length=BZ m+1:=by
 unfold GL
 have:=(LW m).1
 rw[Az,Az,Bg,Il,GD,BI]
 lia
theorem q8:(AS "qrstuvwx").length=8:=by decide +kernel
theorem L7 {m e:Int}(h0:0<=e)(h1:e<=2):(MS m e).length=(5+e).toNat:=by
 unfold MS
 have:=Mf m
 rw[Bg,Az,GD,q8]
 lia
theorem WA (m e:Int):(GL m e)[E9 m]?=some (FW (m/72+5*e)):=by
 unfold GL
 have:=(LW m).1
 rw[DR,DQ (by rw[Bg,GD];lia),Bg,GD,show E9 m-min (E9 m) (BZ m)=0 by lia]
 rfl
theorem P4 {m i j:Int}(i0:0<=i)(i1:i<=2)(j0:0<=j)(j1:j<=2)(h:i≠j):Cj m i≠Cj m j:=fun e=>by
 unfold Cj at e
 by_cases c:m/5003%4=1
 .rw[Ax c,Ax c]at e
  have:=congrArg List.length e
  rw[L7 i0 i1,L7 j0 j1]at this
  lia
 .rw[As c,As c]at e
  have:=congrArg (fun l:List Nat=>l[E9 m]?) e
  simp only[WA]at this
  have:=Cg this
  unfold FW at this
  omega
theorem Og {m i j:Int}(i0:0<=i)(i1:i<=2)(hi:Cj m i∈GP):(Cj m i).length=(Cj m j).length:=by
 have h4:∀l∈GP,l.length<=4:=by decide +kernel
 unfold Cj at hi ⊢
 by_cases c:m/5003%4=1
 .rw[Ax c]at hi
  have:=h4 _ hi
  rw[L7 i0 i1]at this
  lia
 .rw[As c,As c,M0,M0]
theorem TY {m i j:Int}(i0:0<=i)(i1:i<=2)(j0:0<=j)(j1:j<=2)(h:i≠j):DD m i≠DD m j:=fun e=>by
 unfold DD at e
 by_cases c1:Cj m i∈GP<;>by_cases c2:Cj m j∈GP
 .rw[Ax c1,Ax c2]at e
  exact P4 i0 i1 j0 j1 h (List.append_cancel_right e)
 .rw[Ax c1,As c2]at e
  have:=congrArg List.length e
  rw[Az,Og (j:=j) i0 i1 c1]at this
  simp at this
 .rw[As c1,Ax c2]at e
  have:=congrArg List.length e
  rw[Az,Og (j:=i) j0 j1 c2]at this
  simp at this
 .rw[As c1,As c2]at e
  exact P4 i0 i1 j0 j1 h e
theorem Qc {m e:Int}(h0:0<=e)(h1:e<=2):1<=(Cj m e).length/\(Cj m e).length<=8:=by
 unfold Cj
 have:=Mf m
 split
 .rw[L7 h0 h1];lia
 .rw[M0];lia
theorem Yr {m e:Int}(h0:0<=e)(h1:e<=2):1<=(DD m e).length/\(DD m e).length<=9:=by
 have:=Qc (m:=m) h0 h1
 unfold DD
 split
 .rw[Az];simp;lia
 .lia
end
def K5 (C:Addr)(fs:List Str):Sp:=fun as H Q _=>∃(x dx:Addr) (vs:List V),as = .ref x::vs/\vs.length=fs.length/\H x=some (.ins C dx [])/\∀H',(∀b o,H b=some o->b≠x->H' b=some o)->(∃dx,H' x=some (.ins C dx (fs.zip vs)))->Q .non H'
structure Cs where
 n:Addr
 v:Addr
 c:Addr
 j:Addr
def Kk:Sp:=fun vs H Q _=>∃x:V,vs=[x]/\∀(r:Addr) (H':Hp),A9 H H'->H' r=some (.lst [])->Q (.ref r) H'
def OE (C:Addr):Sp:=fun vs H Q _=>∃(x dx:Addr) (z:Str) (v:V),vs=[.ref x]/\H x=some (.ins C dx [("table",.str z),("spots",v)])/\∀(t r:Addr) (H':Hp),A9 H H'->H' t=some (.tup [.str z,v])->H' r=some (.lst [.ref t])->Q (.ref r) H'
theorem A5.updI {K:YO}{H:Hp}{p x C dx:Addr}{fs:List (Str×V)}{ys:List V}{o:HO}(h:A5 K H p ys)(hx:H x=some (.ins C dx fs)):A5 K (upd H x o) p ys:=by
 rcases h with(h|⟨ob,h⟩)|h
 .refine .inl (.inl ?_)
  rw[Am (fun e=>by rw[e,hx]at h;cases h)]
  exact h
 .refine .inl (.inr ⟨ob,?_⟩)
  rw[Am (fun e=>by rw[e,hx]at h;cases h)]
  exact h
 .exact .inr h
def X0 (K:YO)(C:Addr):Sp:=fun vs H Q _=>∃(x dx:Addr) (sz:V) (p:Addr) (ys:List V),vs=[.ref x,sz,.ref p]/\H x=some (.ins C dx [])/\A5 K H p ys/\∀(l:Addr) (H':Hp),H l=none->(∀b o,H b=some o->b≠x->H' b=some o)->H' l=some (.lst ys)->(∃dx,H' x=some (.ins C dx [("size",sz),("deeds",.ref l)]))->Q .non H'
end L2
namespace PySem
open Builtin
open AutoSeq1 (wpAny_loadPart')
end PySem
namespace L2
open PySem PySem.Spec PyProof.Rows
section
variable {X:Cx}
end
section
open Bd
def JX (H:Hp)(vs:List V):Prop := ∀v∈vs,∃(t:Addr) (z:Str) (n:Int),v = .ref t/\H t=some (.tup [.str z,.int n])
theorem JX.over {H H':Hp}{vs:List V}(h:JX H vs)(e:A9 H H'):JX H' vs:=fun v hv=>by
 obtain⟨t,z,n,h1,h2⟩:=h v hv
 exact⟨t,z,n,h1,e _ _ h2⟩
theorem Jn {vs:List V}{i:Int}(h0:0<=i)(h1:i<(vs.length:Int)):∃v∈vs,B8 vs i=some v:=by
 have e:vs[i.toNat]?=some vs[i.toNat]:=AL (by lia)
 refine⟨vs[i.toNat],Jv _,?_⟩
 have h:B8 vs ((i.toNat:Nat):Int)=some vs[i.toNat]:=By e
 rwa [LB h0]at h
def FH (H:Hp)(p:Addr):Prop := ∃xs,H p=some (.tup xs)/\xs.length<=3/\JX H xs
theorem FH.over {H H':Hp}{p:Addr}(h:FH H p)(e:A9 H H'):FH H' p:=by
 obtain⟨xs,h1,h2,h3⟩:=h
 exact⟨xs,e _ _ h1,h2,h3.over e⟩
abbrev BK:=List (Str×Addr)
inductive Cz (H:Hp):Nat->V->BK->Prop
 |n {t:Addr} (i:Int):H t=some (.tup [.str "n",.int i])->Cz H 1 (.ref t) []
 |v {t:Addr} (z:Str):H t=some (.tup [.str "v",.str z])->Cz H 1 (.ref t) []
 |c {t p:Addr} (z:Str):H t=some (.tup [.str "c",.str z,.ref p])->FH H p->Cz H 1 (.ref t) [(z,p)]
 |j {t:Addr} {l r:V} {m n:Nat} {rs us:BK} (z:Str):z∈[Str.ofString "+",Str.ofString "-",Str.ofString "*"]->H t=some (.tup [.str z,l,r])->Cz H m l rs->Cz H n r us->Cz H (m+n) (.ref t) (rs++us)
theorem Cz.over {H H':Hp}(e:A9 H H'){n:Nat}{x:V}{rs:BK}(h:Cz H n x rs):Cz H' n x rs:=by
 induction h with
 |n i h=>exact .n i (e _ _ h)
 |v z h=>exact .v z (e _ _ h)
 |c z h hp=>exact .c z (e _ _ h) (hp.over e)
 |j z hz h _ _ a b=>exact .j z hz (e _ _ h) a b
theorem Cz.pos {H:Hp}{n:Nat}{x:V}{rs:BK}(h:Cz H n x rs):1<=n/\rs.length<=n/\∀r∈rs,FH H r.2:=by
 induction h with
 |n i h=>exact⟨Ap _,BN _,fun r hr=>by cases hr⟩
 |v z h=>exact⟨Ap _,BN _,fun r hr=>by cases hr⟩
 |c z h hp=>exact⟨Ap _,Ap _,fun r hr=>by rw[DT]at hr;subst hr;exact hp⟩
 |
  j z hz h _ _ a b=>
  refine⟨by lia,by rw[Az];lia,fun r hr=>?_⟩
  rcases Co.mp hr with hr|hr
  .exact a.2.2 r hr
  .exact b.2.2 r hr
inductive CA (c:Cs)(H:Hp):Nat->V->BK->Prop
 |num {x dx:Addr} (i:Int):H x=some (.ins c.n dx [("n",.int i)])->CA c H 1 (.ref x) []
 |val {x dx:Addr} (z:Str):H x=some (.ins c.v dx [("name",.str z)])->CA c H 1 (.ref x) []
 |cel {x dx p:Addr} (z:Str):H x=some (.ins c.c dx [("table",.str z),("spots",.ref p)])->CA c H 1 (.ref x) [(z,p)]
 |joi {x dx:Addr} {l r:V} {m n:Nat} {rs us:BK} (z:Str):H x=some (.ins c.j dx [("sign",.str z),("left",l),("right",r)])->CA c H m l rs->CA c H n r us->CA c H (m+n) (.ref x) (rs++us)
theorem CA.over {c:Cs}{H H':Hp}(e:A9 H H'){n:Nat}{x:V}{rs:BK}(h:CA c H n x rs):CA c H' n x rs:=by
 induction h with
 |num i h=>exact .num i (e _ _ h)
 |val z h=>exact .val z (e _ _ h)
 |cel z h=>exact .cel z (e _ _ h)
 |joi z h _ _ a b=>exact .joi z (e _ _ h) a b
theorem CA.pos {c:Cs}{H:Hp}{n:Nat}{x:V}{rs:BK}(h:CA c H n x rs):1<=n/\rs.length<=n:=by
 induction h with
 |num i h=>exact⟨Ap _,BN _⟩
 |val z h=>exact⟨Ap _,BN _⟩
 |cel z h=>exact⟨Ap _,Ap _⟩
 |joi z h _ _ a b=>exact⟨by lia,by rw[Az];lia⟩
def D8 (H:Hp)(f:Str×Addr->List V)(ys:List V)(rs:BK):Prop:=ys.length=rs.length/\∀(i:Nat) (y:V) (r:Str×Addr),ys[i]?=some y->rs[i]?=some r->∃t,y = .ref t/\H t=some (.tup (f r))
theorem D8.over {H H':Hp}{f:Str×Addr->List V}{ys:List V}{rs:BK}(h:D8 H f ys rs)(e:A9 H H'):D8 H' f ys rs:=⟨h.1,fun i y r a b=>by obtain⟨t,x,z⟩:=h.2 i y r a b;exact⟨t,x,e _ _ z⟩⟩
theorem D8.nil {H:Hp}{f:Str×Addr->List V}:D8 H f [] []:=⟨rfl,fun i y r a=>by simp at a⟩
theorem D8.one {H:Hp}{f:Str×Addr->List V}{t:Addr}{r:Str×Addr}(h:H t=some (.tup (f r))):D8 H f [.ref t] [r]:=⟨rfl,fun i y r' a b=>by
 cases i with
 |zero=>cases a;cases b;exact⟨t,rfl,h⟩
 |succ i=>simp at a⟩
theorem D8.app {H:Hp}{f:Str×Addr->List V}{ys zs:List V}{rs us:BK}(h:D8 H f ys rs)(g:D8 H f zs us):D8 H f (ys++zs) (rs++us):=by
 refine⟨by rw[Az,Az,h.1,g.1],fun i x c hx hc=>?_⟩
 by_cases hi:i<ys.length
 .rw[EH hi]at hx
  rw[EH (by rw[←h.1];exact hi)]at hc
  exact h.2 i x c hx hc
 .rw[DQ (by lia)]at hx
  rw[DQ (by rw[←h.1];lia),←h.1]at hc
  exact g.2 _ x c hx hc
def PD (r:Str×Addr):List V:=[.str r.1,.ref r.2]
def VP (r:Str×Addr):List V:=[.bl false,.str r.1,.ref r.2]
def OV (c:Cs)(n:Nat):Sp:=fun vs H Q _=>∃(x:V) (m:Nat) (rs:BK),vs=[x]/\m<=n/\Cz H m x rs/\∀(y:V) (H':Hp),A9 H H'->CA c H' m y rs->Q y H'
def Pn (n:Nat):Sp:=fun vs H Q _=>∃(x:V) (m:Nat) (rs:BK),vs=[x]/\m<=n/\m<=1000/\Cz H m x rs/\∀(l:Addr) (H':Hp) (xs:List V),A9 H H'->H' l=some (.lst xs)->D8 H' VP xs rs->Q (.ref l) H'
def Mp (c:Cs)(n:Nat):Sp:=fun vs H Q _=>∃(x dx:Addr) (z:Str) (l r:V) (m k:Nat) (rs us:BK),vs=[.ref x]/\H x=some (.ins c.j dx [("sign",.str z),("left",l),("right",r)])/\CA c H m l rs/\CA c H k r us/\m+k<=n+1/\n<=100/\∀(p:Addr) (ys:List V) (H':Hp),A9 H H'->H' p=some (.lst ys)->D8 H' PD ys (rs++us)->Q (.ref p) H'
def Wu (c:Cs)(n:Nat)(ta:TE):TE:=fun σ H_1 Q=>Jd c.n (Str.ofString "reads") Kk [] E0 ta G2 σ H_1 Q\/Jd c.v (Str.ofString "reads") Kk [] E0 ta G2 σ H_1 Q\/Jd c.c (Str.ofString "reads") (OE c.c) [] E0 ta G2 σ H_1 Q\/Jd c.j (Str.ofString "reads") (Mp c n) [] E0 ta G2 σ H_1 Q
theorem Nd {c:Cs}{n:Nat}{ta:TE}{σ:St}{H H1:Hp}{Q:VK}{v:V}{m:Nat}{rs:BK}(ha:∀R:VK,R v H1->ta σ H R)(h:CA c H1 m v rs)(hm:m<=n+1)(hn:n<=100)
  (q:∀(p:Addr) (ys:List V) (H':Hp),A9 H1 H'->H' p=some (.lst ys)->D8 H' PD ys rs->Q (.ref p) H'):Wu c n ta σ H Q:=by
 cases h with
 |@num x dx i h=>exact .inl (ha _ ⟨x,dx,_,rfl,h,rfl,_,rfl,fun r H' e hr=>q r _ H' e hr .nil⟩)
 |@val x dx z h=>exact .inr (.inl (ha _ ⟨x,dx,_,rfl,h,rfl,_,rfl,fun r H' e hr=>q r _ H' e hr .nil⟩))
 |@cel x dx p z h=>exact .inr (.inr (.inl (ha _ ⟨x,dx,_,rfl,h,rfl,x,dx,z,_,rfl,h,fun t' r H' e ht' hr=>q r _ H' e hr (.one (r:=(z,p)) ht')⟩)))
 |@joi x dx l r m' k ts us z h a b=>exact .inr (.inr (.inr (ha _ ⟨x,dx,_,rfl,h,rfl,x,dx,z,l,r,m',k,ts,us,rfl,h,a,b,hm,hn,q⟩)))
theorem Q1 {z:Str}(h:z∈[Str.ofString "+",Str.ofString "-",Str.ofString "*"]):z≠"n"/\z≠"v"/\z≠"c":=by
 have:∀z∈[Str.ofString "+",Str.ofString "-",Str.ofString "*"],z≠"n"/\z≠"v"/\z≠"c":=by decide +kernel
 exact this z h
theorem dS {x y:Str}(h:x≠y):decide (V.str x=V.str y)=false:=BO fun e=>h (V.str.inj e)
theorem XG {K:YO}{a:Addr}{xs:List V}{ρ:List (Option Nat)}{g:TG}{tt:TT}{te:TE}{σ:St}{H:Hp}{Q:VK}(Pv:Nat->List V->Hp->Prop)(h0:Pv 0 [] H)(hlen:xs.length<=sizeLine)(hl:∀i ys H,i<=xs.length->Pv i ys H->A5 K H a xs/\ys.length<=i)
  (hs:∀i x ys H,xs[i]?=some x->Pv i ys H->g x (Bl ρ σ) H fun σ2 H3=>J7 ρ σ σ2/\tt σ2 H3 fun ok H4=>if ok=true then te σ2 H4 fun v H5=>Pv (i+1) (ys++[v]) H5 else Pv (i+1) ys H4)
  (hd:∀ys H,Pv xs.length ys H->∀p,H p=none->Q (.ref p) (upd H p (.lst ys))):FX ρ g tt te σ Q (Gy K a) H:=by
 refine⟨fun i m ys H=>m=xs.length-i/\i<=xs.length/\Pv i ys H,⟨_,rfl,BN _,h0⟩,?_⟩
 rintro i m ys H ⟨rfl,hi,p⟩
 obtain⟨hq,hy⟩:=hl i ys H hi p
 by_cases hlt:i<xs.length
 .refine .inr ⟨⟨xs,xs[i],hq,by simp[hlt]⟩,by lia,Pv (i+1),fun ys' H'' p'=>⟨xs.length-(i+1),by lia,rfl,hlt,p'⟩,fun x H' y=>?_⟩
  obtain⟨e,y2⟩:=y
  subst e
  exact hs i x ys _ (y2 xs hq) p
 .have e:i=xs.length:=by lia
  subst e
  exact .inl ⟨⟨xs,hq,Ap _⟩,by lia,hd ys H p⟩
def Mo (fl:Bool)(r:Str×Addr):List V:=[.bl fl,.str r.1,.ref r.2]
def HH (c:Cs)(C:Addr)(H:Hp)(v:V)(z:Str)(p:Addr)(m:Nat)(rs:BK):Prop := ∃(d dx:Addr) (v1 v2 v3 x v7:V),v = .ref d/\H d=some (.ins C dx [("names",v1),("lows",v2),("highs",v3),("table",.str z),("spots",.ref p),("term",x),("path",v7)])/\CA c H m x rs
theorem HH.over {c:Cs}{C:Addr}{H H':Hp}{v:V}{z:Str}{p:Addr}{m:Nat}{rs:BK}(h:HH c C H v z p m rs)(e:A9 H H'):HH c C H' v z p m rs:=by
 obtain⟨d,dx,v1,v2,v3,x,v7,rfl,h1,h2⟩:=h
 exact⟨d,dx,v1,v2,v3,x,v7,rfl,e _ _ h1,h2.over e⟩
def JZ (H:Hp)(l:Addr)(z:Str)(p:Addr)(rs:BK):Prop := ∃(t:Addr) (ys:List V),H l=some (.lst (.ref t::ys))/\H t=some (.tup (Mo true (z,p)))/\D8 H (Mo false) ys rs
def SA (c:Cs)(C:Addr):Sp:=fun vs H Q _=>∃(v:V) (z:Str) (p:Addr) (m:Nat) (rs:BK),vs=[v]/\HH c C H v z p m rs/\m<=100/\∀(l:Addr) (H':Hp),A9 H H'->H l=none->JZ H' l z p rs->Q (.ref l) H'
end
theorem SO {M:Model}{A:Around}{E:Value->Shared->Prop}{s:Shared}{β:Type}{f:Nat->β->Sem (ForInStep β)}{n:Nat}{b:β}{Q:β->Shared->Prop}(I:Nat->β->Shared->Prop)(h:I 0 b s)
  (turn:∀i b s,i<n->I i b s->wpAny M A (f i b) (fun r s'=>match r with|.yield b'=>I (i+1) b' s'|.done b'=>Q b' s') E s) (fin:∀b s,I n b s->Q b s):wpAny M A (forIn [:n] b f) Q E s:=by
 rw[Std.Legacy.Range.forIn_eq_forIn_range']
 have key:∀(k i:Nat) (b:β) (s:Shared),i+k=n->I i b s->wpAny M A (forIn (List.range' i k) b f) Q E s:=by
  intro k
  induction k with
  |zero=>intro i b s e hi;rw[List.range'_zero,List.forIn_nil];exact AY (fin _ _ (by rw[←e];exact hi))
  |
   succ k ih=>
   intro i b s e hi
   rw[List.range'_succ,Nk]
   refine Ao (E6 (turn i b s (by lia) hi) (fun r s' hr=>?_) fun _ _ x=>x)
   cases r with
   |done b'=>exact AY hr
   |yield b'=>exact ih (i+1) b' s' (by lia) hr
 have e:(Std.Legacy.Range.size [:n])=n:=by simp[Std.Legacy.Range.size]
 rw[e]
 exact key n 0 b s (by lia) h
section
open PySem.SeqAt
open PySem.AutoSeq1 (wpAny_loadPart')
open PySem.MeetsSeq PySem.MeetsSeq2 PySem.MeetsSeq3
theorem UG (l:Addr)(items:Array Value)(n:Nat)(dd:Option Addr)(sl:Array (Option Value))(x:Value)(e:Value->Bool)(j:Nat)(hj:j<items.size)(hit:e items[j]=true)(hno:∀m (hm:m<items.size),m<j->e items[m]=false) :
  Meets (Builtin.«tuple.index» ⟨[.ref l,x],[]⟩)
   (fun A R s=>s.heap.get? l=some {cls:=.type "tuple",dict:=dd,data:=.seq items n,slots:=sl}/\(∀y,y∈items->EqAt A.in1 s y x (e y))/\R (.ok (.ret (.int j s.toks))) {s with toks:=s.toks+1}):=
 .of_wp fun prog w A R s h=>by
  obtain⟨hp,g,d,tk,os⟩:=s;obtain⟨hl,he,h⟩:=h
  wp_walk using wpAny_loadPart' hl
  refine SO (n:=min items.size items.size) (b:=(none,())) (f:=fun i _=>match items[i]? with
   |
    some y=>do
    let q ←eqBool y x
    if q=true then do
     let r ←retInt i
     pure (ForInStep.done (some r,()))
    else pure (ForInStep.yield (none,()))
   |_=>pure (ForInStep.yield (none,()))) (fun i b s'=>i<=j/\b.1=none/\s'=⟨hp,g,d,tk,os⟩) ⟨BN _,rfl,rfl⟩ (fun i b s' hi hI=>?_) (fun b s' hI=>?_)
  .obtain⟨hij,hb,rfl⟩:=hI
   have hlt:i<items.size:=by lia
   have ei:items[i]?=some items[i]:=QD hlt
   simp only[ei]
   refine Ao (he _ (Array.getElem_mem hlt) prog w _ _ ?_)
   by_cases c:i=j
   .subst c
    rw[hit]
    wp_walk
    exact⟨_,rfl,h⟩
   .rw[hno i hlt (by lia)]
    wp_walk
    exact⟨by lia,rfl,rfl⟩
  .obtain⟨hij,_,_⟩:=hI
   lia
end
def Te (z:Str):Value->Bool
 |.str y _=>y==z
 |_=>false
theorem T1 {zs:List Str}{its:List Value}(r:Ay (zs.map V.str) its){i:Nat}{u:Value}(h:its[i]?=some u):∃z t,zs[i]?=some z/\u = .str z t:=by
 cases e:(zs.map V.str)[i]? with
 |none=>rw[r.none_of e]at h;cases h
 |
  some v=>
  obtain⟨u',h',ru⟩:=r.get e
  rw[h]at h'
  cases h'
  rw[BG]at e
  cases ez:zs[i]? with
  |none=>rw[ez]at e;cases e
  |
   some z=>
   rw[ez]at e
   cases e
   obtain⟨t,ht⟩:=(show ∃t,u=Value.str z t from ru)
   exact⟨z,t,rfl,ht⟩
def Sg (K:YO):V->List V->Hp->VK->Prop:=fun x vs H Q=>∃(p:Addr) (zs:List Str) (z:Str) (j:Nat),x = .ref p/\vs=[.str z]/\A3 K H p (zs.map V.str)/\zs[j]?=some z/\(∀m<j,zs[m]?≠some z)/\Q (.int (j:Int)) H
theorem P5 {X:Cx}:Hd X "tuple.index" (Sg X.K):=by
 intro pins s σ H x vs v us Q I rx rv h
 obtain⟨p,zs,z,j,rfl,rfl,hq,hj,hno,q⟩:=h
 cases rx
 obtain⟨u,rfl,ru⟩:=FE rv
 obtain⟨tk,rfl⟩:=(show ∃t,u=Value.str z t from ru)
 obtain⟨its,r,⟨o,e,hc,n,hd⟩,hz⟩:=I.tuple hq
 have hl:=r.length
 rw[Aq]at hl
 have hjl:j<its.length:=by have:=(AX.mp hj).1;lia
 obtain⟨cls,dd,data,sl⟩:=o
 simp only at hc hd
 subst hc hd
 have at':∀m (hm:m<its.toArray.size),∃y t,zs[m]?=some y/\its.toArray[m] = .str y t:=fun m hm=>by
  have hm':m<its.length:=by simpa using hm
  obtain⟨y,t,h1,h2⟩:=T1 r (i:=m) (u:=its[m]) (AL hm')
  exact⟨y,t,h1,by simpa using h2⟩
 refine Gc QE ⟨_,e,rfl⟩ PySem.F.entry_tuple_index (PySem.F.args_tuple_index_2 _ _) (UG p its.toArray n dd sl (.str z tk) (Te z) j (by simpa using hjl) ?_ ?_) ⟨e,fun y hy=>?_,?_⟩
 .obtain⟨y,t,h1,h2⟩:=at' j (by simpa using hjl)
  rw[hj]at h1
  cases h1
  rw[h2]
  exact beq_self_eq_true z
 .intro m hm hmj
  obtain⟨y,t,h1,h2⟩:=at' m hm
  rw[h2]
  have:y≠z:=fun e=>hno m hmj (by rw[h1,e])
  exact JA.mpr this
 .obtain⟨m,hm,rfl⟩:=Array.mem_iff_getElem.mp hy
  obtain⟨y,t,h1,h2⟩:=at' m hm
  rw[h2]
  exact PySem.SeqAt.EqAt.str_str y t z tk
 .exact⟨.int (j:Int),H,I.tok _,⟨_,rfl⟩,q⟩
def QW (r:V->List V->Hp->VK->Prop)(to:TE)(t:TA):TE:=fun σ H Q=>to σ H fun x H1=>(∃p xs,x = .ref p/\H1 p=some (.tup xs))/\t σ H1 fun xs H2=>r x xs H2 Q
theorem Y6 {X:Cx}{pins:List (Addr×Obj)}{σ:St}{H:Hp}{s:Shared}{p:Addr}{xs:List V}(I:A4 X pins σ H s)(h:H p=some (.tup xs)):s.TypeIs (.ref p) "tuple"/\∀a,Value.ref p = .ref a->∃ob,s.heap.get? a=some ob/\ob.dict=none:=by
 obtain⟨_,its,_,o,e,c,_,d⟩:=(show BL X.prog X.w H s.heap p (.tup xs) from I.hok p _ h)
 exact⟨⟨o,e,c⟩,fun a z=>by cases z;exact⟨o,e,d⟩⟩
theorem Pl {X:Cx}{o e:Expr}{es:List Expr}{to:TE}{t:TA}{name:Str}{apos cpos:Pos}{id:String}{r:V->List V->Hp->VK->Prop}(slot:Slot "tuple" name id)(hty:typeOf (.builtin id)=pure (.type "method_descriptor"))(hm:Hd X id r)(ho:PE X o to)(ha:PA X (e::es) t)
  (hbase:attributeBase o name X.env (eval o X.env)=eval o X.env:=by rfl)
  (hfew:((backTo cpos (starEach (e::es) X.env)).all (fun x=>!x.1)&&(backToKw cpos (keywordEach [] X.env)).all (fun x=>x.1.isSome)&&decide ((e::es).length+([]:List Keyword).length+(if([]:List Keyword).isEmpty then 0 else 1)<30))=true:=by rfl)
  (hline:(apos.endLine==cpos.line)=true:=by rfl) (hs:starEach (e::es) X.env=(false,eval e X.env)::starEach es X.env:=by rfl) (hplain:(backTo cpos (starEach es X.env)).any (·.1)=false:=by rfl) :
  PE X (.Call (.Attribute o name apos) (e::es) [] cpos) (QW r to t):=by
 intro pins s σ H Q I h
 refine wpAny_Call_method_late hbase hfew hline rfl (Au (ho pins s σ H _ I h) fun v s1 hx=>?_)
 obtain⟨x,H1,I1,r1,⟨p,xs,rfl,hp⟩,q1⟩:=hx
 cases r1
 obtain⟨h1,h2⟩:=Y6 I1 hp
 refine⟨"tuple",id,PySem.F.plainAttrs_tuple,slot,hty,h1,h2,?_⟩
 have hA:=ha cpos pins s1 σ H1 _ I1 q1
 rw[hs]at hA ⊢
 refine Calls.callWith_builtin (by show(false||(backTo cpos (starEach es X.env)).any (·.1))=false;rw[hplain]<;>rfl) (Calls.evalArgs_plain ?_)
 exact Au hA fun us s2 hy=>by
  obtain⟨vs,H2,I2,r2,q2⟩:=hy
  exact hm pins s2 σ H2 (.ref p) vs (.ref p) us Q I2 rfl r2 q2
def GU (n:Nat):List V:=(List.range n).map fun i:Nat=>V.int (i:Int)
def To (ta:TA):TE:=fun σ H Q=>ta σ H fun vs H1=>∃n:Nat,vs=[.int (n:Int)]/\n<=1000000/\∀l,H1 l=none->Q (.ref l) (upd H1 l (.lst (GU n)))
theorem Xv {n:Nat}{acc:Array Value}(h:ItemsOf (fun i v=>∃t,v = .int (0+(i:Int)*1) t) acc n):Ay (GU n) acc.toList:=by
 have key:∀(k:Nat) (l:List Value),(∀(j:Nat) (v:Value),l[j]?=some v->∃t,v=Value.int ((k+j:Nat):Int) t)->Ay ((List.range' k l.length).map fun i:Nat=>V.int (i:Int)) l:=by
  intro k l
  induction l generalizing k with
  |nil=>intro _;exact .nil
  |
   cons x l ih=>
   intro hl
   rw[C9,List.range'_succ,Bz]
   obtain⟨t,ht⟩:=hl 0 x rfl
   refine .cons ⟨t,by rw[ht];rfl⟩ (ih (k+1) fun j v hj=>?_)
   obtain⟨t',ht'⟩:=hl (j+1) v (by simpa using hj)
   exact⟨t',by rw[ht'];congr 1;lia⟩
 have hl:acc.toList.length=n:=by simpa using h.1
 have:=key 0 acc.toList fun j v hj=>by
  obtain⟨t,ht⟩:=h.2 j v (by simpa using hj)
  exact⟨t,by rw[ht];congr 1;lia⟩
 rw[hl]at this
 unfold GU
 rw[List.range_eq_range']
 exact this
theorem Xw {X:Cx}{a:Expr}{ta:TA}{p p2 pos pos2:Pos}(hc:X.calm=true)(hgl:Gl X "list")(hml:X.mg "list"=none)(hg:Gl X "range")(hm:X.mg "range"=none)(ha:PA X [a] ta)
  (hs:starEach [a] X.env=[(false,eval a X.env)]:=by rfl):PE X (.Call (.Name "list" p) [.Call (.Name "range" p2) [a] [] pos2] [] pos) (To ta):=by
 intro pins s σ H Q I h
 refine LD (Fu I hgl hml J4 ?_ (by decide) (by decide))
 refine Ik ?_ rfl rfl
 show wpAny _ _ (spliced ((false,eval (.Call (.Name "range" p2) [a] [] pos2) X.env)::backTo pos (starEach [] X.env))) _ _ s
 refine Calls.spliced_cons ?_
 refine Call_ (Fu I hg hm boot_range (Ik (Au (ha pos2 pins s σ H _ I h) fun us s1 hx=>?_) hs rfl))
 obtain⟨vs,H1,I1,r1,n,e,hn,q⟩:=hx
 subst e
 obtain⟨u,rfl,ru⟩:=FE r1
 obtain⟨t,rfl⟩:=(show ∃t,u=Value.int (n:Int) t from ru)
 refine call_range_1 ?_
 refine Calls.spliced_nil ?_
 have p62:(2:Int) ^ 62=4611686018427387904:=by decide
 refine call_list_range (n:=n) (I1.ok.hd hc) (IsRange.new ..) (small_one (by decide) (by decide) (by lia) (by lia)) (by rw[rangeSize_one];split<;>lia) (by lia) fun h' tk acc c' hk hl hi=>?_
 have hsz:(s1.heap.push {cls:=.type "range",data:=.fields #[.int 0 s1.toks,.int (n:Int) t,.int 1 (s1.toks+1)]}).objs.size=s1.heap.objs.size+1:=GW ..
 have hf:H1 (s1.heap.objs.size+1)=none:=I1.hok.fresh (GX _)
 have hul:(GU n).length<=sizeLine:=by unfold GU;rw[Aq,CL];exact Bc hn
 change h'.get? (s1.heap.push {cls:=.type "range",data:=.fields #[.int 0 s1.toks,.int (n:Int) t,.int 1 (s1.toks+1)]}).objs.size=_ at hl
 rw[hsz]at hl
 refine⟨.ref (s1.heap.objs.size+1),upd H1 (s1.heap.objs.size+1) (.lst (GU n)),I1.laid (t':=tk) (o:=.lst (GU n)) (fun b o e=>hk b o (Bk _ e)) (GX _) ⟨hul,acc.toList,c',Xv hi,by simpa using hl⟩,?_,q _ hf⟩
 show Value.ref _=Value.ref _
 rw[←hsz]
def Dh (zs:List Str)(z:Str)(first u:Int):Prop:=(z=""/\u=0)\/(z≠""/\∃j:Nat,zs[j]?=some z/\(∀m<j,zs[m]?≠some z)/\u=first+(j:Int))
def VR:Sp:=fun vs H Q _=>∃(t nm:Addr) (z:Str) (n first:Int) (zs:List Str) (u:Int),vs=[.ref t,.ref nm,.int first]/\H t=some (.tup [.str z,.int n])/\H nm=some (.tup (zs.map V.str))/\Dh zs z first u/\Q (.int u) H
def YN:Sp:=fun vs H Q _=>∃(nm:Addr) (z:Str) (first:Int) (zs:List Str) (u:Int),vs=[.str z,.ref nm,.int first]/\H nm=some (.tup (zs.map V.str))/\Dh zs z first u/\Q (.int u) H
section
variable {prog:Program}{w:World}{A:Around}{E:Value->Shared->Prop}{s:Shared}
theorem Pq {it t:Addr}{k:Nat}{its:Array Value}{Q:Value->Shared->Prop}(a:s.heap.IsTupleIter it t k)(b:s.heap.IsTuple t its)
  (q:wpAny (model prog w) A.in1 (match its[k]? with
   |some x=>do setField (.ref it) 1 (rawInt (k+1));ret x
   |none=>do rule (toString "tuple_iterator.__next__"++toString ".end");setField (.ref it) 0 .none;Builtin.SmallTypes.stopIteration) (fun fin s'=>∃v,fin = .done (.ret v)/\Q v s') E s) :
  wpAny (model prog w) A (Builtin.SmallTypes.nextOf (.ref it)) Q E s:=by
 have ty:=a.typeIs
 obtain⟨o,g,c,d⟩:=a
 obtain⟨o2,g2,-,n2,d2⟩:=b
 unfold Builtin.SmallTypes.nextOf
 apply Ao
 apply wpAny_callSpecial?_slot (name:=Str.ofString "__next__") ty F.slot_tuple_iterator_next
 refine Nz F.slot_tuple_iterator_next ty F.entry_tuple_iterator_next ?_ (F.args_tuple_iterator_next_1 _)
 unfold Builtin.«tuple_iterator.__next__»
 wp_walk using Hb g d (x:=.ref t) rfl
 rw[d]
 apply AY
 apply AY
 apply Ao
 apply LF g2 d2
 rw[show Int.toNat (k:Int)=k from rfl]
 refine E6 q (fun fin s' zz=>?_) fun _ _ z=>z
 obtain⟨v,e,z⟩:=zz
 exact⟨v,e,AY z⟩
theorem X5 {it t:Addr}{k:Nat}{its:Array Value}{x:Value}{Q:Value->Shared->Prop}(a:s.heap.IsTupleIter it t k)(b:s.heap.IsTuple t its)(hx:its[k]?=some x)
  (q:∀h',h'.IsTupleIter it t (k+1)->Heap.SameBut it s.heap h'->Q x {s with heap:=h'}):wpAny (model prog w) A (Builtin.SmallTypes.nextOf (.ref it)) Q E s:=by
 apply Pq a b
 obtain⟨o,g,c,d⟩:=a
 rw[hx]
 apply Ao
 apply wpAny_setField g d (by simp)
 apply AY
 refine⟨x,rfl,q _ ⟨_,Heap.get?_update_self _ g ?_,?_,?_⟩ (Heap.SameBut.update ..)⟩
 .exact Obj.isFreed_of_fields (Obj.data_mapFields d _)
 .exact(Obj.cls_mapFields ..).trans c
 .rw[Obj.data_mapFields d];rfl
theorem RD {it t:Addr}{k:Nat}{its:Array Value}{Q:Value->Shared->Prop}(hh:A.handled=none)(a:s.heap.IsTupleIter it t k)(b:s.heap.IsTuple t its)(hx:its[k]?=none)
  (q:∀h' e,Heap.ExtBut it s.heap h'->(∃o,h'.get? e=some o/\o.cls = .type "StopIteration")->E (.ref e) {s with heap:=h'}):wpAny (model prog w) A (Builtin.SmallTypes.nextOf (.ref it)) Q E s:=by
 apply Pq a b
 obtain⟨o,g,c,d⟩:=a
 rw[hx]
 apply Ao
 apply wpAny_rule
 apply Ao
 apply wpAny_setField g d (by simp)
 have h1:A.in1.handled=none:=hh
 wp_walk
 unfold raiseNew
 apply Ao
 apply wpAny_handled
 rw[h1]
 show wpAny _ _ (throw _) _ _ _
 apply wpAny_throw
 exact q _ _ (((Heap.SameBut.update ..).extBut.push _).push _) ⟨_,CF _ rfl,rfl⟩
theorem JS (hh:A.handled=none)(it t:Addr)(ne:t≠it)(its:Array Value):Draws prog w A it [it,t] its.size (fun i v=>its[i]?=some v) (fun i h=>h.IsTupleIter it t i/\h.IsTuple t its) where
 live:=fun _ _ ⟨⟨o,g,_⟩,_⟩=>⟨o,g⟩
 frame:=fun _ _ _ ⟨⟨o,g,r⟩,⟨o2,g2,r2⟩⟩ k=>⟨⟨o,k it (by simp) o g,r⟩,⟨o2,k t (by simp) o2 g2,r2⟩⟩
 item:=fun i s Q E lt ⟨a,b⟩ q=>X5 a b (QD lt) fun h' a' sb=>q _ h' s.toks (QD lt) ⟨a',b.extBut sb.extBut ne⟩ sb
 done:=fun s Q E ⟨a,b⟩ q=>RD hh a b (by simp) q
end
structure ZA (z TI TO i1 i2:Addr)(f g:List Addr):Prop where
 zf:z∉f
 zg:z∉g
 of:TO∉f
 og:TO∉g
 nf:i2∉f
 ng:i1∉g
 Iz:TI≠z
 Oz:TO≠z
 az:i1≠z
 bz:i2≠z
 IO:TI≠TO
 Ia:TI≠i1
 Ib:TI≠i2
 Oa:TO≠i1
 Ob:TO≠i2
theorem mv {prog:Program}{w:World}{A:Around}{it:Addr}{f:List Addr}{n:Nat}{P:Nat->Value->Prop}{S:Nat->Heap->Prop}(D:Draws prog w A it f n P S){k:Nat}{h h':Heap}{a:Addr}(st:S k h)(b:Heap.ExtBut a h h')(na:a∉f):S k h':=
 D.frame k h h' st fun c hc o e=>b c o (fun q=>na (q▸hc)) e
section
variable {prog:Program}{w:World}{A:Around}{E:Value->Shared->Prop}{s:Shared}
theorem Yb {z TI TO i1 i2:Addr}{f g:List Addr}{m n k:Nat}{P R:Nat->Value->Prop}{S T:Nat->Heap->Prop}(Z:ZA z TI TO i1 i2 f g)(D1:Draws prog w A i1 f m P S)(D2:Draws prog w A i2 g n R T){a b:Value}{Q:Value->Shared->Prop}
  (hz:IsZip s.heap z TI TO .none) (hI:IsPair s.heap TI (.ref i1) (.ref i2)) (hO:IsPair s.heap TO a b) (s1:S k s.heap) (s2:T k s.heap) (le1:k<=m) (le2:k<=n)
  (q:k<m->k<n->∀x y h' tk,P k x->R k y->IsZip h' z TI TO (rawInt s.heap.objs.size)->IsPair h' TO x y->S (k+1) h'->T (k+1) h'->IsPair h' s.heap.objs.size x y->
   (∀c o,c≠z->c≠TO->c≠i1->c≠i2->s.heap.get? c=some o->h'.get? c=some o)->Q (.ref s.heap.objs.size) {s with heap:=h',toks:=tk})
  (qe:(k=m\/k=n)->∀h' e tk,(∀c o,c≠z->c≠TO->c≠i1->c≠i2->s.heap.get? c=some o->h'.get? c=some o)->(∃o,h'.get? e=some o/\o.cls = .type "StopIteration")->E (.ref e) {s with heap:=h',toks:=tk}) :
  wpAny (model prog w) A (Builtin.«zip.__next__» ⟨[.ref z],[]⟩) (fun fin s'=>∃v,fin = .done (.ret v)/\Q v s') E s:=by
 change wpAny _ _ (field (.ref z) 2>>=_) _ _ _
 apply Ao
 apply Hb hz rfl (x:=.bool false) rfl
 change wpAny _ _ (field (.ref z) 3>>=_) _ _ _
 apply Ao
 apply Hb hz rfl (x:=.ref TI) rfl
 apply Ao
 apply LF hI rfl
 change wpAny _ _ (Builtin.SmallTypes.ownedTupleIsFree (.ref z)>>=_) _ _ _
 apply Ao
 unfold Builtin.SmallTypes.ownedTupleIsFree
 apply Ao
 apply Hb hz rfl (x:=.none) rfl
 apply AY
 simp only[Gb]
 apply Ao
 apply wpAny_rule
 apply Ao
 apply Hb hz rfl (x:=.ref TO) rfl
 apply Ao
 apply LG hz (by simp)
 intro hA zA bA
 have zA':IsZip hA z TI TO .ellipsis:=zA
 clear zA
 have oA:IsPair hA TO a b:=bA.extBut _ _ Z.Oz hO
 have sA:=mv D1 s1 bA.extBut Z.zf
 have tA:=mv D2 s2 bA.extBut Z.zg
 apply Ao
 simp only[List.zipIdx_cons,List.zipIdx_nil,Nk,List.forIn_nil]
 apply Ao
 apply Ao
 apply wpAny_onRaise
 change wpAny _ _ (Builtin.SmallTypes.nextOf (.ref i1)>>=_) _ _ _
 apply Ao
 rcases Nat.lt_or_eq_of_le le1 with l1|rfl
 rotate_left
 .apply D1.done _ _ _ sA
  rintro h' e kp ⟨o,ge,ce⟩
  have z':IsZip h' z TI TO .ellipsis:=kp _ _ Z.az.symm zA'
  have ne:e≠z:=fun q=>by subst q;rw[z']at ge;cases ge;simp at ce
  apply LG z' (by simp)
  intro h2 _ b2
  exact qe (.inl rfl) h2 e s.toks (fun c o c1 _ c3 _ x=>b2.extBut _ _ c1 (kp _ _ c3 (bA.extBut _ _ c1 x))) ⟨o,b2.extBut _ _ ne ge,ce⟩
 apply D1.item k _ _ _ l1 sA
 intro x hB t1 px sB bB
 apply AY
 have oB:IsPair hB TO a b:=bB.extBut _ _ Z.Oa oA
 have zB:IsZip hB z TI TO .ellipsis:=bB.extBut _ _ Z.az.symm zA'
 have tB:=mv D2 tA bB.extBut Z.ng
 apply Ao
 apply LF oB rfl
 apply Ao
 apply wpAny_updateSeq_pair oB
 intro hC oC bC
 have oC':IsPair hC TO x b:=oC
 clear oC
 have zC:IsZip hC z TI TO .ellipsis:=bC.extBut _ _ Z.Oz.symm zB
 have sC:=mv D1 sB bC.extBut Z.of
 have tC:=mv D2 tB bC.extBut Z.og
 apply Ao
 apply wpAny_letGo
 apply AY
 apply Ao
 apply Ao
 apply wpAny_onRaise
 change wpAny _ _ (Builtin.SmallTypes.nextOf (.ref i2)>>=_) _ _ _
 apply Ao
 have upC:∀c o,c≠z->c≠TO->c≠i1->s.heap.get? c=some o->hC.get? c=some o:=fun c o c1 c2 c3 e=>bC.extBut _ _ c2 (bB.extBut _ _ c3 (bA.extBut _ _ c1 e))
 rcases Nat.lt_or_eq_of_le le2 with l2|rfl
 rotate_left
 .apply D2.done _ _ _ tC
  rintro h' e kp ⟨o,ge,ce⟩
  have z':IsZip h' z TI TO .ellipsis:=kp _ _ Z.bz.symm zC
  have ne:e≠z:=fun q=>by subst q;rw[z']at ge;cases ge;simp at ce
  apply LG z' (by simp)
  intro h2 _ b2
  exact qe (.inr rfl) h2 e t1 (fun c o c1 c2 c3 c4 x=>b2.extBut _ _ c1 (kp _ _ c4 (upC c o c1 c2 c3 x))) ⟨o,b2.extBut _ _ ne ge,ce⟩
 apply D2.item k _ _ _ l2 tC
 intro y hD t2 py tD bD
 apply AY
 have oD:IsPair hD TO x b:=bD.extBut _ _ Z.Ob oC'
 have zD:IsZip hD z TI TO .ellipsis:=bD.extBut _ _ Z.bz.symm zC
 have sD:=mv D1 sC bD.extBut Z.nf
 apply Ao
 apply LF oD rfl
 apply Ao
 apply wpAny_updateSeq_pair oD
 intro hE oE bE
 have oE':IsPair hE TO x y:=oE
 clear oE
 have zE:IsZip hE z TI TO .ellipsis:=bE.extBut _ _ Z.Oz.symm zD
 have sE:=mv D1 sD bE.extBut Z.of
 have tE:=mv D2 tD bE.extBut Z.og
 have upE:∀c o,c≠z->c≠TO->c≠i1->c≠i2->s.heap.get? c=some o->hE.get? c=some o:=fun c o c1 c2 c3 c4 e=>bE.extBut _ _ c2 (bD.extBut _ _ c4 (upC c o c1 c2 c3 e))
 have sz:hE.objs.size=s.heap.objs.size:=by rw[bE.1,bD.1,bC.1,bB.1,bA.1]
 apply Ao
 apply wpAny_letGo
 apply AY
 apply AY
 apply Ao
 apply LF oE' rfl
 apply Ao
 refine wpAny_newTuple ?_
 change wpAny _ _ (Builtin.SmallTypes.ownedTupleHandOut (.ref z) (.ref hE.objs.size)>>=_) _ _ _
 apply Ao
 unfold Builtin.SmallTypes.ownedTupleHandOut
 have zF:IsZip (hE.push {cls:=.type "tuple",data:=.seq #[x,y]}) z TI TO .ellipsis:=Bk _ zE
 have pF:IsPair (hE.push {cls:=.type "tuple",data:=.seq #[x,y]}) hE.objs.size x y:=CF _ rfl
 apply Ao
 apply LG zF (by simp)
 intro hG zG bG
 have zG':IsZip hG z TI TO (rawInt hE.objs.size):=zG
 clear zG
 apply LG zG' (by simp)
 intro hH zH bH
 have zH':IsZip hH z TI TO (rawInt hE.objs.size):=zH
 clear zH
 have far:hE.objs.size≠z:=G8 (B5 zE)
 have up:Heap.ExtBut z hE hH:=fun c o c1 e=>bH.extBut _ _ c1 (bG.extBut _ _ c1 (Bk _ e))
 have pH:IsPair hH hE.objs.size x y:=bH.extBut _ _ far (bG.extBut _ _ far pF)
 apply AY
 refine⟨_,rfl,?_⟩
 have:=q l1 l2 x y hH t2 px py (by rw[←sz];exact zH') (up _ _ Z.Oz oE') (mv D1 sE up Z.zf) (mv D2 tE up Z.zg) (by rw[←sz];exact pH) fun c o c1 c2 c3 c4 e=>up c o c1 (upE c o c1 c2 c3 c4 e)
 rw[←sz]at this
 exact this
theorem OX {z TI TO i1 i2:Addr}{f g:List Addr}{m n k:Nat}{P R:Nat->Value->Prop}{S T:Nat->Heap->Prop}(Z:ZA z TI TO i1 i2 f g)(D1:Draws prog w A.in1 i1 f m P S)(D2:Draws prog w A.in1 i2 g n R T){a b:Value}{Q:Option Value->Shared->Prop}
  (hz:IsZip s.heap z TI TO .none) (hI:IsPair s.heap TI (.ref i1) (.ref i2)) (hO:IsPair s.heap TO a b) (s1:S k s.heap) (s2:T k s.heap) (le1:k<=m) (le2:k<=n)
  (q:k<m->k<n->∀x y h' tk,P k x->R k y->IsZip h' z TI TO (rawInt s.heap.objs.size)->IsPair h' TO x y->S (k+1) h'->T (k+1) h'->IsPair h' s.heap.objs.size x y->
   (∀c o,c≠z->c≠TO->c≠i1->c≠i2->s.heap.get? c=some o->h'.get? c=some o)->Q (some (.ref s.heap.objs.size)) {s with heap:=h',toks:=tk})
  (qe:(k=m\/k=n)->∀h' tk,(∀c o,c≠z->c≠TO->c≠i1->c≠i2->s.heap.get? c=some o->h'.get? c=some o)->Q none {s with heap:=h',toks:=tk}) :
  wpAny (model prog w) A (pyNext (.ref z)) Q E s:=by
 have ty:s.TypeIs (.ref z) "zip":=⟨_,hz,rfl⟩
 unfold pyNext
 apply Ao
 apply wpAny_attempt
 apply wpAny_callSpecial?_slot (name:=Str.ofString "__next__") ty F.slot_zip_next
 refine Nz F.slot_zip_next ty F.entry_zip_next (Yb Z D1 D2 hz hI hO s1 s2 le1 le2 ?_ ?_) (F.args_zip_next_1 _)
 .intro l1 l2 x y h' tk a1 a2 a3 a4 a5 a6 a7 a8
  exact AY (q l1 l2 x y h' tk a1 a2 a3 a4 a5 a6 a7 a8)
 .rintro l h' e tk kp ⟨o,ge,ce⟩
  exact Ao (wpAny_isInstance (T:="StopIteration") (b:=true) ⟨o,ge,ce⟩ isSubtype_stop (AY (qe l h' tk kp)))
end
def FV (K:YO)(a b:Addr):It:=
 ⟨fun i H=>∃xs ys x y,A3 K H a xs/\A3 K H b ys/\xs[i]?=some x/\ys[i]?=some y,fun i H v H'=>∃x y T,(∀xs,A3 K H a xs->xs[i]?=some x)/\(∀ys,A3 K H b ys->ys[i]?=some y)/\H T=none/\v = .ref T/\H'=upd H T (.tup [x,y]),
  fun i H=>∃xs ys,A3 K H a xs/\A3 K H b ys/\i<=xs.length/\i<=ys.length/\(i=xs.length\/i=ys.length)⟩
theorem VV {P:Program}{w:World}{K:YO}{elts:List Expr}{x1:Nat}{pos:Pos}(a b z TI TO i1 i2:Addr)(D:ZA z TI TO i1 i2 [i1,a] [i2,b])(na:a≠i1)(nb:b≠i2) :
  G3 P w K (.Tuple elts x1 pos) (FV K a b) [z,TI,TO,i1,i2] z (fun i h=>IsZip h z TI TO .none/\IsPair h TI (.ref i1) (.ref i2)/\(∃p q,IsPair h TO p q)/\h.IsTupleIter i1 a i/\h.IsTupleIter i2 b i) where
 mem:=by simp
 obj:=fun i h st c hc=>by
  obtain⟨hz,hTI,⟨p,q,hTO⟩,h1,h2⟩:=st
  simp only[Bv,DB,or_false]at hc
  rcases hc with rfl|rfl|rfl|rfl|rfl
  .exact⟨_,hz,fun v z=>by cases z⟩
  .exact⟨_,hTI,fun v z=>by cases z⟩
  .exact⟨_,hTO,fun v z=>by cases z⟩
  .obtain⟨o,e,c,d⟩:=h1
   exact⟨o,e,fun v z=>by rw[d]at z;cases z⟩
  .obtain⟨o,e,c,d⟩:=h2
   exact⟨o,e,fun v z=>by rw[d]at z;cases z⟩
 keep:=fun i h h' st k=>by
  obtain⟨hz,hTI,⟨p,q,hTO⟩,h1,h2⟩:=st
  exact⟨k z (by simp) _ hz,k TI (by simp) _ hTI,⟨p,q,k TO (by simp) _ hTO⟩,h1.at fun o e=>k i1 (by simp) o e,h2.at fun o e=>k i2 (by simp) o e⟩
 item:=by
  intro X hP hw hK hc i pins s σ H E I hf st hg
  subst hP hw hK
  obtain⟨xs,ys,x,y,hq1,hq2,hx,hy⟩:=hg
  obtain⟨its1,rv1,p1,_⟩:=I.tuple hq1
  obtain⟨its2,rv2,p2,_⟩:=I.tuple hq2
  obtain⟨hz,hTI,⟨pa,qa,hTO⟩,h1,h2⟩:=st
  have p1':s.heap.IsTuple a its1.toArray:=p1
  have p2':s.heap.IsTuple b its2.toArray:=p2
  have l1:=rv1.length
  have l2:=rv2.length
  obtain⟨b1,_⟩:=AX.1 hx
  obtain⟨b2,_⟩:=AX.1 hy
  have hn:X.A.in1.handled=none:=I.ok.hd hc
  have d1:=JS (prog:=X.prog) (w:=X.w) hn i1 a na its1.toArray
  have d2:=JS (prog:=X.prog) (w:=X.w) hn i2 b nb its2.toArray
  refine OX (k:=i) D d1 d2 hz hTI hTO ⟨h1,p1'⟩ ⟨h2,p2'⟩ (by simp;lia) (by simp;lia) (fun _ _ u v hh tk hu hv hz' hTO' h1' h2' hT hk=>⟨_,rfl,?_⟩) fun q=>absurd q (by simp;lia)
  obtain⟨u',hu',ru⟩:=rv1.get hx
  obtain⟨v',hv',rv⟩:=rv2.get hy
  have eu:u'=u:=by simpa[hu'] using hu
  have ev:v'=v:=by simpa[hv'] using hv
  subst eu ev
  refine wpAny_letOwnedTupleGo_zip hz' fun h3 hz3 hs3=>?_
  have hTn:H s.heap.objs.size=none:=I.hok.fresh (Ap _)
  have lts:∀c∈[z,TI,TO,i1,i2],c<s.heap.objs.size:=fun c hc=>by
   simp only[Bv,DB,or_false]at hc
   rcases hc with rfl|rfl|rfl|rfl|rfl
   .exact B5 hz
   .exact B5 hTI
   .exact B5 hTO
   .obtain⟨_,e,_⟩:=h1;exact B5 e
   .obtain⟨_,e,_⟩:=h2;exact B5 e
  have I1:A4 X pins σ (upd H s.heap.objs.size (.tup [x,y])) {s with heap:=s.heap.push {cls:=.type "tuple",data:=.seq #[u',v']}}:=I.laid (t':=s.toks) (o:=.tup [x,y]) (fun b o e=>Bk _ e) (Ap _) ⟨Ak rfl,[u',v'],.cons ru (.cons rv .nil),F7.new _ _⟩
  have I2:A4 X pins σ (upd H s.heap.objs.size (.tup [x,y])) {s with heap:=h3,toks:=tk}:=by
   refine A4.turnedL (s:={s with heap:=s.heap.push {cls:=.type "tuple",data:=.seq #[u',v']}}) (h':=h3) (ch:=[z,TI,TO,i1,i2]) (t':=tk) I1 (fun b o hb q=>?_) (fun b hb=>?_)
   .simp only[Bv,DB,or_false,not_or]at hb
    obtain⟨n1,n2,n3,n4,n5⟩:=hb
    show h3.get? b=some o
    rw[hs3.2 b n1]
    rcases Qz q with⟨rfl,rfl⟩|q
    .exact hT
    .exact hk b o n1 n3 n4 n5 q
   .obtain⟨f0,f1,f2,f3,f4,f5⟩:=hf b hb
    exact⟨by rw[Am (Bu (lts b hb))];exact f0,f1,f2,f3,f4,f5⟩
  have k3:∀c,c≠z->∀o,hh.get? c=some o->h3.get? c=some o:=fun c hc o e=>(hs3.2 c hc).trans e
  refine⟨.ref s.heap.objs.size,_,I2,rfl,⟨x,y,_,fun zs hy=>by rw[I.tuple_inj hy hq1];exact hx,fun zs hy'=>by rw[I.tuple_inj hy' hq2];exact hy,hTn,rfl,rfl⟩,⟨hz3,k3 TI D.Iz _ (hk TI _ D.Iz D.IO D.Ia D.Ib hTI),⟨u',v',k3 TO D.Oz _ hTO'⟩,h1'.1.at (k3 i1 D.az),h2'.1.at (k3 i2 D.bz)⟩,fun b hb=>?_⟩
  rw[Am (Bu (lts b hb))]
  exact(hf b hb).1
 done:=by
  intro X hP hw hK hc i pins s σ H E I hf st hg
  subst hP hw hK
  obtain⟨xs,ys,hq1,hq2,b1,b2,hl⟩:=hg
  obtain⟨its1,rv1,p1,_⟩:=I.tuple hq1
  obtain⟨its2,rv2,p2,_⟩:=I.tuple hq2
  obtain⟨hz,hTI,⟨pa,qa,hTO⟩,h1,h2⟩:=st
  have p1':s.heap.IsTuple a its1.toArray:=p1
  have p2':s.heap.IsTuple b its2.toArray:=p2
  have l1:=rv1.length
  have l2:=rv2.length
  have hn:X.A.in1.handled=none:=I.ok.hd hc
  have d1:=JS (prog:=X.prog) (w:=X.w) hn i1 a na its1.toArray
  have d2:=JS (prog:=X.prog) (w:=X.w) hn i2 b nb its2.toArray
  refine OX (k:=i) D d1 d2 hz hTI hTO ⟨h1,p1'⟩ ⟨h2,p2'⟩ (by simp;lia) (by simp;lia) (fun e1 e2=>absurd e2 (by simp at e1 ⊢;lia)) fun _ h' tk hk=>⟨rfl,?_⟩
  refine I.turnedL (ch:=[z,TI,TO,i1,i2]) (t':=tk) (fun b o hb q=>?_) hf
  simp only[Bv,DB,or_false,not_or]at hb
  obtain⟨n1,n2,n3,n4,n5⟩:=hb
  exact hk b o n1 n3 n4 n5 q
 self:=fun _ _ _ _ _ st h=>by
  obtain⟨hz,_⟩:=st
  exact NA hz h
theorem Y4 (a b:Addr)(xs ys:Array Value) :
  Meets (Builtin.«zip.__new__» ⟨[.type "zip",.ref a,.ref b],[]⟩) (fun _ R s=>s.heap.IsTuple a xs/\s.heap.IsTuple b ys/\
   ∀h',IsZip h' (s.heap.objs.size+4) (s.heap.objs.size+2) (s.heap.objs.size+3) .none->IsPair h' (s.heap.objs.size+2) (.ref s.heap.objs.size) (.ref (s.heap.objs.size+1))->IsPair h' (s.heap.objs.size+3) .none .none->
    h'.IsTupleIter s.heap.objs.size a 0->h'.IsTupleIter (s.heap.objs.size+1) b 0->(∀c o,s.heap.get? c=some o->h'.get? c=some o)->R (.ok (.ret (.ref (s.heap.objs.size+4)))) {s with heap:=h'}):=
 .of_wp fun prog w A R s h=>by
  obtain⟨hp,g,d,tk,os⟩:=s
  obtain⟨t1,t2,h⟩:=h
  have hs:=sub_zip
  have u1:Heap.IsTuple (Shared.heap ⟨hp,g,d,tk,os⟩) a xs:=t1
  have u2:Heap.IsTuple (Shared.heap ⟨hp.push {cls:=.type "tuple_iterator",data:=.fields #[.ref a,.int 0 0]},g,d,tk,os⟩) b ys:=Heap.IsTuple.push t2 _
  wp_walk using QG u1,QG u2
  refine⟨_,rfl,?_⟩
  have key:∀(n1 n2 n3 n4:Nat) (h':Heap),n1=hp.objs.size+1->n2=hp.objs.size+2->n3=hp.objs.size+3->n4=hp.objs.size+4->IsZip h' n4 n2 n3 .none->IsPair h' n2 (.ref hp.objs.size) (.ref n1)->IsPair h' n3 .none .none->
    h'.IsTupleIter hp.objs.size a 0->h'.IsTupleIter n1 b 0->(∀c o,hp.get? c=some o->h'.get? c=some o)->R (.ok (.ret (.ref n4))) ⟨h',g,d,tk,os⟩:=by
   rintro _ _ _ _ h' rfl rfl rfl rfl
   exact h h'
  refine key (hp.push {cls:=.type "tuple_iterator",data:=.fields #[.ref a,.int 0 0]}).objs.size _ _ _ _ ?e1 ?e2 ?e3 ?e4 (CF _ rfl) ?g5 ?g6 ?g7 ?g8 ?g9
  case g5=>exact Bk _ (Bk _ (CF _ rfl))
  case g6=>exact Bk _ (CF _ rfl)
  case g7=>exact⟨_,Bk _ (Bk _ (Bk _ (Bk _ (CF _ rfl)))),rfl,rfl⟩
  case g8=>exact⟨_,Bk _ (Bk _ (Bk _ (CF _ rfl))),rfl,rfl⟩
  case g9=>exact fun c o e=>Bk _ (Bk _ (Bk _ (Bk _ (Bk _ e))))
  all_goals simp only[GW]
def Y3 (K:YO)(ta:TA):TI:=fun σ H R=>ta σ H fun vs H1=>∃a b:Addr,vs=[.ref a,.ref b]/\(∃xs,A3 K H1 a xs)/\(∃ys,A3 K H1 b ys)/\R (FV K a b) H1
theorem LX {X:Cx}{a b:Expr}{ta:TA}{p pos:Pos}{elts:List Expr}{x1:Nat}{pos2:Pos}(hg:Gl X "zip")(hm:X.mg "zip"=none)(ha:PA X [a,b] ta)(hs:starEach [a,b] X.env=[(false,eval a X.env),(false,eval b X.env)]:=by rfl)(hs2:starEach [b] X.env=[(false,eval b X.env)]:=by rfl) :
  PI X (.Tuple elts x1 pos2) (.Call (.Name "zip" p) [a,b] [] pos) (Y3 X.K ta):=by
 intro pins s σ H R I h
 refine Call_ (Fu I hg hm boot_zip (Ik (Au (ha pos pins s σ H _ I h) fun us s1 zz=>?_) (by rw[hs,hs2]) (by rw[hs2];rfl)))
 obtain⟨vs,H1,I1,r1,q1⟩:=zz
 obtain⟨l1,l2,rfl,⟨xs,hq1⟩,⟨ys,hq2⟩,q⟩:=q1
 cases r1 with
 |
  cons r rr=>
  cases rr with
  |
   cons r' rr=>
   cases rr
   cases r
   cases r'
   obtain⟨its1,rv1,p1,_⟩:=I1.tuple hq1
   obtain⟨its2,rv2,p2,_⟩:=I1.tuple hq2
   have lt1:l1<s1.heap.objs.size:=p1.lt
   have lt2:l2<s1.heap.objs.size:=p2.lt
   refine callType_new F.called_zip (by decide) (F.typeCall_zip_2 _ _) (F.newCall_zip_2 _ _) (fun obj=>F.args_object_init_3 obj _ _) F.entry_zip_new (Y4 l1 l2 its1.toArray its2.toArray) ⟨p1,p2,fun h' hz hTI hTO h1 h2 hk=>⟨⟨_,hz,rfl⟩,?_⟩⟩
   refine NA hz ?_
   refine⟨_,[s1.heap.objs.size+4,s1.heap.objs.size+2,s1.heap.objs.size+3,s1.heap.objs.size,s1.heap.objs.size+1],_,_,H1,rfl,I1.kept (t':=s1.toks) hk,VV l1 l2 _ _ _ _ _ ⟨?_,?_,?_,?_,?_,?_,?_,?_,?_,?_,?_,?_,?_,?_,?_⟩ ?_ ?_,⟨hz,hTI,⟨_,_,hTO⟩,h1,h2⟩,fun b hb=>?_,q⟩
   case refine_18=>
    simp only[Bv,DB,or_false]at hb
    have hb':s1.heap.objs.size<=b:=by
     rcases hb with rfl|rfl|rfl|rfl|rfl
     .exact EJ _ 4
     .exact EJ _ 2
     .exact EJ _ 3
     .exact Ap _
     .exact EJ _ 1
    exact I1.fpOk hb' (I1.hok.fresh hb')
   all_goals first
    |exact Bu lt1
    |exact Bu (BJ lt2 (EJ _ _))
    |(show(_:Nat)≠_;lia)
    |(
      simp only[Bv,DB,or_false,not_or]
      exact⟨by show(_:Nat)≠_;lia,by first
       |exact G8 lt1
       |exact G8 lt2
       |exact G8 (BJ lt1 (EJ _ _))
       |exact G8 (BJ lt2 (EJ _ _))⟩)
theorem NM {K:YO}{a b:Addr}{xs ys:List V}{g:TG}{tb:TS}{D:De}{σ:St}{H:Hp}(hlen:xs.length=ys.length)(Pv:Nat->St->Hp->Prop)(h0:Pv 0 σ H)(hl:∀i σ H,i<=xs.length->Pv i σ H->A3 K H a xs/\A3 K H b ys)
  (hs:∀i x y T σ H,xs[i]?=some x->ys[i]?=some y->Pv i σ H->H T=none->g (.ref T) σ (upd H T (.tup [x,y])) fun σ2 H2=>tb {D with nx:=Pv (i+1),ct:=Pv (i+1),bk:=D.nx} σ2 H2) (hd:∀σ H,Pv xs.length σ H->D.nx σ H) :
  ∃W:Nat->Nat->St->Hp->Prop,(∃m,W 0 m σ H)/\∀i m σ H,W i m σ H->
   ((FV K a b).stop i H/\D.nx σ H)\/((FV K a b).go i H/\∃N:St->Hp->Prop,(∀σ' H',N σ' H'->∃m',m'<m/\W (i+1) m' σ' H')/\∀x H',(FV K a b).yld i H x H'->g x σ H' fun σ2 H2=>tb {D with nx:=N,ct:=N,bk:=D.nx} σ2 H2):=by
 refine⟨fun i m σ H=>m=xs.length-i/\i<=xs.length/\Pv i σ H,⟨xs.length,by simp,BN _,h0⟩,?_⟩
 rintro i m σ H ⟨rfl,hi,p⟩
 obtain⟨q1,q2⟩:=hl i σ H hi p
 by_cases hlt:i<xs.length
 .refine .inr ⟨⟨xs,ys,xs[i],ys[i],q1,q2,AL hlt,AL (by lia)⟩,Pv (i+1),fun σ' H' p'=>⟨xs.length-(i+1),by lia,rfl,hlt,p'⟩,fun v H' yy=>?_⟩
  obtain⟨x,y,T,hx,hy,hT,rfl,rfl⟩:=yy
  exact hs i x y T σ H (hx xs q1) (hy ys q2) p hT
 .have e:i=xs.length:=by lia
  subst e
  exact .inl ⟨⟨xs,ys,q1,q2,Ap _,by lia,.inl rfl⟩,hd σ H p⟩
abbrev Bb:=Int×Int×Int
def Bf (H:Hp)(ys:List V)(B:List Bb):Prop:=ys.length=B.length/\∀(i:Nat) (y:V) (b:Bb),ys[i]?=some y->B[i]?=some b->∃t,y = .ref t/\H t=some (.tup [.int b.1,.int b.2.1,.int b.2.2])
theorem Bf.over {H H':Hp}{ys:List V}{B:List Bb}(h:Bf H ys B)(e:A9 H H'):Bf H' ys B:=⟨h.1,fun i y b p q=>by obtain⟨t,x,z⟩:=h.2 i y b p q;exact⟨t,x,e _ _ z⟩⟩
theorem Bf.nil {H:Hp}:Bf H [] []:=⟨rfl,fun i y b p=>by simp at p⟩
theorem Bf.snoc {H:Hp}{ys:List V}{B:List Bb}{t:Addr}{b:Bb}(h:Bf H ys B)(ht:H t=some (.tup [.int b.1,.int b.2.1,.int b.2.2])):Bf H (ys++[.ref t]) (B++[b]):=by
 refine⟨by rw[Az,Az,h.1];rfl,fun i y c p q=>?_⟩
 by_cases l:i<ys.length
 .rw[EH l]at p
  rw[EH (by rw[←h.1];exact l)]at q
  exact h.2 i y c p q
 .have hi:i=ys.length:=by
   have:=(AX.mp p).1
   rw[Az,BI]at this
   lia
  subst hi
  rw[DQ (Ap _),Fs]at p
  rw[h.1,DQ (Ap _),Fs]at q
  cases p;cases q
  exact⟨t,rfl,ht⟩
theorem Bf.get {H:Hp}{ys:List V}{B:List Bb}{i:Nat}{b:Bb}(h:Bf H ys B)(hb:B[i]?=some b):∃t,ys[i]?=some (.ref t)/\H t=some (.tup [.int b.1,.int b.2.1,.int b.2.2]):=by
 have hi:i<ys.length:=by rw[h.1];exact(AX.mp hb).1
 obtain⟨t,e,ht⟩:=h.2 i _ b (AL hi) hb
 exact⟨t,by rw[AL hi,e],ht⟩
theorem Bf.upd {H:Hp}{ys zs xs:List V}{B:List Bb}{l:Addr}(h:Bf H ys B)(hl:H l=some (.lst zs)):Bf (upd H l (.lst xs)) ys B:=⟨h.1,fun i y b p q=>by
 obtain⟨t,x,z⟩:=h.2 i y b p q
 exact⟨t,x,by rw[Am (F8 z hl (by intro z;cases z))];exact z⟩⟩
def C6 (H:Hp)(p:Addr)(m:Nat)(z:Nat->Str)(n:Nat->Int):Prop := ∃xs:List V,H p=some (.tup xs)/\xs.length=m/\∀(i:Nat) (x:V),xs[i]?=some x->∃t,x = .ref t/\H t=some (.tup [.str (z i),.int (n i)])
theorem C6.over {H H':Hp}{p:Addr}{m:Nat}{z:Nat->Str}{n:Nat->Int}(h:C6 H p m z n)(e:A9 H H'):C6 H' p m z n:=by
 obtain⟨xs,h1,h2,h3⟩:=h
 exact⟨xs,e _ _ h1,h2,fun i x hx=>by obtain⟨t,a,b⟩:=h3 i x hx;exact⟨t,a,e _ _ b⟩⟩
def CB (F G:Nat->Bb):Nat->List Bb
 |0=>[]
 |n+1=>CB F G n++[F n]++[G n]
theorem E2 (F G:Nat->Bb)(n:Nat):(CB F G n).length=2*n:=by
 induction n with
 |zero=>rfl
 |succ n ih=>rw[CB,Az,Az,ih];simp only[BI];lia
def Sk:Sp:=fun vs H Q _=>∃(sp nm ot nm2:Addr) (f s:Int) (m:Nat) (z1 z2:Nat->Str) (n1 n2 u w:Nat->Int) (zs zs2:List Str),vs=[.ref sp,.ref nm,.int f,.ref ot,.ref nm2,.int s]/\m<=100/\C6 H sp m z1 n1/\C6 H ot m z2 n2/\H nm=some (.tup (zs.map V.str))/\H nm2=some (.tup (zs2.map V.str))/\(∀i<m,Dh zs (z1 i) f (u i))/\(∀i<m,Dh zs2 (z2 i) s (w i))/\∀(r:Addr) (ys:List V) (H':Hp),A9 H H'->H' r=some (.lst ys)->Bf H' ys (CB (fun i=>(u i,w i,n2 i-n1 i)) (fun i=>(w i,u i,n1 i-n2 i)) m)->Q (.ref r) H'
end L2
namespace Fo
variable {W L:Type}
section
variable (hdr:Nat->Bool->W->L)(dl:Nat->Int->List (Int×Int)->L)
end
end Fo
namespace Fo
variable {W L:Type}
end Fo
namespace L2
open PySem PySem.Spec PyProof.Rows
def Ar {α:Type}(R:V->α->Prop)(xs:List V)(as:List α):Prop:=xs.length=as.length/\∀(i:Nat) (x:V) (a:α),xs[i]?=some x->as[i]?=some a->R x a
theorem Ar.nil {α:Type}{R:V->α->Prop}:Ar R [] []:=⟨rfl,fun i x a h=>by simp at h⟩
theorem Ar.mono {α:Type}{R S:V->α->Prop}{xs:List V}{as:List α}(h:Ar R xs as)(m:∀x a,R x a->S x a):Ar S xs as:=⟨h.1,fun i x a p q=>m _ _ (h.2 i x a p q)⟩
theorem Ar.get {α:Type}{R:V->α->Prop}{xs:List V}{as:List α}{i:Nat}{a:α}(h:Ar R xs as)(ha:as[i]?=some a):∃x,xs[i]?=some x/\R x a:=by
 have hi:i<xs.length:=by rw[h.1];exact(AX.mp ha).1
 exact⟨_,AL hi,h.2 i _ a (AL hi) ha⟩
theorem Ar.get' {α:Type}{R:V->α->Prop}{xs:List V}{as:List α}{i:Nat}{x:V}(h:Ar R xs as)(hx:xs[i]?=some x):∃a,as[i]?=some a/\R x a:=by
 have hi:i<as.length:=by rw[←h.1];exact(AX.mp hx).1
 exact⟨_,AL hi,h.2 i x _ hx (AL hi)⟩
theorem Ar.app {α:Type}{R:V->α->Prop}{xs ys:List V}{as bs:List α}(h:Ar R xs as)(g:Ar R ys bs):Ar R (xs++ys) (as++bs):=by
 refine⟨by rw[Az,Az,h.1,g.1],fun i x a p q=>?_⟩
 by_cases l:i<xs.length
 .rw[EH l]at p
  rw[EH (by rw[←h.1];exact l)]at q
  exact h.2 i x a p q
 .rw[DQ (by lia)]at p
  rw[DQ (by have:=h.1;lia)]at q
  rw[h.1]at p
  exact g.2 _ x a p q
theorem Ar.one {α:Type}{R:V->α->Prop}{x:V}{a:α}(h:R x a):Ar R [x] [a]:=⟨rfl,fun i y b p q=>by
 cases i with
 |zero=>cases p;cases q;exact h
 |succ i=>simp at p⟩
theorem Ar.snoc {α:Type}{R:V->α->Prop}{xs:List V}{as:List α}{x:V}{a:α}(h:Ar R xs as)(g:R x a):Ar R (xs++[x]) (as++[a]):=h.app (.one g)
theorem Ar.cons {α:Type}{R:V->α->Prop}{xs:List V}{as:List α}{x:V}{a:α}(g:R x a)(h:Ar R xs as):Ar R (x::xs) (a::as):=Ar.app (.one g) h
theorem Ar.take {α:Type}{R:V->α->Prop}{xs:List V}{as:List α}(h:Ar R xs as)(n:Nat):Ar R (xs.take n) (as.take n):=⟨by rw[Bg,Bg,h.1],fun i x a p q=>by
 by_cases l:i<n
 .rw[Jq l]at p q
  exact h.2 _ x a p q
 .rw[List.getElem?_take_eq_none (by lia)]at p
  cases p⟩
def TK (H H':Hp):Prop := ∀(b:Addr) (xs:List V),H b=some (.tup xs)->H' b=some (.tup xs)
theorem TK.trans {H H' H'':Hp}(a:TK H H')(b:TK H' H''):TK H H'':=fun x xs h=>b x xs (a x xs h)
theorem A9.tk {H H':Hp}(e:A9 H H'):TK H H':=fun b xs h=>e b _ h
theorem TK.upd {H:Hp}{l:Addr}{xs:List V}{o:HO}(hl:H l=some (.lst xs)):TK H (upd H l o):=fun b ys hb=>by
 rw[Am (F8 hb hl (by intro z;cases z))]
 exact hb
def ME (t:TE):Prop := ∀(σ:St) (H:Hp) (Q Q':VK),(∀v H1,Q v H1->Q' v H1)->t σ H Q->t σ H Q'
def MT (t:TT):Prop := ∀σ H Q Q',(∀b H1,Q b H1->Q' b H1)->t σ H Q->t σ H Q'
def MA (t:TA):Prop := ∀σ H Q Q',(∀b H1,Q b H1->Q' b H1)->t σ H Q->t σ H Q'
def MR (r:R2):Prop := ∀(x y:V) (H:Hp) (Q Q':VK),(∀v H1,Q v H1->Q' v H1)->r x y H Q->r x y H Q'
def MB (r:List V->Hp->VK->Prop):Prop := ∀(vs:List V) (H:Hp) (Q Q':VK),(∀v H1,Q v H1->Q' v H1)->r vs H Q->r vs H Q'
theorem ME.var (i:Nat):ME (My i):=fun σ H Q Q' hq zz=>by obtain⟨v,h,k⟩:=zz;exact⟨v,h,hq _ _ k⟩
theorem ME.c (v:V):ME (tC v):=fun σ H Q Q' hq h=>hq _ _ h
theorem ME.op {r:R2}{a b:TE}(hr:MR r)(ha:ME a)(hb:ME b):ME (IK r a b):=fun σ H Q Q' hq h=>ha _ _ _ _ (fun x H1 k=>hb _ _ _ _ (fun y H2 k=>hr _ _ _ _ _ hq k) k) h
theorem ME.cb {r:List V->Hp->VK->Prop}{t:TA}(hr:MB r)(h:MA t):ME (M3 r t):=fun σ H Q Q' hq k=>h _ _ _ _ (fun xs H1 m=>hr _ _ _ _ hq m) k
theorem MA.nil:MA G2:=fun σ H Q Q' hq h=>hq _ _ h
theorem MA.cons {t:TE}{u:TA}(ht:ME t)(hu:MA u):MA (MX t u):=fun σ H Q Q' hq h=>ht _ _ _ _ (fun x H1 k=>hu _ _ _ _ (fun xs H2 m=>hq _ _ m) k) h
theorem MT.test {t:TE}(h:ME t):MT (MM t):=fun σ H Q Q' hq k=>h _ _ _ _ (fun x H1 ⟨b,e,m⟩=>⟨b,e,hq _ _ m⟩) k
theorem MT.and {t u:TT}(h:MT t)(g:MT u):MT (Q7 t u):=fun σ H Q Q' hq k=>h _ _ _ _ (fun c H1 m=>by
 cases c with
 |true=>exact g _ _ _ _ hq m
 |false=>exact hq _ _ m) k
theorem MR.i0 (g:Int->Int->V):MR (FT g):=fun x y H Q Q' hq zz=>by obtain⟨i,j,a,b,d⟩:=zz;exact⟨i,j,a,b,hq _ _ d⟩
theorem MR.eq:MR PU:=fun x y H Q Q' hq zz=>by obtain⟨a,b⟩:=zz;exact⟨a,hq _ _ b⟩
theorem MR.ixT (K:YO):MR (CY K):=fun x y H Q Q' hq zz=>by obtain⟨p,xs,i,v,a,b,c,d,e⟩:=zz;exact⟨p,xs,i,v,a,b,c,d,hq _ _ e⟩
theorem MB.len {P R:Hp->Addr->List V->Prop}:MB (fun xs H Q=>∃p ys,xs=[V.ref p]/\(P H p ys\/R H p ys)/\Q (V.int (ys.length:Int)) H):=fun vs H Q Q' hq zz=>by obtain⟨p,ys,a,b,c⟩:=zz;exact⟨p,ys,a,b,hq _ _ c⟩
theorem IM {K:YO}{H:Hp}:∀L:List Int,BW K H (L.map V.int) (L.map fun i=>Tr.v (.int i))
 |[]=>.nil
 |x::L=>.cons (.flat rfl) (IM L)
theorem N5:∀L:List Int,CO (L.map fun i=>Tr.v (.int i))=0
 |[]=>rfl
 |x::L=>by rw[Bz,CO,N5 L];rfl
theorem IY {v:V}{i:Nat}{b:TS}{D:De}{σ:St}{H:Hp}(h:b D (σ.set i (some v)) H):DN (Jg (tC v) (Ag i)) b D σ H:=h
end L2
namespace HT
open PySem PySem.Spec PyProof.Rows L2
section
variable {prog:Program}{w:World}{A:Around}{E:Value->Shared->Prop}{s:Shared}
theorem getItem_tuple_all {t sl:Addr}{items:Array Value}{vl vu:Value}{lo hi:Option Int}{Q:Value->Shared->Prop}(ht:IsTup s.heap t items)(hs:s.heap.IsSliceOf sl vl vu .none)(pl:IsPart vl lo)(pu:IsPart vu hi)
  (hw:sIx items.size 0 lo=0/\sIx items.size items.size hi=items.size) (h:Q (.ref t) s):wpAny (model prog w) A (getItem (.ref t) (.ref sl)) Q E s:=by
 obtain⟨os,hos,hcs,hds⟩:=id hs
 have hTs:s.TypeIs (.ref sl) "slice":=⟨os,hos,hcs⟩
 unfold getItem
 try with_reducible refine FM ?_
 first|refine Ao (AY ?_)|skip
 refine Ao (wpAny_sequenceKey ht.typeIs (by decide) ?_)
 refine Ao (wpAny_callSpecial?_slot (name:=Str.ofString "__getitem__") ht.typeIs Nj
  (Nz Nj ht.typeIs entry_tuple_getitem ?_ (args_tuple_getitem _ _)))
 show wpAny _ _ (Builtin.Tuple.tupleItemsOf (.ref t)>>=_) _ _ s
 refine Ao (tupleItemsOf_ ht ?_)
 refine Ao (wpAny_typeOf hTs ?_)
 rw[Ax (by decide)]
 refine Ao (Qj hs pl pu ?_)
 have hyes:(((sIx items.size 0 lo:Nat):Int)==0&&(1:Int)==1&&(sIx items.size items.size hi-sIx items.size 0 lo)==items.size)=true:=by
  rw[hw.1,hw.2]
  simp
 show wpAny _ _ (if(((sIx items.size 0 lo:Nat):Int)==0&&(1:Int)==1&&(sIx items.size items.size hi-sIx items.size 0 lo)==items.size)=true then _ else _) _ _ s
 rw[Ax hyes]
 show wpAny _ _ (Builtin.Tuple.tupleIsExact (.ref t)>>=_) _ _ s
 unfold Builtin.Tuple.tupleIsExact
 refine Ao (Ao (wpAny_typeOf ht.typeIs (AY ?_)))
 rw[Ax (by decide)]
 wp_walk
 first
  |exact⟨_,rfl,AY h⟩
  |exact AY ⟨_,rfl,AY h⟩
end
end HT
namespace L2
open PySem PySem.Spec PyProof.Rows
def Yf:V->Option Int->Option Int->Hp->VK->Prop:=fun x lo hi H Q=>∃(a:Addr) (xs:List V),x = .ref a/\H a=some (.tup xs)/\∀(p:Addr) (H':Hp),A9 H H'->H' p=some (.tup (C2 xs lo hi))->Q (.ref p) H'
theorem Nh {X:Cx}:Jf X Yf:=by
 intro pins s σ H x v vl vu lo hi sl Q I rx hs pl pu h
 obtain⟨a,xs,rfl,ha,q⟩:=h
 by_cases c:HT.sIx xs.length 0 lo=0/\HT.sIx xs.length xs.length hi=xs.length
 .cases rx
  obtain⟨its,r,ht,hz⟩:=I.tuple (A3.of ha)
  have hlen:its.toArray.size=xs.length:=by rw[Bi];exact r.length.symm
  refine⟨"tuple",_,PyProof.Rows.slot_tuple_getitem.lookup,ht.typeIs,?_⟩
  refine HT.getItem_tuple_all ht hs pl pu (by rw[hlen];exact c) ⟨.ref a,H,I,rfl,q a H (A9.refl _) ?_⟩
  have:C2 xs lo hi=xs:=by
   unfold C2
   rw[c.1,c.2]
   simp
  rw[this]
  exact ha
 .exact RP pins s σ H (.ref a) v vl vu lo hi sl Q I rx hs pl pu ⟨a,xs,rfl,A3.of ha,c,fun p hp=>q p _ (Aa hp _) A6⟩
def IZ (b:Bb):Tr:=.tup [.v (.int b.1),.v (.int b.2.1),.v (.int b.2.2)]
theorem Mh {K:YO}{H:Hp}:∀{ys:List V} {B:List Bb},Bf H ys B->BW K H ys (B.map IZ)
 |[],[],_=>.nil
 |[],p::P,h=>by have:=h.1;cases this
 |y::ys,[],h=>by have:=h.1;cases this
 |
  y::ys,b::B,h=>by
  obtain⟨t,rfl,ht⟩:=h.2 0 y b rfl rfl
  exact .cons (.tup (A3.of ht) (.cons (.flat rfl) (.cons (.flat rfl) (.cons (.flat rfl) .nil)))) (Mh ⟨Nat.succ.inj h.1,fun i x a p q=>h.2 (i+1) x a (by simpa using p) (by simpa using q)⟩)
theorem LY:∀B:List Bb,CO (B.map IZ)<=1
 |[]=>BN _
 |
  b::B=>by
  rw[Bz,CO]
  have:=LY B
  have:Ct (IZ b)=1:=by simp[IZ,Ct,CO]
  lia
theorem Bf.app {H:Hp}{ys zs:List V}{B C:List Bb}(h:Bf H ys B)(g:Bf H zs C):Bf H (ys++zs) (B++C):=by
 have a:Ar (fun x (b:Bb)=>∃t,x = .ref t/\H t=some (.tup [.int b.1,.int b.2.1,.int b.2.2])) ys B:=⟨h.1,fun i x b p q=>h.2 i x b p q⟩
 have c:Ar (fun x (b:Bb)=>∃t,x = .ref t/\H t=some (.tup [.int b.1,.int b.2.1,.int b.2.2])) zs C:=⟨g.1,fun i x b p q=>g.2 i x b p q⟩
 have:=a.app c
 exact⟨this.1,fun i x b p q=>this.2 i x b p q⟩
def Yo (K:YO):List V->Hp->VK->Prop:=fun xs H Q=>∃p ys,xs=[V.ref p]/\((A5 K H p ys/\∀l,H l=none->Q (V.ref l) (upd H l (HO.tup ys)))\/A3 K H p ys/\Q (V.ref p) H)
namespace Tw
end Tw
def Dc (H:Hp)(x:V)(s:Str×Int):Prop := ∃t,x = .ref t/\H t=some (.tup [.str s.1,.int s.2])
theorem Dc.tk {H H':Hp}{x:V}{s:Str×Int}(k:TK H H')(h:Dc H x s):Dc H' x s:=by obtain⟨t,e,h⟩:=h;exact⟨t,e,k _ _ h⟩
section
variable {prog:Program}{w:World}{A:Around}{E:Value->Shared->Prop}{s:Shared}
end
section
variable {prog:Program}{w:World}{A:Around}{E:Value->Shared->Prop}{s:Shared}
end
section
variable {prog:Program}{w:World}{A:Around}{E:Value->Shared->Prop}{s:Shared}
end
section
variable {prog:Program}{w:World}{A:Around}{E:Value->Shared->Prop}{s:Shared}
end
end L2
namespace Pw
variable {T S:Type}
end Pw
namespace L2
open PySem PySem.Spec PyProof.Rows
theorem PC (z:Str)(l:List Str):GA (.str z) (l.map V.str)=decide (z∈l):=by
 unfold GA
 induction l with
 |nil=>rfl
 |
  cons y l ih=>
  rw[Bz,Im,ih]
  have e:Do (.str y) (.str z)=decide (z=y):=by
   show(y==z)=_
   rw[G9]
   simp only[FN,JD]
   exact⟨fun e=>e.symm,fun e=>e.symm⟩
  rw[e,G9]
  simp
def NL (H H':Hp):Prop := ∀b o,H b=some o->(∀xs,o≠.lst xs)->H' b=some o
theorem NL.tk {H H':Hp}(h:NL H H'):TK H H':=fun b xs hb=>h b _ hb (fun _ z=>by cases z)
theorem NL.upd {H:Hp}{l:Addr}{xs:List V}{o:HO}(hl:H l=some (.lst xs)):NL H (upd H l o):=fun b ob hb hn=>by
 rw[Am (fun z=>by rw[z,hl]at hb;cases hb;exact hn _ rfl)]
 exact hb
end L2
namespace Pm
variable {S:Type}[DecidableEq S]
structure T4 (S:Type) where
 k:Nat
 a:Nat
 b:Bool
 z:S
def tk3 (k:Nat):Nat->List (Bool×S)->List (T4 S)
 |_,[]=>[]
 |a,t::L=>⟨k,a,t.1,t.2⟩::tk3 k (a+1) L
def all3:Nat->List (List (Bool×S))->List (T4 S)
 |_,[]=>[]
 |k,L::Ls=>tk3 k 0 L++all3 (k+1) Ls
theorem tk3_len (k:Nat):∀(a:Nat) (L:List (Bool×S)),(tk3 k a L).length=L.length
 |_,[]=>rfl
 |a,t::L=>by show(tk3 k (a+1) L).length+1=L.length+1;rw[tk3_len]
theorem tk3_snoc (k:Nat):∀(a:Nat) (L:List (Bool×S)) (t:Bool×S),tk3 k a (L++[t])=tk3 k a L++[⟨k,a+L.length,t.1,t.2⟩]
 |_,[],t=>rfl
 |
  a,u::L,t=>by
  show _::tk3 k (a+1) (L++[t])=_::(tk3 k (a+1) L++_)
  rw[tk3_snoc,show a+1+L.length=a+(u::L).length by rw[C9];lia]
theorem all3_snoc:∀(k:Nat) (Ls:List (List (Bool×S))) (L:List (Bool×S)),all3 k (Ls++[L])=all3 k Ls++tk3 (k+Ls.length) 0 L
 |k,[],L=>by show tk3 k 0 L++[]=[]++tk3 (k+0) 0 L;rw[DA,List.nil_append,Nat.add_zero]
 |
  k,M::Ls,L=>by
  show tk3 k 0 M++all3 (k+1) (Ls++[L])=tk3 k 0 M++all3 (k+1) Ls++_
  rw[all3_snoc,DR,show k+1+Ls.length=k+(M::Ls).length by rw[C9];lia]
theorem all3_len:∀(k:Nat) (Ls:List (List (Bool×S))) (c:Nat),(∀L∈Ls,L.length<=c)->(all3 k Ls).length<=c*Ls.length
 |_,[],c,_=>BN _
 |
  k,L::Ls,c,h=>by
  have h1:=all3_len (k+1) Ls c fun x hx=>h x (E5 _ hx)
  have h2:=h L E4
  show(tk3 k 0 L++all3 (k+1) Ls).length<=_
  rw[Az,tk3_len,C9,Nat.mul_succ]
  lia
abbrev Q4:=Nat×Nat×Nat×Nat
def ok (x y:T4 S):Bool:=decide (x.z=y.z)&&(x.b||y.b)
def in1 (x:T4 S)(T:List (T4 S)):List Q4:=(T.filter (ok x)).map fun y=>(x.k,x.a,y.k,y.a)
def mtF (U T:List (T4 S)):List Q4:=(U.map fun x=>in1 x T).flatten
def mt (T:List (T4 S)):List Q4:=mtF T T
theorem in1_snoc (x y:T4 S)(T:List (T4 S)):in1 x (T++[y])=in1 x T++if ok x y=true then[(x.k,x.a,y.k,y.a)] else[]:=by
 unfold in1
 rw[List.filter_append,Bq]
 by_cases c:ok x y=true
 .rw[Ax c,List.filter_cons_of_pos c];rfl
 .rw[As c,List.filter_cons_of_neg c];rfl
theorem mtF_snoc (U T:List (T4 S))(x:T4 S):mtF (U++[x]) T=mtF U T++in1 x T:=by
 unfold mtF
 rw[Bq,List.flatten_append]
 show _++(in1 x T++[])=_
 rw[DA]
theorem in1_len (x:T4 S)(T:List (T4 S)):(in1 x T).length<=T.length:=by
 unfold in1
 rw[Aq]
 exact List.length_filter_le _ _
theorem mtF_len (T:List (T4 S)):∀U:List (T4 S),(mtF U T).length<=U.length*T.length
 |[]=>BN _
 |
  x::U=>by
  have h1:=mtF_len T U
  have h2:=in1_len x T
  show(in1 x T++mtF U T).length<=_
  rw[Az,C9,Nat.succ_mul]
  lia
theorem pref_ex (f g:Nat->Int):∀m:Nat,∃k,k<=m/\(∀e<k,f e=g e)/\(k<m->f k≠g k)
 |0=>⟨0,Ap _,fun e he=>absurd he (LC _),fun h=>absurd h (LC _)⟩
 |
  m+1=>by
  obtain⟨k,h1,h2,h3⟩:=pref_ex f g m
  by_cases c:k<m
  .exact⟨k,by lia,h2,fun _=>h3 c⟩
  .have e:k=m:=by lia
   subst e
   by_cases d:f k=g k
   .exact⟨k+1,Ap _,fun e he=>by
    by_cases c2:e=k
    .rw[c2];exact d
    .exact h2 e (by lia),fun h=>absurd h (Dd _)⟩
   .exact⟨k,by lia,h2,fun _=>d⟩
end Pm
namespace L2
open PySem PySem.Spec PyProof.Rows
structure R5 where
 n:Nat
 path:List Int
 z:Str
 p:Addr
 m:Nat
 rs:BK
def D6 (R:R5):List (Bool×Str):=(true,R.z)::R.rs.map fun r=>(false,r.1)
structure R5.Ok (R:R5):Prop where
 n3:R.n<=3
 pl:R.path.length=R.n+1
 ms:R.m<=30
 rl:R.rs.length<=R.m
theorem Ms {R:R5}(h:R.Ok):(D6 R).length<=31:=by
 unfold D6
 rw[C9,Aq]
 have:=h.rl
 have:=h.ms
 lia
theorem FH.tk {H H':Hp}{p:Addr}(h:FH H p)(e:TK H H'):FH H' p:=by
 obtain⟨xs,h1,h2,h3⟩:=h
 exact⟨xs,e _ _ h1,h2,fun v hv=>let ⟨t,z,n,a,b⟩:=h3 v hv;⟨t,z,n,a,e _ _ b⟩⟩
theorem Cz.tk {H H':Hp}(e:TK H H'){n:Nat}{x:V}{rs:BK}(h:Cz H n x rs):Cz H' n x rs:=by
 induction h with
 |n i h=>exact .n i (e _ _ h)
 |v z h=>exact .v z (e _ _ h)
 |c z h hp=>exact .c z (e _ _ h) (hp.tk e)
 |j z hz h _ _ a b=>exact .j z hz (e _ _ h) a b
def EX (H:Hp)(v:V)(R:R5):Prop := ∃(r u1 u4:Addr) (v1 v2 x:V) (ys:List V),v = .ref r/\H r=some (.tup [.ref u1,v1,v2,.str R.z,.ref R.p,x,.ref u4])/\H u1=some (.tup ys)/\ys.length=R.n/\(∀y∈ys,∃z,y=V.str z)/\H u4=some (.tup (R.path.map V.int))/\Cz H R.m x R.rs
theorem EX.tk {H H':Hp}{v:V}{R:R5}(h:EX H v R)(e:TK H H'):EX H' v R:=by
 obtain⟨r,u1,u4,v1,v2,x,ys,a,b,c,d,f,g,k⟩:=h
 exact⟨r,u1,u4,v1,v2,x,ys,a,e _ _ b,e _ _ c,d,f,e _ _ g,k.tk e⟩
theorem EX.over {H H':Hp}{v:V}{R:R5}(h:EX H v R)(e:A9 H H'):EX H' v R:=h.tk (A9.tk e)
def Gs (H:Hp)(l:Addr)(Rs:List R5):Prop := ∃xs,H l=some (.lst xs)/\Ar (EX H) xs Rs
theorem Gs.over {H H':Hp}{l:Addr}{Rs:List R5}(h:Gs H l Rs)(e:A9 H H'):Gs H' l Rs:=by obtain⟨xs,a,b⟩:=h;exact⟨xs,e _ _ a,b.mono fun _ _ z=>z.over e⟩
theorem CA.nl {c:Cs}{H H':Hp}(e:NL H H'){n:Nat}{x:V}{rs:BK}(h:CA c H n x rs):CA c H' n x rs:=by
 induction h with
 |num i h=>exact .num i (e _ _ h (fun _ z=>by cases z))
 |val z h=>exact .val z (e _ _ h (fun _ z=>by cases z))
 |cel z h=>exact .cel z (e _ _ h (fun _ z=>by cases z))
 |joi z h _ _ a b=>exact .joi z (e _ _ h (fun _ z=>by cases z)) a b
def Et (c:Cs)(C:Addr)(H:Hp)(v:V)(R:R5):Prop := ∃(d dx nm pt:Addr) (v2 v3 x:V) (ys:List V),v = .ref d/\H d=some (.ins C dx [("names",.ref nm),("lows",v2),("highs",v3),("table",.str R.z),("spots",.ref R.p),("term",x),("path",.ref pt)])/\H nm=some (.tup ys)/\ys.length=R.n/\H pt=some (.tup (R.path.map V.int))/\CA c H R.m x R.rs
theorem Et.nl {c:Cs}{C:Addr}{H H':Hp}{v:V}{R:R5}(h:Et c C H v R)(e:NL H H'):Et c C H' v R:=by
 obtain⟨d,dx,nm,pt,v2,v3,x,ys,a,b,f,g,k,l⟩:=h
 exact⟨d,dx,nm,pt,v2,v3,x,ys,a,e _ _ b (fun _ z=>by cases z),e _ _ f (fun _ z=>by cases z),g,e _ _ k (fun _ z=>by cases z),l.nl e⟩
theorem A9.nl {H H':Hp}(e:A9 H H'):NL H H':=fun b o h _=>e b o h
theorem Et.over {c:Cs}{C:Addr}{H H':Hp}{v:V}{R:R5}(h:Et c C H v R)(e:A9 H H'):Et c C H' v R:=h.nl e.nl
theorem Et.tm {c:Cs}{C:Addr}{H:Hp}{v:V}{R:R5}(h:Et c C H v R):HH c C H v R.z R.p R.m R.rs:=by
 obtain⟨d,dx,nm,pt,v2,v3,x,ys,a,b,f,g,k,l⟩:=h
 exact⟨d,dx,_,_,_,x,_,a,b,l⟩
def G7 (CP C:Addr)(c:Cs)(H:Hp)(v:V)(Rs:List R5):Prop := ∃(x dx dl:Addr) (sz:V) (xs:List V),v = .ref x/\H x=some (.ins CP dx [("size",sz),("deeds",.ref dl)])/\H dl=some (.lst xs)/\Ar (Et c C H) xs Rs
theorem G7.over {CP C:Addr}{c:Cs}{H H':Hp}{v:V}{Rs:List R5}(h:G7 CP C c H v Rs)(e:A9 H H'):G7 CP C c H' v Rs:=by obtain⟨x,dx,dl,sz,xs,a,b,d,f⟩:=h;exact⟨x,dx,dl,sz,xs,a,e _ _ b,e _ _ d,f.mono fun _ _ z=>z.over e⟩
def PM (H:Hp)(y:V)(b:Bool×Str):Prop := ∃u p,y = .ref u/\H u=some (.tup [.bl b.1,.str b.2,.ref p])
theorem WB {H:Hp}{f:Str×Addr->List V}(hf:∀r,f r=[.bl false,.str r.1,.ref r.2]){ys:List V}{rs:BK}(h:D8 H f ys rs):Ar (PM H) ys (rs.map fun r=>(false,r.1)):=by
 refine⟨by rw[Aq];exact h.1,fun i x a hx ha=>?_⟩
 rw[BG]at ha
 cases hr:rs[i]? with
 |none=>rw[hr]at ha;cases ha
 |
  some r=>
  rw[hr]at ha
  cases ha
  obtain⟨t,rfl,ht⟩:=h.2 i x r hx hr
  rw[hf]at ht
  exact⟨t,r.2,rfl,ht⟩
theorem PF {H:Hp}{l:Addr}{R:R5}(h:JZ H l R.z R.p R.rs):∃xs,H l=some (.lst xs)/\Ar (PM H) xs (D6 R):=by
 obtain⟨t,ys,h1,h2,h3⟩:=h
 exact⟨_,h1,.cons ⟨t,R.p,rfl,h2⟩ (WB (fun _=>rfl) h3)⟩
abbrev T5:=Pm.T4 Str
def EE (H:Hp)(y:V)(x:T5):Prop := ∃t u p,y = .ref t/\H t=some (.tup [.int (x.k:Int),.int (x.a:Int),.ref u])/\H u=some (.tup [.bl x.b,.str x.z,.ref p])
theorem EE.tk {H H':Hp}{y:V}{x:T5}(h:EE H y x)(e:TK H H'):EE H' y x:=by obtain⟨t,u,p,a,b,c⟩:=h;exact⟨t,u,p,a,e _ _ b,e _ _ c⟩
theorem EE.over {H H':Hp}{y:V}{x:T5}(h:EE H y x)(e:A9 H H'):EE H' y x:=h.tk (A9.tk e)
abbrev Ba (Rs:List R5):List T5:=Pm.all3 0 (Rs.map D6)
theorem Gz {Rs:List R5}(h:∀R∈Rs,R.Ok)(n:Rs.length<=6):(Ba Rs).length<=186:=by
 have:=Pm.all3_len 0 (Rs.map D6) 31 fun L hL=>by
  obtain⟨R,hR,rfl⟩:=D5.mp hL
  exact Ms (h R hR)
 rw[Aq]at this
 have h2:31*Rs.length<=31*6:=Nat.mul_le_mul_left _ n
 show(Pm.all3 0 (Rs.map D6)).length<=186
 lia
def YK (CP C:Addr)(c:Cs):Sp:=fun vs H Q _=>∃(v:V) (Rs:List R5),vs=[v]/\G7 CP C c H v Rs/\(∀R∈Rs,R.Ok)/\Rs.length<=6/\∀(r:Addr) (ys:List V) (H':Hp),A9 H H'->H r=none->H' r=some (.lst ys)->Ar (EE H') ys (Ba Rs)->Q (.ref r) H'
def Ei (H:Hp)(y:V)(q:Pm.Q4):Prop := ∃t,y = .ref t/\H t=some (.tup [.int (q.1:Int),.int (q.2.1:Int),.int (q.2.2.1:Int),.int (q.2.2.2:Int)])
theorem Ei.tk {H H':Hp}{y:V}{x:Pm.Q4}(h:Ei H y x)(e:TK H H'):Ei H' y x:=by obtain⟨t,a,b⟩:=h;exact⟨t,a,e _ _ b⟩
theorem Ei.over {H H':Hp}{y:V}{x:Pm.Q4}(h:Ei H y x)(e:A9 H H'):Ei H' y x:=h.tk (A9.tk e)
def OS (H:Hp)(l:Addr)(L:List Pm.Q4):Prop := ∃ys,H l=some (.lst ys)/\Ar (Ei H) ys L
theorem N9 {T:List T5}(h:T.length<=186):(Pm.mt T).length<=34596:=E3 (Pm.mtF_len T T) (Nat.mul_le_mul h h)
def QT (CP C:Addr)(c:Cs):Sp:=fun vs H Q _=>∃(v:V) (Rs:List R5),vs=[v]/\G7 CP C c H v Rs/\(∀R∈Rs,R.Ok)/\Rs.length<=6/\∀(r:Addr) (H':Hp),A9 H H'->H r=none->OS H' r (Pm.mt (Ba Rs))->Q (.ref r) H'
theorem VB {K:YO}{H:Hp}{x y:Addr}{t:Tr}{Q:VK}(hx:BA K H (.ref x) t)(hy:BA K H (.ref y) t)(hd:Ct t<=60)(h:Q (.bl true) H):J5 K false (.ref x) (.ref y) H Q:=by
 refine⟨t,t,hx,hy,⟨_,rfl⟩,⟨_,rfl⟩,NK t,hd,?_⟩
 rw[show(if false=true then !BU t t else BU t t)=true from Le t hx.ok]
 exact h
def F5 (R S:R5)(k:Nat):Prop:=k<=R.n/\k<=S.n/\(∀e<k,R.path.getD e 0=S.path.getD e 0)/\(k<min R.n S.n->R.path.getD k 0≠S.path.getD k 0)
theorem N7 (R S:R5):∃k,F5 R S k:=by
 obtain⟨k,h1,h2,h3⟩:=Pm.pref_ex (fun e=>R.path.getD e 0) (fun e=>S.path.getD e 0) (min R.n S.n)
 exact⟨k,by lia,by lia,h2,h3⟩
def XZ (C:Addr)(c:Cs):Sp:=fun vs H Q _=>∃(x y:V) (R S:R5) (k:Nat),vs=[x,y]/\Et c C H x R/\Et c C H y S/\R.Ok/\S.Ok/\F5 R S k/\Q (.int (k:Int)) H
def S5:Sp:=fun vs H Q _=>∃(x y:V) (R S:R5) (k:Nat),vs=[x,y]/\EX H x R/\EX H y S/\R.Ok/\S.Ok/\F5 R S k/\Q (.int (k:Int)) H
def C0 (k l s:Nat):Nat:=if k<l then s+1 else s
def Ru (CP C:Addr)(c:Cs):Sp:=fun vs H Q _=>∃(v:V) (Rs:List R5) (k l s:Nat) (R S:R5),vs=[v,.int (k:Int),.int (l:Int)]/\G7 CP C c H v Rs/\(∀R∈Rs,R.Ok)/\Rs[k]?=some R/\Rs[l]?=some S/\F5 R S s/\∀(r:Addr) (H':Hp),A9 H H'->H r=none->H' r=some (.lst ((List.range (C0 k l s)).map fun i:Nat=>V.int (i:Int)))->Q (.ref r) H'
structure Lp where
 nm:Str
 lz:Str
 ln:Int
 hz:Str
 hn:Int
 ab:Int
 tn:Int
def EK (H:Hp)(v:V)(q:Lp):Prop := ∃p p1 p2,v = .ref p/\H p=some (.tup [.str q.nm,.ref p1,.ref p2,.int q.ab,.int q.tn])/\H p1=some (.tup [.str q.lz,.int q.ln])/\H p2=some (.tup [.str q.hz,.int q.hn])
theorem EK.over {H H':Hp}{v:V}{q:Lp}(h:EK H v q)(e:A9 H H'):EK H' v q:=by obtain⟨p,p1,p2,a,b,c,d⟩:=h;exact⟨p,p1,p2,a,e _ _ b,e _ _ c,e _ _ d⟩
theorem EK.tk {H H':Hp}{v:V}{q:Lp}(h:EK H v q)(e:TK H H'):EK H' v q:=by obtain⟨p,p1,p2,a,b,c,d⟩:=h;exact⟨p,p1,p2,a,e _ _ b,e _ _ c,e _ _ d⟩
def Bs (S:List Lp)(z:Str):Prop:=z=""\/∃r∈S,z=r.nm
def O4 (H:Hp)(st:Addr)(S:List Lp):Prop := ∃vs,H st=some (.lst vs)/\Ar (EK H) vs S
def AV (S:List Lp):List Str:=S.map (·.nm)
theorem Pr {S:List Lp}{i:Nat}{z:Str}(h:Bs (S.take i) z):z=""\/∃j:Nat,j<i/\(AV S)[j]?=some z:=by
 rcases h with h|⟨r,hr,rfl⟩
 .exact .inl h
 .obtain⟨j,hj⟩:=Ga.mp hr
  have l:=(AX.mp hj).1
  rw[Bg]at l
  rw[Jq (by lia)]at hj
  exact .inr ⟨j,by lia,by unfold AV;rw[BG,hj];rfl⟩
theorem ND {zs:List Str}{j:Nat}{z:Str}(nd:zs.Nodup)(ne:∀z∈zs,z≠"")(h:zs[j]?=some z)(first:Int):Dh zs z first (first+(j:Int)):=by
 refine .inr ⟨ne z (Bh h),j,h,fun m hm e=>?_,rfl⟩
 obtain⟨l1,e1⟩:=AX.mp h
 obtain⟨l2,e2⟩:=AX.mp e
 exact Ip.mp nd m j l2 l1 hm (by rw[e1,e2])
def MG (kvs:List (AU×V))(zs:List Str)(W:List Int):Prop := ∀(j:Nat) (z:Str),j<W.length->zs[j]?=some z->Ck kvs (Sum.inr z:AU)=some (.int (W.getD j 0))
def WU:Sp:=fun vs H Q _=>∃(nm vt:Addr) (zs:List Str) (W:List Int),vs=[.ref nm,.ref vt]/\H nm=some (.tup (zs.map V.str))/\H vt=some (.tup (W.map V.int))/\W.length<=zs.length/\zs.length<=100/\zs.Nodup/\∀(r:Addr) (kvs:List (AU×V)) (H':Hp),A9 H H'->H' r=some (.dK kvs)->MG kvs zs W->Q (.ref r) H'
def Hl (kvs:List (AU×V))(z:Str)(b:Int):Prop:=(z=""/\b=0)\/(z≠""/\Ck kvs (Sum.inr z:AU)=some (.int b))
def BV (zs:List Str)(W:List Int)(i:Nat)(z:Str)(b:Int):Prop:=(z=""/\b=0)\/(z≠""/\∃j:Nat,j<i/\zs[j]?=some z/\b=W.getD j 0)
def LP (zs:List Str)(lz hz:Nat->Str)(ln hn:Nat->Int)(W:List Int)(i:Nat):Prop := ∃b b':Int,BV zs W i (lz i) b/\BV zs W i (hz i) b'/\b+ln i<=W.getD i 0/\W.getD i 0<=b'+hn i
def J2 (zs:List Str)(lz:Nat->Str)(m:Nat):Prop := ∀i<m,lz i=""\/(lz i≠""/\∃j:Nat,j<i/\zs[j]?=some (lz i))
def G6 (first:Int)(W:List Int)(x:Int):Int:=if x=0 then 0 else W.getD (x-first).toNat 0
def Qn (first:Int)(W:List Int)(x:Int):Prop:=x=0\/∃j:Nat,j<W.length/\x=first+(j:Int)
def KL (first:Int)(W:List Int)(b:Bb):Bool:=decide (G6 first W b.1-G6 first W b.2.1<=b.2.2)
def DM (first:Int)(u ln:Nat->Int)(i:Nat):Bb:=(u i,first+(i:Int),-(ln i))
def DW (first:Int)(w hn:Nat->Int)(i:Nat):Bb:=(first+(i:Int),w i,hn i)
def QI (C:Addr):Sp:=fun vs H Q _=>∃(d dx nm lo hi:Addr) (v4 v5 v6 v7:V) (first:Int) (zs:List Str) (lz hz:Nat->Str) (ln hn u w:Nat->Int),vs=[.ref d,.int first]/\H d=some (.ins C dx [("names",.ref nm),("lows",.ref lo),("highs",.ref hi),("table",v4),("spots",v5),("term",v6),("path",v7)])/\H nm=some (.tup (zs.map V.str))/\C6 H lo zs.length lz ln/\C6 H hi zs.length hz hn/\zs.length<=100/\(∀i<zs.length,Dh zs (lz i) first (u i))/\(∀i<zs.length,Dh zs (hz i) first (w i))/\∀(r:Addr) (ys:List V) (H':Hp),A9 H H'->H' r=some (.lst ys)->Bf H' ys (CB (DM first u ln) (DW first w hn) zs.length)->Q (.ref r) H'
theorem U5 {K:YO}{a b:Addr}{xs ys:List V}{g:TG}{tb:TS}{D:De}{σ:St}{H:Hp}(hlen:ys.length<=xs.length)(Pv:Nat->St->Hp->Prop)(h0:Pv 0 σ H)(hl:∀i σ H,i<=ys.length->Pv i σ H->A3 K H a xs/\A3 K H b ys)
  (hs:∀i x y T σ H,xs[i]?=some x->ys[i]?=some y->Pv i σ H->H T=none->g (.ref T) σ (upd H T (.tup [x,y])) fun σ2 H2=>tb {D with nx:=Pv (i+1),ct:=Pv (i+1),bk:=D.nx} σ2 H2) (hd:∀σ H,Pv ys.length σ H->D.nx σ H) :
  ∃W:Nat->Nat->St->Hp->Prop,(∃m,W 0 m σ H)/\∀i m σ H,W i m σ H->
   ((FV K a b).stop i H/\D.nx σ H)\/((FV K a b).go i H/\∃N:St->Hp->Prop,(∀σ' H',N σ' H'->∃m',m'<m/\W (i+1) m' σ' H')/\∀x H',(FV K a b).yld i H x H'->g x σ H' fun σ2 H2=>tb {D with nx:=N,ct:=N,bk:=D.nx} σ2 H2):=by
 refine⟨fun i m σ H=>m=ys.length-i/\i<=ys.length/\Pv i σ H,⟨ys.length,by simp,BN _,h0⟩,?_⟩
 rintro i m σ H ⟨rfl,hi,p⟩
 obtain⟨q1,q2⟩:=hl i σ H hi p
 by_cases hlt:i<ys.length
 .refine .inr ⟨⟨xs,ys,xs[i],ys[i],q1,q2,AL (by lia),AL hlt⟩,Pv (i+1),fun σ' H' p'=>⟨ys.length-(i+1),by lia,rfl,hlt,p'⟩,fun v H' yy=>?_⟩
  obtain⟨x,y,T,hx,hy,hT,rfl,rfl⟩:=yy
  exact hs i x y T σ H (hx xs q1) (hy ys q2) p hT
 .have e:i=ys.length:=by lia
  subst e
  exact .inl ⟨⟨xs,ys,q1,q2,by lia,Ap _,.inr rfl⟩,hd σ H p⟩
theorem BV.inj {zs:List Str}{W:List Int}{b b':Int}{i:Nat}{z:Str}(nd:zs.Nodup)(h:BV zs W i z b)(g:BV zs W i z b'):b=b':=by
 rcases h with⟨h,rfl⟩|⟨h,j,h1,h2,rfl⟩<;>rcases g with⟨g,rfl⟩|⟨g,k,g1,g2,rfl⟩
 .rfl
 .exact absurd h g
 .exact absurd g h
 .obtain⟨l1,e1⟩:=AX.mp h2
  obtain⟨l2,e2⟩:=AX.mp g2
  have:j=k:=by
   rcases Nr j k with c|c|c
   .exact absurd (by rw[e1,e2]) (Ip.mp nd j k l1 l2 c)
   .exact c
   .exact absurd (by rw[e1,e2]) (Ip.mp nd k j l2 l1 c)
  rw[this]
theorem Qh {zs:List Str}{kvs:List (AU×V)}{W:List Int}{lz:Nat->Str}{i m:Nat}(hb:J2 zs lz m)(hi:i<m)(hw:W.length=i)(ha:MG kvs zs W):∃b,Hl kvs (lz i) b/\BV zs W i (lz i) b:=by
 rcases hb i hi with h|⟨h,j,h1,h2⟩
 .exact⟨0,.inl ⟨h,rfl⟩,.inl ⟨h,rfl⟩⟩
 .exact⟨W.getD j 0,.inr ⟨h,ha j _ (by lia) h2⟩,.inr ⟨h,j,h1,h2,rfl⟩⟩
end L2
namespace PySem
open Builtin
open AutoSeq1 (wpAny_loadPart')
end PySem
namespace L2
open PySem PySem.Spec PyProof.Rows
def Nb (ns:List Int)(k:Int):Int:=if k<(ns.length:Int) then ns.getD k.toNat 0 else
 if 0<ns.length then((ns.getD (k*7%(ns.length:Int)).toNat 0*48271+k*7919)%2147483647)*((ns.getD (k*7%(ns.length:Int)).toNat 0*48271+k*7919)%2147483647)%2147483629 else(k*7919+5)*(k*7919+5)%2147483629
def QK (K:YO):Sp:=fun vs H Q _=>∃(p:Addr) (ns:List Int) (k:Int),vs=[.ref p,.int k]/\A5 K H p (ns.map V.int)/\0<=k/\k<=1000000/\Q (.int (Nb ns k)) H
def UB (zs:List Str)(lz:Nat->Str)(first:Int)(u:Nat->Int)(i:Nat):Prop:=(lz i=""/\u i=0)\/(lz i≠""/\∃j:Nat,j<i/\zs[j]?=some (lz i)/\u i=first+(j:Int))
theorem UW {F G:Nat->Bb}{m:Nat}{b:Bb}(h:b∈CB F G m):∃i,i<m/\(b=F i\/b=G i):=by
 induction m with
 |zero=>cases h
 |
  succ m ih=>
  rw[CB]at h
  rcases Co.mp h with h|h
  .rcases Co.mp h with h|h
   .obtain⟨i,hi,e⟩:=ih h
    exact⟨i,by lia,e⟩
   .rw[DT]at h;exact⟨m,by lia,.inl h⟩
  .rw[DT]at h;exact⟨m,by lia,.inr h⟩
theorem IB {F G:Nat->Bb}{p:Bb->Bool}{m:Nat}:(CB F G m).all p=true↔∀i<m,p (F i)=true/\p (G i)=true:=by
 induction m with
 |zero=>exact⟨fun _ i hi=>by lia,fun _=>rfl⟩
 |
  succ m ih=>
  rw[CB,Jy,Jy,CU,CU,ih]
  simp only[List.all_cons,List.all_nil,Bool.and_true]
  constructor
  .rintro ⟨⟨h,h1⟩,h2⟩ i hi
   by_cases c:i<m
   .exact h i c
   .have:i=m:=by lia
    subst this
    exact⟨h1,h2⟩
  .intro h
   exact⟨⟨fun i hi=>h i (by lia),(h m (by lia)).1⟩,(h m (by lia)).2⟩
theorem Pe {zs:List Str}{lz:Nat->Str}{first:Int}{u:Nat->Int}{i:Nat}{W:List Int}(h:UB zs lz first u i)(hi:i<W.length):Qn first W (u i):=by
 rcases h with⟨_,e⟩|⟨_,j,h1,_,e⟩
 .exact .inl e
 .exact .inr ⟨j,by lia,e⟩
theorem JE {zs:List Str}{lz:Nat->Str}{first:Int}{u:Nat->Int}{i:Nat}{W:List Int}(f1:1<=first)(h:UB zs lz first u i):BV zs W i (lz i) (G6 first W (u i)):=by
 unfold G6
 rcases h with⟨a,e⟩|⟨a,j,h1,h2,e⟩
 .rw[e,Ax rfl];exact .inl ⟨a,rfl⟩
 .rw[e,As (by lia),show(first+(j:Int)-first).toNat=j by lia]
  exact .inr ⟨a,j,h1,h2,rfl⟩
theorem EF {zs:List Str}{lz:Nat->Str}{first:Int}{u:Nat->Int}{i:Nat}(nd:zs.Nodup)(ne:∀z∈zs,z≠"")(h:UB zs lz first u i):Dh zs (lz i) first (u i):=by
 rcases h with⟨a,e⟩|⟨a,j,h1,h2,e⟩
 .exact .inl ⟨a,e⟩
 .rw[e];exact ND nd ne h2 first
theorem K4 {zs:List Str}{lz:Nat->Str}{m:Nat}(h:J2 zs lz m)(first:Int):∃u:Nat->Int,∀i<m,UB zs lz first u i:=by
 have ex:∀i,i<m->∃v:Int,(lz i=""/\v=0)\/(lz i≠""/\∃j:Nat,j<i/\zs[j]?=some (lz i)/\v=first+(j:Int)):=fun i hi=>by
  rcases h i hi with a|⟨a,j,h1,h2⟩
  .exact⟨0,.inl ⟨a,rfl⟩⟩
  .exact⟨first+(j:Int),.inr ⟨a,j,h1,h2,rfl⟩⟩
 refine⟨fun i=>if h:i<m then(ex i h).choose else 0,fun i hi=>?_⟩
 unfold UB
 simp only[dif_pos hi]
 exact(ex i hi).choose_spec
theorem Vs {zs:List Str}{lz hz:Nat->Str}{ln hn u w:Nat->Int}{W:List Int}{first:Int}{m:Nat}(nd:zs.Nodup)(f1:1<=first)(hu:∀i<m,UB zs lz first u i)(hw:∀i<m,UB zs hz first w i):(CB (DM first u ln) (DW first w hn) m).all (KL first W)=true↔∀i<m,LP zs lz hz ln hn W i:=by
 rw[IB]
 have own:∀i:Nat,G6 first W (first+(i:Int))=W.getD i 0:=fun i=>by
  unfold G6
  rw[As (by lia),show(first+(i:Int)-first).toNat=i by lia]
 constructor
 .intro h i hi
  obtain⟨h1,h2⟩:=h i hi
  have h1:=Gd h1
  have h2:=Gd h2
  simp only[DM,DW,own]at h1 h2
  exact⟨_,_,JE f1 (hu i hi),JE f1 (hw i hi),by lia,by lia⟩
 .intro h i hi
  obtain⟨b,b',h1,h2,h3,h4⟩:=h i hi
  have e1:=BV.inj nd h1 (JE f1 (hu i hi))
  have e2:=BV.inj nd h2 (JE f1 (hw i hi))
  subst e1 e2
  constructor
  .refine B6 ?_
   simp only[DM,own]
   lia
  .refine B6 ?_
   simp only[DW,own]
   lia
def Dg (S:List Lp)(i:Nat):Str:=((S[i]?).map (·.lz)).getD ""
def Dw (S:List Lp)(i:Nat):Str:=((S[i]?).map (·.hz)).getD ""
def Da (S:List Lp)(i:Nat):Int:=((S[i]?).map (·.ln)).getD 0
def DV (S:List Lp)(i:Nat):Int:=((S[i]?).map (·.hn)).getD 0
end L2
namespace Tn
open Pw
variable {T S:Type}
end Tn
namespace L2
open PySem PySem.Spec PyProof.Rows
def Bt (l:Addr)(H H':Hp):Prop := ∀b o,b≠l->H b=some o->H' b=some o
theorem Bt.tk {l:Addr}{H H':Hp}{xs:List V}(h:Bt l H H')(hl:H l=some (.lst xs)):TK H H':=fun b ys hb=>h b _ (fun e=>by rw[e,hl]at hb;cases hb) hb
theorem Bt.trans {l:Addr}{H H1 H2:Hp}(a:Bt l H H1)(b:Bt l H1 H2):Bt l H H2:=fun c o n h=>b c o n (a c o n h)
theorem Bt.same {l:Addr}{H H':Hp}(e:A9 H H'):Bt l H H':=fun b o _ h=>e b o h
theorem Bt.put {l:Addr}{H:Hp}{o:HO}:Bt l H (upd H l o):=fun b o n h=>by rw[Am n];exact h
theorem U6 {α:Type}{R:V->α->Prop}{xs:List V}{as:List α}{x:V}{a:α}(h:Ar R (xs++[x]) (as++[a])):Ar R xs as/\R x a:=by
 obtain⟨l,g⟩:=h
 rw[Az,Az,BI,BI]at l
 refine⟨⟨by lia,fun i y b hy hb=>g i y b ?_ ?_⟩,g xs.length x a ?_ ?_⟩
 .rw[EH (AX.mp hy).1];exact hy
 .rw[EH (AX.mp hb).1];exact hb
 .rw[DQ (Ap _),Fs];rfl
 .rw[show xs.length=as.length by lia,DQ (Ap _),Fs];rfl
structure R3 where
 S:List Lp
 path:List Int
 z:Str
 p:Addr
 m:Nat
 rs:BK
def ES (H:Hp)(v:V)(R:R3):Prop := ∃(r u1 u2 u3 u4:Addr) (x:V) (ls hs:List V),v = .ref r/\H r=some (.tup [.ref u1,.ref u2,.ref u3,.str R.z,.ref R.p,x,.ref u4])/\H u1=some (.tup ((AV R.S).map V.str))/\H u2=some (.tup ls)/\Ar (fun v q=>Dc H v (q.lz,q.ln)) ls R.S/\H u3=some (.tup hs)/\Ar (fun v q=>Dc H v (q.hz,q.hn)) hs R.S/\H u4=some (.tup (R.path.map V.int))/\Cz H R.m x R.rs
theorem ES.tk {H H':Hp}{v:V}{R:R3}(h:ES H v R)(e:TK H H'):ES H' v R:=by
 obtain⟨r,u1,u2,u3,u4,x,ls,hs,a,b,c,d,f,g,i,j,k⟩:=h
 exact⟨r,u1,u2,u3,u4,x,ls,hs,a,e _ _ b,e _ _ c,e _ _ d,f.mono fun _ _ z=>z.tk e,e _ _ g,i.mono fun _ _ z=>z.tk e,e _ _ j,k.tk e⟩
theorem ES.over {H H':Hp}{v:V}{R:R3}(h:ES H v R)(e:A9 H H'):ES H' v R:=h.tk (A9.tk e)
theorem JY {α β:Type}{P:V->β->Prop}{f:α->β}{xs:List V}{as:List α}(h:Ar (fun v q=>P v (f q)) xs as):Ar P xs (as.map f):=by
 refine⟨by rw[Aq];exact h.1,fun i x b hx hb=>?_⟩
 rw[BG]at hb
 cases ha:as[i]? with
 |none=>rw[ha]at hb;cases hb
 |
  some q=>
  rw[ha]at hb
  cases hb
  exact h.2 i x q hx ha
def V9 (K:YO):List V->Hp->VK->Prop:=fun xs H Q=>∃p ys,xs=[V.ref p]/\(A5 K H p ys\/A3 K H p ys)/\Q (V.int (ys.length:Int)) H
def DX (Z:Str->Prop)(H:Hp)(vs:List V):Prop := ∀v∈vs,∃(t:Addr) (z:Str) (n:Int),v = .ref t/\H t=some (.tup [.str z,.int n])/\Z z
theorem DX.tk {Z:Str->Prop}{H H':Hp}{vs:List V}(h:DX Z H vs)(e:TK H H'):DX Z H' vs:=fun v hv=>by
 obtain⟨t,z,n,a,b,c⟩:=h v hv
 exact⟨t,z,n,a,e _ _ b,c⟩
theorem DX.over {Z:Str->Prop}{H H':Hp}{vs:List V}(h:DX Z H vs)(e:A9 H H'):DX Z H' vs:=h.tk (A9.tk e)
def EN (Z:Str->Prop)(H:Hp)(l:Addr):Prop := ∃vs,H l=some (.lst vs)/\0<vs.length/\vs.length<=100/\DX Z H vs
theorem EN.over {Z:Str->Prop}{H H':Hp}{l:Addr}(h:EN Z H l)(e:A9 H H'):EN Z H' l:=by
 obtain⟨vs,h1,h2,h3,h4⟩:=h
 exact⟨vs,e _ _ h1,h2,h3,h4.over e⟩
def EB (M:Str->Int->Prop)(H:Hp)(l:Addr):Prop := ∃vs,H l=some (.lst vs)/\vs.length=3/\∀v∈vs,∃(t:Addr) (z:Str) (m n:Int),v = .ref t/\H t=some (.tup [.str z,.int m,.int n])/\1<=m/\m<=3/\M z m
theorem EB.over {M:Str->Int->Prop}{H H':Hp}{l:Addr}(h:EB M H l)(e:A9 H H'):EB M H' l:=by
 obtain⟨vs,h1,h2,h3⟩:=h
 exact⟨vs,e _ _ h1,h2,fun v hv=>by obtain⟨t,z,m,n,a,b,c⟩:=h3 v hv;exact⟨t,z,m,n,a,e _ _ b,c⟩⟩
def GB (Z:Str->Prop)(n:Nat)(H:Hp)(p:Addr):Prop := ∃xs,H p=some (.tup xs)/\xs.length=n/\n<=3/\DX Z H xs
theorem GB.sp {Z:Str->Prop}{n:Nat}{H:Hp}{p:Addr}(h:GB Z n H p):FH H p:=by
 obtain⟨xs,a,b,c,d⟩:=h
 exact⟨xs,a,by lia,fun v hv=>by obtain⟨t,z,n,x,y,_⟩:=d v hv;exact⟨t,z,n,x,y⟩⟩
theorem GB.tk {Z:Str->Prop}{n:Nat}{H H':Hp}{p:Addr}(h:GB Z n H p)(e:TK H H'):GB Z n H' p:=by
 obtain⟨xs,a,b,c,d⟩:=h
 exact⟨xs,e _ _ a,b,c,d.tk e⟩
def DK (Z:Str->Prop)(M:Str->Int->Prop)(H:Hp)(r:Str×Addr):Prop := ∃n:Nat,M r.1 (n:Int)/\GB Z n H r.2
theorem DK.tk {Z:Str->Prop}{M:Str->Int->Prop}{H H':Hp}{r:Str×Addr}(h:DK Z M H r)(e:TK H H'):DK Z M H' r:=by
 obtain⟨n,a,b⟩:=h
 exact⟨n,a,b.tk e⟩
theorem DK.over {Z:Str->Prop}{M:Str->Int->Prop}{H H':Hp}{r:Str×Addr}(h:DK Z M H r)(e:A9 H H'):DK Z M H' r:=h.tk (A9.tk e)
def R3.tch (R:R3):BK:=(R.z,R.p)::R.rs
def Ez (M:Str->Int->Prop)(H:Hp)(v:V)(R:R3):Prop:=ES H v R/\∀r∈R.tch,DK (Bs R.S) M H r
theorem Ez.tk {M:Str->Int->Prop}{H H':Hp}{v:V}{R:R3}(h:Ez M H v R)(e:TK H H'):Ez M H' v R:=⟨h.1.tk e,fun r hr=>(h.2 r hr).tk e⟩
theorem Ez.over {M:Str->Int->Prop}{H H':Hp}{v:V}{R:R3}(h:Ez M H v R)(e:A9 H H'):Ez M H' v R:=h.tk (A9.tk e)
def D4 (M:Str->Int->Prop)(H:Hp)(l:Addr)(Rs:List R3):Prop := ∃xs,H l=some (.lst xs)/\Ar (Ez M H) xs Rs
theorem D4.over {M:Str->Int->Prop}{H H':Hp}{l:Addr}{Rs:List R3}(h:D4 M H l Rs)(e:A9 H H'):D4 M H' l Rs:=by
 obtain⟨xs,a,b⟩:=h
 exact⟨xs,e _ _ a,b.mono fun _ _ z=>z.over e⟩
def Dx (c:Cs)(C:Addr)(H:Hp)(v:V)(R:R3):Prop := ∃(d dx nm lo hi pt:Addr) (x:V) (ls hs:List V),v = .ref d/\H d=some (.ins C dx [("names",.ref nm),("lows",.ref lo),("highs",.ref hi),("table",.str R.z),("spots",.ref R.p),("term",x),("path",.ref pt)])/\H nm=some (.tup ((AV R.S).map V.str))/\H lo=some (.tup ls)/\Ar (fun v q=>Dc H v (q.lz,q.ln)) ls R.S/\H hi=some (.tup hs)/\Ar (fun v q=>Dc H v (q.hz,q.hn)) hs R.S/\H pt=some (.tup (R.path.map V.int))/\CA c H R.m x R.rs
theorem Dx.over {c:Cs}{C:Addr}{H H':Hp}{v:V}{R:R3}(h:Dx c C H v R)(e:A9 H H'):Dx c C H' v R:=by
 obtain⟨d,dx,nm,lo,hi,pt,x,ls,hs,a,b,f,g,i,j,k,l,m⟩:=h
 have tk:=A9.tk e
 exact⟨d,dx,nm,lo,hi,pt,x,ls,hs,a,e _ _ b,e _ _ f,e _ _ g,i.mono fun _ _ z=>z.tk tk,e _ _ j,k.mono fun _ _ z=>z.tk tk,e _ _ l,m.over e⟩
def R3.r5 (R:R3):R5:=⟨R.S.length,R.path,R.z,R.p,R.m,R.rs⟩
theorem EV (S:List Lp):(AV S).length=S.length:=by unfold AV;rw[Aq]
theorem Dx.d5 {c:Cs}{C:Addr}{H:Hp}{v:V}{R:R3}(h:Dx c C H v R):Et c C H v R.r5:=by
 obtain⟨d,dx,nm,lo,hi,pt,x,ls,hs,a,b,f,g,i,j,k,l,m⟩:=h
 exact⟨d,dx,nm,pt,_,_,x,_,a,b,f,by rw[Aq,EV];rfl,l,m⟩
theorem ES.r5 {H:Hp}{v:V}{R:R3}(h:ES H v R):EX H v R.r5:=by
 obtain⟨r,u1,u2,u3,u4,x,ls,hs,a,b,c,d,f,g,i,j,k⟩:=h
 exact⟨r,u1,u4,_,_,x,_,a,b,c,by rw[Aq,EV];rfl,fun y hy=>by obtain⟨z,_,e⟩:=D5.mp hy;exact⟨z,e.symm⟩,j,k⟩
theorem PZ {H:Hp}{p:Addr}{ls:List V}{S:List Lp}{f:Lp->Str×Int}(h:H p=some (.tup ls))(a:Ar (fun v q=>Dc H v (f q)) ls S):C6 H p S.length (fun i=>((S[i]?).map fun q=>(f q).1).getD "") (fun i=>((S[i]?).map fun q=>(f q).2).getD 0):=by
 refine⟨ls,h,a.1,fun i x hx=>?_⟩
 obtain⟨q,hq,t,e,ht⟩:=a.get' hx
 refine⟨t,e,?_⟩
 dsimp only
 rw[hq]
 exact ht
theorem MH {H:Hp}{p:Addr}{ls:List V}{S:List Lp}(h:H p=some (.tup ls))(a:Ar (fun v q=>Dc H v (q.lz,q.ln)) ls S):C6 H p S.length (Dg S) (Da S):=PZ (f:=fun q=>(q.lz,q.ln)) h a
theorem ML {H:Hp}{p:Addr}{ls:List V}{S:List Lp}(h:H p=some (.tup ls))(a:Ar (fun v q=>Dc H v (q.hz,q.hn)) ls S):C6 H p S.length (Dw S) (DV S):=PZ (f:=fun q=>(q.hz,q.hn)) h a
def Vt (CP C:Addr)(c:Cs):Sp:=fun vs H Q _=>∃(n:Int) (l:Addr) (Rs:List R3) (M:Str->Int->Prop),vs=[.int n,.ref l]/\D4 M H l Rs/\Rs.length<=6/\(∀R∈Rs,R.m<=30)/\∀(x dx dl:Addr) (xs:List V) (H':Hp),A9 H H'->H' x=some (.ins CP dx [("size",.int n),("deeds",.ref dl)])->H' dl=some (.lst xs)->Ar (Dx c C H') xs Rs->Q (.ref x) H'
def XI:Sp:=fun vs H Q _=>∃(v:V) (R:R5),vs=[v]/\EX H v R/\R.m<=100/\∀(l:Addr) (H':Hp),A9 H H'->H l=none->JZ H' l R.z R.p R.rs->Q (.ref l) H'
theorem Ih {H:Hp}{l:Addr}{z:Str}{p:Addr}{rs:BK}(h:JZ H l z p rs){a:Nat}{r:Str×Addr}(ha:((z,p)::rs)[a]?=some r):∃(xs:List V) (t:Addr) (fl:Bool),H l=some (.lst xs)/\B8 xs (a:Int)=some (.ref t)/\H t=some (.tup [.bl fl,.str r.1,.ref r.2]):=by
 obtain⟨t,ys,h1,h2,h3,h4⟩:=h
 cases a with
 |
  zero=>
  cases ha
  exact⟨_,t,true,h1,By (j:=0) rfl,h2⟩
 |
  succ a=>
  rw[Nt]at ha
  have hl:=(AX.mp ha).1
  have hy:ys[a]?=some ys[a]:=AL (by lia)
  obtain⟨u,e,hu⟩:=h4 a _ r hy ha
  exact⟨_,u,false,h1,By (j:=a+1) (by rw[Nt,hy,e]),hu⟩
theorem NV {k:Nat}:∀{a:Nat} {L:List (Bool×Str)} {x:T5},x∈Pm.tk3 k a L->x.k=k/\∃j,x.a=a+j/\L[j]?=some (x.b,x.z)
 |_,[],x,h=>by cases h
 |
  a,t::L,x,h=>by
  rcases Bv.mp h with rfl|h
  .exact⟨rfl,0,rfl,rfl⟩
  .obtain⟨e,j,e1,e2⟩:=NV h
   exact⟨e,j+1,by lia,e2⟩
theorem MV:∀{k:Nat} {Ls:List (List (Bool×Str))} {x:T5},x∈Pm.all3 k Ls->∃i L,x.k=k+i/\Ls[i]?=some L/\L[x.a]?=some (x.b,x.z)
 |_,[],x,h=>by cases h
 |
  k,L::Ls,x,h=>by
  rcases Co.mp h with h|h
  .obtain⟨e,j,e1,e2⟩:=NV h
   exact⟨0,L,e,rfl,by rw[e1,GY];exact e2⟩
  .obtain⟨i,L',e,e1,e2⟩:=MV h
   exact⟨i+1,L',by lia,e1,e2⟩
theorem Oi {Rs:List R3}{x:T5}(h:x∈Ba (Rs.map R3.r5)):∃R r,Rs[x.k]?=some R/\R.tch[x.a]?=some r/\r.1=x.z:=by
 obtain⟨i,L,e,e1,e2⟩:=MV h
 rw[GY]at e
 rw[Jx,BG]at e1
 cases hR:Rs[i]? with
 |none=>rw[hR]at e1;cases e1
 |
  some R=>
  rw[hR]at e1
  cases e1
  refine⟨R,?_⟩
  have et:D6 R.r5=(true,R.z)::R.rs.map fun r=>(false,r.1):=rfl
  have e2:((true,R.z)::R.rs.map fun r=>(false,r.1))[x.a]?=some (x.b,x.z):=e2
  rw[e]
  cases ha:x.a with
  |
   zero=>
   rw[ha]at e2
   exact⟨_,hR,rfl,congrArg Prod.snd (Cg e2)⟩
  |
   succ a=>
   rw[ha,Nt,BG]at e2
   cases hr:R.rs[a]? with
   |none=>rw[hr]at e2;cases e2
   |
    some r=>
    rw[hr]at e2
    exact⟨r,hR,by unfold R3.tch;rw[Nt];exact hr,congrArg Prod.snd (Cg e2)⟩
theorem Wd {Rs:List R3}{q:Pm.Q4}(h:q∈Pm.mt (Ba (Rs.map R3.r5))):∃R r R' r',Rs[q.1]?=some R/\R.tch[q.2.1]?=some r/\Rs[q.2.2.1]?=some R'/\R'.tch[q.2.2.2]?=some r'/\r.1=r'.1:=by
 unfold Pm.mt Pm.mtF at h
 obtain⟨l,hl,hq⟩:=List.mem_flatten.mp h
 obtain⟨x,hx,rfl⟩:=D5.mp hl
 unfold Pm.in1 at hq
 obtain⟨y,hy,rfl⟩:=D5.mp hq
 obtain⟨hy,ok⟩:=Ni.mp hy
 obtain⟨R,r,a,b,c⟩:=Oi hx
 obtain⟨R',r',a',b',c'⟩:=Oi hy
 unfold Pm.ok at ok
 exact⟨R,r,R',r',a,b,a',b',by rw[c,c'];exact Gd (CU _ _▸ok).1⟩
def DO (m:Nat)(f:Nat->Int):List Int:=(List.range m).map f
theorem Rg (m:Nat)(f:Nat->Int):(DO m f).length=m:=by unfold DO;rw[Aq,CL]
theorem Mq (m:Nat)(f:Nat->Int):DO (m+1) f=DO m f++[f m]:=by unfold DO;rw[FL,Bq];rfl
theorem Wf {m:Nat}{f g:Nat->Int}:DO m f=DO m g↔∀i<m,f i=g i:=by
 induction m with
 |zero=>exact⟨fun _ i hi=>absurd hi (LC _),fun _=>rfl⟩
 |
  succ m ih=>
  rw[Mq,Mq]
  constructor
  .intro h i hi
   obtain⟨h1,h2⟩:=List.append_inj' h rfl
   rcases Nat.lt_or_ge i m with z|z
   .exact ih.mp h1 i z
   .rw[show i=m by lia]
    exact(List.cons.inj h2).1
  .intro h
   rw[ih.mpr fun i hi=>h i (by lia),h m (by lia)]
def Vr:Sp:=fun vs H Q _=>∃(sp d:Addr) (m:Nat) (z:Nat->Str) (n b:Nat->Int) (kvs:List (AU×V)),vs=[.ref sp,.ref d]/\C6 H sp m z n/\m<=100/\H d=some (.dK kvs)/\(∀i<m,Hl kvs (z i) (b i))/\∀(r:Addr) (H':Hp),A9 H H'->H' r=some (.tup ((DO m fun i=>b i+n i).map V.int))->Q (.ref r) H'
theorem Xf {H:Hp}{sp t1 t2:Addr}{z1 z2:Str}{n1 n2:Int}(h:H sp=some (.tup [.ref t1,.ref t2]))(h1:H t1=some (.tup [.str z1,.int n1]))(h2:H t2=some (.tup [.str z2,.int n2])):C6 H sp 2 (fun i=>if i=0 then z1 else z2) (fun i=>if i=0 then n1 else n2):=by
 refine⟨_,h,rfl,fun i x hx=>?_⟩
 cases i with
 |zero=>cases hx;exact⟨t1,rfl,h1⟩
 |
  succ i=>
  cases i with
  |zero=>cases hx;exact⟨t2,rfl,h2⟩
  |succ i=>cases hx
theorem Sd {kvs:List (AU×V)}{z1 z2:Str}{b1 b2:Int}(h1:Hl kvs z1 b1)(h2:Hl kvs z2 b2):∀i<2,Hl kvs (if i=0 then z1 else z2) (if i=0 then b1 else b2):=fun i hi=>by
 cases i with
 |zero=>exact h1
 |
  succ i=>
  cases i with
  |zero=>exact h2
  |succ i=>lia
theorem MP:∀A B:List Int,Eo (A.map fun i=>Tr.v (.int i)) (B.map fun i=>Tr.v (.int i))=true
 |[],[]=>rfl
 |[],_::_=>rfl
 |_::_,[]=>rfl
 |a::A,b::B=>by rw[Bz,Bz,Eo,MP A B,C4];rfl
theorem Lj:∀A B:List Int,BM (A.map fun i=>Tr.v (.int i)) (B.map fun i=>Tr.v (.int i))=decide (A=B)
 |[],[]=>rfl
 |[],b::B=>by rw[Bz,Io,BM,BO (by intro h;cases h)]<;>simp
 |a::A,[]=>by rw[Bz,Io,BM,BO (by intro h;cases h)]<;>simp
 |
  a::A,b::B=>by
  rw[Bz,Bz,BM,Lj A B,BU]
  by_cases c:a=b
  .subst c
   by_cases d:A=B
   .subst d;simp[Do]
   .simp[d,Do]
  .simp[c,Do]
theorem OK {K:YO}{H:Hp}{x y:Addr}{A B:List Int}{neg:Bool}{Q:VK}(hx:H x=some (.tup (A.map V.int)))(hy:H y=some (.tup (B.map V.int)))(q:Q (.bl (if neg then !decide (A=B) else decide (A=B))) H):J5 K neg (.ref x) (.ref y) H Q:=by
 refine⟨_,_,.tup (A3.of hx) (IM A),.tup (A3.of hy) (IM B),⟨_,rfl⟩,⟨_,rfl⟩,by rw[C4];exact MP A B,by rw[Ct,N5];decide,?_⟩
 rw[BU,Lj]
 exact q
def KH (R:R3)(W:List Int):Prop := ∀i<R.S.length,LP (AV R.S) (Dg R.S) (Dw R.S) (Da R.S) (DV R.S) W i
theorem BV.take {zs:List Str}{W:List Int}{b:Int}{i:Nat}{z:Str}(h:BV zs (W.take i) i z b):BV zs W i z b:=by
 rcases h with h|⟨h,j,h1,h2,rfl⟩
 .exact .inl h
 .refine .inr ⟨h,j,h1,h2,?_⟩
  rw[Cp,Cp,Jq h1]
def Kl (s k l:Nat)(W V:List Int)(e:Nat):Prop:=(∀j<e,W.getD j 0=V.getD j 0)/\((e<s/\W.getD e 0<V.getD e 0)\/(e=s/\k<l))
structure Cd where
 m:Nat
 s:Nat
 u:Nat->Int
 w:Nat->Int
 u':Nat->Int
 w':Nat->Int
 z1:Nat->Str
 z2:Nat->Str
 n1:Nat->Int
 n2:Nat->Int
 x1:Nat->Int
 x2:Nat->Int
structure FI (R R':R3)(D:Cd):Prop where
 m3:D.m<=3
 hx1:∀i<D.m,Dh (AV R.S) (D.z1 i) 1 (D.x1 i)
 hx2:∀i<D.m,Dh (AV R'.S) (D.z2 i) (1+(R.S.length:Int)) (D.x2 i)
 hu:∀i<R.S.length,UB (AV R.S) (Dg R.S) 1 D.u i
 hw:∀i<R.S.length,UB (AV R.S) (Dw R.S) 1 D.w i
 hu':∀i<R'.S.length,UB (AV R'.S) (Dg R'.S) (1+(R.S.length:Int)) D.u' i
 hw':∀i<R'.S.length,UB (AV R'.S) (Dw R'.S) (1+(R.S.length:Int)) D.w' i
 pf:F5 R.r5 R'.r5 D.s
def Fg (S:List Lp)(first:Int)(u w:Nat->Int):List Bb:=CB (DM first u (Da S)) (DW first w (DV S)) S.length
def HK (D:Cd):List Bb:=CB (fun i=>(D.x1 i,D.x2 i,D.n2 i-D.n1 i)) (fun i=>(D.x2 i,D.x1 i,D.n1 i-D.n2 i)) D.m
def Eu (behind:Int)(n:Nat):List Bb:=CB (fun e=>(1+(e:Int),behind+(e:Int),0)) (fun e=>(behind+(e:Int),1+(e:Int),0)) n
def FG (s case:Nat)(behind:Int):List Bb:=Eu behind case++if case<s then[(1+(case:Int),behind+(case:Int),-1)] else[]
def CV (R R':R3)(D:Cd)(case:Nat):List Bb:=Fg R.S 1 D.u D.w++Fg R'.S (1+(R.S.length:Int)) D.u' D.w'++HK D++FG D.s case (1+(R.S.length:Int))
def hU (U:List Int)(b:Bb):Bool:=decide (U.getD b.1.toNat 0-U.getD b.2.1.toNat 0<=b.2.2)
def Fe (U:List Int)(b:Bb):Prop:=0<=b.1/\b.1<(U.length:Int)/\0<=b.2.1/\b.2.1<(U.length:Int)
def SZ:Sp:=fun vs H Q _=>∃(s case:Nat) (behind:Int),vs=[.int (s:Int),.int (case:Int),.int behind]/\case<=100/\∀(r:Addr) (ys:List V) (H':Hp),A9 H H'->H' r=some (.lst ys)->Bf H' ys (FG s case behind)->Q (.ref r) H'
def T9:Sp:=fun vs H Q _=>∃(v:V) (R:R3) (first:Int) (u w:Nat->Int),vs=[v,.int first]/\ES H v R/\R.S.length<=3/\(∀i<R.S.length,Dh (AV R.S) (Dg R.S i) first (u i))/\(∀i<R.S.length,Dh (AV R.S) (Dw R.S i) first (w i))/\∀(r:Addr) (ys:List V) (H':Hp),A9 H H'->H' r=some (.lst ys)->Bf H' ys (Fg R.S first u w)->Q (.ref r) H'
theorem FZ (S:List Lp)(first:Int)(u w:Nat->Int):(Fg S first u w).length=2*S.length:=E2 _ _ _
theorem NT {R R':R3}{D:Cd}{case:Nat}(h:R.S.length<=3)(h':R'.S.length<=3)(m3:D.m<=3)(c:case<=3):(CV R R' D case).length<=100:=by
 unfold CV FG
 rw[Az,Az,Az,Az,FZ,FZ]
 have h1:(HK D).length=2*D.m:=E2 _ _ _
 have h2:(Eu (1+(R.S.length:Int)) case).length=2*case:=E2 _ _ _
 have h3:(if case<D.s then[(1+(case:Int),1+(R.S.length:Int)+(case:Int),(-1:Int))] else[]).length<=1:=by split<;>simp
 lia
theorem Mx {U W:List Int}{first x:Int}(f1:1<=first)(h0:U.getD 0 0=0)(h:∀j:Nat,j<W.length->U.getD (first+(j:Int)).toNat 0=W.getD j 0)(k:Qn first W x):U.getD x.toNat 0=G6 first W x:=by
 unfold G6
 rcases k with rfl|⟨j,hj,rfl⟩
 .rw[Ax rfl]
  exact h0
 .rw[As (by lia),h j hj,show(first+(j:Int)-first).toNat=j by lia]
theorem OL {S:List Lp}{U W:List Int}{first:Int}{u w:Nat->Int}(f1:1<=first)(h0:U.getD 0 0=0)(h:∀j:Nat,j<W.length->U.getD (first+(j:Int)).toNat 0=W.getD j 0)(wl:W.length=S.length)(nd:(AV S).Nodup)(hu:∀i<S.length,UB (AV S) (Dg S) first u i)(hw:∀i<S.length,UB (AV S) (Dw S) first w i):(Fg S first u w).all (hU U)=true↔∀i<S.length,LP (AV S) (Dg S) (Dw S) (Da S) (DV S) W i:=by
 rw[←Vs (W:=W) (ln:=Da S) (hn:=DV S) nd f1 hu hw]
 unfold Fg
 rw[IB,IB]
 have key:∀i<S.length,hU U (DM first u (Da S) i)=KL first W (DM first u (Da S) i)/\hU U (DW first w (DV S) i)=KL first W (DW first w (DV S) i):=fun i hi=>by
  have k1:=Mx f1 h0 h (Pe (W:=W) (hu i hi) (by lia))
  have k2:=Mx f1 h0 h (Pe (W:=W) (hw i hi) (by lia))
  have k3:=Mx f1 h0 h (x:=first+(i:Int)) (.inr ⟨i,by lia,rfl⟩)
  unfold hU KL DM DW
  dsimp only
  rw[k1,k2,k3]
  exact⟨rfl,rfl⟩
 exact⟨fun g i hi=>by rw[←(key i hi).1,←(key i hi).2];exact g i hi,fun g i hi=>by rw[(key i hi).1,(key i hi).2];exact g i hi⟩
theorem WG {U:List Int}{behind:Int}{n:Nat}:(Eu behind n).all (hU U)=true↔∀e<n,U.getD (1+(e:Int)).toNat 0=U.getD (behind+(e:Int)).toNat 0:=by
 unfold Eu
 rw[IB]
 unfold hU
 constructor
 .intro h e he
  obtain⟨a,b⟩:=h e he
  have a:=Gd a
  have b:=Gd b
  dsimp only at a b
  lia
 .intro h e he
  have:=h e he
  exact⟨B6 (by dsimp only;lia),B6 (by dsimp only;lia)⟩
theorem Sr {U:List Int}{D:Cd}:(HK D).all (hU U)=true↔∀i<D.m,U.getD (D.x1 i).toNat 0+D.n1 i=U.getD (D.x2 i).toNat 0+D.n2 i:=by
 unfold HK
 rw[IB]
 unfold hU
 constructor
 .intro h e he
  obtain⟨a,b⟩:=h e he
  have a:=Gd a
  have b:=Gd b
  dsimp only at a b
  lia
 .intro h e he
  have:=h e he
  exact⟨B6 (by dsimp only;lia),B6 (by dsimp only;lia)⟩
def Cc (W W':List Int):List Int:=0::(W++W')
theorem ID {W W':List Int}{j:Nat}(h:j<W.length):(Cc W W').getD (1+(j:Int)).toNat 0=W.getD j 0:=by
 rw[show(1+(j:Int)).toNat=j+1 by lia]
 show(W++W').getD j 0=_
 rw[Cp,Cp,EH h]
theorem J8 {W W':List Int}{j:Nat}:(Cc W W').getD (1+(W.length:Int)+(j:Int)).toNat 0=W'.getD j 0:=by
 rw[show(1+(W.length:Int)+(j:Int)).toNat=(W.length+j)+1 by lia]
 show(W++W').getD (W.length+j) 0=_
 rw[Cp,Cp,DQ (by lia),show W.length+j-W.length=j by lia]
theorem Ht {zs:List Str}{z:Str}{first x:Int}{n:Nat}(f1:1<=first)(h:Dh zs z first x)(l:zs.length<=n):0<=x/\x<first+(n:Int):=by
 rcases h with⟨_,rfl⟩|⟨_,j,hj,_,rfl⟩
 .lia
 .have:=(AX.mp hj).1
  lia
theorem JU {F G:Nat->Bb}{m:Nat}{U:List Int}(h:∀i<m,Fe U (F i)/\Fe U (G i)):∀b∈CB F G m,Fe U b:=fun b hb=>by
 obtain⟨i,hi,e|e⟩:=UW hb
 .rw[e];exact(h i hi).1
 .rw[e];exact(h i hi).2
theorem Y8 {s k l:Nat}{W W':List Int}{case:Nat}(h:case<C0 k l s):Kl s k l W W' case↔(∀e<case,W.getD e 0=W'.getD e 0)/\(case<s->W.getD case 0<W'.getD case 0):=by
 unfold Kl
 unfold C0 at h
 constructor
 .rintro ⟨a,b⟩
  exact⟨a,fun z=>by lia⟩
 .rintro ⟨a,b⟩
  refine⟨a,?_⟩
  by_cases z:case<s
  .exact .inl ⟨z,b z⟩
  .split at h
   .exact .inr ⟨by lia,by assumption⟩
   .lia
theorem NO {S:List Lp}{kvs:List (AU×V)}{z:Str}{first x:Int}{U W:List Int}(f1:1<=first)(h0:U.getD 0 0=0)(h:∀j:Nat,j<W.length->U.getD (first+(j:Int)).toNat 0=W.getD j 0)(wl:W.length=S.length)(ar:MG kvs (AV S) W)(wh:Dh (AV S) z first x):Hl kvs z (U.getD x.toNat 0):=by
 rcases wh with⟨hz,rfl⟩|⟨hz,j,hj,_,rfl⟩
 .exact .inl ⟨hz,h0⟩
 .have l:=(AX.mp hj).1
  rw[EV]at l
  refine .inr ⟨hz,?_⟩
  rw[ar j z (by lia) hj,h j (by lia)]
theorem OH {Z:Str->Prop}{n:Nat}{H:Hp}{p:Addr}(h:GB Z n H p):∃(z:Nat->Str) (k:Nat->Int),C6 H p n z k/\∀i<n,Z (z i):=by
 obtain⟨xs,a,b,c,d⟩:=h
 have ex:∀i:Nat,∃y:Str×Int,∀x,xs[i]?=some x->(∃t,x = .ref t/\H t=some (.tup [.str y.1,.int y.2]))/\Z y.1:=fun i=>by
  cases hx:xs[i]? with
  |none=>exact⟨("",0),fun x h=>by cases h⟩
  |
   some v=>
   obtain⟨t,z,k,e,ht,hz⟩:=d v (Bh hx)
   exact⟨(z,k),fun x h=>by cases h;exact⟨⟨t,e,ht⟩,hz⟩⟩
 refine⟨fun i=>(ex i).choose.1,fun i=>(ex i).choose.2,⟨xs,a,b,fun i x hx=>((ex i).choose_spec x hx).1⟩,fun i hi=>?_⟩
 exact((ex i).choose_spec _ (AL (by lia))).2
theorem Bf.tk {H H':Hp}{ys:List V}{B:List Bb}(h:Bf H ys B)(e:TK H H'):Bf H' ys B:=⟨h.1,fun i y b p q=>by obtain⟨t,x,z⟩:=h.2 i y b p q;exact⟨t,x,e _ _ z⟩⟩
theorem Dx.tm {c:Cs}{C:Addr}{H:Hp}{v:V}{R:R3}(h:Dx c C H v R):HH c C H v R.z R.p R.m R.rs:=by
 obtain⟨d,dx,nm,lo,hi,pt,x,ls,hs,a,b,f,g,i,j,k,l,m⟩:=h
 exact⟨d,dx,_,_,_,x,_,a,b,m⟩
structure RB (R:R3):Prop where
 len:R.S.length<=3
 nd:(AV R.S).Nodup
 ne:∀z∈AV R.S,z≠""
 bl:J2 (AV R.S) (Dg R.S) R.S.length
 bh:J2 (AV R.S) (Dw R.S) R.S.length
 pl:R.path.length=R.S.length+1
 m3:R.m<=3
theorem Vd {R R':R3}{D:Cd}{W W':List Int}{case:Nat}(g:RB R)(g':RB R')(ok:FI R R' D)(wl:W.length=R.S.length)(wl':W'.length=R'.S.length)(cs:case<=D.s):(CV R R' D case).all (hU (Cc W W'))=true↔KH R W/\KH R' W'/\(∀i<D.m,(Cc W W').getD (D.x1 i).toNat 0+D.n1 i=(Cc W W').getD (D.x2 i).toNat 0+D.n2 i)/\(∀e<case,W.getD e 0=W'.getD e 0)/\(case<D.s->W.getD case 0<W'.getD case 0):=by
 have h1:=OL (U:=Cc W W') (W:=W) (first:=1) (GZ _) rfl (fun j hj=>ID hj) wl (g.nd) ok.hu ok.hw
 have h2:=OL (U:=Cc W W') (W:=W') (first:=1+(R.S.length:Int)) (by lia) rfl (fun j hj=>by rw[←wl];exact J8) wl' (g'.nd) ok.hu' ok.hw'
 have k1:D.s<=R.S.length:=ok.pf.1
 have k2:D.s<=R'.S.length:=ok.pf.2.1
 unfold CV FG
 rw[Jy,Jy,Jy,Jy,CU,CU,CU,CU,h1,h2,Sr,WG]
 have e1:(∀e<case,(Cc W W').getD (1+(e:Int)).toNat 0=(Cc W W').getD (1+(R.S.length:Int)+(e:Int)).toNat 0)↔∀e<case,W.getD e 0=W'.getD e 0:=by
  constructor
  .intro h e he
   have:=h e he
   rw[ID (by lia),←wl,J8]at this
   exact this
  .intro h e he
   rw[ID (by lia),←wl,J8]
   exact h e he
 have e2:((if case<D.s then[(1+(case:Int),1+(R.S.length:Int)+(case:Int),(-1:Int))] else[]).all (hU (Cc W W'))=true)↔(case<D.s->W.getD case 0<W'.getD case 0):=by
  by_cases z:case<D.s
  .rw[Ax z]
   show(decide _&&true)=true↔_
   rw[Bool.and_true,decide_eq_true_iff]
   dsimp only
   rw[ID (by lia),←wl,J8]
   exact⟨fun h _=>by lia,fun h=>by have:=h z;lia⟩
  .rw[As z]
   exact⟨fun _ h=>absurd h z,fun _=>rfl⟩
 rw[e1,e2]
 unfold KH
 exact⟨fun⟨⟨⟨a,b⟩,c⟩,d,e⟩=>⟨a,b,c,d,e⟩,fun⟨a,b,c,d,e⟩=>⟨⟨⟨a,b⟩,c⟩,d,e⟩⟩
theorem Vb {R R':R3}{D:Cd}{W W':List Int}{case:Nat}(g:RB R)(g':RB R')(ok:FI R R' D)(wl:W.length=R.S.length)(wl':W'.length=R'.S.length)(cs:case<=D.s):∀b∈CV R R' D case,Fe (Cc W W') b:=by
 have ul:((Cc W W').length:Int)=1+(R.S.length:Int)+(R'.S.length:Int):=by
  show(((W++W').length+1:Nat):Int)=_
  rw[Az]
  lia
 have k1:D.s<=R.S.length:=ok.pf.1
 have k2:D.s<=R'.S.length:=ok.pf.2.1
 have n1:=g.nd
 have n2:=g'.nd
 have z1:=g.ne
 have z2:=g'.ne
 have l1:=EV R.S
 have l2:=EV R'.S
 intro b hb
 unfold CV FG at hb
 rcases Co.mp hb with hb|hb
 .rcases Co.mp hb with hb|hb
  .rcases Co.mp hb with hb|hb
   .refine JU (fun i hi=>?_) b hb
    have a1:=Ht (n:=R.S.length) (GZ _) (EF n1 z1 (ok.hu i hi)) (by lia)
    have a2:=Ht (n:=R.S.length) (GZ _) (EF n1 z1 (ok.hw i hi)) (by lia)
    unfold Fe DM DW
    dsimp only
    lia
   .refine JU (fun i hi=>?_) b hb
    have a1:=Ht (n:=R'.S.length) (by lia) (EF n2 z2 (ok.hu' i hi)) (by lia)
    have a2:=Ht (n:=R'.S.length) (by lia) (EF n2 z2 (ok.hw' i hi)) (by lia)
    unfold Fe DM DW
    dsimp only
    lia
  .refine JU (fun i hi=>?_) b hb
   have a1:=Ht (n:=R.S.length) (GZ _) (ok.hx1 i hi) (by lia)
   have a2:=Ht (n:=R'.S.length) (by lia) (ok.hx2 i hi) (by lia)
   unfold Fe
   dsimp only
   lia
 .rcases Co.mp hb with hb|hb
  .refine JU (fun i hi=>?_) b hb
   unfold Fe
   dsimp only
   lia
  .split at hb
   .rw[DT.mp hb]
    unfold Fe
    dsimp only
    lia
   .cases hb
theorem Qk {S:List Lp}(nd:(AV S).Nodup)(ne:∀z∈AV S,z≠""){m:Nat}{z:Nat->Str}(h:∀i<m,Bs S (z i))(first:Int):∃x:Nat->Int,∀i<m,Dh (AV S) (z i) first (x i):=by
 have ex:∀i,∃x:Int,i<m->Dh (AV S) (z i) first x:=fun i=>by
  by_cases hi:i<m
  .have:Bs (S.take S.length) (z i):=by rw[DS];exact h i hi
   rcases Pr this with e|⟨j,_,hj⟩
   .exact⟨0,fun _=>.inl ⟨e,rfl⟩⟩
   .exact⟨_,fun _=>ND nd ne hj first⟩
  .exact⟨0,fun h=>absurd h hi⟩
 exact⟨fun i=>(ex i).choose,fun i hi=>(ex i).choose_spec hi⟩
theorem WJ {R R':R3}{M:Str->Int->Prop}(mo:∀{z:Str} {m n:Int},M z m->M z n->m=n)(g:RB R)(g':RB R'){H:Hp}{r r':Str×Addr}(h:DK (Bs R.S) M H r)(h':DK (Bs R'.S) M H r')(e:r.1=r'.1):∃D:Cd,C6 H r.2 D.m D.z1 D.n1/\C6 H r'.2 D.m D.z2 D.n2/\FI R R' D/\(∀i<D.m,Bs R.S (D.z1 i))/\∀i<D.m,Bs R'.S (D.z2 i):=by
 obtain⟨n,m1,s1⟩:=h
 obtain⟨n',m2,s2⟩:=h'
 rw[e]at m1
 have en:n'=n:=by have:=mo m1 m2;lia
 subst en
 obtain⟨z1,k1,p1,b1⟩:=OH s1
 obtain⟨z2,k2,p2,b2⟩:=OH s2
 obtain⟨x1,hx1⟩:=Qk g.nd g.ne b1 1
 obtain⟨x2,hx2⟩:=Qk g'.nd g'.ne b2 (1+(R.S.length:Int))
 have q1:=g.bl
 have q2:=g.bh
 have q3:=g'.bl
 have q4:=g'.bh
 obtain⟨u,hu⟩:=K4 q1 1
 obtain⟨w,hw⟩:=K4 q2 1
 obtain⟨u',hu'⟩:=K4 q3 (1+(R.S.length:Int))
 obtain⟨w',hw'⟩:=K4 q4 (1+(R.S.length:Int))
 obtain⟨s,pf⟩:=N7 R.r5 R'.r5
 obtain⟨_,_,_,n3,_⟩:=s1
 exact⟨⟨n',s,u,w,u',w',z1,z2,k1,k2,x1,x2⟩,p1,p2,⟨n3,hx1,hx2,hu,hw,hu',hw',pf⟩,b1,b2⟩
def Yw:Sp:=fun vs H Q _=>∃(rl t1 t2 w1 w2:Addr) (Rs:List R3) (M:Str->Int->Prop) (R R':R3) (k l s:Nat) (W W':List Int),vs=[.ref rl,.ref t1,.ref t2]/\D4 M H rl Rs/\Rs[k]?=some R/\Rs[l]?=some R'/\RB R/\RB R'/\F5 R.r5 R'.r5 s/\H t1=some (.tup [.int (k:Int),.ref w1])/\H t2=some (.tup [.int (l:Int),.ref w2])/\H w1=some (.tup (W.map V.int))/\H w2=some (.tup (W'.map V.int))/\W.length=R.S.length/\W'.length=R'.S.length/\∀(d:Option Nat) (H':Hp),A9 H H'->(∀e,d=some e↔Kl s k l W W' e)->Q (Gn d) H'
def Ri (CP C:Addr)(c:Cs):Sp:=fun vs H Q _=>∃(x dx dl:Addr) (sz:V) (xs:List V) (Rs:List R3) (R R':R3) (r r':Str×Addr) (k a l b case:Nat) (D:Cd),vs=[.ref x,.int (k:Int),.int (a:Int),.int (l:Int),.int (b:Int),.int (case:Int)]/\H x=some (.ins CP dx [("size",sz),("deeds",.ref dl)])/\H dl=some (.lst xs)/\Ar (Dx c C H) xs Rs/\Rs[k]?=some R/\Rs[l]?=some R'/\RB R/\RB R'/\R.r5.Ok/\R'.r5.Ok/\R.tch[a]?=some r/\R'.tch[b]?=some r'/\C6 H r.2 D.m D.z1 D.n1/\C6 H r'.2 D.m D.z2 D.n2/\FI R R' D/\case<=D.s/\∀(q:Addr) (ys:List V) (H':Hp),A9 H H'->H' q=some (.lst ys)->Bf H' ys (CV R R' D case)->Q (.ref q) H'
def R1:Sp:=fun vs H Q _=>∃(rl:Addr) (Rs:List R3) (M:Str->Int->Prop) (R R':R3) (r r':Str×Addr) (k a l b case:Nat) (D:Cd),vs=[.ref rl,.int (k:Int),.int (a:Int),.int (l:Int),.int (b:Int),.int (case:Int)]/\D4 M H rl Rs/\Rs[k]?=some R/\Rs[l]?=some R'/\RB R/\RB R'/\R.r5.Ok/\R'.r5.Ok/\R.tch[a]?=some r/\R'.tch[b]?=some r'/\C6 H r.2 D.m D.z1 D.n1/\C6 H r'.2 D.m D.z2 D.n2/\FI R R' D/\case<=D.s/\∀(q:Addr) (ys:List V) (H':Hp),A9 H H'->H' q=some (.lst ys)->Bf H' ys (CV R R' D case)->Q (.ref q) H'
theorem RB.ok5 {H:Hp}{v:V}{R:R3}(o:RB R)(h:ES H v R):R.r5.Ok:=by
 obtain⟨r,u1,u2,u3,u4,x,ls,hs,a,b,_,d,f,g,i,j,k⟩:=h
 exact⟨o.len,o.pl,by have:=o.m3;show R.m<=30;lia,k.pos.2.1⟩
theorem Yd {X:Cx}:BF X (binaryOp .FloorDiv) (rI (fun _ j=>0<j/\j<18446744073709551616) fun i j=>.int (i/j)):=IU fun i j _ _ _ _ _ hc q=>by
 have h1:(0:Int)<j:=hc.1
 have h2:j<18446744073709551616:=hc.2
 refine floordiv_int (by lia) (by rw[Int.fdiv_eq_ediv_of_nonneg i (by lia)];exact q) (.inl (PyProof.noPylong_of_log2 ?_))
 have:j.natAbs.log2<64:=by
  by_cases h0:j.natAbs=0
  .rw[h0];decide
  .exact(Nat.log2_lt h0).mpr (by lia)
 lia
def Bw (H:Hp)(lf:Addr):Prop := ∃n:Int,H lf=some (.lst [.int n])
theorem Bw.over {H H':Hp}{lf:Addr}(h:Bw H lf)(e:A9 H H'):Bw H' lf:=by obtain⟨n,a⟩:=h;exact⟨n,e _ _ a⟩
theorem Bw.tk {H H':Hp}{lf:Addr}(h:Bw H lf)(b:Bt lf H H'):TK H H':=by obtain⟨_,a⟩:=h;exact b.tk a
theorem DX.bt {Z:Str->Prop}{H H':Hp}{vs:List V}{lf:Addr}(h:DX Z H vs)(l:Bw H lf)(b:Bt lf H H'):DX Z H' vs:=h.tk (l.tk b)
theorem EN.bt {Z:Str->Prop}{H H':Hp}{a lf:Addr}(h:EN Z H a)(l:Bw H lf)(b:Bt lf H H')(n:a≠lf):EN Z H' a:=by
 obtain⟨vs,h1,h2,h3,h4⟩:=h
 exact⟨vs,b _ _ n h1,h2,h3,h4.bt l b⟩
theorem EB.bt {M:Str->Int->Prop}{H H':Hp}{a lf:Addr}(h:EB M H a)(l:Bw H lf)(b:Bt lf H H')(n:a≠lf):EB M H' a:=by
 obtain⟨vs,h1,h2,h3⟩:=h
 exact⟨vs,b _ _ n h1,h2,fun v hv=>by obtain⟨t,z,m,k,x,y,c⟩:=h3 v hv;exact⟨t,z,m,k,x,l.tk b _ _ y,c⟩⟩
def Fj (c k:Int):Int:=(Ig c k+5)*(Ig c k+40692)%2147483579
theorem YG (c k:Int):0<=Fj c k/\Fj c k<2147483579:=⟨FJ _ (by decide),FK _ (by decide)⟩
def XU:Sp:=fun vs H Q _=>∃(c k:Int),vs=[.int c,.int k]/\Q (.int (Fj c k)) H
def Xi:Sp:=fun vs H Q _=>∃(c e:Int),vs=[.int c,.int e]/\0<=e/\e<=2/\∀H',A9 H H'->Q (.str (Bn (DD (Fj c 11) e))) H'
def UR:Sp:=fun vs H Q _=>∃(c k:Int) (d:Bool),vs=[.int c,.int k,.bl d]/\∀(r:Addr) (H':Hp),A9 H H'->H r=none->Bw H' r->Q (.ref r) H'
def TZ:Sp:=fun vs H Q _=>∃(lf:Addr) (m:Int),vs=[.ref lf,.int m]/\Bw H lf/\0<m/\m<18446744073709551616/\∀(d:Int) (H':Hp),Bt lf H H'->Bw H' lf->0<=d->d<m->Q (.int d) H'
def G4 (zs:List Str):Prop:=zs.length=3/\zs.Nodup/\∀z∈zs,z≠""
def VH:Sp:=fun vs H Q _=>∃(lf:Addr) (c:Int) (d:Bool),vs=[.ref lf,.int c,.bl d]/\Bw H lf/\∀(r:Addr) (H':Hp) (zs:List Str),Bt lf H H'->Bw H' lf->H r=none->H' r=some (.lst (zs.map V.str))->G4 zs->Q (.ref r) H'
def VS:Sp:=fun vs H Q _=>∃(Z:Str->Prop) (M:Str->Int->Prop) (lf b h:Addr),vs=[.ref lf,.ref b,.ref h]/\Bw H lf/\EN Z H b/\EB M H h/\b≠lf/\h≠lf/\∀(r:Addr) (H':Hp) (z:Str) (p:Addr),Bt lf H H'->Bw H' lf->H' r=some (.tup [.str z,.ref p])->DK Z M H' (z,p)->Q (.ref r) H'
def V4:Sp:=fun vs H Q _=>∃(Z:Str->Prop) (M:Str->Int->Prop) (lf b h:Addr),vs=[.ref lf,.ref b,.ref h]/\Bw H lf/\EN Z H b/\EB M H h/\b≠lf/\h≠lf/\∀(x:V) (H':Hp) (rs:BK),Bt lf H H'->Bw H' lf->Cz H' 1 x rs->(∀r∈rs,DK Z M H' r)->Q x H'
def XH:Sp:=fun vs H Q _=>∃(Z:Str->Prop) (M:Str->Int->Prop) (lf b h:Addr),vs=[.ref lf,.ref b,.ref h]/\Bw H lf/\EN Z H b/\EB M H h/\b≠lf/\h≠lf/\∀(x:V) (H':Hp) (m:Nat) (rs:BK),Bt lf H H'->Bw H' lf->m<=3->Cz H' m x rs->(∀r∈rs,DK Z M H' r)->Q x H'
structure Hv (zs:List Str)(S:List Lp)(q:Lp):Prop where
 nm:q.nm=zs.getD ((S.length+q.tn.toNat)%3) ""
 t0:0<=q.tn
 t2:q.tn<=2
 hd:∀r,S.head?=some r->q.tn=r.tn
 lo:Bs S q.lz
 hi:Bs S q.hz
def Du (zs:List Str)(S:List Lp):Prop:=S.length<=3/\∀(i:Nat) (q:Lp),S[i]?=some q->Hv zs (S.take i) q
theorem Du.nil (zs:List Str):Du zs []:=⟨BN _,fun i q h=>by cases h⟩
theorem Du.snoc {zs:List Str}{S:List Lp}{q:Lp}(h:Du zs S)(l:S.length<3)(g:Hv zs S q):Du zs (S++[q]):=by
 refine⟨by rw[Az,BI];lia,fun i r hr=>?_⟩
 by_cases z:i<S.length
 .rw[EH z]at hr
  rw[Nu (by lia)]
  exact h.2 i r hr
 .have:i=S.length:=by
   have:=(AX.mp hr).1
   rw[Az,BI]at this
   lia
  subst this
  rw[DQ (Ap _),Fs]at hr
  cases hr
  rw[Nu (Ap _),DS]
  exact g
theorem Du.init {zs:List Str}{S:List Lp}{q:Lp}(h:Du zs (S++[q])):Du zs S/\Hv zs S q:=by
 have l:=h.1
 rw[Az,BI]at l
 refine⟨⟨by lia,fun i r hr=>?_⟩,?_⟩
 .have li:=(AX.mp hr).1
  have:=h.2 i r (by rw[EH li];exact hr)
  rw[Nu (by lia)]at this
  exact this
 .have:=h.2 S.length q (by rw[DQ (Ap _),Fs];rfl)
  rw[Nu (Ap _),DS]at this
  exact this
theorem Du.tn {zs:List Str}{S:List Lp}(h:Du zs S):∀r∈S,0<=r.tn/\r.tn<=2:=fun r hr=>by
 obtain⟨i,hi⟩:=Ga.mp hr
 have:=h.2 i r hi
 exact⟨this.t0,this.t2⟩
theorem Du.nm {zs:List Str}{S:List Lp}(h:Du zs S){i:Nat}{q r:Lp}(hq:S[i]?=some q)(hr:S[0]?=some r):q.nm=zs.getD ((i+r.tn.toNat)%3) "":=by
 have g:=h.2 i q hq
 have li:=(AX.mp hq).1
 have e:=g.nm
 rw[Bg,EY (by lia)]at e
 rw[e]
 by_cases z:i=0
 .subst z
  rw[hr]at hq
  cases hq
  rfl
 .rw[g.hd r (by rw[List.head?_eq_getElem?,Jq (by lia)];exact hr)]
theorem G4.get {zs:List Str}(h:G4 zs){i:Nat}(hi:i<3):zs[i]?=some (zs.getD i ""):=by
 rw[Cp,AL (by have:=h.1;lia)]
 rfl
theorem G4.inj {zs:List Str}(h:G4 zs){i j:Nat}(hi:i<3)(hj:j<3)(e:zs.getD i ""=zs.getD j ""):i=j:=by
 have l:=h.1
 have p:=Ip.mp h.2.1
 rw[Cp,Cp,AL (by lia),AL (by lia)]at e
 have e:zs[i]=zs[j]:=e
 rcases Nr i j with z|z|z
 .exact absurd e (p i j (by lia) (by lia) z)
 .exact z
 .exact absurd e.symm (p j i (by lia) (by lia) z)
theorem Du.rb {zs:List Str}{R:R3}(n:G4 zs)(h:Du zs R.S)(pl:R.path.length=R.S.length+1)(m3:R.m<=3):RB R:=by
 have l:=h.1
 have nml:=EV R.S
 have gt:∀i (hi:i<(AV R.S).length),∃q,R.S[i]?=some q/\(AV R.S)[i]=q.nm:=fun i hi=>by
  refine⟨R.S[i]'(by lia),AL (by lia),?_⟩
  exact QF (f:=fun q:Lp=>q.nm) (h:=hi)
 have bn:∀(f:Lp->Str),(∀(i:Nat) (q:Lp),R.S[i]?=some q->Bs (R.S.take i) (f q))->J2 (AV R.S) (fun i=>((R.S[i]?).map f).getD "") R.S.length:=fun f hf i hi=>by
  have hq:R.S[i]?=some R.S[i]:=AL hi
  have b:=Pr (hf i _ hq)
  dsimp only
  rw[hq]
  show f R.S[i]=""\/_
  by_cases z:f R.S[i]=""
  .exact .inl z
  .rcases b with b|⟨j,hj,e⟩
   .exact absurd b z
   .exact .inr ⟨z,j,hj,e⟩
 refine⟨l,Ip.mpr fun i j hi hj ij=>?_,fun z hz=>?_,bn (·.lz) fun i q hq=>(h.2 i q hq).lo,bn (·.hz) fun i q hq=>(h.2 i q hq).hi,pl,m3⟩
 .obtain⟨q,hq,e⟩:=gt i hi
  obtain⟨q',hq',e'⟩:=gt j hj
  have h0:R.S[0]?=some (R.S[0]'(by lia)):=AL (by lia)
  rw[e,e',h.nm hq h0,h.nm hq' h0]
  intro z
  have:=n.inj (LA _ (by decide)) (LA _ (by decide)) z
  lia
 .obtain⟨i,hi⟩:=Ga.mp hz
  have li:=(AX.mp hi).1
  obtain⟨q,hq,e⟩:=gt i li
  rw[AL li]at hi
  have ez:z=q.nm:=by rw[←e];exact(Cg hi).symm
  have h0:R.S[0]?=some (R.S[0]'(by lia)):=AL (by lia)
  rw[ez,h.nm hq h0]
  exact n.2.2 _ (Bh (n.get (LA _ (by decide))))
def RY:Sp:=fun vs H Q _=>∃(lf:Addr) (far:Int) (st nm:Addr) (S:List Lp) (zs:List Str),vs=[.ref lf,.int far,.ref st,.ref nm]/\Bw H lf/\O4 H st S/\S.length<=10/\(∀r∈S,0<=r.tn/\r.tn<=2)/\H nm=some (.lst (zs.map V.str))/\G4 zs/\st≠lf/\nm≠lf/\∀(x:V) (H':Hp) (q:Lp),Bt lf H H'->Bw H' lf->EK H' x q->Hv zs S q->Q x H'
def Yu:Sp:=fun vs H Q _=>∃(M:Str->Int->Prop) (lf st pt hd:Addr) (S:List Lp) (ps:List Int),vs=[.ref lf,.ref st,.ref pt,.ref hd]/\Bw H lf/\O4 H st S/\S.length<=10/\H pt=some (.lst (ps.map V.int))/\EB M H hd/\st≠lf/\pt≠lf/\hd≠lf/\∀(r:Addr) (H':Hp) (z:Str) (p:Addr) (m:Nat) (rs:BK),Bt lf H H'->Bw H' lf->Ez M H' (.ref r) ⟨S,ps,z,p,m,rs⟩->m<=3->Q (.ref r) H'
structure Se where
 d:Bool
 m:Nat
 hd:Addr
 sz:Int
 nm:Addr
 far:Int
 wl:Addr
 zs:List Str
 M:Str->Int->Prop
def Iv (H:Hp)(s:Addr)(S:Se):Prop:=H s=some (.tup [.bl S.d,.int (S.m:Int),.ref S.hd,.int S.sz,.ref S.nm,.int S.far,.ref S.wl])/\EB S.M H S.hd/\H S.nm=some (.lst (S.zs.map V.str))/\Bw H S.wl
structure Se.Ok (S:Se):Prop where
 m1:1<=S.m
 m4:S.m<=4
 nz:G4 S.zs
 mo:∀{z:Str} {m n:Int},S.M z m->S.M z n->m=n
theorem Iv.over {H H':Hp}{s:Addr}{S:Se}(h:Iv H s S)(e:A9 H H'):Iv H' s S:=⟨e _ _ h.1,h.2.1.over e,e _ _ h.2.2.1,h.2.2.2.over e⟩
def UA (K:YO):Sp:=fun vs H Q _=>∃(sc:Addr) (ns:List Int),vs=[.ref sc]/\A5 K H sc (ns.map V.int)/\ns.length<=63/\∀(s:Addr) (S:Se) (H':Hp),A9 H H'->Iv H' s S->S.Ok->Q (.ref s) H'
def R4 (K:YO):Sp:=fun vs H Q _=>∃(sc s:Addr) (ns:List Int) (S:Se) (n:Nat),vs=[.ref sc,.ref s,.int (n:Int)]/\A5 K H sc (ns.map V.int)/\ns.length<=63/\Iv H s S/\S.Ok/\n<=6/\∀(r:Addr) (H':Hp) (Rs:List R3),A9 H H'->H r=none->D4 S.M H' r Rs->Rs.length=n->(∀R∈Rs,RB R)->Q (.ref r) H'
def WN:Sp:=fun vs H Q _=>∃(l:Addr) (Rs:List R3) (M:Str->Int->Prop),vs=[.ref l]/\D4 M H l Rs/\0<Rs.length/\Rs.length<=6/\(∀R∈Rs,RB R)/\∀(r:Addr) (H':Hp) (n:Nat),A9 H H'->r=l\/H r=none->1<=n->D4 M H' r (Rs.take n)->Q (.ref r) H'
def Wy:Sp:=fun vs H Q _=>∃(l lf:Addr) (Rs:List R3) (M:Str->Int->Prop),vs=[.ref l,.ref lf]/\D4 M H l Rs/\Bw H lf/\l≠lf/\Rs.length<=6/\(∀R∈Rs,RB R)/\∀(r:Addr) (H':Hp) (Rs':List R3),Bt lf H H'->D4 M H' r Rs'->Rs'.length=Rs.length->(∀R∈Rs',RB R)->Q (.ref r) H'
def EL (R S:R5):Nat:=(N7 R S).choose
theorem Ic (R S:R5):F5 R S (EL R S):=(N7 R S).choose_spec
theorem Ts {R S:R5}{k l:Nat}(h:F5 R S k)(g:F5 R S l):k=l:=by
 obtain⟨h1,h2,h3,h4⟩:=h
 obtain⟨g1,g2,g3,g4⟩:=g
 rcases Nr k l with z|z|z
 .exact absurd (g3 k z) (h4 (by lia))
 .exact z
 .exact absurd (h3 l z) (g4 (by lia))
def Hh (Rs:List R5)(k l:Nat):Nat:=match Rs[k]?,Rs[l]? with
 |some R,some S=>EL R S
 |_,_=>0
theorem Ng {Rs:List R5}{k l:Nat}{R S:R5}(h:Rs[k]?=some R)(g:Rs[l]?=some S):Hh Rs k l=EL R S:=by unfold Hh;rw[h,g]
abbrev Q5:=Pm.Q4×Nat
def Dr (Rs:List R5)(q:Pm.Q4):List Q5:=(List.range (C0 q.1 q.2.2.1 (Hh Rs q.1 q.2.2.1))).map fun e=>(q,e)
def Ee (Rs:List R5):List Q5:=(Pm.mt (Ba Rs)).flatMap (Dr Rs)
def Eh (H:Hp)(y:V)(d:Q5):Prop := ∃t,y = .ref t/\H t=some (.tup [.int (d.1.1:Int),.int (d.1.2.1:Int),.int (d.1.2.2.1:Int),.int (d.1.2.2.2:Int),.int (d.2:Int)])
theorem Eh.tk {H H':Hp}{y:V}{d:Q5}(h:Eh H y d)(e:TK H H'):Eh H' y d:=by obtain⟨t,a,b⟩:=h;exact⟨t,a,e _ _ b⟩
theorem Eh.over {H H':Hp}{y:V}{d:Q5}(h:Eh H y d)(e:A9 H H'):Eh H' y d:=h.tk (A9.tk e)
theorem OG {Rs:List R5}{L:List Pm.Q4}{q:Pm.Q4}{i:Nat}(h:L[i]?=some q):(L.take (i+1)).flatMap (Dr Rs)=(L.take i).flatMap (Dr Rs)++Dr Rs q:=by
 rw[CJ h,List.flatMap_append]
 exact congrArg _ (DA _)
theorem VF {Rs:List R5}(ok:∀R∈Rs,R.Ok)(q:Pm.Q4):(Dr Rs q).length<=4:=by
 unfold Dr
 rw[Aq,CL]
 have:Hh Rs q.1 q.2.2.1<=3:=by
  unfold Hh
  split
  .rename_i R S h g
   have:=(Ic R S).1
   have:=(ok R (Bh h)).n3
   lia
  .lia
 unfold C0
 split<;>lia
theorem Ky {Rs:List R5}(ok:∀R∈Rs,R.Ok):∀L:List Pm.Q4,(L.flatMap (Dr Rs)).length<=4*L.length
 |[]=>Ap _
 |
  q::L=>by
  rw[List.flatMap_cons,Az,C9]
  have:=VF ok q
  have:=Ky ok L
  lia
def X8 (CP C:Addr)(c:Cs):Sp:=fun vs H Q _=>∃(v:V) (Rs:List R5),vs=[v]/\G7 CP C c H v Rs/\(∀R∈Rs,R.Ok)/\Rs.length<=6/\∀(r:Addr) (ys:List V) (H':Hp),A9 H H'->H r=none->H' r=some (.lst ys)->Ar (Eh H') ys (Ee Rs)->Q (.ref r) H'
def Tc:Sp:=fun vs H Q _=>∃(l:Addr) (Rs:List R5),vs=[.ref l]/\Gs H l Rs/\(∀R∈Rs,R.Ok)/\Rs.length<=6/\∀(r:Addr) (ys:List V) (H':Hp),A9 H H'->H' r=some (.lst ys)->Ar (Eh H') ys (Ee Rs)->Q (.ref r) H'
abbrev An:=List Bb ⊕ (List Int×List Int)
def C8 (b:Bb):Bd.Bond:=⟨b.1.toNat,b.2.1.toNat,b.2.2⟩
def Hy (n bh:Nat)(B:List Bb):An:=match Bd.go (B.map C8) n Bd.st0 with
 |.inl s=>.inr ((((List.range n).map fun i=>s.v i-s.v 0).drop 1).take (bh-1),((List.range n).map fun i=>s.v i-s.v 0).drop bh)
 |.inr s=>.inl ((Bd.ringOf n (B.map C8) s).map fun i=>B.getD i (0,0,0))
def Gm (H:Hp)(v:V):An->Prop
 |.inl L=>∃(t r:Addr) (ys:List V),v = .ref t/\H t=some (.tup [.str "ring",.ref r])/\H r=some (.lst ys)/\Bf H ys L
 |.inr W=>∃(t x y:Addr),v = .ref t/\H t=some (.tup [.str "pair",.ref x,.ref y])/\H x=some (.tup (W.1.map V.int))/\H y=some (.tup (W.2.map V.int))
theorem Gm.over {H H':Hp}{v:V}{a:An}(h:Gm H v a)(e:A9 H H'):Gm H' v a:=by
 cases a with
 |inl L=>obtain⟨t,r,ys,a,b,c,d⟩:=h;exact⟨t,r,ys,a,e _ _ b,e _ _ c,d.over e⟩
 |inr W=>obtain⟨t,x,y,a,b,c,d⟩:=h;exact⟨t,x,y,a,e _ _ b,e _ _ c,e _ _ d⟩
structure Mb (B L:List Bb):Prop where
 pos:0<L.length
 mem:∀b∈L,b∈B
 ch:∀k,k+1<L.length->(L.getD k (0,0,0)).2.1=(L.getD (k+1) (0,0,0)).1
 bk:(L.getD (L.length-1) (0,0,0)).2.1=(L.getD 0 (0,0,0)).1
 neg:(L.map fun b=>b.2.2).sum<0
 le:L.length<=B.length
def L5 (B:List Bb)(m n:Nat):An->Prop
 |.inl L=>Mb B L
 |.inr W=>W.1.length=m/\W.2.length=n/\B.all (hU (Cc W.1 W.2))=true
def Fl (n:Nat)(b:Bb):Prop:=0<=b.1/\b.1<(n:Int)/\0<=b.2.1/\b.2.1<(n:Int)
theorem Ql {n:Nat}{B:List Bb}(h:∀b∈B,Fl n b):Bd.WF n (B.map C8):=fun b hb=>by
 obtain⟨t,ht,rfl⟩:=D5.mp hb
 have:=h t ht
 unfold Fl at this
 unfold C8
 dsimp only
 lia
theorem GF {B:List Bb}{i:Nat}{b:Bd.Bond}(h:(B.map C8)[i]?=some b):∃t,B[i]?=some t/\C8 t=b:=by
 rw[BG]at h
 exact Ju.mp h
theorem WH {n bh:Nat}{B:List Bb}(h:∀b∈B,Fl n b)(b1:1<=bh)(bn:bh<=n):L5 B (bh-1) (n-bh) (Hy n bh B):=by
 unfold Hy
 rcases Bd.go_ok (n:=n) (by lia) (Ql h) with⟨s,e,hv⟩|⟨s,x0,m,e,hl,r⟩
 .rw[e]
  generalize hf:(fun i=>s.v i-s.v 0)=f at hv
  have hf0:f 0=0:=by rw[←hf];exact Int.sub_self _
  show L5 B (bh-1) (n-bh) (.inr ((((List.range n).map (fun i=>s.v i-s.v 0)).drop 1).take (bh-1),((List.range n).map (fun i=>s.v i-s.v 0)).drop bh))
  rw[hf]
  show _/\_/\_
  obtain⟨k,rfl⟩:∃k,n=bh+k:=⟨n-bh,by lia⟩
  obtain⟨j,rfl⟩:∃j,bh=j+1:=⟨bh-1,by lia⟩
  refine⟨by rw[Bg,Il,Aq,CL];lia,by rw[Il,Aq,CL],?_⟩
  have eU:Cc ((((List.range (j+1+k)).map f).drop 1).take (j+1-1)) (((List.range (j+1+k)).map f).drop (j+1))=(List.range (j+1+k)).map f:=by
   have e0:(List.range (j+1+k)).map f=0::((List.range (j+1+k)).map f).drop 1:=by
    rw[show j+1+k=(j+k)+1 by lia,QB,Bz,hf0]
    rfl
   unfold Cc
   rw[Nat.add_sub_cancel]
   have e2:((List.range (j+1+k)).map f).drop (j+1)=(((List.range (j+1+k)).map f).drop 1).drop j:=by rw[List.drop_drop,Js]
   rw[e2,List.take_append_drop]
   exact e0.symm
  show B.all (hU (Cc _ _))=true
  rw[eU,Ly]
  intro b hb
  have hi:=h b hb
  have hh:=hv (C8 b) (D5.mpr ⟨b,hb,rfl⟩)
  unfold Fl at hi
  unfold C8 at hh
  dsimp only at hh
  unfold hU
  have gd:∀x:Int,0<=x->x<((j+1+k:Nat):Int)->((List.range (j+1+k)).map f).getD x.toNat 0=f x.toNat:=fun x x0 x1=>by
   rw[Cp,BG,Jw (by lia)]
   rfl
  rw[gd _ hi.1 hi.2.1,gd _ hi.2.2.1 hi.2.2.2]
  exact B6 hh
 .rw[e]
  obtain⟨u,ok⟩:∃u,Bd.RingOk (B.map C8) (Bd.ringOf n (B.map C8) s) u:=⟨_,r.ok hl⟩
  show Mb B _
  generalize Bd.ringOf n (B.map C8) s=L at ok
  have gt:∀k,k<L.length->∃t,(L.map fun i=>B.getD i (0,0,0)).getD k (0,0,0)=t/\t∈B/\t.1=(u k:Int)/\t.2.1=(u (k+1):Int):=fun k hk=>by
   obtain⟨b,hb,e1,e2⟩:=ok.bond k _ (AL hk)
   obtain⟨t,ht,rfl⟩:=GF hb
   have hi:=h t (Bh ht)
   unfold Fl at hi
   unfold C8 at e1 e2
   dsimp only at e1 e2
   refine⟨t,?_,Bh ht,by lia,by lia⟩
   rw[Cp,BG,AL hk]
   show B.getD L[k] (0,0,0)=t
   rw[Cp,ht]
   rfl
  have pos:=ok.pos
  refine⟨by rw[Aq];exact pos,fun b hb=>?_,fun k hk=>?_,?_,?_,?_⟩
  .obtain⟨i,hi,rfl⟩:=D5.mp hb
   obtain⟨k,hk⟩:=Ga.mp hi
   obtain⟨b,hb,_⟩:=ok.bond k i hk
   obtain⟨t,ht,_⟩:=GF hb
   rw[Cp,ht]
   exact Bh ht
  .rw[Aq]at hk
   obtain⟨t,e1,_,_,e2⟩:=gt k (by lia)
   obtain⟨t',e3,_,e4,_⟩:=gt (k+1) hk
   rw[e1,e3,e2,e4]
  .rw[Aq]
   obtain⟨t,e1,_,_,e2⟩:=gt (L.length-1) (by lia)
   obtain⟨t',e3,_,e4,_⟩:=gt 0 pos
   rw[e1,e3,e2,e4,show L.length-1+1=L.length by lia,ok.back]
  .have ng:=ok.neg
   have:∀M:List Nat,(∀i∈M,i<B.length)->((M.map fun i=>B.getD i (0,0,0)).map fun b=>b.2.2).sum=Bd.sumC (B.map C8) M:=by
    intro M
    induction M with
    |nil=>intro _;rfl
    |
     cons i M ih=>
     intro hM
     have hi:=hM i E4
     rw[Bz,Bz,List.sum_cons,ih fun j hj=>hM j (E5 _ hj)]
     show _=((B.map C8).getD i Bd.bd0).c+Bd.sumC (B.map C8) M
     rw[Cp,Cp,BG,AL hi]
     rfl
   rw[this L fun i hi=>?_]
   .exact ng
   .obtain⟨k,hk⟩:=Ga.mp hi
    obtain⟨b,hb,_⟩:=ok.bond k i hk
    obtain⟨t,ht,_⟩:=GF hb
    exact(AX.mp ht).1
  .rw[Aq]
   have:=Bd.nodup_le (k:=List.range B.length) ok.nd fun i hi=>by
    obtain⟨k,hk⟩:=Ga.mp hi
    obtain⟨b,hb,_⟩:=ok.bond k i hk
    obtain⟨t,ht,_⟩:=GF hb
    exact Fp.mpr (AX.mp ht).1
   rwa [CL]at this
theorem NX {Rs:List R5}{x:T5}(h:x∈Ba Rs):∃R,Rs[x.k]?=some R:=by
 obtain⟨i,L,e,e1,_⟩:=MV h
 rw[GY]at e
 rw[BG]at e1
 obtain⟨R,hR,_⟩:=Ju.mp e1
 exact⟨R,by rw[e];exact hR⟩
theorem P8 {Rs:List R5}{q:Pm.Q4}(h:q∈Pm.mt (Ba Rs)):∃R S,Rs[q.1]?=some R/\Rs[q.2.2.1]?=some S:=by
 unfold Pm.mt Pm.mtF at h
 obtain⟨l,hl,hq⟩:=List.mem_flatten.mp h
 obtain⟨x,hx,rfl⟩:=D5.mp hl
 unfold Pm.in1 at hq
 obtain⟨y,hy,rfl⟩:=D5.mp hq
 obtain⟨hy,ok⟩:=Ni.mp hy
 obtain⟨R,a⟩:=NX hx
 obtain⟨S,b⟩:=NX hy
 exact⟨R,S,a,b⟩
theorem T7 {n:Nat}{H:Hp}{bl:Addr}{bs:List V}{B:List Bb}(h:H bl=some (.lst bs))(t:Bf H bs B)(i:∀b∈B,Fl n b):Ge H bl (B.map C8):=by
 refine⟨bs,h,by rw[Aq];exact t.1,fun k v b hv hb=>?_⟩
 obtain⟨tr,ht,rfl⟩:=GF hb
 obtain⟨a,ea,ha⟩:=t.2 k v tr hv ht
 have:=i tr (Bh ht)
 unfold Fl at this
 refine⟨a,ea,?_⟩
 unfold C8
 dsimp only
 rw[LB this.1,LB this.2.2.1]
 exact ha
def Wb (CP C:Addr)(c:Cs):Sp:=fun vs H Q _=>∃(x dx dl:Addr) (sz:V) (xs:List V) (Rs:List R3) (R R':R3) (k l:Nat) (bl:Addr) (bs:List V) (B:List Bb),vs=[.ref x,.int (k:Int),.int (l:Int),.ref bl]/\H x=some (.ins CP dx [("size",sz),("deeds",.ref dl)])/\H dl=some (.lst xs)/\Ar (Dx c C H) xs Rs/\Rs[k]?=some R/\Rs[l]?=some R'/\R.S.length<=3/\R'.S.length<=3/\H bl=some (.lst bs)/\Bf H bs B/\B.length<=100/\(∀b∈B,Fl (1+R.S.length+R'.S.length) b)/\∀(v:Addr) (H':Hp),A9 H H'->(∀fo zs,H fo=some (.lst zs)->Gm (wo H' fo) (.ref v) (Hy (1+R.S.length+R'.S.length) (1+R.S.length) B))->Q (.ref v) H'
def Hw (H:Hp)(y:V)(d:Q5)(an:An):Prop := ∃(t v:Addr),y = .ref t/\H t=some (.tup [.int (d.1.1:Int),.int (d.1.2.1:Int),.int (d.1.2.2.1:Int),.int (d.1.2.2.2:Int),.int (d.2:Int),.ref v])/\Gm H (.ref v) an
theorem Hw.over {H H':Hp}{y:V}{d:Q5}{an:An}(h:Hw H y d an)(e:A9 H H'):Hw H' y d an:=by obtain⟨t,v,a,b,c⟩:=h;exact⟨t,v,a,e _ _ b,c.over e⟩
def GK (Rs:List R3)(Df:Pm.Q4->Cd)(d:Q5):An:=match Rs[d.1.1]?,Rs[d.1.2.2.1]? with
 |some R,some R'=>Hy (1+R.S.length+R'.S.length) (1+R.S.length) (CV R R' (Df d.1) d.2)
 |_,_=>.inl []
theorem OJ {Rs:List R3}{Df:Pm.Q4->Cd}{d:Q5}{R R':R3}(h:Rs[d.1.1]?=some R)(g:Rs[d.1.2.2.1]?=some R'):GK Rs Df d=Hy (1+R.S.length+R'.S.length) (1+R.S.length) (CV R R' (Df d.1) d.2):=by unfold GK;rw[h,g]
def OM (H:Hp)(Rs:List R3)(q:Pm.Q4)(D:Cd):Prop := ∃(R R':R3) (r r':Str×Addr),Rs[q.1]?=some R/\R.tch[q.2.1]?=some r/\Rs[q.2.2.1]?=some R'/\R'.tch[q.2.2.2]?=some r'/\C6 H r.2 D.m D.z1 D.n1/\C6 H r'.2 D.m D.z2 D.n2/\FI R R' D
def Gp (H:Hp)(Rs:List R3)(Df:Pm.Q4->Cd):Prop := ∀q∈Pm.mt (Ba (Rs.map R3.r5)),OM H Rs q (Df q)
theorem Gp.over {H H':Hp}{Rs:List R3}{Df:Pm.Q4->Cd}(h:Gp H Rs Df)(e:A9 H H'):Gp H' Rs Df:=fun q hq=>by
 obtain⟨R,R',r,r',a,b,c,d,f,g,i⟩:=h q hq
 exact⟨R,R',r,r',a,b,c,d,f.over e,g.over e,i⟩
theorem NN {H:Hp}{l:Addr}{M:Str->Int->Prop}{Rs:List R3}(mo:∀{z:Str} {m n:Int},M z m->M z n->m=n)(h:D4 M H l Rs)(rb:∀R∈Rs,RB R):∃Df,Gp H Rs Df:=by
 obtain⟨ys,_,ay⟩:=h
 have ex:∀q:Pm.Q4,∃D,q∈Pm.mt (Ba (Rs.map R3.r5))->OM H Rs q D:=fun q=>by
  by_cases hq:q∈Pm.mt (Ba (Rs.map R3.r5))
  .obtain⟨R,r,R',r',a,b,c,d,e⟩:=Wd hq
   obtain⟨y1,hy1,r4⟩:=ay.get a
   obtain⟨y2,hy2,r4'⟩:=ay.get c
   obtain⟨D,s1,s2,cd,_,_⟩:=WJ (M:=M) (fun a b=>mo a b) (rb R (Bh a)) (rb R' (Bh c)) (r4.2 r (Bh b)) (r4'.2 r' (Bh d)) e
   exact⟨D,fun _=>⟨R,R',r,r',a,b,c,d,s1,s2,cd⟩⟩
  .exact⟨⟨0,0,fun _=>0,fun _=>0,fun _=>0,fun _=>0,fun _=>"",fun _=>"",fun _=>0,fun _=>0,fun _=>0,fun _=>0⟩,fun h=>absurd h hq⟩
 exact⟨fun q=>(ex q).choose,fun q hq=>(ex q).choose_spec hq⟩
theorem Xh {Rs:List R5}{d:Q5}(h:d∈Ee Rs):d.1∈Pm.mt (Ba Rs)/\d.2<C0 d.1.1 d.1.2.2.1 (Hh Rs d.1.1 d.1.2.2.1):=by
 unfold Ee at h
 obtain⟨q,hq,hd⟩:=List.mem_flatMap.mp h
 unfold Dr at hd
 obtain⟨e,he,rfl⟩:=D5.mp hd
 exact⟨hq,Fp.mp he⟩
theorem PQ {H:Hp}{Rs:List R3}{Df:Pm.Q4->Cd}{d:Q5}(df:Gp H Rs Df)(h:d∈Ee (Rs.map R3.r5)):∃(R R':R3) (r r':Str×Addr),Rs[d.1.1]?=some R/\R.tch[d.1.2.1]?=some r/\Rs[d.1.2.2.1]?=some R'/\R'.tch[d.1.2.2.2]?=some r'/\C6 H r.2 (Df d.1).m (Df d.1).z1 (Df d.1).n1/\C6 H r'.2 (Df d.1).m (Df d.1).z2 (Df d.1).n2/\FI R R' (Df d.1)/\d.2<C0 d.1.1 d.1.2.2.1 (Df d.1).s/\d.2<=(Df d.1).s:=by
 obtain⟨h1,h2⟩:=Xh h
 obtain⟨R,R',r,r',a,b,c,e,f,g,i⟩:=df d.1 h1
 have gR:(Rs.map R3.r5)[d.1.1]?=some R.r5:=by rw[BG,a];rfl
 have gR':(Rs.map R3.r5)[d.1.2.2.1]?=some R'.r5:=by rw[BG,c];rfl
 rw[Ng gR gR',Ts (Ic _ _) i.pf]at h2
 refine⟨R,R',r,r',a,b,c,e,f,g,i,h2,?_⟩
 unfold C0 at h2
 split at h2<;>lia
theorem NB {R R':R3}{D:Cd}{case:Nat}(g:RB R)(g':RB R')(ok:FI R R' D)(cs:case<=D.s):∀b∈CV R R' D case,Fl (1+R.S.length+R'.S.length) b:=fun b hb=>by
 have:=Vb g g' ok (W:=List.replicate R.S.length 0) (W':=List.replicate R'.S.length 0) Lr Lr cs b hb
 unfold Fe Cc at this
 rw[C9,Az,Lr,Lr]at this
 unfold Fl
 lia
def Fz (H:Hp)(ys:List V)(Rs:List R3)(Df:Pm.Q4->Cd):Prop:=Ar (fun y d=>Hw H y d (GK Rs Df d)) ys (Ee (Rs.map R3.r5))
theorem Fz.over {H H':Hp}{ys:List V}{Rs:List R3}{Df:Pm.Q4->Cd}(h:Fz H ys Rs Df)(e:A9 H H'):Fz H' ys Rs Df:=h.mono fun _ _ z=>z.over e
def V8 (CP C:Addr)(c:Cs):Sp:=fun vs H Q _=>∃(x dx dl:Addr) (sz:V) (xs:List V) (Rs:List R3) (Df:Pm.Q4->Cd),vs=[.ref x]/\H x=some (.ins CP dx [("size",sz),("deeds",.ref dl)])/\H dl=some (.lst xs)/\Ar (Dx c C H) xs Rs/\(∀R∈Rs,RB R)/\(∀R∈Rs,R.r5.Ok)/\Rs.length<=6/\Gp H Rs Df/\∀(r:Addr) (ys:List V) (H':Hp),A9 H H'->H r=none->H' r=some (.lst ys)->Fz (wo H' r) ys Rs Df->Q (.ref r) H'
def US:Sp:=fun vs H Q _=>∃(r bl:Addr) (ys bs:List V) (L B:List Bb),vs=[.ref r,.ref bl]/\H r=some (.lst ys)/\Bf H ys L/\H bl=some (.lst bs)/\Bf H bs B/\Mb B L/\B.length<=100/\∀H',A9 H H'->Q (.bl true) H'
def X7:Sp:=fun vs H Q _=>∃(t u rl:Addr) (Rs:List R3) (M:Str->Int->Prop) (R:R3) (k:Nat) (W:List Int),vs=[.ref t,.ref rl]/\H t=some (.tup [.int (k:Int),.ref u])/\H u=some (.tup (W.map V.int))/\D4 M H rl Rs/\Rs.length<=10/\Rs[k]?=some R/\RB R/\W.length=R.S.length/\KH R W/\∀H',A9 H H'->Q (.bl true) H'
def NU (H:Hp)(rl lt:Addr)(Rs:List R3)(M:Str->Int->Prop)(d:Q5)(R R':R3)(r r':Str×Addr)(D:Cd):Prop:=D4 M H rl Rs/\Rs.length<=6/\Eh H (.ref lt) d/\Rs[d.1.1]?=some R/\R.tch[d.1.2.1]?=some r/\Rs[d.1.2.2.1]?=some R'/\R'.tch[d.1.2.2.2]?=some r'/\RB R/\RB R'/\C6 H r.2 D.m D.z1 D.n1/\C6 H r'.2 D.m D.z2 D.n2/\FI R R' D/\d.2<C0 d.1.1 d.1.2.2.1 D.s/\d.2<=D.s
def W5:Sp:=fun vs H Q _=>∃(rl lt t x y:Addr) (Rs:List R3) (M:Str->Int->Prop) (d:Q5) (R R':R3) (r r':Str×Addr) (D:Cd) (W W':List Int),vs=[.ref rl,.ref t,.ref lt]/\NU H rl lt Rs M d R R' r r' D/\H t=some (.tup [.str "pair",.ref x,.ref y])/\H x=some (.tup (W.map V.int))/\H y=some (.tup (W'.map V.int))/\W.length=R.S.length/\W'.length=R'.S.length/\(CV R R' D d.2).all (hU (Cc W W'))=true/\∀H',A9 H H'->Q (.bl true) H'
def V5:Sp:=fun vs H Q _=>∃(rl lt v:Addr) (Rs:List R3) (M:Str->Int->Prop) (d:Q5) (R R':R3) (r r':Str×Addr) (D:Cd) (an:An),vs=[.ref rl,.ref v,.ref lt]/\NU H rl lt Rs M d R R' r r' D/\Gm H (.ref v) an/\L5 (CV R R' D d.2) R.S.length R'.S.length an/\∀H',A9 H H'->Q (.bl true) H'
def Yg:Sp:=fun vs H Q _=>∃(rl f:Addr) (Rs:List R3) (M:Str->Int->Prop) (ys:List V) (Df:Pm.Q4->Cd),vs=[.ref rl,.ref f]/\D4 M H rl Rs/\Rs.length<=6/\(∀R∈Rs,RB R)/\Gp H Rs Df/\H f=some (.lst ys)/\Fz H ys Rs Df/\∀H',A9 H H'->Q (.bl true) H'
def IG:An->Tr
 |.inl L=>.tup [.v (.str "ring"),.lst (L.map IZ)]
 |.inr W=>.tup [.v (.str "pair"),.tup (W.1.map fun i=>Tr.v (.int i)),.tup (W.2.map fun i=>Tr.v (.int i))]
theorem TM {K:YO}{H:Hp}{v:V}{a:An}(h:Gm H v a):BA K H v (IG a):=by
 cases a with
 |
  inl L=>
  obtain⟨t,r,ys,rfl,b,c,d⟩:=h
  exact .tup (A3.of b) (.cons (.flat rfl) (.cons (.lst (A5.of c) (Mh d)) .nil))
 |
  inr W=>
  obtain⟨t,x,y,rfl,b,c,d⟩:=h
  exact .tup (A3.of b) (.cons (.flat rfl) (.cons (.tup (A3.of c) (IM _)) (.cons (.tup (A3.of d) (IM _)) .nil)))
theorem TN (a:An):Ct (IG a)<=4:=by
 cases a with
 |
  inl L=>
  unfold IG
  have:=LY L
  simp only[Ct,CO]
  lia
 |
  inr W=>
  unfold IG
  simp only[Ct,CO,N5]
  decide
def Lg (d:Q5)(a:An):Tr:=.tup [.v (.int (d.1.1:Int)),.v (.int (d.1.2.1:Int)),.v (.int (d.1.2.2.1:Int)),.v (.int (d.1.2.2.2:Int)),.v (.int (d.2:Int)),IG a]
theorem MN {K:YO}{H:Hp}{G:Q5->An}:∀{ys:List V} {L:List Q5},Ar (fun y d=>Hw H y d (G d)) ys L->BW K H ys (L.map fun d=>Lg d (G d))
 |[],[],_=>.nil
 |[],q::L,h=>by have:=h.1;cases this
 |y::ys,[],h=>by have:=h.1;cases this
 |
  y::ys,q::L,h=>by
  obtain⟨t,v,rfl,ht,ha⟩:=h.2 0 y q rfl rfl
  exact .cons (.tup (A3.of ht) (.cons (.flat rfl) (.cons (.flat rfl) (.cons (.flat rfl) (.cons (.flat rfl) (.cons (.flat rfl) (.cons (TM ha) .nil))))))) (MN ⟨Nat.succ.inj h.1,fun i x a p q=>h.2 (i+1) x a (by simpa using p) (by simpa using q)⟩)
theorem Oj {G:Q5->An}:∀L:List Q5,CO (L.map fun d=>Lg d (G d))<=6
 |[]=>by rw[Io,CO];exact BN _
 |
  q::L=>by
  rw[Bz,CO]
  have h1:=Oj (G:=G) L
  have h2:=TN (G q)
  have h3:Ct (Lg q (G q))<=6:=by
   unfold Lg
   simp only[Ct,CO]
   lia
  lia
theorem U7 (A:List Int):BM (A.map fun i=>Tr.v (.int i)) (A.map fun i=>Tr.v (.int i))=true:=by rw[Lj,B6 rfl]
theorem Xc {A B:List Int}(c:A≠B):BM (A.map fun i=>Tr.v (.int i)) (B.map fun i=>Tr.v (.int i))=false:=by rw[Lj,BO c]
theorem Wi (A B:List Int):Eo (A.map fun i=>Tr.v (.int i)) (B.map fun i=>Tr.v (.int i))=true:=MP A B
def Hj (H:Hp)(j:Nat)(v:V)(q:Lp):Prop:=(j=0->v = .str q.nm)/\(j=1->Dc H v (q.lz,q.ln))/\(j=2->Dc H v (q.hz,q.hn))
theorem Y9 {H:Hp}{ys:List V}{S:List Lp}(h:Ar (Hj H 0) ys S):ys=(AV S).map V.str:=by
 refine List.ext_getElem? fun i=>?_
 unfold AV
 rw[Jx,BG]
 by_cases hi:i<S.length
 .have hq:S[i]?=some S[i]:=AL hi
  obtain⟨x,hx,e⟩:=h.get hq
  rw[hx,hq,e.1 rfl]
  rfl
 .have:=h.1
  rw[Nq (by lia),Nq (by lia)]
  rfl
structure W6 (H:Hp)(zs:List Str)(ro st co pa:Addr)(vs:List V)(S:List Lp)(C Pp:List Int):Prop where
 hst:H st=some (.lst vs)
 al:Ar (EK H) vs S
 so:Du zs S
 hco:H co=some (.lst (C.map V.int))
 cl:C.length=S.length+1
 hpa:H pa=some (.lst (Pp.map V.int))
 pl:Pp.length=S.length
 n1:st≠ro
 n2:co≠ro
 n3:pa≠ro
theorem W6.over {H H':Hp}{zs:List Str}{ro st co pa:Addr}{vs:List V}{S:List Lp}{C Pp:List Int}(h:W6 H zs ro st co pa vs S C Pp)(e:A9 H H'):W6 H' zs ro st co pa vs S C Pp:=⟨e _ _ h.hst,h.al.mono fun _ _ z=>z.over e,h.so,e _ _ h.hco,h.cl,e _ _ h.hpa,h.pl,h.n1,h.n2,h.n3⟩
def N6 (lf st co pa:Addr):Prop:=st≠lf/\co≠lf/\pa≠lf
theorem W6.bt {H H':Hp}{zs:List Str}{lf ro st co pa:Addr}{vs:List V}{S:List Lp}{C Pp:List Int}(h:W6 H zs ro st co pa vs S C Pp)(n:N6 lf st co pa)(l:Bw H lf)(b:Bt lf H H'):W6 H' zs ro st co pa vs S C Pp:=⟨b _ _ n.1 h.hst,h.al.mono fun _ _ z=>z.tk (l.tk b),h.so,b _ _ n.2.1 h.hco,h.cl,b _ _ n.2.2 h.hpa,h.pl,h.n1,h.n2,h.n3⟩
def HM (H:Hp)(zs:List Str)(S:List Lp)(cl:V):Prop:=cl = .non\/∃q,EK H cl q/\Hv zs S q
theorem HM.tk {H H':Hp}{zs:List Str}{S:List Lp}{cl:V}(h:HM H zs S cl)(e:TK H H'):HM H' zs S cl:=h.imp id fun⟨q,a,b⟩=>⟨q,a.tk e,b⟩
abbrev Hi (p se:Addr)(n:Nat)(S:Se)(st co pa ro:Addr)(r:St):St:=some (.ref p)::some (.ref se)::some (.int (n:Int))::some (.bl S.d)::some (.int (S.m:Int))::some (.ref S.hd)::some (.int S.sz)::some (.ref S.nm)::some (.int S.far)::some (.ref S.wl)::some (.ref st)::some (.ref co)::some (.ref pa)::some (.ref ro)::r
theorem DU {H HX HY:Hp}{lf:Addr}(e:A9 H HX)(n:H lf=none)(b:Bt lf HX HY):A9 H HY:=fun x o hx=>b _ _ (AC hx n) (e _ _ hx)
def WQ:Sp:=fun vs H Q _=>∃(l:Addr) (Rs:List R5),vs=[.ref l]/\Gs H l Rs/\(∀R∈Rs,R.Ok)/\Rs.length<=6/\∀(r:Addr) (H':Hp),A9 H H'->H r=none->OS H' r (Pm.mt (Ba Rs))->Q (.ref r) H'
def V1:Sp:=fun vs H Q _=>∃(a:Addr) (Rs:List R5) (k l s:Nat) (R S:R5),vs=[.ref a,.int (k:Int),.int (l:Int)]/\Gs H a Rs/\(∀R∈Rs,R.Ok)/\Rs[k]?=some R/\Rs[l]?=some S/\F5 R S s/\∀(r:Addr) (H':Hp),A9 H H'->H r=none->H' r=some (.lst ((List.range (C0 k l s)).map fun i:Nat=>V.int (i:Int)))->Q (.ref r) H'
def MI (wi:TI):Prop := ∀σ H R R',(∀J H1,R J H1->R' J H1)->wi σ H R->wi σ H R'
theorem MI.list {K:YO}{tl:TE}(h:ME tl):MI (LL K tl):=fun σ H R R' hr k=>h _ _ _ _ (fun x H1 ⟨a,b,c,m⟩=>⟨a,b,c,hr _ _ m⟩) k
theorem ME.comp {ρ:List (Option Nat)}{wi:TI}{g:TG}{tt:TT}{te:TE}(h:MI wi):ME (FC ρ wi g tt te):=fun σ H Q Q' hq k=>h _ _ _ _ (fun J H1 ⟨W,w0,st⟩=>⟨W,w0,fun i m ys H' hw=>(st i m ys H' hw).imp (fun⟨a,b,c⟩=>⟨a,b,fun p hp=>hq _ _ (c p hp)⟩) id⟩) k
def R3.wd (mo:Int)(R:R3):R3:={R with S:=R.S.map fun q=>{q with hn:=q.hn+mo*(if decide (V.str q.hz=V.str "")=true then 1 else 0)}}
theorem IF {mo:Int}{R:R3}:AV (R.wd mo).S=AV R.S:=by
 unfold AV R3.wd
 rw[Jx]
 rfl
theorem VN {mo:Int}{R:R3}{z:Str}(h:Bs R.S z):Bs (R.wd mo).S z:=by
 rcases h with h|⟨r,hr,e⟩
 .exact .inl h
 .exact .inr ⟨_,D5.mpr ⟨r,hr,rfl⟩,e⟩
theorem Ko {mo:Int}{R:R3}:(R.wd mo).S.length=R.S.length:=Aq _
theorem V7 {mo:Int}{R:R3}(h:RB R):RB (R.wd mo):=by
 have e1:Dg (R.wd mo).S=Dg R.S:=funext fun i=>by
  unfold Dg R3.wd
  rw[BG,Option.map_map]
  rfl
 have e2:Dw (R.wd mo).S=Dw R.S:=funext fun i=>by
  unfold Dw R3.wd
  rw[BG,Option.map_map]
  rfl
 refine⟨by rw[Ko];exact h.len,by rw[IF];exact h.nd,by rw[IF];exact h.ne,?_,?_,by rw[Ko];exact h.pl,h.m3⟩
 .rw[IF,e1,Ko];exact h.bl
 .rw[IF,e2,Ko];exact h.bh
theorem Dx.nl {c:Cs}{C:Addr}{H H':Hp}{v:V}{R:R3}(h:Dx c C H v R)(e:NL H H'):Dx c C H' v R:=by
 obtain⟨d,dx,nm,lo,hi,pt,x,ls,hs,a,b,f,g,i,j,k,l,m⟩:=h
 have tk:=e.tk
 exact⟨d,dx,nm,lo,hi,pt,x,ls,hs,a,e _ _ b (fun _ z=>by cases z),tk _ _ f,tk _ _ g,i.mono fun _ _ z=>z.tk tk,tk _ _ j,k.mono fun _ _ z=>z.tk tk,tk _ _ l,m.nl e⟩
section
variable {X:Cx}{pins:List (Addr×Obj)}{s:Shared}{σ:St}{H:Hp}
end
end L2
namespace Fo
variable {W:Type}
end Fo
namespace PySem
open PySem.Spec PyProof.Rows
open AutoSeq1 (wpAny_loadPart')
end PySem
namespace L2
open PySem PySem.Spec PyProof.Rows
end L2
namespace HU
open PySem PySem.Spec
section
variable {prog:Program}{w:World}{A:Around}{E:Value->Shared->Prop}{s:Shared}
theorem OB {it t:Addr}{items:Array Value}(hne:t≠it):∀(n i:Nat) (s:Shared) (Q:List Value->Shared->Prop),s.heap.IsListIter it t i->s.heap.IsList t items->i+n<=items.size->
  (∀h',h'.IsListIter it t (i+n)->Heap.SameBut it s.heap h'->Q ((items.toList.drop i).take n) {s with heap:=h'})->wpAny (model prog w) A (draw (.ref it) n) Q E s
 |
  0,i,s,Q,hit,_,_,hQ=>by
  show wpAny _ _ (pure []) Q E s
  exact AY (by simpa using hQ s.heap hit (Heap.SameBut.refl ..))
 |
  n+1,i,s,Q,hit,ht,hle,hQ=>by
  have hlt:i<items.size:=by lia
  show wpAny _ _ (pyNext (.ref it)>>=_) Q E s
  refine Ao (wpAny_pyNext_list_item hit ht (x:=items[i]) (by simp[hlt]) fun h1 hit1 hs1=>?_)
  refine Ao (FM (OB hne n (i+1) _ _ hit1 (ht.extBut hs1.extBut hne) (by lia) fun h2 hit2 hs2=>AY ?_))
  have hd:items.toList.drop i=items[i]::items.toList.drop (i+1):=by simp[List.drop_eq_getElem_cons,hlt]
  have:=hQ h2 (by rw[show i+(n+1)=i+1+n by lia];exact hit2) (hs1.trans hs2)
  rw[hd,List.take_succ_cons]at this
  exact this
theorem Vi {t:Addr}{items:Array Value}{Q:List Value->Shared->Prop}(hh:A.handled=none)(ht:s.heap.IsList t items)
  (hQ:∀h',Heap.ExtBut s.heap.objs.size s.heap h'->Q items.toList {s with heap:=h'}):wpAny (model prog w) A (unpackItems (.ref t) items.size none) Q E s:=by
 have hlt:t≠s.heap.objs.size:=by obtain⟨o,ho,_⟩:=ht;exact Bu (B5 ho)
 unfold unpackItems
 refine Ao ?_
 unfold notIterableAtAll
 refine Ao (wpAny_specialOf ht.typeIs slot_list_iter.lookup ?_)
 refine AY ?_
 simp only[Bool.false_eq_true,if_false]
 refine Ao (FM (wpAny_pyIter_list ht ?_))
 refine Ao (FM (OB hlt items.size 0 _ _ ⟨_,CF _ rfl,rfl,rfl⟩ (ht.push _) (by lia) fun h1 hit1 hs1=>?_))
 have hall:List.take items.size (List.drop 0 items.toList)=items.toList:=by
  rw[Nl];exact EZ (by simp)
 rw[hall]
 rw[As (by simp)]
 have ht1:h1.IsList t items:=(ht.push _).extBut hs1.extBut hlt
 refine Ao (FM (wpAny_pyNext_list_end hh hit1 ht1 (by simp) fun h2 he2=>?_))
 simp only[Option.isSome_none,Bool.false_eq_true,if_false]
 refine AY (hQ h2 fun b o hb e=>he2 b o hb (hs1.extBut b o hb (Bk _ e)))
theorem assign_Tuple_list {env:Env}{elts:List Expr}{x1}{pos:Pos}{t:Addr}{items:Array Value}{Q:Unit->Shared->Prop}(hh:A.handled=none)(ht:s.heap.IsList t items)
  (hn:(assignEach elts env).length=items.size) (hstar:(assignEach elts env).findIdx? (·.1)=none)
  (h:∀h',Heap.ExtBut s.heap.objs.size s.heap h'->wpAny (model prog w) A (assignInOrder ((assignEach elts env).map (·.2)) items.toList) Q E {s with heap:=h'}) :
  wpAny (model prog w) A (assign (.Tuple elts x1 pos) env (.ref t)) Q E s:=by
 rw[PyProof.Rows.assign_Tuple]
 refine Ao (Nw ?_)
 unfold unpack
 rw[hn,hstar]
 exact Ao (FM (Vi hh ht h))
end
end HU
namespace L2
open PySem PySem.Spec PyProof.Rows
def W8 (n:Nat)(t:Fx):TG:=fun v σ H Q=>∃a xs,v = .ref a/\H a=some (.lst xs)/\xs.length=n/\t xs σ H Q
theorem Va {X:Cx}{pos:Pos}{es:List Expr}{k:Nat}{t:Fx}{n:Nat}(hc:X.calm=true)(h:IE X es t)
  (hn:(assignEach es X.env).length=n:=by rfl) (hst:(assignEach es X.env).findIdx? (·.1)=none:=by rfl):PG X (.Tuple es k pos) (W8 n t):=by
 intro pins s σ H v u Q I r hw
 obtain⟨a,xs,e1,hq,hl,hw⟩:=hw
 subst e1
 cases r
 obtain⟨z,its,m,rv,hl2,e⟩:=I.lstM hq
 refine HU.assign_Tuple_list (I.ok.hd hc) ⟨_,e,rfl,m,rfl⟩ (by simp[hn,←hl,rv.length]) hst fun h' hx=>?_
 have I1:A4 X pins σ H {s with heap:=h'}:=I.kept (t':=s.toks) fun b o e=>hx b o (Bu (B5 e)) e
 exact h pins _ σ H xs _ Q I1 (by simpa using rv) hw
def E7 (X:Cx)(scope:Scope)(N':List Str)(cl:List (Str×Addr))(C:Addr)(s:Shared)(H:Hp)(fp:List Addr)(pins:List (Addr×Obj))(y:Str):Cx:={CD X scope N' cl C s H fp pins with fn:=fun x=>x==y}
structure L4 (sc out:Scope)(y:Str):Prop where
 kind:sc.kind = .function
 cell:∀z∈sc.names,z.2 = .cell->z.1=y
 own:sc.names.lookup y=some .cell
 loc:∀y∈sc.names,y.2 = .local->sc.names.lookup y.1=some .local
 free:∀y∈sc.names,y.2 = .free->out.names.lookup y.1=some .cell\/out.names.lookup y.1=some .free
 cf:∀n acc,cellsFrom n sc.names acc=(y,n)::acc
theorem Oh {names:List (Str×NameKind)}{env:Env}{x y:Str}{k:NameKind}(h:(names.map fun(n,k)=>if(k==NameKind.free&&env.scope.kind == .function&&env.kindOf n==some .cell) then(n,NameKind.cell) else(n,k)).lookup x=some k)
  (hk:k = .cell\/k = .free) (hc:∀z∈names,z.2 = .cell->z.1=y):x=y\/(x,NameKind.free)∈names:=by
 induction names with
 |nil=>simp at h
 |
  cons p r ih=>
  obtain⟨n,k'⟩:=p
  by_cases hx:x=n
  .subst hx
   by_cases hc':(k'==NameKind.free&&env.scope.kind == .function&&env.kindOf x==some .cell)=true
   .simp only[CU,FN]at hc'
    rw[hc'.1.1]
    exact .inr E4
   .simp only[Bz]at h
    rw[As hc']at h
    simp at h
    subst h
    rcases hk with z|z
    .exact .inl (hc (x,k') E4 z)
    .rw[z];exact .inr E4
  .have hb:(x==n)=false:=by simpa using hx
   have:=ih (by
    simp only[Bz]at h
    by_cases hc':(k'==NameKind.free&&env.scope.kind == .function&&env.kindOf n==some .cell)=true
    .rw[Ax hc',EI,hb]at h;exact h
    .rw[As hc',EI,hb]at h;exact h) fun z hz=>hc z (E5 _ hz)
   exact this.imp id (E5 _)
theorem Sh {M:Model}{A:Around}{E:Value->Shared->Prop}{s:Shared}{scope:Scope}{globals:Addr}{closure:List (Str×Addr)}{qual:Str}{func:Option Addr}{code:Value}{around:Env}{builtins:Addr}{y:Str}{Q:Env->Shared->Prop}
  (hcf:∀n acc,cellsFrom n scope.names acc=(y,n)::acc)
  (hQ:∀h',h'.Ns s.heap.objs.size (fun _=>none)->h'.IsCell (s.heap.objs.size+1) none->(∀b o,s.heap.get? b=some o->h'.get? b=some o)->
   Q (newEnv scope s.heap.objs.size globals ((y,s.heap.objs.size+1)::closure) qual func code (some around) builtins) {s with heap:=h'})
  (hk:scope.kind = .function:=by rfl) :
  wpAny M A (newFunctionEnv scope globals closure [] qual func code (some around) builtins) Q E s:=by
 simp only[newFunctionEnv,Option.isSome_some,Gb]
 refine Ao (wpAny_alloc ?_)
 refine Ao (wpAny_layCells _ (fun name kind cells=>by cases hkc:kind==NameKind.cell<;>simp[hkc]) _ _ _ _ ?_)
 have hs:({s with heap:=s.heap.push {cls:=.type "dict",data:=.dict #[]}}:Shared).heap.objs.size=s.heap.objs.size+1:=GW ..
 have ok:=cellsFrom_ok scope.names (s.heap.push {cls:=.type "dict",data:=.dict #[]}) 0 [] ⟨fun _ _ hm=>(nomatch hm),List.Pairwise.nil⟩ (BN _)
 rw[GW,hcf]at ok
 rw[hs,hcf]
 refine Ao ?_
 rw[List.forIn_nil]
 refine AY (AY ?_)
 exact hQ _ ((Heap.Ns.new s.heap (.type "dict")).keeps (pushCells_keeps _ _)) (ok.empty y _ E4).1 fun b o e=>pushCells_keeps _ _ b o (Bk _ e)
section
variable {X:Cx}{pins:List (Addr×Obj)}{σ:St}{H:Hp}{s:Shared}{scope:Scope}{N':List Str}{ρ:List (Option Nat)}{cl:List (Str×Addr)}{fp:List Addr}{C D C1:Addr}{y:Str}
theorem SI (I:A4 X pins σ H s)(S:L4 scope X.env.scope y)(hf:∀b∈fp,Dq X pins H b)(h1:∀x c,cl.lookup x=some c->(x=y/\c=C1)\/(x≠y/\X.env.cells.lookup x=some c))(h2:∀n,n=y\/(n,NameKind.free)∈scope.names->∃c,cl.lookup n=some c)(hC1:s.heap.objs.size<=C1)
  (hC:s.heap.objs.size<=C) (hfs:∀b∈fp,b<s.heap.objs.size):(E7 X scope N' cl C s H fp pins y).Ok where
 mod:=I.ok.mod
 kind:=S.kind
 glob:=I.ok.glob
 blt:=I.ok.blt
 above:=hC
 inj:=fun x x' c e1 e2=>by
  rcases h1 x c e1 with⟨a,b⟩|⟨a,b⟩
  .rcases h1 x' c e2 with⟨a',b'⟩|⟨a',b'⟩
   .rw[a,a']
   .obtain⟨v,q⟩:=I.cell x' c b'
    exact absurd q.lt (by rw[b];exact Nat.not_lt.mpr hC1)
  .rcases h1 x' c e2 with⟨a',b'⟩|⟨a',b'⟩
   .obtain⟨v,q⟩:=I.cell x c b
    exact absurd q.lt (by rw[b'];exact Nat.not_lt.mpr hC1)
   .exact I.ok.inj x x' c b b'
 has:=fun x hk=>h2 x (by
  rcases hk with hk|hk
  .exact Oh (env:=X.env) hk (.inl rfl) S.cell
  .exact Oh (env:=X.env) hk (.inr rfl) S.cell)
 cab:=fun x c z e=>by
  have hx:x=y:=FN.mp z
  rcases h1 x c e with⟨_,b⟩|⟨a,_⟩
  .rw[b];exact hC1
  .exact absurd hx a
 hd:=I.ok.hd
 frames:=I.ok.frames
 stk:=.inl rfl
 exf:=fun b hb=>⟨Bu (BJ (hfs b hb) hC),fun x c e=>by
  rcases h1 x c e with⟨_,z⟩|⟨_,z⟩
  .rw[z];exact G8 (BJ (hfs b hb) hC1)
  .exact(hf b hb).2.2.2.2.1 x c z⟩
 bs:=I.bs
 bsz:=E3 I.ok.bsz I.sz
 noex:=fun b o e hb=>by
  rcases(hf b hb).2.2.2.1 with z|z
  .exact I.ok.noex b o e z
  .exact absurd (BJ (BJ (B5 e) I.ok.bsz) z) (Dd _)
 exfs:=fun b hb z=>by
  rcases Bv.mp (I.stkSub b z) with q|q
  .exact(hf b hb).2.1 q
  .exact(hf b hb).2.2.1 q
 funs:=I.stack
 frf:=I.stkFree
theorem Yp {h₁:Heap}{tk:Nat}(I:A4 X pins σ H s)(S:L4 scope X.env.scope y)(hρ:G0 scope X.env X.N N' ρ)(hf:∀b∈fp,Dq X pins H b)(h1:∀x c,cl.lookup x=some c->(x=y/\c=C1)\/(x≠y/\X.env.cells.lookup x=some c))
  (h2:∀n,n=y\/(n,NameKind.free)∈scope.names->∃c,cl.lookup n=some c) (hC1:s.heap.objs.size<=C1) (hc1:h₁.IsCell C1 none) (hC:s.heap.objs.size<=C) (hfs:∀b∈fp,b<s.heap.objs.size) (hn:h₁.Ns C (fun _=>none)) (hk:∀b o,s.heap.get? b=some o->h₁.get? b=some o)
  (hl:∀x,(x,NameKind.free)∈scope.names->scope.names.lookup x=some .free) :
  A4 (E7 X scope N' cl C s H fp pins y) [] (Bl ρ σ) H {s with heap:=h₁,toks:=tk} where
 ok:=SI I S hf h1 h2 hC1 hC hfs
 os:=rfl
 bare:=I.bare
 base:=Un.kept hk
 loc:=by
  refine⟨_,hn,fun j x v e1 e2 hv=>?_⟩
  obtain⟨m,hm,hl'⟩:=I.loc
  unfold Bl at e2
  rw[BG]at e2
  cases hr:ρ[j]? with
  |none=>rw[hr]at e2;simp at e2
  |
   some o=>
   cases o with
   |none=>rw[hr]at e2;simp at e2
   |
    some i=>
    rw[hr]at e2
    obtain⟨q1,q2,q3⟩:=hρ.2 j i x hr e1
    have e3:σ[i]?=some (some v):=by
     cases hσ:σ[i]? with
     |none=>simp[hσ]at e2
     |some z=>simp[hσ]at e2;rw[e2]
    obtain⟨u,r,lk⟩:=hl' i x v q1 e3 q2
    refine⟨u,r,?_⟩
    obtain⟨c,hc⟩:=h2 x (.inr q3)
    have hkind:(relabel scope X.env).names.lookup x=some .cell\/(relabel scope X.env).names.lookup x=some .free:=by
     rcases Ou (env:=X.env) q3 with z|z|z
     .exact .inl z
     .exact .inr z
     .exact absurd (hl x q3) z
    refine .inr ⟨hkind,c,hc,?_⟩
    rcases lk with⟨k,_⟩|⟨_,c',e',z⟩
    .rcases S.free (x,.free) q3 rfl with z|z
     .have k':X.env.scope.names.lookup x=some .local:=k
      rw[z]at k';cases k'
     .have k':X.env.scope.names.lookup x=some .local:=k
      rw[z]at k';cases k'
    .have ny:x≠y:=fun z=>by have:=hl x q3;rw[z,S.own]at this;cases this
     have:=((h1 x c hc).resolve_left fun z=>ny z.1).2
     rw[e']at this;cases this
     obtain⟨o,ho,hd⟩:=z
     exact⟨o,hk _ _ ho,hd⟩
 cell:=fun x c e=>by
  rcases h1 x c e with⟨_,z⟩|⟨_,z⟩
  .rw[z];exact⟨none,hc1⟩
  .obtain⟨v,o,ho,hd⟩:=I.cell x c z
   exact⟨v,o,hk _ _ ho,hd⟩
 free:=I.hok.fresh hC
 freeC:=fun x c e=>by
  rcases h1 x c e with⟨_,z⟩|⟨_,z⟩
  .rw[z];exact I.hok.fresh hC1
  .exact I.freeC x c z
 pin:=fun p hp=>by
  have hp':p∈X.pn++pins:=by simpa[E7,CD] using hp
  obtain⟨e,n,ne,nf,d⟩:=I.pin p hp'
  refine⟨hk _ _ e,n,Bu (BJ (B5 e) hC),fun z=>?_,d⟩
  rcases Bv.mp (I.stkSub p.1 z) with q|q
  .exact ne q
  .exact nf q
 hok:=I.hok.kept hk
 len:=by
  show(Bl ρ σ).length=N'.length
  unfold Bl
  rw[Aq];exact hρ.1
end
theorem UZ {X:Cx}{elt iter tg:Expr}{ifs:List Expr}{scope:Scope}{pos:Pos}{N':List Str}{ρ:List (Option Nat)}{wi:TI}{g:TG}{tt:TT}{te:TE}{cl:List (Str×Addr)}{y:Str}{RR:Value->Addr->Result->Shared->Prop}(hc:X.calm=true)(hi:PI X tg iter wi)(S:L4 scope X.env.scope y)(hρ:G0 scope X.env X.N N' ρ)
  (hl:∀x,(x,NameKind.free)∈scope.names->scope.names.lookup x=some .free)
  (inner:∀(cl:List (Str×Addr)) (C:Addr) (s:Shared) (H:Hp) (fp:List Addr) (pins:List (Addr×Obj)),PG (E7 X scope N' cl C s H fp pins y) tg g/\Ff (E7 X scope N' cl C s H fp pins y) ifs tt/\PE (E7 X scope N' cl C s H fp pins y) elt te)
  {pins:List (Addr×Obj)} {s:Shared} {σ:St} {H:Hp} {Q:VK} (I:A4 X pins σ H s) (h:FC ρ wi g tt te σ H Q)
  (h1:∀x c,cl.lookup x=some c->X.env.cells.lookup x=some c) (h2:∀n,(n,NameKind.free)∈scope.names->∃c,cl.lookup n=some c)
  (fin:∀D C s' H' m,A4 X pins σ H' s'->Q (.ref D) H'->s'.heap.Ns C m->Dq X pins H' C->RR (.ref D) C (.ok .next) s') :
  wpAny (model X.prog X.w) X.A (eval iter X.env) (fun x s₁=>wpAny (model X.prog X.w) X.A (pyIter x) (fun it s₂=>wpAny (model X.prog X.w) X.A (newList []) (fun acc s₃=>
   wpAny (model X.prog X.w) X.A (newFunctionEnv scope X.env.globals cl [] X.env.qual none .none (some X.env)) (fun cenv s₄=>
    codeAny (model X.prog X.w) X.A (.compStart (.ListComp elt [⟨tg,iter,ifs,0⟩] scope pos) 0 it acc {cenv with scope:=relabel scope X.env}) (RR acc cenv.locals) s₄) X.xe s₃) X.xe s₂) X.xe s₁) X.xe s:=by
 refine Au (hi pins s σ H _ I h) fun v s1 h1'=>Au h1' fun itv s2 hx=>?_
 obtain⟨it,fp,tn,J,H2,e,I2,T,st2,f2,W,⟨m0,w0⟩,turn⟩:=hx
 subst e
 have hfs:∀b∈fp,b<s2.heap.objs.size:=fun b hb=>by
  obtain⟨o,e,_⟩:=T.obj _ _ st2 b hb
  exact B5 e
 refine JC (Sh S.cf (fun h₁ hns₁ hcl₁ hsb₁=>?_) S.kind)
 dsimp only at hns₁ hcl₁ hsb₁ ⊢
 generalize hH2:s2.heap.push {cls:=.type "list",dict:=none,data:=.seq ([]:List Value).toArray}=G at hns₁ hcl₁ hsb₁ ⊢
 have hC:G.objs.size=s2.heap.objs.size+1:=by rw[←hH2,GW]
 have hDC:s2.heap.objs.size≠G.objs.size:=by rw[hC];exact Bu (Ln _)
 have hCle:s2.heap.objs.size<=G.objs.size:=by rw[hC];exact GX _
 have old:∀b o,s2.heap.get? b=some o->h₁.get? b=some o:=fun b o e=>hsb₁ _ _ (hH2▸Bk _ e)
 have hacc:h₁.get? s2.heap.objs.size=some {cls:=.type "list",dict:=none,data:=.seq ([]:List Value).toArray}:=hsb₁ _ _ (hH2▸CF _ rfl)
 have hns₂:h₁.Ns G.objs.size (fun _=>none):=hns₁
 have h1':∀x c,((y,G.objs.size+1)::cl).lookup x=some c->(x=y/\c=G.objs.size+1)\/(x≠y/\X.env.cells.lookup x=some c):=fun x c e=>by
  rw[EI]at e
  by_cases z:x=y
  .subst z;simp at e;exact .inl ⟨rfl,e.symm⟩
  .have:(x==y)=false:=by simpa using z
   rw[this]at e
   exact .inr ⟨z,h1 x c e⟩
 have h2':∀n,n=y\/(n,NameKind.free)∈scope.names->∃c,((y,G.objs.size+1)::cl).lookup n=some c:=fun n hn=>by
  rw[EI]
  by_cases z:n=y
  .subst z;exact⟨G.objs.size+1,by simp⟩
  .have:(n==y)=false:=by simpa using z
   rw[this]
   exact h2 n (hn.resolve_left z)
 have hC1:s2.heap.objs.size<=G.objs.size+1:=E3 hCle (GX _)
 generalize hXX:E7 X scope N' ((y,G.objs.size+1)::cl) G.objs.size s2 H2 fp pins y=XX at *
 have IN:∀(tk:Nat),A4 XX [] (Bl ρ σ) H2 {s2 with heap:=h₁,toks:=tk}:=fun tk=>hXX▸Yp (N':=N') (C1:=G.objs.size+1) I2 S hρ f2 h1' h2' hC1 hcl₁ hCle hfs hns₂ old hl
 obtain⟨pg,pt,pe⟩:=inner ((y,G.objs.size+1)::cl) G.objs.size s2 H2 fp pins
 rw[hXX]at pg pt pe
 have eP:XX.prog=X.prog:=by rw[←hXX];rfl
 have eW:XX.w=X.w:=by rw[←hXX];rfl
 have eK:XX.K=X.K:=by rw[←hXX];rfl
 have eA:XX.A=X.A:=by rw[←hXX];rfl
 have eE:XX.env=compEnvC scope ((y,G.objs.size+1)::cl) G.objs.size X.env:=by rw[←hXX];rfl
 have eL:XX.env.locals=G.objs.size:=by rw[eE];rfl
 have ec:XX.calm=true:=by rw[←hXX];exact hc
 have ex:XX.xe=fun _ _=>False:=by rw[←hXX];rfl
 have es0:XX.s₀=s2:=by rw[←hXX];rfl
 have eex:XX.ex=fp:=by rw[←hXX];rfl
 have efs:XX.fs=DJ X.stack:=by rw[←hXX];rfl
 have eH0:XX.H₀=H2:=by rw[←hXX];rfl
 have epn:XX.pn=X.pn++pins:=by rw[←hXX];rfl
 have ecl:XX.env.cells=(y,G.objs.size+1)::cl:=by rw[eE];rfl
 have stat:∀{H':Hp} {ps:List (Addr×Obj)},(∀b∈fp,H' b=none)->(∀p∈ps,p.1=s2.heap.objs.size)->∀b∈fp,Dq XX ps H' b:=fun{H' ps} hn hp b hb=>by
  refine⟨hn b hb,?_,?_,?_,?_,?_⟩
  .rw[eL];exact Bu (BJ (hfs b hb) hCle)
  .rw[efs]
   intro z
   rcases Bv.mp (I2.stkSub b z) with q|q
   .exact(f2 b hb).2.1 q
   .exact(f2 b hb).2.2.1 q
  .rw[eex];exact .inl hb
  .rw[ecl];exact fun x c e=>by
    rcases h1' x c e with⟨_,z⟩|⟨_,z⟩
    .rw[z];exact G8 (BJ (hfs b hb) hC1)
    .exact(f2 b hb).2.2.2.2.1 x c z
  .intro p hp' z
   rw[epn]at hp'
   rcases Co.mp hp' with q|q
   .exact(f2 b hb).2.2.2.2.2 p q z
   .rw[hp p q]at z
    exact absurd (hfs b hb) (by rw[z];exact Dd _)
 have nofsD:s2.heap.objs.size∉XX.fs:=by
  rw[efs];intro z
  rcases Bv.mp (I2.stkSub _ z) with q|q
  .exact absurd I2.lt (by rw[←q];exact Dd _)
  .exact I2.nofs (Ap _) q
 have pinD:∀{σ':St} {H':Hp} {s':Shared} {its:List Value} {n:Nat},A4 XX [] σ' H' s'->H' s2.heap.objs.size=none->s'.heap.get? s2.heap.objs.size=some {cls:=.type "list",data:=.seq its.toArray n}->
   A4 XX [(s2.heap.objs.size,{cls:=.type "list",data:=.seq its.toArray n})] σ' H' s':=fun{σ' H' s' its n} I' hn ho=>I'.pins_of fun p hp=>by
  have e:p=(s2.heap.objs.size,{cls:=.type "list",data:=.seq its.toArray n}):=by simpa using hp
  subst e
  refine⟨ho,hn,by rw[eL];exact hDC,nofsD,fun v z=>?_⟩
  have z':Data.seq its.toArray n=Data.cell v:=z
  cases z'
 have loop:∀s₃:Shared,(∃tk,s₃={s2 with heap:=h₁,toks:=tk})->
   codeAny (model X.prog X.w) X.A (.compLoop (.ListComp elt [⟨tg,iter,ifs,0⟩] scope pos) 0 (.ref it) (.ref s2.heap.objs.size) (compEnvC scope ((y,G.objs.size+1)::cl) G.objs.size X.env)) (RR (.ref s2.heap.objs.size) G.objs.size) s₃:=by
  rintro s₃ ⟨tk,rfl⟩
  refine Po (fun n s'=>∃i ys its k H',A4 XX [] (Bl ρ σ) H' s'/\tn i s'.heap/\(∀b∈fp,H' b=none)/\H' s2.heap.objs.size=none/\Ay ys its/\
   s'.heap.get? s2.heap.objs.size=some {cls:=.type "list",data:=.seq its.toArray k}/\W i n ys H') ?_ m0
   ⟨0,[],[],0,H2,IN tk,T.keep _ _ _ st2 fun b _ o e=>old b o e,fun b hb=>(f2 b hb).1,I2.hok.fresh (Ap _),.nil,hacc,w0⟩
  rintro n s3 ⟨i,ys,its,k,H3,I3,st3,fr3,hD3,rv,ho3,w3⟩
  rcases turn i n ys H3 w3 with⟨stop,hz,qn⟩|⟨go,hz,N,hN,step⟩
  .have I3p:=pinD I3 hD3 ho3
   have q:=T.done XX eP eW eK ec i _ s3 (Bl ρ σ) H3 (fun _ _=>False) I3p (stat fr3 (by simp)) st3 stop
   rw[eA]at q
   refine Au q fun r s4 zz=>?_
   obtain⟨hr,I4⟩:=zz
   subst hr
   have ho4:=(I4.pin (s2.heap.objs.size,{cls:=.type "list",data:=.seq its.toArray k}) (by simp)).1
   obtain⟨m,hm,_⟩:=I4.loc
   rw[eL]at hm
   have hun:Un (DJ X.stack) fp H2 (upd H3 s2.heap.objs.size (.lst ys)) s2.heap s4.heap:=by
    have u:=I4.base
    rw[efs,eex,eH0,es0]at u
    refine⟨u.keep,u.slot,fun b o e n hx=>?_,u.there,fun b xs e=>?_,fun b o xs e=>?_,fun b ps e=>?_⟩
    .rw[Am (Bu (B5 e))];exact u.free b o e n hx
    .have q:=u.tups b xs e
     rw[Am (AC q hD3)];exact q
    .have q:=u.frzs b o xs e
     rw[Am (AC q hD3)];exact q
    .obtain⟨more,q⟩:=u.tbls b ps e
     exact⟨more,by rw[Am (AC q hD3)];exact q⟩
   have hok:BC X.prog X.w (upd H3 s2.heap.objs.size (.lst ys)) s4.heap:=by
    have q:=I4.hok
    rw[eP,eW]at q
    exact q.track hD3 ⟨hz,its,k,rv,ho4⟩
   have hfr:∀b∈fp,(b∈X.ex\/X.s₀.heap.objs.size<=b)/\b≠X.env.locals/\(∀x c,X.env.cells.lookup x=some c->c≠b)/\∀p∈X.pn++pins,p.1≠b:=fun b hb=>⟨(f2 b hb).2.2.2.1,(f2 b hb).2.1,(f2 b hb).2.2.2.2.1,(f2 b hb).2.2.2.2.2⟩
   have IO:A4 X pins σ (upd H3 s2.heap.objs.size (.lst ys)) s4:=I2.call' (by have:=I4.os;rw[es0]at this;exact this) hun hok I4.bare hfr
   refine fin _ _ s4 _ m IO (qn _ hD3) hm (I2.fpOk hCle ?_)
   rw[Am (Ne.symm hDC)]
   have:=I4.free
   rw[eL]at this
   exact this
  .have I3p:=pinD I3 hD3 ho3
   have q:=T.item XX eP eW eK ec i _ s3 (Bl ρ σ) H3 (fun _ _=>False) I3p (stat fr3 (by simp)) st3 go
   rw[eA]at q
   refine Au q fun r s4 zz=>?_
   obtain⟨u,hr,h4⟩:=zz
   subst hr
   refine Au h4 fun _ s5 zz=>?_
   obtain⟨x,H5,I5,r5,y5,st5,fr5⟩:=zz
   have I5':=I5.pinned (stat fr5 (by simp)) (T.obj _ _ st5)
   have qa:=pg _ s5 (Bl ρ σ) H5 x u _ I5' r5 (step x H5 y5)
   rw[eP,eW,eA,eE,ex]at qa
   refine Au qa fun _ s6 zz=>?_
   obtain⟨σ6,H6,I6,⟨ou1,ou2⟩,q6⟩:=zz
   have hw6:(Bl ρ σ).length=σ6.length:=by rw[ou1];unfold Bl;rw[Aq]
   have qt:=pt _ s6 σ6 H6 _ I6 q6
   rw[eP,eW,eA,eE,ex]at qt
   refine Au qt fun ok s7 zz=>?_
   obtain⟨H7,I7,q7⟩:=zz
   have back:∀{s8:Shared} {H8:Hp},A4 XX ([(s2.heap.objs.size,{cls:=.type "list",data:=.seq its.toArray k})]++GI fp s5.heap) σ6 H8 s8->tn (i+1) s8.heap/\(∀b∈fp,H8 b=none)/\H8 s2.heap.objs.size=none/\
     s8.heap.get? s2.heap.objs.size=some {cls:=.type "list",data:=.seq its.toArray k}:=fun{s8 H8} I8=>by
    refine⟨T.keep _ _ _ st5 fun b hb o e=>(I8.pin (b,o) (Dz _ (Dz _ (Gi hb e)))).1,fun b hb=>?_,?_,?_⟩
    .obtain⟨o,e,d⟩:=T.obj _ _ st5 b hb
     exact(I8.pin (b,o) (Dz _ (Dz _ (Gi hb e)))).2.1
    .exact(I8.pin (s2.heap.objs.size,{cls:=.type "list",data:=.seq its.toArray k}) (by simp)).2.1
    .exact(I8.pin (s2.heap.objs.size,{cls:=.type "list",data:=.seq its.toArray k}) (by simp)).1
   cases ok with
   |
    false=>
    obtain⟨m',hm,w7⟩:=hN _ _ q7
    obtain⟨b1,b2,b3,b4⟩:=back I7
    exact⟨m',hm,i+1,ys,its,k,H7,(I7.pins_of (pins':=[]) (fun _ z=>nomatch z)).weak hw6 ou2,b1,b2,b3,rv,b4,w7⟩
   |
    true=>
    have qe:=pe _ s7 σ6 H7 _ I7 q7
    rw[eP,eW,eA,eE,ex]at qe
    refine Au qe fun y s8 zz=>?_
    obtain⟨v8,H8,I8,r8,n8⟩:=zz
    obtain⟨m',hm,w8⟩:=hN _ _ n8
    obtain⟨b1,b2,b3,b4⟩:=back I8
    have hlen:=rv.length
    refine Gc F.slot_list_append ⟨_,b4,rfl⟩ F.entry_list_append (F.args_list_append_2 _ _) (Qv s2.heap.objs.size its.toArray k y (by rw[Bi];lia)) ⟨b4,?_⟩
    have qL:=Qu b4 (fun xs=>xs.push y)
    have I8':A4 XX [] σ6 H8 s8:=I8.pins_of (fun _ z=>nomatch z)
    have I9:A4 XX [] σ6 H8 {s8 with heap:=s8.heap.update s2.heap.objs.size (Obj.mapSeq fun xs=>xs.push y),toks:=s8.toks}:=I8'.turned (it:=s2.heap.objs.size) (fun b o hb e=>(Jr s8.heap _ (Ne.symm hb)).trans e) b3
     (by rw[eL];exact hDC) (.inr (by rw[es0];exact Ap _)) (by
      rw[ecl];intro x c e z
      rcases h1' x c e with⟨_,zz⟩|⟨_,zz⟩
      .rw[z]at zz;rw[hC]at zz;lia
      .obtain⟨v,qc⟩:=I2.cell x c zz
       exact absurd qc.lt (by rw[z];exact Dd _)) (by
      intro p hp z
      have hp':p∈X.pn++pins:=by rw[epn]at hp;simpa using hp
      exact absurd (B5 (I2.pin p hp').1) (by rw[z];exact Dd _))
    have hnd:s2.heap.objs.size∉fp:=fun z=>Dd _ (hfs _ z)
    rw[show its.toArray.push y=(its++[y]).toArray by simp]at qL
    refine⟨m',hm,i+1,ys++[v8],its++[y],_,H8,I9.weak hw6 ou2,T.keep _ _ _ b1 fun b hb o e=>(Jr s8.heap _ (by rintro rfl;exact hnd hb)).trans e,b2,b3,rv.append (.cons r8 .nil),qL,w8⟩
 refine codeAny_compStart_list (loop _ ⟨_,rfl⟩) (T.self X.A 0 _ _ _ (T.keep _ _ _ st2 fun b _ o e=>old b o e) (loop _ ⟨_,rfl⟩))
theorem Tv {X:Cx}{elt iter tg:Expr}{ifs:List Expr}{scope:Scope}{pos:Pos}(y:Str)(N':List Str)(ρ:List (Option Nat)){wi:TI}{g:TG}{tt:TT}{te:TE}(hc:X.calm=true)(hi:PI X tg iter wi)(S:L4 scope X.env.scope y)(hρ:G0 scope X.env X.N N' ρ)
  (hl:∀x,(x,NameKind.free)∈scope.names->scope.names.lookup x=some .free)
  (inner:∀(cl:List (Str×Addr)) (C:Addr) (s:Shared) (H:Hp) (fp:List Addr) (pins:List (Addr×Obj)),PG (E7 X scope N' cl C s H fp pins y) tg g/\Ff (E7 X scope N' cl C s H fp pins y) ifs tt/\PE (E7 X scope N' cl C s H fp pins y) elt te)
  (hs:∀x,foldedSetIterable iter X.env x=pure x:=by intro _;rfl):PE X (.ListComp elt [⟨tg,iter,ifs,0⟩] scope pos) (FC ρ wi g tt te):=by
 intro pins s σ H Q I h
 obtain⟨cl,hcl,h1,h2⟩:=M5 (scope:=scope) (env:=X.env) (fun n hn=>I.ok.has n (S.free (n,.free) hn rfl))
 rw[eval_ListComp]
 refine QH (use:=none) rfl hs hcl S.kind S.loc ?_
 refine UZ (RR:=fun acc C=>compPost (model X.prog X.w) X.A X.xe none (EP X pins σ Q) acc C) hc hi S hρ hl inner I h h1 h2 ?_
 intro D C s' H' m I' q hm hf
 refine⟨m,hm,fun h' sb=>⟨.ref D,H',?_,rfl,q⟩⟩
 exact I'.turned (t':=s'.toks) (fun b o hb e=>(sb.2 b hb).trans e) hf.1 hf.2.1 hf.2.2.2.1 hf.2.2.2.2.1 hf.2.2.2.2.2
def Nc (sc out:Scope)(y:Str)(N N':List Str)(ρ:List (Option Nat)):Bool:=
 decide (sc.kind = .function)&&sc.names.all (fun z=>decide (z.2 = .cell->z.1=y))&&decide (sc.names.lookup y=some .cell)&&sc.names.all (fun y=>decide (y.2 = .local->sc.names.lookup y.1=some .local)) &&
 sc.names.all (fun y=>decide (y.2 = .free->sc.names.lookup y.1=some .free/\(out.names.lookup y.1=some .cell\/out.names.lookup y.1=some .free))) &&
 decide (ρ.length=N'.length)&&decide N'.Nodup &&
 (ρ.zip N').all (fun p=>match p.1 with|none=>true|some i=>decide (N[i]?=some p.2)&&decide (out.names.lookup p.2=some .local\/out.names.lookup p.2=some .cell\/out.names.lookup p.2=some .free)&&sc.names.any (fun y=>decide (y=(p.2,NameKind.free))))
theorem Yt {X:Cx}{elt iter tg:Expr}{ifs:List Expr}{scope:Scope}{pos:Pos}(y:Str)(N':List Str)(ρ:List (Option Nat)){wi:TI}{g:TG}{tt:TT}{te:TE}(hc:X.calm=true)(hi:PI X tg iter wi)(h:Nc scope X.env.scope y X.N N' ρ=true)
  (inner:∀(cl:List (Str×Addr)) (C:Addr) (s:Shared) (H:Hp) (fp:List Addr) (pins:List (Addr×Obj)),PG (E7 X scope N' cl C s H fp pins y) tg g/\Ff (E7 X scope N' cl C s H fp pins y) ifs tt/\PE (E7 X scope N' cl C s H fp pins y) elt te)
  (hs:∀x,foldedSetIterable iter X.env x=pure x:=by intro _;rfl) (cf:∀n acc,cellsFrom n scope.names acc=(y,n)::acc:=by intro _ _;rfl):PE X (.ListComp elt [⟨tg,iter,ifs,0⟩] scope pos) (FC ρ wi g tt te):=by
 unfold Nc at h
 simp only[CU,JD,Ly]at h
 obtain⟨⟨⟨⟨⟨⟨⟨h1,h2⟩,h3⟩,h4⟩,h5⟩,h6⟩,h7⟩,h8⟩:=h
 refine Tv y N' ρ hc hi ⟨h1,h2,h3,h4,fun y hy e=>(h5 y hy e).2,cf⟩ ⟨h6,fun j i x e1 e2=>?_⟩ (fun x hx=>(h5 _ hx rfl).1) inner hs
 have hm:(some i,x)∈ρ.zip N':=by
  refine Bh (i:=j) ?_
  rw[Qx]
  exact⟨e1,e2⟩
 have q:=h8 _ hm
 simp only[CU,JD,Qy]at q
 obtain⟨⟨q1,q2⟩,y,hy,e⟩:=q
 exact⟨q1,q2,e▸hy⟩
def GO (K:YO)(H:Hp)(x:V)(P:List Int):Prop := ∃t,x = .ref t/\A3 K H t (P.map V.int)
theorem Iy {K:YO}{H:Hp}:∀P:List Int,BW K H (P.map V.int) (P.map fun i=>Tr.v (.int i))
 |[]=>.nil
 |a::P=>.cons (.flat rfl) (Iy P)
theorem GO.tr {K:YO}{H:Hp}{x:V}{P:List Int}(h:GO K H x P):BA K H x (.tup (P.map fun i=>Tr.v (.int i))):=by
 obtain⟨t,rfl,h⟩:=h
 exact .tup h (Iy P)
theorem Wp (A B:List Int):BU (.tup (A.map fun i=>Tr.v (.int i))) (.tup (B.map fun i=>Tr.v (.int i)))=decide (A=B):=by
 rw[BU]
 by_cases c:A=B
 .subst c;rw[U7,B6 rfl]
 .rw[Xc c,BO c]
theorem PN:∀{A B:List Int},(A.map fun i=>Tr.v (.int i))=(B.map fun i=>Tr.v (.int i))->A=B
 |[],[],_=>rfl
 |[],_::_,h=>by cases h
 |_::_,[],h=>by cases h
 |
  a::A,b::B,h=>by
  rw[Bz,Bz]at h
  injection h with h1 h2
  injection h1 with h1
  injection h1 with h1
  rw[h1,PN h2]
theorem TQ {xs:List V}{us:List Value}(h:Ay xs us):∀{j:Nat} {u:Value},us[j]?=some u->∃x,xs[j]?=some x/\AD x u:=by
 induction h with
 |nil=>intro j u h;cases h
 |
  cons r t ih=>
  intro j u hj
  cases j with
  |zero=>cases hj;exact⟨_,rfl,r⟩
  |succ j=>exact ih hj
def Ol (K:YO)(neg:Bool):R2:=fun x y H Q=>∃(p:Addr) (xs:List V) (A:List Int) (L:List (List Int)),GO K H x A/\y = .ref p/\A5 K H p xs/\Ar (GO K H) xs L/\Q (.bl (if neg then !decide (A∈L) else decide (A∈L))) H
open Classical in
theorem Ra {X:Cx}{pins:List (Addr×Obj)}{s:Shared}{σ:List (Option V)}{H:Hp}(I:A4 X pins σ H s){A:Around}(hu:A.units+2<cLine){x:V}{v:Value}{P:List Int}{xs:List V}{its:List Value}{L:List (List Int)}(hx:GO X.K H x P)(rx:AD x v)(rv:Ay xs its)(al:Ar (GO X.K H) xs L):∃g:Value->Bool,(∀w∈its,SeqAt.EqAt A s w v (g w))/\its.any g=decide (P∈L):=by
 have key:∀(j:Nat) (w:Value),its[j]?=some w->∃(t:Addr) (R:List Int),xs[j]?=some (.ref t)/\w = .ref t/\L[j]?=some R/\A3 X.K H t (R.map V.int):=fun j w hw=>by
  obtain⟨y,hy,r⟩:=TQ rv hw
  obtain⟨R,hR,t,rfl,ht⟩:=al.get' hy
  cases r
  exact⟨t,R,hy,rfl,hR,ht⟩
 let g:Value->Bool:=fun u=>decide (∃(j:Nat),its[j]?=some u/\L[j]?=some P)
 have gv:∀(j:Nat) (w:Value) (R:List Int),its[j]?=some w->L[j]?=some R->g w=decide (R=P):=fun j w R hw hR=>by
  obtain⟨t,R',h1,rfl,h3,h4⟩:=key j w hw
  rw[hR]at h3
  cases h3
  by_cases c:R=P
  .subst c
   rw[B6 rfl]
   exact B6 ⟨j,hw,hR⟩
  .rw[BO c]
   refine BO fun⟨k,k1,k2⟩=>c ?_
   obtain⟨t',R',g1,g2,g3,g4⟩:=key k _ k1
   rw[k2]at g3
   cases g3
   cases g2
   have:=BA.inj I (BA.tup h4 (Iy R)) (BA.tup g4 (Iy P))
   injection this with this
   exact PN this
 refine⟨g,fun w hw=>?_,?_⟩
 .obtain⟨j,hj,e⟩:=Lz.mp hw
  have hj':its[j]?=some w:=by rw[AL hj,e]
  obtain⟨t,R,h1,rfl,h3,h4⟩:=key j w hj'
  rw[gv j _ R hj' h3,←Wp]
  refine Ml I 2 A _ _ (.ref t) x _ v ?_ hu ?_ (BA.tup h4 (Iy R)) rfl hx.tr rx
  .rw[Ct]
   have:∀Q:List Int,CO (Q.map fun i=>Tr.v (.int i))=0:=fun Q=>by
    induction Q with
    |nil=>rfl
    |cons a Q ih=>rw[Bz,CO,ih];rfl
   rw[this]
   decide
  .rw[C4];exact Wi R P
 .have ll:=al.1
  by_cases c:P∈L
  .rw[B6 c,Qy]
   obtain⟨j,hj,e⟩:=Lz.mp c
   have hl:j<its.length:=by rw[←rv.length];lia
   refine⟨its[j],Jv hl,?_⟩
   rw[gv j _ P (AL hl) (by rw[AL hj,e]),B6 rfl]
  .rw[BO c,List.any_eq_false]
   intro w hw
   obtain⟨j,hj,e⟩:=Lz.mp hw
   have hj':its[j]?=some w:=by rw[AL hj,e]
   obtain⟨t,R,h1,rfl,h3,h4⟩:=key j w hj'
   rw[gv j _ R hj' h3,BO (fun z:R=P=>c (by rw[←z];exact Bh h3))]
   exact Ci
theorem Vp {X:Cx}(hu:X.A.units+64<cLine):BF X (compareOp .NotIn) (Ol X.K true):=by
 intro pins s σ H x y v u Q I rx ry h
 obtain⟨p,xs,P,L,hx,rfl,hq,al,q⟩:=h
 cases ry
 obtain⟨its,r,pl,hz⟩:=I.list hq
 obtain⟨g,g1,g2⟩:=Ra I (A:=X.A.in1) (by show X.A.units+1+2<cLine;lia) hx rx r al
 refine SeqAt.notIn_listAt g pl.isList (fun w hw=>g1 w (by simpa using hw)) ⟨.bl _,H,I,rfl,?_⟩
 rw[show its.toArray.any g=its.any g by simp,g2]
 exact q
theorem Vh {K:YO}{a:Addr}{xs:List V}{ρ:List (Option Nat)}{g:TG}{tt:TT}{te:TE}{σ:St}{H:Hp}{Q:VK}(Pv:Nat->List V->Hp->Prop)(h0:Pv 0 [] H)(hsz:xs.length<=sizeLine)(hl:∀i zs H,i<=xs.length->Pv i zs H->A5 K H a xs/\zs.length<=i)
  (hs:∀i x T zs H,xs[i]?=some x->Pv i zs H->H T=none->g (.ref T) (Bl ρ σ) (upd H T (.tup [.int (i:Int),x])) fun σ2 H3=>J7 ρ σ σ2/\tt σ2 H3 fun ok H4=>if ok=true then te σ2 H4 fun v H5=>Pv (i+1) (zs++[v]) H5 else Pv (i+1) zs H4)
  (hd:∀zs H,Pv xs.length zs H->∀p,H p=none->Q (.ref p) (upd H p (.lst zs))):FX ρ g tt te σ Q (HI K a) H:=by
 refine⟨fun i m zs H=>m=xs.length-i/\i<=xs.length/\Pv i zs H,⟨_,rfl,BN _,h0⟩,?_⟩
 rintro i m zs H ⟨rfl,hi,p⟩
 obtain⟨q1,hz⟩:=hl i zs H hi p
 by_cases hlt:i<xs.length
 .refine .inr ⟨⟨xs,xs[i],q1,AL hlt⟩,by lia,Pv (i+1),fun ys' H'' p'=>⟨xs.length-(i+1),by lia,rfl,hlt,p'⟩,fun v H' yy=>?_⟩
  obtain⟨x,T,hx,hT,rfl,rfl⟩:=yy
  exact hs i x T zs H (hx xs q1) p hT
 .have:i=xs.length:=by lia
  subst this
  exact .inl ⟨⟨xs,q1,Ap _⟩,by lia,hd zs H p⟩
end L2
namespace Fw
open PySem L2 Bd
def AN (i:Nat):Stmt:=PySem.Challenge.pw_furrow_k56_whole_leanings.main.body.getD i (.Pass ⟨0,0,0,0⟩)
abbrev Kt:Stmt:=F4 (AN 7) 0
abbrev Lb:Stmt:=F4 (AN 8) 0
abbrev JG:Stmt:=F4 (AN 9) 0
abbrev KN:Stmt:=F4 (AN 10) 0
abbrev Kf:Stmt:=F4 (AN 7) 2
abbrev Kc:Stmt:=F4 (AN 8) 2
abbrev Ku:Stmt:=F4 (AN 9) 2
abbrev K0:Stmt:=F4 (AN 10) 2
abbrev Km:Stmt:=F4 (AN 12) 0
abbrev Ld:Stmt:=F4 (AN 13) 0
abbrev JM:Stmt:=AN 14
abbrev JI:Stmt:=AN 15
abbrev J0:Stmt:=AN 2
abbrev JL:Stmt:=AN 3
abbrev Lf:Stmt:=AN 4
abbrev J3:Stmt:=AN 17
abbrev Kx:Stmt:=AN 18
abbrev JR:Stmt:=AN 19
abbrev KR:Stmt:=AN 20
abbrev KB:Stmt:=AN 22
abbrev Kg:Stmt:=AN 23
abbrev Kq:Stmt:=AN 24
abbrev Kh:Stmt:=AN 25
abbrev Ks:Stmt:=AN 26
abbrev K3:Stmt:=AN 27
abbrev Ka:Stmt:=AN 28
abbrev IT:Stmt:=AN 29
abbrev KA:Stmt:=AN 31
abbrev JT:Stmt:=AN 32
abbrev KY:Stmt:=AN 33
abbrev JF:Stmt:=AN 34
abbrev K9:Stmt:=AN 35
abbrev JP:Stmt:=AN 36
abbrev Gw:Stmt:=AN 37
abbrev Kw:Stmt:=AN 38
abbrev KP:Stmt:=AN 39
abbrev JV:Stmt:=AN 40
abbrev HW:Stmt:=AN 41
abbrev Hq:Stmt:=AN 42
abbrev HP:Stmt:=AN 43
abbrev Kp:Stmt:=AN 44
abbrev JK:Stmt:=AN 45
abbrev Jh:Stmt:=AN 46
abbrev KO:Stmt:=AN 47
abbrev KF:Stmt:=AN 48
abbrev Kn:Stmt:=AN 49
abbrev Ki:Stmt:=AN 50
abbrev Kv:Stmt:=AN 51
abbrev KI:Stmt:=AN 52
abbrev Lk:Stmt:=AN 53
abbrev Jp:Stmt:=AN 54
abbrev KZ:Stmt:=AN 55
abbrev Ke:Stmt:=AN 56
abbrev K1:Stmt:=AN 57
abbrev KD:Stmt:=AN 58
abbrev IL:Stmt:=AN 59
abbrev K8:Stmt:=AN 60
abbrev Kd:Stmt:=AN 61
abbrev II:Stmt:=AN 62
abbrev IP:Stmt:=AN 63
abbrev KG:Stmt:=AN 64
abbrev Ji:Stmt:=AN 65
abbrev L9:Stmt:=AN 66
theorem AQ {N P:List Str}{sc:Scope}(a:sc.kind = .function:=by rfl)(b:sc.isCoroutine=false:=by rfl)(c:sc.isGenerator=false:=by rfl)(d:N.Nodup:=by decide +kernel)(e:N.take P.length=P:=by rfl)(f:∀x∈P,sc.names.lookup x=some .local\/sc.names.lookup x=some .cell:=by decide +kernel)(g:∀y∈sc.names,y.2≠.free:=by decide +kernel):AJ N P sc:=⟨a,b,c,d,e,f,g⟩
theorem Wq:AJ ["self","n"] ["self","n"] (Aw Kt):=AQ
theorem WZ:AJ ["self","name"] ["self","name"] (Aw Lb):=AQ
theorem XA:AJ ["self","table","spots"] ["self","table","spots"] (Aw JG):=AQ
theorem Rv:AJ ["self","sign","left","right"] ["self","sign","left","right"] (Aw KN):=AQ
theorem Wx:AJ ["self"] ["self"] (Aw Kf):=AQ
theorem Wl:AJ ["self"] ["self"] (Aw Kc):=AQ
theorem Ww:AJ ["self"] ["self"] (Aw Ku):=AQ
theorem Y2:AJ ["self"] ["self"] (Aw K0):=AQ
theorem VJ:AJ ["self","names","lows","highs","table","spots","term","path"] ["self","names","lows","highs","table","spots","term","path"] (Aw Km):=AQ
theorem Wr:AJ ["self","size","deeds"] ["self","size","deeds"] (Aw Ld):=AQ
theorem TF:AJ ["one","other"] ["one","other"] (Aw JM):=AQ
theorem Ot:AJ ["path","other","most","e"] ["path","other","most"] (Aw JI):=AQ
theorem Hu:AJ ["count","bonds","values","lowered_by","lowered","lap"] ["count","bonds"] (Aw J0):=AQ
theorem He:AJ ["bonds","values","lowered_by","lowered","number","bond","top"] ["bonds","values","lowered_by"] (Aw JL):=AQ
theorem GR:AJ ["count","bonds","lowered_by","lowered","start","lap","ring","at"] ["count","bonds","lowered_by","lowered"] (Aw Lf):=AQ
theorem Ov:AJ ["deed","reads"] ["deed"] (Aw J3):=AQ
theorem Je:AJ ["deed","first","bonds","e","low","high"] ["deed","first"] (Aw Kx):=AQ
theorem Ij:AJ ["spots","names","first","others","other_names","other_first","bonds","spot","other","u","w"] ["spots","names","first","others","other_names","other_first"] (Aw JR):=AQ
theorem WS:AJ ["spot","names","first"] ["spot","names","first"] (Aw KR):=AQ
theorem FB:AJ ["program","touched","found","k","a","touch","l","b","other"] ["program"] (Aw KB):=AQ
theorem Hk:AJ ["program","found","k","deed","a","touch"] ["program"] (Aw Kg):=AQ
theorem LO:AJ ["program","k","l","many"] ["program","k","l"] (Aw Kq):=AQ
theorem Gg:AJ ["program","k","a","l","b","case","one","other","behind","spots","others","bonds"] ["program","k","a","l","b","case"] (Aw Kh):=AQ
theorem Ma:AJ ["many","case","behind","bonds","e"] ["many","case","behind"] (Aw Ks):=AQ
theorem FP:AJ ["program","found","k","a","l","b","case","bonds"] ["program"] (Aw K3):=AQ
theorem GC:AJ ["program","found","k","a","l","b","case"] ["program"] (Aw Ka):=AQ
theorem LV:AJ ["program","k","l","bonds","behind","answer"] ["program","k","l","bonds"] (Aw IT):=AQ
theorem Mz:AJ ["_law_script","_law_k","_law_number"] ["_law_script","_law_k"] (Aw KA):=AQ
theorem WX:AJ ["_law_found"] ["_law_found"] (Aw JT):=AQ
theorem Md:AJ ["_law_cell_here","_law_k","_law_number"] ["_law_cell_here","_law_k"] (Aw KY):=AQ
theorem La:AJ ["_law_cell_here","_law_k","_law_digits","_law_number","_law_j"] ["_law_cell_here","_law_k","_law_digits"] (Aw JF):=AQ
theorem PH:AJ ["_law_left_here","_law_many","_law_found"] ["_law_left_here","_law_many"] (Aw K9):=AQ
theorem F9:AJ ["_law_cell_here","_law_e","_law_some","_law_number","_law_word_here","_law_k","_law_at","_law_name"] ["_law_cell_here","_law_e"] (Aw JP):=AQ
theorem Hm:AJ ["_law_left_here","_law_cell_here","_law_digits","_law_some","_law_found","_law_e","_law_name"] ["_law_left_here","_law_cell_here","_law_digits"] (Aw Gw):=AQ
theorem GV:AJ ["_law_left_here","_law_bases","_law_heads","_law_table","_law_many","_law_off","_law_spots","_law_k","_law_base"] ["_law_left_here","_law_bases","_law_heads"] (Aw Kw):=AQ
theorem KQ:AJ ["_law_left_here","_law_bases","_law_heads","_law_pick","_law_table","_law_spots"] ["_law_left_here","_law_bases","_law_heads"] (Aw KP):=AQ
theorem HZ:AJ ["_law_left_here","_law_bases","_law_heads","_law_term_here","_law_k","_law_sign","_law_leaf_here"] ["_law_left_here","_law_bases","_law_heads"] (Aw JV):=AQ
theorem FU:AJ ["_law_left_here","_law_far","_law_stack","_law_names_here","_law_about","_law_bases","_law_low","_law_high","_law_more","_law_low_spot","_law_turn"] ["_law_left_here","_law_far","_law_stack","_law_names_here"] (Aw HW):=AQ
theorem Gu:AJ ["_law_left_here","_law_stack","_law_path","_law_heads","_law_bases","_law_names_here","_law_lows","_law_highs","_law_table","_law_spots"] ["_law_left_here","_law_stack","_law_path","_law_heads"] (Aw Hq):=AQ
theorem Ef:AJ ["_law_script","_law_first","_law_digits","_law_left_here","_law_many","_law_off","_law_sizes","_law_heads","_law_size","_law_names_here","_law_far"] ["_law_script"] (Aw HP):=AQ
theorem BQ:AJ ["_law_script","_law_setting_here","_law_many","_law_digits","_law_upto","_law_heads","_law_size","_law_names_here","_law_far","_law_wide_here","_law_stack","_law_counts","_law_path","_law_rows_here","_law_k","_law_left_here","_law_closed","_law_close","_law_opens","_law_e","_law_loop_here"] ["_law_script","_law_setting_here","_law_many"] (Aw Kp):=AQ
theorem U4:AJ ["_law_term_here"] ["_law_term_here"] (Aw JK):=AQ
theorem NY:AJ ["_law_size","_law_rows_here","_law_deeds"] ["_law_size","_law_rows_here"] (Aw Jh):=AQ
theorem L1:AJ ["_law_names_here","_law_values","_law_around_here","_law_name","_law_value"] ["_law_names_here","_law_values"] (Aw KO):=AQ
theorem Kb:AJ ["_law_spots","_law_around_here","_law_place","_law_name","_law_n"] ["_law_spots","_law_around_here"] (Aw KF):=AQ
theorem Iw:AJ ["_law_turn","_law_rows_here","_law_row_here","_law_e","_law_low","_law_high"] ["_law_turn","_law_rows_here"] (Aw Kn):=AQ
theorem Ws:AJ ["_law_term_here"] ["_law_term_here"] (Aw Ki):=AQ
theorem RW:AJ ["_law_row_here"] ["_law_row_here"] (Aw Kv):=AQ
theorem Ey:AJ ["_law_rows_here","_law_some","_law_k","_law_a","_law_touch","_law_found","_law_one","_law_l","_law_b","_law_other"] ["_law_rows_here"] (Aw KI):=AQ
theorem M9:AJ ["_law_one","_law_other","_law_many"] ["_law_one","_law_other"] (Aw Lk):=AQ
theorem PV:AJ ["_law_rows_here","_law_k","_law_l","_law_many"] ["_law_rows_here","_law_k","_law_l"] (Aw Jp):=AQ
theorem MC:AJ ["_law_rows_here","_law_one","_law_other","_law_many","_law_e"] ["_law_rows_here","_law_one","_law_other"] (Aw KZ):=AQ
theorem XC:AJ ["_law_name","_law_names_here","_law_first"] ["_law_name","_law_names_here","_law_first"] (Aw Ke):=AQ
theorem Gv:AJ ["_law_row_here","_law_first","_law_found","_law_e","_law_low","_law_n","_law_high","_law_m"] ["_law_row_here","_law_first"] (Aw K1):=AQ
theorem Ex:AJ ["_law_rows_here","_law_k","_law_a","_law_l","_law_b","_law_case","_law_one","_law_other","_law_second","_law_found","_law_here","_law_there","_law_u","_law_w","_law_e"] ["_law_rows_here","_law_k","_law_a","_law_l","_law_b","_law_case"] (Aw KD):=AQ
theorem IR:AJ ["_law_found","_law_bonds","_law_bond","_law_total","_law_k"] ["_law_found","_law_bonds"] (Aw IL):=AQ
theorem F2:AJ ["_law_rows_here","_law_told","_law_lean","_law_k","_law_a","_law_l","_law_b","_law_case","_law_one","_law_other","_law_here","_law_there"] ["_law_rows_here","_law_told","_law_lean"] (Aw K8):=AQ
theorem PK:AJ ["_law_rows_here","_law_told","_law_lean","_law_bonds"] ["_law_rows_here","_law_told","_law_lean"] (Aw Kd):=AQ
theorem OF:AJ ["_law_rows_here"] ["_law_rows_here"] (Aw II):=AQ
theorem Jb:AJ ["_law_rows_here","_law_left_here","_law_more","_law_found","_law_row_here","_law_highs"] ["_law_rows_here","_law_left_here"] (Aw IP):=AQ
theorem GG:AJ ["_law_rows_here","_law_due_here","_law_k","_law_a","_law_l","_law_b","_law_case"] ["_law_rows_here"] (Aw KG):=AQ
theorem KC:AJ ["_law_rows_here","_law_found","_law_due_here","_law_row_here","_law_lean"] ["_law_rows_here","_law_found"] (Aw Ji):=AQ
theorem GT:AJ ["_law_script","_law_setting_here","_law_rows_here","_law_program","_law_found","_law_kept"] ["_law_script"] (Aw L9):=AQ
theorem Xl:Cu (CI [(".0",.local),("table",.local),("spots",.local)]) (Aw J3)  ["deed","reads"] ["table","spots"] [none,none]=true:=by decide +kernel
theorem NH:(["table","spots"]:List Str).Nodup:=by decide +kernel
theorem U9:Cu (CI [(".0",.local),("_law_row_here",.local),("Deed",.globalImplicit),("_law_object",.globalImplicit)]) (Aw Jh)  ["_law_size","_law_rows_here","_law_deeds"] ["_law_row_here"] [none]=true:=by decide +kernel
theorem Rj:(["_law_row_here"]:List Str).Nodup:=by decide +kernel
theorem Uj:Cu (CI [(".0",.local),("_law_e",.local),("_law_k",.free),("_law_l",.free),("_law_many",.free)]) (Aw Jp)  ["_law_rows_here","_law_k","_law_l","_law_many"] ["_law_e","_law_k","_law_l","_law_many"] [none,some 1,some 2,some 3]=true:=by decide +kernel
theorem S1:(["_law_e","_law_k","_law_l","_law_many"]:List Str).Nodup:=by decide +kernel
theorem SS:Cu (CI [(".0",.local),("value",.local),("values",.free)]) (Aw J0)  ["count","bonds","values","lowered_by","lowered","lap"] ["value","values"] [none,some 2]=true:=by decide +kernel
theorem VX:(["value","values"]:List Str).Nodup:=by decide +kernel
theorem RL:Cu (CI [(".0",.local),("_law_e",.local),("_law_word",.globalImplicit),("_law_cell_here",.free)]) (Aw Gw)  ["_law_left_here","_law_cell_here","_law_digits","_law_some","_law_found","_law_e","_law_name"] ["_law_e","_law_cell_here"] [none,some 1]=true:=by decide +kernel
theorem Yk:(["_law_e","_law_cell_here"]:List Str).Nodup:=by decide +kernel
theorem Uh:Cu (CI [(".0",.local),("_law_k",.local),("_law_digit",.globalImplicit),("_law_left_here",.free),("_law_some",.free)]) (Aw Gw)  ["_law_left_here","_law_cell_here","_law_digits","_law_some","_law_found","_law_e","_law_name"] ["_law_k","_law_left_here","_law_some"] [none,some 0,some 3]=true:=by decide +kernel
theorem Vz:(["_law_k","_law_left_here","_law_some"]:List Str).Nodup:=by decide +kernel
theorem UL:Cu (CI [(".0",.local),("_law_one",.local),("_law_found",.free)]) (Aw Gw)  ["_law_left_here","_law_cell_here","_law_digits","_law_some","_law_found","_law_e","_law_name"] ["_law_one","_law_found"] [none,some 4]=true:=by decide +kernel
theorem SQ:(["_law_one","_law_found"]:List Str).Nodup:=by decide +kernel
theorem QP:Cu (CI [(".0",.local),("_law_one",.local)]) (Aw HW)  ["_law_left_here","_law_far","_law_stack","_law_names_here","_law_about","_law_bases","_law_low","_law_high","_law_more","_law_low_spot","_law_turn"] ["_law_one"] [none]=true:=by decide +kernel
theorem X6:(["_law_one"]:List Str).Nodup:=by decide +kernel
theorem Rz:Cu (CI [(".0",.local),("_law_one",.local)]) (Aw HW)  ["_law_left_here","_law_far","_law_stack","_law_names_here","_law_about","_law_bases","_law_low","_law_high","_law_more","_law_low_spot","_law_turn"] ["_law_one"] [none]=true:=by decide +kernel
theorem SY:(["_law_one"]:List Str).Nodup:=by decide +kernel
theorem WO:Cu (CI [(".0",.local),("_law_one",.local)]) (Aw Hq)  ["_law_left_here","_law_stack","_law_path","_law_heads","_law_bases","_law_names_here","_law_lows","_law_highs","_law_table","_law_spots"] ["_law_one"] [none]=true:=by decide +kernel
theorem Tg:(["_law_one"]:List Str).Nodup:=by decide +kernel
theorem Th:Nc (CI [(".0",.local),("_law_j",.cell),("tuple",.globalImplicit),("_law_stack",.free)]) (Aw Hq) "_law_j" ["_law_left_here","_law_stack","_law_path","_law_heads","_law_bases","_law_names_here","_law_lows","_law_highs","_law_table","_law_spots"] ["_law_j","_law_stack"] [none,some 1]=true:=by decide +kernel
theorem Xz:(["_law_j","_law_stack"]:List Str).Nodup:=by decide +kernel
theorem WY:Cu (CI [(".0",.local),("_law_one",.local),("_law_j",.free)]) (CI [(".0",.local),("_law_j",.cell),("tuple",.globalImplicit),("_law_stack",.cell)])  ["_law_j","_law_stack"] ["_law_one","_law_j"] [none,some 0]=true:=by decide +kernel
theorem SN:(["_law_one","_law_j"]:List Str).Nodup:=by decide +kernel
theorem Ug:Cu (CI [(".0",.local),("_law_t",.local),("_law_digit",.globalImplicit),("_law_left_here",.free)]) (Aw HP)  ["_law_script","_law_first","_law_digits","_law_left_here","_law_many","_law_off","_law_sizes","_law_heads","_law_size","_law_names_here","_law_far"] ["_law_t","_law_left_here"] [none,some 3]=true:=by decide +kernel
theorem Sn:(["_law_t","_law_left_here"]:List Str).Nodup:=by decide +kernel
theorem XF:Cu (CI [(".0",.local),("_law_t",.local),("_law_name",.local),("_law_off",.free),("_law_sizes",.free)]) (Aw HP)  ["_law_script","_law_first","_law_digits","_law_left_here","_law_many","_law_off","_law_sizes","_law_heads","_law_size","_law_names_here","_law_far"] ["_law_t","_law_name","_law_off","_law_sizes"] [none,none,some 5,some 6]=true:=by decide +kernel
theorem PP:(["_law_t","_law_name","_law_off","_law_sizes"]:List Str).Nodup:=by decide +kernel
theorem Wn:Cu (CI [(".0",.local),("number",.local),("bonds",.free)]) (Aw IT)  ["program","k","l","bonds","behind","answer"] ["number","bonds"] [none,some 3]=true:=by decide +kernel
theorem Ym:(["number","bonds"]:List Str).Nodup:=by decide +kernel
theorem Wm:Cu (CI [(".0",.local),("_law_n",.local),("_law_whole",.globalImplicit)]) (Aw IL)  ["_law_found","_law_bonds","_law_bond","_law_total","_law_k"] ["_law_n"] [none]=true:=by decide +kernel
theorem XR:(["_law_n"]:List Str).Nodup:=by decide +kernel
theorem Wj:Cu (CI [(".0",.local),("_law_row_here",.local),("len",.globalImplicit),("_law_touches",.globalImplicit)]) (Aw II)  ["_law_rows_here"] ["_law_row_here"] [none]=true:=by decide +kernel
theorem Xb:(["_law_row_here"]:List Str).Nodup:=by decide +kernel
theorem Xe:Cu (CI [(".0",.local),("_law_high",.local),("int",.globalImplicit),("_law_more",.free)]) (Aw IP)  ["_law_rows_here","_law_left_here","_law_more","_law_found","_law_row_here","_law_highs"] ["_law_high","_law_more"] [none,some 2]=true:=by decide +kernel
theorem VO:(["_law_high","_law_more"]:List Str).Nodup:=by decide +kernel
theorem Yj:Cu (CI [(".0",.local),("_law_n",.local),("_law_whole",.globalImplicit)]) (Aw Ji)  ["_law_rows_here","_law_found","_law_due_here","_law_row_here","_law_lean"] ["_law_n"] [none]=true:=by decide +kernel
theorem Sy:(["_law_n"]:List Str).Nodup:=by decide +kernel
structure B4 (K:YO)(x:Str)(st:Stmt)(f:Addr)(d:FuncData):Prop where
 a:PySem.W.nsIn K mainGlobals x=some (some (.ref f))
 F:AF K x x st f d
structure Fh (K:YO)(C:Addr)(x q:Str)(st:Stmt)(f:Addr)(d:FuncData):Prop where
 a:PySem.W.findIn K (.ref C) x=some (some (.ref f))
 i:PySem.W.isFn K (.ref f)=true
 F:AF K x q st f d
structure ClA (K:YO)(C:Addr)(x:Str):Prop where
 a:PySem.W.nsIn K mainGlobals x=some (some (.ref C))
 pg:PySem.W.plainGet K C Str.empty=true
 hd:PySem.W.hasDictIn K C=true
 po:PySem.W.plainOver K C=true
 sa:PySem.W.findIn K (.ref C) "__setattr__"=some (some (.builtin "object.__setattr__"))
 mi:PySem.W.makesIn K C=true
 kc:PySem.W.keepIn K (.ref C)=true
abbrev AM (x q:Str)(st:Stmt)(ps:List Str):Prop := ∀(kV doc pm:Value) (an:Option Addr) (cdv ct:Value) (us:List Value),us.length=ps.length->bindArgs (PySem.W.fnOf x q (IC st) (HQ st) (Aw st) .none kV doc pm an cdv ct) ⟨us,[]⟩=pure (ps.zip us)
structure Ad where
 f_5:Addr
 d_5:FuncData
 f_6:Addr
 d_6:FuncData
 f_7:Addr
 d_7:FuncData
 f_8:Addr
 d_8:FuncData
 f_x:Addr
 d_x:FuncData
 f_y:Addr
 d_y:FuncData
 f_z:Addr
 d_z:FuncData
 f_A:Addr
 d_A:FuncData
 f_9:Addr
 d_9:FuncData
 f_aa:Addr
 d_aa:FuncData
 f_o:Addr
 d_o:FuncData
 f_B:Addr
 d_B:FuncData
 f_C:Addr
 d_C:FuncData
 f_D:Addr
 d_D:FuncData
 f_E:Addr
 d_E:FuncData
 f_i:Addr
 d_i:FuncData
 f_r:Addr
 d_r:FuncData
 f_F:Addr
 d_F:FuncData
 f_e:Addr
 d_e:FuncData
 f_G:Addr
 d_G:FuncData
 f_H:Addr
 d_H:FuncData
 f_I:Addr
 d_I:FuncData
 f_J:Addr
 d_J:FuncData
 f_K:Addr
 d_K:FuncData
 f_n:Addr
 d_n:FuncData
 f_L:Addr
 d_L:FuncData
 f_M:Addr
 d_M:FuncData
 f_c:Addr
 d_c:FuncData
 f_d:Addr
 d_d:FuncData
 f_p:Addr
 d_p:FuncData
 f_f:Addr
 d_f:FuncData
 f_a:Addr
 d_a:FuncData
 f_N:Addr
 d_N:FuncData
 f_s:Addr
 d_s:FuncData
 f_q:Addr
 d_q:FuncData
 f_t:Addr
 d_t:FuncData
 f_O:Addr
 d_O:FuncData
 f_P:Addr
 d_P:FuncData
 f_Q:Addr
 d_Q:FuncData
 f_R:Addr
 d_R:FuncData
 f_S:Addr
 d_S:FuncData
 f_j:Addr
 d_j:FuncData
 f_T:Addr
 d_T:FuncData
 f_k:Addr
 d_k:FuncData
 f_l:Addr
 d_l:FuncData
 f_u:Addr
 d_u:FuncData
 f_m:Addr
 d_m:FuncData
 f_b:Addr
 d_b:FuncData
 f_U:Addr
 d_U:FuncData
 f_h:Addr
 d_h:FuncData
 f_V:Addr
 d_V:FuncData
 f_W:Addr
 d_W:FuncData
 f_g:Addr
 d_g:FuncData
 f_v:Addr
 d_v:FuncData
 f_X:Addr
 d_X:FuncData
 f_Y:Addr
 d_Y:FuncData
 f_Z:Addr
 d_Z:FuncData
 f_0:Addr
 d_0:FuncData
 f_1:Addr
 d_1:FuncData
 f_2:Addr
 d_2:FuncData
 f_3:Addr
 d_3:FuncData
 f_w:Addr
 d_w:FuncData
 f_4:Addr
 d_4:FuncData
 c_Term:Addr
 c_Number:Addr
 c_Value:Addr
 c_Cell:Addr
 c_Joined:Addr
 c_Deed:Addr
 c_Program:Addr
structure Tx (K:YO)(mg:Str->Option Value)(a:Ad):Prop where
 F_5:AF K "__init__" "Number.__init__" Kt a.f_5 a.d_5
 b_5:AE K a.d_5 ["self","n"] []
 F_6:AF K "__init__" "Value.__init__" Lb a.f_6 a.d_6
 b_6:AE K a.d_6 ["self","name"] []
 F_7:AF K "__init__" "Cell.__init__" JG a.f_7 a.d_7
 b_7:AE K a.d_7 ["self","table","spots"] []
 F_8:AF K "__init__" "Joined.__init__" KN a.f_8 a.d_8
 b_8:AE K a.d_8 ["self","sign","left","right"] []
 F_x:AF K "reads" "Number.reads" Kf a.f_x a.d_x
 b_x:AE K a.d_x ["self"] []
 F_y:AF K "reads" "Value.reads" Kc a.f_y a.d_y
 b_y:AE K a.d_y ["self"] []
 F_z:AF K "reads" "Cell.reads" Ku a.f_z a.d_z
 b_z:AE K a.d_z ["self"] []
 F_A:AF K "reads" "Joined.reads" K0 a.f_A a.d_A
 b_A:AE K a.d_A ["self"] []
 F_9:AF K "__init__" "Deed.__init__" Km a.f_9 a.d_9
 b_9:AE K a.d_9 ["self","names","lows","highs","table","spots","term","path"] []
 F_aa:AF K "__init__" "Program.__init__" Ld a.f_aa a.d_aa
 b_aa:AE K a.d_aa ["self","size","deeds"] []
 F_o:AF K "shared" "shared" JM a.f_o a.d_o
 b_o:AE K a.d_o ["one","other"] []
 m_o:mg "shared"=some (.ref a.f_o)
 F_B:AF K "alike_numbers" "alike_numbers" JI a.f_B a.d_B
 b_B:AE K a.d_B ["path","other","most"] []
 m_B:mg "alike_numbers"=some (.ref a.f_B)
 F_C:AF K "settled" "settled" J0 a.f_C a.d_C
 b_C:AE K a.d_C ["count","bonds"] []
 m_C:mg "settled"=some (.ref a.f_C)
 F_D:AF K "lowered_in_a_round" "lowered_in_a_round" JL a.f_D a.d_D
 b_D:AE K a.d_D ["bonds","values","lowered_by"] []
 m_D:mg "lowered_in_a_round"=some (.ref a.f_D)
 F_E:AF K "ring_behind" "ring_behind" Lf a.f_E a.d_E
 b_E:AE K a.d_E ["count","bonds","lowered_by","lowered"] []
 m_E:mg "ring_behind"=some (.ref a.f_E)
 F_i:AF K "touches" "touches" J3 a.f_i a.d_i
 b_i:AE K a.d_i ["deed"] []
 m_i:mg "touches"=some (.ref a.f_i)
 F_r:AF K "loop_bonds" "loop_bonds" Kx a.f_r a.d_r
 b_r:AE K a.d_r ["deed","first"] []
 m_r:mg "loop_bonds"=some (.ref a.f_r)
 F_F:AF K "like_bonds" "like_bonds" JR a.f_F a.d_F
 b_F:AE K a.d_F ["spots","names","first","others","other_names","other_first"] []
 m_F:mg "like_bonds"=some (.ref a.f_F)
 F_e:AF K "unknown_of" "unknown_of" KR a.f_e a.d_e
 b_e:AE K a.d_e ["spot","names","first"] []
 m_e:mg "unknown_of"=some (.ref a.f_e)
 F_G:AF K "meets" "meets" KB a.f_G a.d_G
 b_G:AE K a.d_G ["program"] []
 m_G:mg "meets"=some (.ref a.f_G)
 F_H:AF K "all_touches" "all_touches" Kg a.f_H a.d_H
 b_H:AE K a.d_H ["program"] []
 m_H:mg "all_touches"=some (.ref a.f_H)
 F_I:AF K "cases" "cases" Kq a.f_I a.d_I
 b_I:AE K a.d_I ["program","k","l"] []
 m_I:mg "cases"=some (.ref a.f_I)
 F_J:AF K "case_bonds" "case_bonds" Kh a.f_J a.d_J
 b_J:AE K a.d_J ["program","k","a","l","b","case"] []
 m_J:mg "case_bonds"=some (.ref a.f_J)
 F_K:AF K "order_bonds" "order_bonds" Ks a.f_K a.d_K
 b_K:AE K a.d_K ["many","case","behind"] []
 m_K:mg "order_bonds"=some (.ref a.f_K)
 F_n:AF K "leanings" "leanings" K3 a.f_n a.d_n
 b_n:AE K a.d_n ["program"] []
 m_n:mg "leanings"=some (.ref a.f_n)
 F_L:AF K "cases_met" "cases_met" Ka a.f_L a.d_L
 b_L:AE K a.d_L ["program"] []
 m_L:mg "cases_met"=some (.ref a.f_L)
 F_M:AF K "answer_of" "answer_of" IT a.f_M a.d_M
 b_M:AE K a.d_M ["program","k","l","bonds"] []
 m_M:mg "answer_of"=some (.ref a.f_M)
 F_c:AF K "_law_cell" "_law_cell" KA a.f_c a.d_c
 b_c:AE K a.d_c ["_law_script","_law_k"] []
 m_c:mg "_law_cell"=some (.ref a.f_c)
 F_d:AF K "_law_whole" "_law_whole" JT a.f_d a.d_d
 b_d:AE K a.d_d ["_law_found"] []
 m_d:mg "_law_whole"=some (.ref a.f_d)
 F_p:AF K "_law_mixed" "_law_mixed" KY a.f_p a.d_p
 b_p:AE K a.d_p ["_law_cell_here","_law_k"] []
 m_p:mg "_law_mixed"=some (.ref a.f_p)
 F_f:AF K "_law_left" "_law_left" JF a.f_f a.d_f
 b_f:AE K a.d_f ["_law_cell_here","_law_k","_law_digits"] []
 m_f:mg "_law_left"=some (.ref a.f_f)
 F_a:AF K "_law_digit" "_law_digit" K9 a.f_a a.d_a
 b_a:AE K a.d_a ["_law_left_here","_law_many"] []
 m_a:mg "_law_digit"=some (.ref a.f_a)
 F_N:AF K "_law_word" "_law_word" JP a.f_N a.d_N
 b_N:AE K a.d_N ["_law_cell_here","_law_e"] []
 m_N:mg "_law_word"=some (.ref a.f_N)
 F_s:AF K "_law_names" "_law_names" Gw a.f_s a.d_s
 b_s:AE K a.d_s ["_law_left_here","_law_cell_here","_law_digits"] []
 m_s:mg "_law_names"=some (.ref a.f_s)
 F_q:AF K "_law_cell_of" "_law_cell_of" Kw a.f_q a.d_q
 b_q:AE K a.d_q ["_law_left_here","_law_bases","_law_heads"] []
 m_q:mg "_law_cell_of"=some (.ref a.f_q)
 F_t:AF K "_law_leaf" "_law_leaf" KP a.f_t a.d_t
 b_t:AE K a.d_t ["_law_left_here","_law_bases","_law_heads"] []
 m_t:mg "_law_leaf"=some (.ref a.f_t)
 F_O:AF K "_law_term" "_law_term" JV a.f_O a.d_O
 b_O:AE K a.d_O ["_law_left_here","_law_bases","_law_heads"] []
 m_O:mg "_law_term"=some (.ref a.f_O)
 F_P:AF K "_law_loop" "_law_loop" HW a.f_P a.d_P
 b_P:AE K a.d_P ["_law_left_here","_law_far","_law_stack","_law_names_here"] []
 m_P:mg "_law_loop"=some (.ref a.f_P)
 F_Q:AF K "_law_row" "_law_row" Hq a.f_Q a.d_Q
 b_Q:AE K a.d_Q ["_law_left_here","_law_stack","_law_path","_law_heads"] []
 m_Q:mg "_law_row"=some (.ref a.f_Q)
 F_R:AF K "_law_setting" "_law_setting" HP a.f_R a.d_R
 b_R:AE K a.d_R ["_law_script"] []
 m_R:mg "_law_setting"=some (.ref a.f_R)
 F_S:AF K "_law_rows" "_law_rows" Kp a.f_S a.d_S
 b_S:AE K a.d_S ["_law_script","_law_setting_here","_law_many"] []
 m_S:mg "_law_rows"=some (.ref a.f_S)
 F_j:AF K "_law_object" "_law_object" JK a.f_j a.d_j
 b_j:AE K a.d_j ["_law_term_here"] []
 m_j:mg "_law_object"=some (.ref a.f_j)
 F_T:AF K "_law_made" "_law_made" Jh a.f_T a.d_T
 b_T:AE K a.d_T ["_law_size","_law_rows_here"] []
 m_T:mg "_law_made"=some (.ref a.f_T)
 F_k:AF K "_law_around" "_law_around" KO a.f_k a.d_k
 b_k:AE K a.d_k ["_law_names_here","_law_values"] []
 m_k:mg "_law_around"=some (.ref a.f_k)
 F_l:AF K "_law_stand" "_law_stand" KF a.f_l a.d_l
 b_l:AE K a.d_l ["_law_spots","_law_around_here"] []
 m_l:mg "_law_stand"=some (.ref a.f_l)
 F_u:AF K "_law_is_turn" "_law_is_turn" Kn a.f_u a.d_u
 b_u:AE K a.d_u ["_law_turn","_law_rows_here"] []
 m_u:mg "_law_is_turn"=some (.ref a.f_u)
 F_m:AF K "_law_reads" "_law_reads" Ki a.f_m a.d_m
 b_m:AE K a.d_m ["_law_term_here"] []
 m_m:mg "_law_reads"=some (.ref a.f_m)
 F_b:AF K "_law_touches" "_law_touches" Kv a.f_b a.d_b
 b_b:AE K a.d_b ["_law_row_here"] []
 m_b:mg "_law_touches"=some (.ref a.f_b)
 F_U:AF K "_law_meets" "_law_meets" KI a.f_U a.d_U
 b_U:AE K a.d_U ["_law_rows_here"] []
 m_U:mg "_law_meets"=some (.ref a.f_U)
 F_h:AF K "_law_shared" "_law_shared" Lk a.f_h a.d_h
 b_h:AE K a.d_h ["_law_one","_law_other"] []
 m_h:mg "_law_shared"=some (.ref a.f_h)
 F_V:AF K "_law_cases" "_law_cases" Jp a.f_V a.d_V
 b_V:AE K a.d_V ["_law_rows_here","_law_k","_law_l"] []
 m_V:mg "_law_cases"=some (.ref a.f_V)
 F_W:AF K "_law_case_of" "_law_case_of" KZ a.f_W a.d_W
 b_W:AE K a.d_W ["_law_rows_here","_law_one","_law_other"] []
 m_W:mg "_law_case_of"=some (.ref a.f_W)
 F_g:AF K "_law_unknown" "_law_unknown" Ke a.f_g a.d_g
 b_g:AE K a.d_g ["_law_name","_law_names_here","_law_first"] []
 m_g:mg "_law_unknown"=some (.ref a.f_g)
 F_v:AF K "_law_loop_bonds" "_law_loop_bonds" K1 a.f_v a.d_v
 b_v:AE K a.d_v ["_law_row_here","_law_first"] []
 m_v:mg "_law_loop_bonds"=some (.ref a.f_v)
 F_X:AF K "_law_case_bonds" "_law_case_bonds" KD a.f_X a.d_X
 b_X:AE K a.d_X ["_law_rows_here","_law_k","_law_a","_law_l","_law_b","_law_case"] []
 m_X:mg "_law_case_bonds"=some (.ref a.f_X)
 F_Y:AF K "_law_round" "_law_round" IL a.f_Y a.d_Y
 b_Y:AE K a.d_Y ["_law_found","_law_bonds"] []
 m_Y:mg "_law_round"=some (.ref a.f_Y)
 F_Z:AF K "_law_pair" "_law_pair" K8 a.f_Z a.d_Z
 b_Z:AE K a.d_Z ["_law_rows_here","_law_told","_law_lean"] []
 m_Z:mg "_law_pair"=some (.ref a.f_Z)
 F_0:AF K "_law_answer" "_law_answer" Kd a.f_0 a.d_0
 b_0:AE K a.d_0 ["_law_rows_here","_law_told","_law_lean"] []
 m_0:mg "_law_answer"=some (.ref a.f_0)
 F_1:AF K "_law_short" "_law_short" II a.f_1 a.d_1
 b_1:AE K a.d_1 ["_law_rows_here"] []
 m_1:mg "_law_short"=some (.ref a.f_1)
 F_2:AF K "_law_wide" "_law_wide" IP a.f_2 a.d_2
 b_2:AE K a.d_2 ["_law_rows_here","_law_left_here"] []
 m_2:mg "_law_wide"=some (.ref a.f_2)
 F_3:AF K "_law_due" "_law_due" KG a.f_3 a.d_3
 b_3:AE K a.d_3 ["_law_rows_here"] []
 m_3:mg "_law_due"=some (.ref a.f_3)
 F_w:AF K "_law_walked" "_law_walked" Ji a.f_w a.d_w
 b_w:AE K a.d_w ["_law_rows_here","_law_found"] []
 m_w:mg "_law_walked"=some (.ref a.f_w)
 F_4:AF K "law" "law" L9 a.f_4 a.d_4
 b_4:AE K a.d_4 ["_law_script"] []
 m_4:mg "law"=some (.ref a.f_4)
 cl_Term:Dt K a.c_Term
 mc_Term:mg "Term"=some (.ref a.c_Term)
 cl_Number:Dt K a.c_Number
 mc_Number:mg "Number"=some (.ref a.c_Number)
 mk_Number:Mk K a.c_Number a.f_5
 me_Number_reads:Ie K a.c_Number "reads" a.f_x
 n_Number_n:Cw K a.c_Number "n"
 cl_Value:Dt K a.c_Value
 mc_Value:mg "Value"=some (.ref a.c_Value)
 mk_Value:Mk K a.c_Value a.f_6
 me_Value_reads:Ie K a.c_Value "reads" a.f_y
 n_Value_name:Cw K a.c_Value "name"
 cl_Cell:Dt K a.c_Cell
 mc_Cell:mg "Cell"=some (.ref a.c_Cell)
 mk_Cell:Mk K a.c_Cell a.f_7
 me_Cell_reads:Ie K a.c_Cell "reads" a.f_z
 n_Cell_table:Cw K a.c_Cell "table"
 n_Cell_spots:Cw K a.c_Cell "spots"
 cl_Joined:Dt K a.c_Joined
 mc_Joined:mg "Joined"=some (.ref a.c_Joined)
 mk_Joined:Mk K a.c_Joined a.f_8
 me_Joined_reads:Ie K a.c_Joined "reads" a.f_A
 n_Joined_sign:Cw K a.c_Joined "sign"
 n_Joined_left:Cw K a.c_Joined "left"
 n_Joined_right:Cw K a.c_Joined "right"
 cl_Deed:Dt K a.c_Deed
 mc_Deed:mg "Deed"=some (.ref a.c_Deed)
 mk_Deed:Mk K a.c_Deed a.f_9
 n_Deed_names:Cw K a.c_Deed "names"
 n_Deed_lows:Cw K a.c_Deed "lows"
 n_Deed_highs:Cw K a.c_Deed "highs"
 n_Deed_table:Cw K a.c_Deed "table"
 n_Deed_spots:Cw K a.c_Deed "spots"
 n_Deed_term:Cw K a.c_Deed "term"
 n_Deed_path:Cw K a.c_Deed "path"
 cl_Program:Dt K a.c_Program
 mc_Program:mg "Program"=some (.ref a.c_Program)
 mk_Program:Mk K a.c_Program a.f_aa
 n_Program_size:Cw K a.c_Program "size"
 n_Program_deeds:Cw K a.c_Program "deeds"
 z_bool:mg "bool"=none
 z_enumerate:mg "enumerate"=none
 z_int:mg "int"=none
 z_isinstance:mg "isinstance"=none
 z_len:mg "len"=none
 z_list:mg "list"=none
 z_min:mg "min"=none
 z_range:mg "range"=none
 z_str:mg "str"=none
 z_sum:mg "sum"=none
 z_tuple:mg "tuple"=none
 z_zip:mg "zip"=none
def CH (a:Ad):Cs:=⟨a.c_Number,a.c_Value,a.c_Cell,a.c_Joined⟩
section
variable {P:Program}{w:World}{K:YO}{mg:Str->Option Value}{base:Heap}{a:Ad}
theorem M8 (T:Tx K mg a):AB P w K mg base AI 1 a.f_d a.d_d ["_law_found"] XY:=by
 refine T.F_d.ok WX (fun vs H Q E h=>?_) (fun cdv A outer s H vs Q E hr h=>?_)
 .obtain⟨_,rfl,_⟩:=h;rfl
 obtain⟨x,rfl,hx,q⟩:=h
 refine⟨_,(Ae (Av (JH (B3 Fn (by rfl) T.z_isinstance Fm (A0 (pv 0) (A0 (Fd (v:=.ty "int") (by rfl) T.z_int Jc rfl) A2))) (MK (XM (B3 Fn (by rfl) T.z_isinstance Fm (A0 (pv 0) (A0 (Fd (v:=.ty "bool") (by rfl) T.z_bool SE rfl) A2)))))))),?_⟩
 cases x with
 |int i=>exact⟨_,rfl,_,_,_,_,_,rfl,rfl,.int i,rfl,_,rfl,_,rfl,_,_,_,_,_,rfl,rfl,.int i,rfl,_,rfl,q⟩
 |bl b=>exact⟨_,rfl,_,_,_,_,_,rfl,rfl,.bl b,rfl,_,rfl,_,rfl,_,_,_,_,_,rfl,rfl,.bl b,rfl,_,rfl,q⟩
 |non=>exact⟨_,rfl,_,_,_,_,_,rfl,rfl,.non,rfl,_,rfl,q⟩
 |str z=>exact⟨_,rfl,_,_,_,_,_,rfl,rfl,.str z,rfl,_,rfl,q⟩
 |_=>cases hx
theorem NW (T:Tx K mg a):AB P w K mg base AI 1 a.f_c a.d_c ["_law_script","_law_k"] (QK K):=by
 refine T.F_c.ok Mz (fun vs H Q E h=>?_) (fun cdv A outer s H vs Q E hr h=>?_)
 .obtain⟨_,_,_,rfl,_⟩:=h;rfl
 obtain⟨p,ns,k,rfl,hS,h0,h1,q⟩:=h
 refine⟨_,(A8 (Be (AZ Ea (pv 1) (B3 Bp (by rfl) T.z_len Bo (A0 (pv 0) A2)) (AR _))
  (Ae (Av (A7 AH (pv 0) (pv 1) (fun _ _=>rfl))))
  Bj)
  (A8 (Ai (i:=2) Mz.nd rfl (.inl rfl) (Ah B2 (Ah Di (pv 1) A1) A1))
  (A8 (Be (AZ FR (B3 Bp (by rfl) T.z_len Bo (A0 (pv 0) A2)) A1 (AR _))
  (Ae (Ai (i:=2) Mz.nd rfl (.inl rfl) (Ah E1 (Ah B2 (Ah Di (A7 AH (pv 0) (Ah E1 (Ah Di (pv 1) A1) (B3 Bp (by rfl) T.z_len Bo (A0 (pv 0) A2))) (fun _ _=>rfl)) A1) (Ah Di (pv 1) A1)) A1)))
  Bj)
  (Ae (Av (Ah E1 (Ah Di (pv 2) (pv 2)) A1)))))),?_⟩
 have hl:(ns.map V.int).length=ns.length:=Aq _
 have p64:(2:Int) ^ 64=18446744073709551616:=by decide
 refine⟨_,rfl,_,rfl,p,_,rfl,.inl hS,_,_,rfl,rfl,_,rfl,?_⟩
 unfold Nb at q
 refine Cf (fun c=>?_) (fun c=>?_)
 .have c':=dT c
  rw[hl]at c'
  rw[Ax c']at q
  exact⟨_,rfl,_,rfl,p,_,_,_,rfl,rfl,hS,FD h0 c',q⟩
 have c':=dF c
 rw[hl]at c'
 rw[As c']at q
 refine⟨_,rfl,_,_,rfl,rfl,.inr ⟨by decide,by decide⟩,_,_,rfl,rfl,?_⟩
 refine⟨_,rfl,p,_,rfl,.inl hS,_,_,rfl,rfl,_,rfl,?_⟩
 refine Cf (fun c2=>?_) (fun c2=>?_)
 .have c2:=dT c2
  rw[Ax (by rw[hl]at c2;lia)]at q
  have m0:=FJ (k*7) (show((ns.map V.int).length:Int)≠0 by lia)
  have m1:=FK (k*7) c2
  refine⟨_,rfl,_,rfl,_,_,rfl,rfl,.inr ⟨by decide,by decide⟩,_,rfl,p,_,rfl,.inl hS,_,_,rfl,rfl,c2,?_⟩
  refine⟨p,_,_,_,rfl,rfl,hS,FD m0 (by rw[hl]at m1 ⊢;exact m1),_,_,rfl,rfl,.inr ⟨by decide,by decide⟩,_,rfl,_,_,rfl,rfl,.inr ⟨by decide,by decide⟩,_,_,rfl,rfl,_,_,rfl,rfl,(by show(0:Int)<2147483647;decide),?_⟩
  have b0:=FJ (ns.getD (k*7%((ns.map V.int).length:Int)).toNat 0*48271+k*7919) (show(2147483647:Int)≠0 by decide)
  have b1:=FK (ns.getD (k*7%((ns.map V.int).length:Int)).toNat 0*48271+k*7919) (show(0:Int)<2147483647 by decide)
  exact⟨_,rfl,_,rfl,_,_,rfl,rfl,.inl ⟨by lia,by lia⟩,_,_,rfl,rfl,(by show(0:Int)<2147483629;decide),by rw[hl];exact q⟩
 .have c2:=dF c2
  rw[As (by rw[hl]at c2;lia)]at q
  exact⟨_,rfl,_,rfl,_,_,rfl,rfl,.inl ⟨by lia,by lia⟩,_,_,rfl,rfl,(by show(0:Int)<2147483629;decide),q⟩
theorem Pt (T:Tx K mg a):AB P w K mg base AI 1 a.f_p a.d_p ["_law_cell_here","_law_k"] XU:=by
 refine T.F_p.ok Md (fun vs H Q E h=>?_) (fun cdv A outer s H vs Q E hr h=>?_)
 .obtain⟨_,_,rfl,_⟩:=h;rfl
 obtain⟨c,k,rfl,q⟩:=h
 refine⟨_,(A8 (Ai (i:=2) Md.nd rfl (.inl rfl) (Ah E1 (Ah Di (Ah B2 (Ah B2 (pv 0) (Ah Di A1 (pv 1))) A1) A1) A1))
  (A8 (Ai (i:=2) Md.nd rfl (.inl rfl) (Ah E1 (Ah Di (pv 2) (pv 2)) A1))
  (Ae (Av (Ah E1 (Ah Di (Ah B2 (pv 2) A1) (Ah B2 (pv 2) A1)) A1))))),?_⟩
 have p64:(2:Int) ^ 64=18446744073709551616:=by decide
 have b0:=FJ ((c+7919*k+1)*48271) (show(2147483647:Int)≠0 by decide)
 have b1:=FK ((c+7919*k+1)*48271) (show(0:Int)<2147483647 by decide)
 refine⟨_,rfl,_,rfl,_,_,rfl,rfl,.inl ⟨by decide,by decide⟩,_,_,rfl,rfl,_,_,rfl,rfl,_,_,rfl,rfl,.inr ⟨by decide,by decide⟩,_,_,rfl,rfl,(by show(0:Int)<2147483647;decide),?_⟩
 dsimp only[Ag]
 refine⟨_,rfl,_,rfl,_,_,rfl,rfl,.inl ⟨by lia,by lia⟩,_,_,rfl,rfl,(by show(0:Int)<2147483629;decide),?_⟩
 dsimp only[Ag]
 obtain⟨m0,m1⟩:=Xr c k
 unfold Fj at q
 have em:Ig c k=((c+7919*k+1)*48271%2147483647)*((c+7919*k+1)*48271%2147483647)%2147483629:=rfl
 rw[←em]
 generalize Ig c k=m at m0 m1 q
 exact⟨_,rfl,_,_,rfl,rfl,_,rfl,_,_,rfl,rfl,_,_,rfl,rfl,.inl ⟨by lia,by lia⟩,_,_,rfl,rfl,(by show(0:Int)<2147483579;decide),q⟩
theorem OO (T:Tx K mg a):AB P w K mg base AI 2 a.f_f a.d_f ["_law_cell_here","_law_k","_law_digits"] UR:=by
 have G_p :=@Pt P w K mg base a T
 refine T.F_f.ok La (fun vs H Q E h=>?_) (fun cdv A outer s H vs Q E hr h=>?_)
 .obtain⟨_,_,_,rfl,_⟩:=h;rfl
 obtain⟨c,k,d,rfl,q⟩:=h
 refine⟨_,(A8 (Be (Cv (pv 2))
  (Ae (Av (B9 (A0 (pv 0) A2))))
  Bj)
  (A8 (Ai (i:=3) La.nd rfl (.inl rfl) A1)
  (A8 (Br PassesOwn.never rfl (Ce (by rfl) T.z_range (A0 A1 A2)) (Al (i:=4) La.nd rfl (.inl rfl))
  (Ae (Ai (i:=3) La.nd rfl (.inl rfl) (Ah B2 (Ah Di (pv 3) A1) (Aj G_p (hr.mono (by lia)) (by rfl) T.m_p T.F_p.kp T.b_p .nil Af (A0 (pv 0) (A0 (Ah B2 (Ah Di A1 (pv 4)) (pv 1)) A2)))))))
  (Ae (Av (B9 (A0 (pv 3) A2))))))),?_⟩
 have p64:(2:Int) ^ 64=18446744073709551616:=by decide
 refine⟨_,rfl,_,rfl,Cf (fun c1=>?_) (fun c1=>?_)⟩
 .exact⟨_,rfl,Ak rfl,fun r hr=>q r _ (Aa hr _) hr ⟨_,A6⟩⟩
 refine IY ?_
 refine⟨9,rfl,by decide,by decide,?_⟩
 refine CN (lo:=0) (n:=9) (fun i σ' H'=>H'=H/\∃(n:Int) (o4:Option V),σ'=[some (.int c),some (.int k),some (.bl d),some (.int n),o4]) ⟨rfl,_,_,rfl⟩ (fun i σ' H' hi pp=>?_) (fun σ' H' pp=>?_)
 .obtain⟨rfl,n,o4,rfl⟩:=pp
  dsimp only[Ag]
  exact⟨_,rfl,_,_,rfl,rfl,.inr ⟨by decide,by decide⟩,_,rfl,_,rfl,_,_,rfl,rfl,.inl ⟨by decide,by decide⟩,_,rfl,_,_,rfl,rfl,c,_,rfl,_,_,rfl,rfl,rfl,_,_,rfl⟩
 .obtain⟨rfl,n,o4,rfl⟩:=pp
  exact⟨_,rfl,Ak rfl,fun r hr=>q r _ (Aa hr _) hr ⟨_,A6⟩⟩
theorem FO (T:Tx K mg a):AB P w K mg base AI 1 a.f_a a.d_a ["_law_left_here","_law_many"] TZ:=by
 refine T.F_a.ok PH (fun vs H Q E h=>?_) (fun cdv A outer s H vs Q E hr h=>?_)
 .obtain⟨_,_,rfl,_⟩:=h;rfl
 obtain⟨lf,m,rfl,⟨n,hl⟩,m0,m1,q⟩:=h
 refine⟨_,(A8 (Ai (i:=2) PH.nd rfl (.inl rfl) (Ah E1 (A7 AH (pv 0) A1 (fun _ _=>rfl)) (pv 1)))
  (A8 (Ep (Ah Yd (A7 AH (pv 0) A1 (fun _ _=>rfl)) (pv 1)) (LH (pv 0) A1 LR))
  (Ae (Av (pv 2))))),?_⟩
 refine⟨_,rfl,lf,_,0,_,rfl,rfl,A5.of hl,rfl,_,rfl,_,_,rfl,rfl,m0,?_⟩
 dsimp only[Ag]
 refine⟨_,rfl,lf,_,0,_,rfl,rfl,A5.of hl,rfl,_,rfl,_,_,rfl,rfl,⟨m0,m1⟩,_,rfl,lf,_,0,0,rfl,rfl,hl,rfl,?_⟩
 exact⟨_,rfl,q _ _ Bt.put ⟨n/m,A6⟩ (FJ _ (by lia)) (FK _ m0)⟩
theorem SK (T:Tx K mg a):AB P w K mg base AI 2 a.f_N a.d_N ["_law_cell_here","_law_e"] Xi:=by
 have G_p :=@Pt P w K mg base a T
 refine T.F_N.ok F9 (fun vs H Q E h=>?_) (fun cdv A outer s H vs Q E hr h=>?_)
 .obtain⟨_,_,rfl,_⟩:=h;rfl
 obtain⟨c,e,rfl,e0,e1,q⟩:=h
 refine⟨_,(A8 (Ai (i:=2) F9.nd rfl (.inl rfl) BD)
  (A8 (Ai (i:=3) F9.nd rfl (.inl rfl) (Aj G_p (hr.mono (by lia)) (by rfl) T.m_p T.F_p.kp T.b_p .nil Af (A0 (pv 0) (A0 A1 A2))))
  (A8 (Ai (i:=4) F9.nd rfl (.inl rfl) BD)
  (A8 (Br PassesOwn.never rfl (Ce (by rfl) T.z_range (A0 (Ah E1 (pv 3) A1) A2)) (Al (i:=5) F9.nd rfl (.inl rfl))
  (Ae (Ai (i:=4) F9.nd rfl (.inl rfl) (Ah Jj (pv 4) (A7 K7 (pv 2) (Ah E1 (Ah Hn (pv 3) (Ah B2 (pv 5) A1)) A1) (fun _ _=>rfl))))))
  (A8 (Ai (i:=6) F9.nd rfl (.inl rfl) (Ah E1 (Ah Hn (pv 3) A1) (Ah B2 (B3 YF (by rfl) T.z_len Bo (A0 (pv 4) A2)) A1)))
  (A8 (Ai (i:=7) F9.nd rfl (.inl rfl) (Ah Jj (Ah Jj (Ds Mn (pv 4) DH (D9 (pv 6))) (A7 K7 (pv 2) (Ah E1 (Ah B2 (Ah Hn (pv 3) A1) (Ah Di A1 (pv 1))) A1) (fun _ _=>rfl))) (Ds Mn (pv 4) (D9 (pv 6)) DH)))
  (A8 (Be (AZ Cm (Ah E1 (Ah Hn (pv 3) A1) A1) A1 (AR _))
  (Ae (Ai (i:=7) F9.nd rfl (.inl rfl) (Ds Mn (Ah Jj (pv 4) BD) DH (D9 (Ah B2 A1 (pv 1))))))
  Bj)
  (A8 (Be (AZ LS (pv 7) (BB (Ab BD (Ab BD (Ab BD Bm B7) B7) B7)) (by with_unfolding_all rfl))
  (Ae (Ai (i:=7) F9.nd rfl (.inl rfl) (Ah Jj (pv 7) BD)))
  Bj)
  (Ae (Av (pv 7))))))))))),?_⟩
 refine⟨_,rfl,c,11,rfl,?_⟩
 obtain⟨m0,m1⟩:=YG c 11
 generalize Fj c 11=m at q m0 m1 ⊢
 have l0:=FJ m (show(8:Int)≠0 by decide)
 have l1:=FK m (show(0:Int)<8 by decide)
 dsimp only[Ag]
 refine⟨_,rfl,_,_,rfl,rfl,(by show(0:Int)<8;decide),m%8,rfl,by lia,by lia,?_⟩
 have hL:=Mf m
 refine CN (lo:=0) (n:=BZ m) (fun i σ' H'=>H'=H/\∃o5 o6 o7,σ'=[some (.int c),some (.int e),some (.str DI),some (.int m),some (.str (Bn (CQ m i))),o5,o6,o7]) ⟨rfl,_,_,_,rfl⟩ (fun i σ' H' hi p=>?_) (fun σ' H' p=>?_)
 .obtain⟨rfl,o5,o6,o7,rfl⟩:=p
  have e0':(0:Int)+(i:Int)=(i:Int):=by lia
  rw[e0']
  refine⟨_,rfl,_,rfl,_,rfl,_,rfl,_,_,rfl,rfl,_,_,rfl,rfl,⟨(by show(0:Int)<(i:Int)+9;lia),(by show(i:Int)+9<1073741824;lia)⟩,_,_,rfl,rfl,(by show(0:Int)<26;decide),_,_,_,rfl,rfl,Kj,N0 _,_,_,rfl,rfl,?_,?_⟩
  .rw[Hg,GD];exact Bc (by show i+1<=1000000;lia)
  have eW:Bn (CQ m i)++(⟨#[FW (m/((i:Int)+9))]⟩:Str)=Bn (CQ m (i+1)):=J6 (by
   rw[GS,CZ,CZ]
   unfold CQ
   rw[FL,Bq]
   rfl)
  exact⟨rfl,_,_,_,congrArg (fun z=>[some (V.int c),some (.int e),some (.str DI),some (.int m),some (.str z),some (.int (i:Int)),o6,o7]) eW⟩
 obtain⟨rfl,o5,o6,o7,rfl⟩:=p
 have wl:(Bn (CQ m (BZ m))).length=BZ m:=by rw[Hg,GD]
 obtain⟨a0,a1⟩:=LW m
 refine⟨_,rfl,_,_,rfl,rfl,⟨by decide,by decide⟩,_,rfl,_,rfl,?_⟩
 rw[wl]
 refine⟨Bc (by lia),_,_,rfl,rfl,_,_,rfl,rfl,(by show(0:Int)<(BZ m:Int)+1;lia),?_⟩
 dsimp only[Ag]
 rw[←a1]
 have hc:=GD m (BZ m)
 refine⟨_,rfl,_,rfl,_,rfl,_,rfl,Bc (by lia),_,rfl,_,rfl,_,_,rfl,rfl,⟨by decide,by decide⟩,_,rfl,_,_,rfl,rfl,.inl ⟨by decide,by decide⟩,_,_,rfl,rfl,_,_,rfl,rfl,(by show(0:Int)<26;decide),_,_,_,rfl,rfl,Kj,N0 _,_,_,rfl,rfl,?_,?_⟩
 .rw[Hg,CZ,IX _ (by lia)]
  exact Bc (by rw[Bg];show _+1<=1000000;lia)
 refine⟨_,rfl,_,rfl,_,rfl,_,rfl,Bc (by lia),?_⟩
 rw[CZ,IX _ (by lia),OY _ (by lia)]
 have eA:Bn ((CQ m (BZ m)).take ((E9 m:Nat):Int).toNat)++(⟨#[FW (m/72+5*e)]⟩:Str)++Bn ((CQ m (BZ m)).drop ((E9 m:Nat):Int).toNat)=Bn (GL m e):=J6 (by rw[GS,GS,CZ,CZ,CZ];rfl)
 refine⟨_,_,rfl,rfl,?_,?_⟩
 .rw[Ph,Hg,Hg,Bg,Il]
  exact Bc (by show _+1+_<=1000000;lia)
 rw[eA]
 dsimp only[Ag]
 refine ED (fun σ2 H2=>H2=H'/\∃o5 o6,σ2=[some (.int c),some (.int e),some (.str DI),some (.int m),some (.str (Bn (CQ m (BZ m)))),o5,o6,some (.str (Bn (Cj m e)))]) (fun σ2 H2 mm=>?_) (fun rest=>?_)
 .obtain⟨rfl,o5,o6,rfl⟩:=mm
  have rb:=Qc (m:=m) e0 e1
  refine ED (fun σ3 H3=>A9 H2 H3/\∃o5 o6,σ3=[some (.int c),some (.int e),some (.str DI),some (.int m),some (.str (Bn (CQ m (BZ m)))),o5,o6,some (.str (Bn (DD m e)))]) (fun σ3 H3 mm=>?_) (fun rest=>?_)
  .obtain⟨e3,o5,o6,rfl⟩:=mm
   exact⟨_,rfl,q _ e3⟩
  .refine⟨_,rfl,Ak rfl,fun tp htp=>?_⟩
   refine⟨tp,[.str "for",.str "end",.str "size"],rfl,.inr (A3.of A6),rfl,rfl,_,rfl,?_⟩
   show if GA (V.str (Bn (Cj m e))) [.str "for",.str "end",.str "size"]=true then _ else _
   rw[U0]
   refine Cf (fun cc=>?_) (fun cc=>?_)
   .refine⟨_,rfl,_,_,rfl,rfl,?_,?_⟩
    .have hz2:(Str.ofString "s").length=1:=by decide +kernel
     rw[Hg,hz2]
     exact Bc (by lia)
    .have ee:Bn (Cj m e)++Str.ofString "s"=Bn (DD m e):=J6 (by
      rw[GS,CZ,CZ]
      unfold DD
      rw[Ax (dT cc)]
      congr 1)
     exact rest _ _ ⟨Aa htp _,o5,o6,congrArg (fun z=>[some (V.int c),some (.int e),some (.str DI),some (.int m),some (.str (Bn (CQ m (BZ m)))),o5,o6,some (.str z)]) ee⟩
   .have ee:Bn (Cj m e)=Bn (DD m e):=by
     unfold DD
     rw[As (dF cc)]
    exact rest _ _ ⟨Aa htp _,o5,o6,congrArg (fun z=>[some (V.int c),some (.int e),some (.str DI),some (.int m),some (.str (Bn (CQ m (BZ m)))),o5,o6,some (.str z)]) ee⟩
 .refine⟨_,rfl,_,_,rfl,rfl,⟨by decide,by decide⟩,_,_,rfl,rfl,(by show(0:Int)<4;decide),rfl,_,rfl,?_⟩
  have key:(V.int (m/5003%4)=V.int 1)↔m/5003%4=1:=⟨fun e=>V.int.inj e,fun e=>by rw[e]⟩
  refine Cf (fun cc=>?_) (fun cc=>?_)
  .have c2:=key.mp (dT cc)
   refine⟨_,rfl,_,_,rfl,rfl,?_,?_⟩
   .have hz:(Str.ofString "qrstuvwx").length=8:=by decide +kernel
    rw[wl,hz]
    exact Bc (by lia)
   refine⟨_,rfl,_,_,rfl,rfl,_,rfl,_,rfl,?_,?_⟩
   .rw[Ph,wl]
    have hz:(Str.ofString "qrstuvwx").length=8:=by decide +kernel
    rw[hz]
    exact Bc (by lia)
   have ee:Bn (F3 (AS (Bn (CQ m (BZ m))++Str.ofString "qrstuvwx")) none (some (5+e)))=Bn (Cj m e):=by
    rw[GS,CZ,IX _ (by lia)]
    unfold Cj
    rw[Ax c2]
    rfl
   exact rest _ _ ⟨rfl,_,_,congrArg (fun z=>[some (V.int c),some (.int e),some (.str DI),some (.int m),some (.str (Bn (CQ m (BZ m)))),o5,some (V.int (E9 m:Int)),some (.str z)]) ee⟩
  .have c2:=fun z=>dF cc (key.mpr z)
   have ee:Bn (GL m e)=Bn (Cj m e):=by
    unfold Cj
    rw[As c2]
   exact rest _ _ ⟨rfl,_,_,congrArg (fun z=>[some (V.int c),some (.int e),some (.str DI),some (.int m),some (.str (Bn (CQ m (BZ m)))),o5,some (V.int (E9 m:Int)),some (.str z)]) ee⟩
theorem RV (T:Tx K mg a):AB P w K mg base AI 1 a.f_5 a.d_5 ["self","n"] (K5 a.c_Number ["n"]):=by
 refine T.F_5.ok Wq (fun vs H Q E h=>?_) (fun cdv A outer s H vs Q E hr h=>?_)
 .obtain⟨_,_,vs,rfl,hl,_⟩:=h;rw[C9,hl];rfl
 obtain⟨x,dx,vs,rfl,hl,hx,q⟩:=h
 obtain⟨n,rfl⟩:∃n,vs=[n]:=by match vs,hl with|[n],_=>exact⟨n,rfl⟩
 refine⟨_,(Ae (Dv (pv 0) (pv 1) rfl)),?_⟩
 exact⟨_,rfl,_,rfl,x,_,dx,_,rfl,hx,T.cl_Number,T.n_Number_n,(by show 0<1000;decide),q _ (fun b o e hb=>by rw[Am hb];exact e) ⟨dx,A6⟩⟩
theorem T8 (T:Tx K mg a):AB P w K mg base AI 1 a.f_6 a.d_6 ["self","name"] (K5 a.c_Value ["name"]):=by
 refine T.F_6.ok WZ (fun vs H Q E h=>?_) (fun cdv A outer s H vs Q E hr h=>?_)
 .obtain⟨_,_,vs,rfl,hl,_⟩:=h;rw[C9,hl];rfl
 obtain⟨x,dx,vs,rfl,hl,hx,q⟩:=h
 obtain⟨n,rfl⟩:∃n,vs=[n]:=by match vs,hl with|[n],_=>exact⟨n,rfl⟩
 refine⟨_,(Ae (Dv (pv 0) (pv 1) rfl)),?_⟩
 exact⟨_,rfl,_,rfl,x,_,dx,_,rfl,hx,T.cl_Value,T.n_Value_name,(by show 0<1000;decide),q _ (fun b o e hb=>by rw[Am hb];exact e) ⟨dx,A6⟩⟩
theorem VD (T:Tx K mg a):AB P w K mg base AI 1 a.f_7 a.d_7 ["self","table","spots"] (K5 a.c_Cell ["table","spots"]):=by
 refine T.F_7.ok XA (fun vs H Q E h=>?_) (fun cdv A outer s H vs Q E hr h=>?_)
 .obtain⟨_,_,vs,rfl,hl,_⟩:=h;rw[C9,hl];rfl
 obtain⟨x,dx,vs,rfl,hl,hx,q⟩:=h
 obtain⟨n,m,rfl⟩:∃n m,vs=[n,m]:=by match vs,hl with|[n,m],_=>exact⟨n,m,rfl⟩
 refine⟨_,(A8 (Dv (pv 0) (pv 1) rfl)
  (Ae (Dv (pv 0) (pv 2) rfl))),?_⟩
 refine⟨_,rfl,_,rfl,x,_,dx,_,rfl,hx,T.cl_Cell,T.n_Cell_table,(by show 0<1000;decide),?_⟩
 refine⟨_,rfl,_,rfl,x,_,dx,_,rfl,A6,T.cl_Cell,T.n_Cell_spots,(by show 1<1000;decide),?_⟩
 exact q _ (fun b o e hb=>by
   repeat rw[Am hb]
   exact e) ⟨dx,A6⟩
theorem Si (T:Tx K mg a):AB P w K mg base AI 1 a.f_8 a.d_8 ["self","sign","left","right"] (K5 a.c_Joined ["sign","left","right"]):=by
 refine T.F_8.ok Rv (fun vs H Q E h=>?_) (fun cdv A outer s H vs Q E hr h=>?_)
 .obtain⟨_,_,vs,rfl,hl,_⟩:=h;rw[C9,hl];rfl
 obtain⟨x,dx,vs,rfl,hl,hx,q⟩:=h
 obtain⟨n,m,o,rfl⟩:∃n m o,vs=[n,m,o]:=by match vs,hl with|[n,m,o],_=>exact⟨n,m,o,rfl⟩
 refine⟨_,(A8 (Dv (pv 0) (pv 1) rfl)
  (A8 (Dv (pv 0) (pv 2) rfl)
  (Ae (Dv (pv 0) (pv 3) rfl)))),?_⟩
 refine⟨_,rfl,_,rfl,x,_,dx,_,rfl,hx,T.cl_Joined,T.n_Joined_sign,(by show 0<1000;decide),?_⟩
 refine⟨_,rfl,_,rfl,x,_,dx,_,rfl,A6,T.cl_Joined,T.n_Joined_left,(by show 1<1000;decide),?_⟩
 refine⟨_,rfl,_,rfl,x,_,dx,_,rfl,A6,T.cl_Joined,T.n_Joined_right,(by show 2<1000;decide),?_⟩
 exact q _ (fun b o e hb=>by
   repeat rw[Am hb]
   exact e) ⟨dx,A6⟩
theorem Oc (T:Tx K mg a):AB P w K mg base AI 1 a.f_x a.d_x ["self"] Kk:=by
 refine T.F_x.ok Wx (fun vs H Q E h=>?_) (fun cdv A outer s H vs Q E hr h=>?_)
 .obtain⟨_,rfl,_⟩:=h;rfl
 obtain⟨x,rfl,q⟩:=h
 refine⟨_,(Ae (Av (B9 A2))),?_⟩
 exact⟨Ak rfl,fun r hr=>q r _ (Aa hr _) A6⟩
theorem OP (T:Tx K mg a):AB P w K mg base AI 1 a.f_y a.d_y ["self"] Kk:=by
 refine T.F_y.ok Wl (fun vs H Q E h=>?_) (fun cdv A outer s H vs Q E hr h=>?_)
 .obtain⟨_,rfl,_⟩:=h;rfl
 obtain⟨x,rfl,q⟩:=h
 refine⟨_,(Ae (Av (B9 A2))),?_⟩
 exact⟨Ak rfl,fun r hr=>q r _ (Aa hr _) A6⟩
theorem Q9 (T:Tx K mg a):AB P w K mg base AI 1 a.f_z a.d_z ["self"] (OE a.c_Cell):=by
 refine T.F_z.ok Ww (fun vs H Q E h=>?_) (fun cdv A outer s H vs Q E hr h=>?_)
 .obtain⟨_,_,_,_,rfl,_⟩:=h;rfl
 obtain⟨x,dx,z,v,rfl,hx,q⟩:=h
 refine⟨_,(Ae (Av (B9 (A0 (CM (A0 (Bx (pv 0) rfl) (A0 (Bx (pv 0) rfl) A2))) A2)))),?_⟩
 refine⟨_,rfl,x,_,dx,_,_,rfl,hx,T.cl_Cell,T.n_Cell_table,rfl,_,rfl,x,_,dx,_,_,rfl,hx,T.cl_Cell,T.n_Cell_spots,rfl,Ak rfl,fun t ht=>⟨Ak rfl,fun r hr=>?_⟩⟩
 exact q t r _ ((Aa ht _).trans (Aa hr _)) (Aa hr _ _ _ A6) A6
theorem Od (T:Tx K mg a):∀n:Nat,AB P w K mg base AI (n+1) a.f_A a.d_A ["self"] (Mp (CH a) n)
 |
  0=>by
  have no:∀vs H Q E,¬Mp (CH a) 0 vs H Q E:=fun vs H Q E h=>by
   obtain⟨_,_,_,_,_,m,k,_,_,_,_,h1,h2,hn,_⟩:=h
   have:=h1.pos;have:=h2.pos
   lia
  exact⟨fun vs H Q E h=>absurd h (no vs H Q E),fun A outer s H args us vs Q E _ _ _ _ h=>absurd h (no vs H Q E)⟩
 |
  n+1=>by
  have G_x :=@Oc P w K mg base a T
  have G_y :=@OP P w K mg base a T
  have G_z :=@Q9 P w K mg base a T
  have G_A:=Od T n
  refine T.F_A.ok Y2 (fun vs H Q E h=>?_) (fun cdv A outer s H vs Q E hr h=>?_)
  .obtain⟨_,_,_,_,_,_,_,_,_,rfl,_⟩:=h;rfl
  obtain⟨x,dx,z,l,r,m,k,ts,us,rfl,hx,h1,h2,hn,hb,q⟩:=h
  refine⟨_,(Ae (Av (Ah Dl (FA (Es (Bx (pv 0) rfl) T.cl_Number T.me_Number_reads G_x (hr.mono (by lia)) T.b_x .nil Af) (FA (Es (Bx (pv 0) rfl) T.cl_Value T.me_Value_reads G_y (hr.mono (by lia)) T.b_y .nil Af) (FA (Es (Bx (pv 0) rfl) T.cl_Cell T.me_Cell_reads G_z (hr.mono (by lia)) T.b_z .nil Af) (Es (Bx (pv 0) rfl) T.cl_Joined T.me_Joined_reads G_A (hr.mono (by lia)) T.b_A .nil Af)))) (FA (Es (Bx (pv 0) rfl) T.cl_Number T.me_Number_reads G_x (hr.mono (by lia)) T.b_x .nil Af) (FA (Es (Bx (pv 0) rfl) T.cl_Value T.me_Value_reads G_y (hr.mono (by lia)) T.b_y .nil Af) (FA (Es (Bx (pv 0) rfl) T.cl_Cell T.me_Cell_reads G_z (hr.mono (by lia)) T.b_z .nil Af) (Es (Bx (pv 0) rfl) T.cl_Joined T.me_Joined_reads G_A (hr.mono (by lia)) T.b_A .nil Af))))))),?_⟩
  have p1:=h1.pos
  have p2:=h2.pos
  refine Nd (c:=CH a) (n:=n) (v:=l) (fun R hR=>⟨_,rfl,x,_,dx,_,_,rfl,hx,T.cl_Joined,T.n_Joined_left,rfl,hR⟩) h1 (by lia) (by lia) (fun a1 ys1 H1 e1 g1 t1=>?_)
  refine Nd (c:=CH a) (n:=n) (v:=r) (fun R hR=>⟨_,rfl,x,_,dx,_,_,rfl,e1 _ _ hx,T.cl_Joined,T.n_Joined_right,rfl,hR⟩) (h2.over e1) (by lia) (by lia) (fun a2 ys2 H2 e2 g2 t2=>?_)
  have l1:=t1.1
  have l2:=t2.1
  refine⟨a1,a2,ys1,ys2,rfl,rfl,e2 _ _ g1,g2,Bc (by lia),fun p hp=>?_⟩
  exact q p _ _ ((e1.trans e2).trans (Aa hp _)) A6 (((t1.over e2).app t2).over (Aa hp _))
theorem V0 (T:Tx K mg a):AB P w K mg base AI 1 a.f_9 a.d_9 ["self","names","lows","highs","table","spots","term","path"] (RG a.c_Deed):=by
 refine T.F_9.ok VJ (fun vs H Q E h=>?_) (fun cdv A outer s H vs Q E hr h=>?_)
 .obtain⟨_,_,_,_,_,_,_,_,_,rfl,_⟩:=h;rfl
 obtain⟨x,dx,v1,v2,v3,v4,v5,v6,v7,rfl,hx,q⟩:=h
 refine⟨_,(A8 (Dv (pv 0) (pv 1) rfl)
  (A8 (Dv (pv 0) (pv 2) rfl)
  (A8 (Dv (pv 0) (pv 3) rfl)
  (A8 (Dv (pv 0) (pv 4) rfl)
  (A8 (Dv (pv 0) (pv 5) rfl)
  (A8 (Dv (pv 0) (pv 6) rfl)
  (Ae (Dv (pv 0) (pv 7) rfl)))))))),?_⟩
 refine⟨_,rfl,_,rfl,x,_,dx,_,rfl,hx,T.cl_Deed,T.n_Deed_names,(by show 0<1000;decide),?_⟩
 refine⟨_,rfl,_,rfl,x,_,dx,_,rfl,A6,T.cl_Deed,T.n_Deed_lows,(by show 1<1000;decide),?_⟩
 refine⟨_,rfl,_,rfl,x,_,dx,_,rfl,A6,T.cl_Deed,T.n_Deed_highs,(by show 2<1000;decide),?_⟩
 refine⟨_,rfl,_,rfl,x,_,dx,_,rfl,A6,T.cl_Deed,T.n_Deed_table,(by show 3<1000;decide),?_⟩
 refine⟨_,rfl,_,rfl,x,_,dx,_,rfl,A6,T.cl_Deed,T.n_Deed_spots,(by show 4<1000;decide),?_⟩
 refine⟨_,rfl,_,rfl,x,_,dx,_,rfl,A6,T.cl_Deed,T.n_Deed_term,(by show 5<1000;decide),?_⟩
 refine⟨_,rfl,_,rfl,x,_,dx,_,rfl,A6,T.cl_Deed,T.n_Deed_path,(by show 6<1000;decide),?_⟩
 exact q _ (fun b o e hb=>by
   repeat rw[Am hb]
   exact e) ⟨dx,A6⟩
theorem Vo (T:Tx K mg a):AB P w K mg base AI 1 a.f_aa a.d_aa ["self","size","deeds"] (X0 K a.c_Program):=by
 refine T.F_aa.ok Wr (fun vs H Q E h=>?_) (fun cdv A outer s H vs Q E hr h=>?_)
 .obtain⟨_,_,_,_,_,rfl,_⟩:=h;rfl
 obtain⟨x,dx,sz,p,ys,rfl,hx,hp,q⟩:=h
 refine⟨_,(A8 (Dv (pv 0) (pv 1) rfl)
  (Ae (Dv (pv 0) (Ec O6 (by rfl) T.z_list J4 (A0 (pv 2) A2)) rfl))),?_⟩
 refine⟨_,rfl,_,rfl,x,_,dx,_,rfl,hx,T.cl_Program,T.n_Program_size,(by show 0<1000;decide),?_⟩
 refine⟨_,rfl,p,ys,rfl,.inl (A5.updI hp hx),fun l hl=>?_⟩
 have nxl:x≠l:=fun e=>by rw[e,A6]at hl;cases hl
 have hlH:H l=none:=by rw[Am (Ne.symm nxl)]at hl;exact hl
 refine⟨_,rfl,x,_,dx,_,rfl,(by rw[Am nxl];exact A6),T.cl_Program,T.n_Program_deeds,(by show 1<1000;decide),?_⟩
 refine q l _ hlH (fun b o e hb=>?_) ?_ ⟨dx,A6⟩
 .rw[Am hb,Am (AC e hlH),Am hb]
  exact e
 .rw[Am (Ne.symm nxl)]
  exact A6
theorem P9 (T:Tx K mg a):∀n:Nat,AB P w K mg base AI (n+2) a.f_j a.d_j ["_law_term_here"] (OV (CH a) n)
 |
  0=>by
  have no:∀vs H Q E,¬OV (CH a) 0 vs H Q E:=fun vs H Q E h=>by
   obtain⟨x,m,rs,_,hm,tm,_⟩:=h
   have:=tm.pos
   lia
  exact⟨fun vs H Q E h=>absurd h (no vs H Q E),fun A outer s H args us vs Q E _ _ _ _ h=>absurd h (no vs H Q E)⟩
 |
  n+1=>by
  have G_5 :=@RV P w K mg base a T
  have G_6 :=@T8 P w K mg base a T
  have G_7 :=@VD P w K mg base a T
  have G_8 :=@Si P w K mg base a T
  have G_j:=P9 T n
  refine T.F_j.ok U4 (fun vs H Q E h=>?_) (fun cdv A outer s H vs Q E hr h=>?_)
  .obtain⟨_,_,_,rfl,_⟩:=h;rfl
  obtain⟨x,m,rs,rfl,hm,tm,q⟩:=h
  refine⟨_,(A8 (Be (AZ Cm (A7 Ac (pv 0) A1 (fun _ _=>rfl)) BD (AR _))
  (Ae (Av (I0 T.mk_Number G_5 (hr.mono (by lia)) (by rfl) T.mc_Number T.b_5 .nil Af (A0 (A7 Ac (pv 0) A1 (fun _ _=>rfl)) A2))))
  Bj)
  (A8 (Be (AZ Cm (A7 Ac (pv 0) A1 (fun _ _=>rfl)) BD (AR _))
  (Ae (Av (I0 T.mk_Value G_6 (hr.mono (by lia)) (by rfl) T.mc_Value T.b_6 .nil Af (A0 (A7 Ac (pv 0) A1 (fun _ _=>rfl)) A2))))
  Bj)
  (A8 (Be (AZ Cm (A7 Ac (pv 0) A1 (fun _ _=>rfl)) BD (AR _))
  (Ae (Av (I0 T.mk_Cell G_7 (hr.mono (by lia)) (by rfl) T.mc_Cell T.b_7 .nil Af (A0 (A7 Ac (pv 0) A1 (fun _ _=>rfl)) (A0 (A7 Ac (pv 0) A1 (fun _ _=>rfl)) A2)))))
  Bj)
  (Ae (Av (I0 T.mk_Joined G_8 (hr.mono (by lia)) (by rfl) T.mc_Joined T.b_8 .nil Af (A0 (A7 Ac (pv 0) A1 (fun _ _=>rfl)) (A0 (Aj G_j (hr.mono (by lia)) (by rfl) T.m_j T.F_j.kp T.b_j .nil Af (A0 (A7 Ac (pv 0) A1 (fun _ _=>rfl)) A2)) (A0 (Aj G_j (hr.mono (by lia)) (by rfl) T.m_j T.F_j.kp T.b_j .nil Af (A0 (A7 Ac (pv 0) A1 (fun _ _=>rfl)) A2)) A2))))))))),?_⟩
  cases tm with
  |
   @n t i h=>
   refine⟨_,rfl,t,_,0,_,rfl,rfl,A3.of h,rfl,rfl,_,rfl,AG (v:=true) (B6 rfl) (BE ?_)⟩
   refine⟨_,rfl,t,_,1,_,rfl,rfl,A3.of h,rfl,fun x dx nx ndx ne=>⟨x,dx,[_],rfl,rfl,A6,fun H2 k2 hx2=>⟨rfl,?_⟩⟩⟩
   obtain⟨dx2,hx2⟩:=hx2
   exact q _ _ (Hs nx ndx k2) (.num i hx2)
  |
   @v t z h=>
   refine⟨_,rfl,t,_,0,_,rfl,rfl,A3.of h,rfl,rfl,_,rfl,AG (v:=false) (dS (by decide +kernel)) (AO ?_)⟩
   refine⟨_,rfl,t,_,0,_,rfl,rfl,A3.of h,rfl,rfl,_,rfl,AG (v:=true) (B6 rfl) (BE ?_)⟩
   refine⟨_,rfl,t,_,1,_,rfl,rfl,A3.of h,rfl,fun x dx nx ndx ne=>⟨x,dx,[_],rfl,rfl,A6,fun H2 k2 hx2=>⟨rfl,?_⟩⟩⟩
   obtain⟨dx2,hx2⟩:=hx2
   exact q _ _ (Hs nx ndx k2) (.val z hx2)
  |
   @c t p z h hsp=>
   refine⟨_,rfl,t,_,0,_,rfl,rfl,A3.of h,rfl,rfl,_,rfl,AG (v:=false) (dS (by decide +kernel)) (AO ?_)⟩
   refine⟨_,rfl,t,_,0,_,rfl,rfl,A3.of h,rfl,rfl,_,rfl,AG (v:=false) (dS (by decide +kernel)) (AO ?_)⟩
   refine⟨_,rfl,t,_,0,_,rfl,rfl,A3.of h,rfl,rfl,_,rfl,AG (v:=true) (B6 rfl) (BE ?_)⟩
   refine⟨_,rfl,t,_,1,_,rfl,rfl,A3.of h,rfl,_,rfl,t,_,2,_,rfl,rfl,A3.of h,rfl,fun x dx nx ndx ne=>⟨x,dx,[_,_],rfl,rfl,A6,fun H2 k2 hx2=>⟨rfl,?_⟩⟩⟩
   obtain⟨dx2,hx2⟩:=hx2
   exact q _ _ (Hs nx ndx k2) (.cel z hx2)
  |
   @j t l r m1 m2 rs us z hz h tl tr=>
   obtain⟨z1,z2,z3⟩:=Q1 hz
   have:=tl.pos
   have:=tr.pos
   refine⟨_,rfl,t,_,0,_,rfl,rfl,A3.of h,rfl,rfl,_,rfl,AG (v:=false) (dS z1) (AO ?_)⟩
   refine⟨_,rfl,t,_,0,_,rfl,rfl,A3.of h,rfl,rfl,_,rfl,AG (v:=false) (dS z2) (AO ?_)⟩
   refine⟨_,rfl,t,_,0,_,rfl,rfl,A3.of h,rfl,rfl,_,rfl,AG (v:=false) (dS z3) (AO ?_)⟩
   refine⟨_,rfl,t,_,0,_,rfl,rfl,A3.of h,rfl,_,rfl,t,_,1,_,rfl,rfl,A3.of h,rfl,l,m1,rs,rfl,by lia,tl,fun y1 H1 e1 o1=>?_⟩
   refine⟨_,rfl,t,_,2,_,rfl,rfl,A3.of (e1 _ _ h),rfl,r,m2,us,rfl,by lia,tr.over e1,fun y2 H2 e2 o2=>?_⟩
   refine fun x dx nx ndx ne=>⟨x,dx,[_,_,_],rfl,rfl,A6,fun H3 k3 hx3=>⟨rfl,?_⟩⟩
   obtain⟨dx3,hx3⟩:=hx3
   have e3:=Hs nx ndx k3
   refine q _ _ (e1.trans (e2.trans e3)) ?_
   exact .joi z hx3 ((o1.over e2).over e3) (o2.over e3)
theorem Pc (T:Tx K mg a):∀n:Nat,AB P w K mg base AI (n+1) a.f_m a.d_m ["_law_term_here"] (Pn n)
 |
  0=>by
  have no:∀vs H Q E,¬Pn 0 vs H Q E:=fun vs H Q E h=>by
   obtain⟨x,m,rs,_,hm,_,tm,_⟩:=h
   have:=tm.pos
   lia
  exact⟨fun vs H Q E h=>absurd h (no vs H Q E),fun A outer s H args us vs Q E _ _ _ _ h=>absurd h (no vs H Q E)⟩
 |
  n+1=>by
  have G_m:=Pc T n
  refine T.F_m.ok Ws (fun vs H Q E h=>?_) (fun cdv A outer s H vs Q E hr h=>?_)
  .obtain⟨_,_,_,rfl,_⟩:=h;rfl
  obtain⟨x,m,rs,rfl,hm,hk,tm,q⟩:=h
  refine⟨_,(A8 (Be (AZ Cm (A7 Ac (pv 0) A1 (fun _ _=>rfl)) BD (AR _))
  (Ae (Av (B9 (A0 (BB (Ab CS (Ab (A7 Ac (pv 0) A1 (fun _ _=>rfl)) (Ab (A7 Ac (pv 0) A1 (fun _ _=>rfl)) Bm Ed) Ed) B7)) A2))))
  Bj)
  (A8 (Be (PW.pt (Cy (AZ Cm (A7 Ac (pv 0) A1 (fun _ _=>rfl)) BD (AR _)) (DL (AZ Cm (A7 Ac (pv 0) A1 (fun _ _=>rfl)) BD (AR _)))))
  (Ae (Av (B9 A2)))
  Bj)
  (Ae (Av (Ah Dl (Aj G_m (hr.mono (by lia)) (by rfl) T.m_m T.F_m.kp T.b_m .nil Af (A0 (A7 Ac (pv 0) A1 (fun _ _=>rfl)) A2)) (Aj G_m (hr.mono (by lia)) (by rfl) T.m_m T.F_m.kp T.b_m .nil Af (A0 (A7 Ac (pv 0) A1 (fun _ _=>rfl)) A2))))))),?_⟩
  cases tm with
  |
   @n t i h=>
   refine⟨_,rfl,t,_,0,_,rfl,rfl,A3.of h,rfl,rfl,_,rfl,AG (v:=false) (dS (by decide +kernel)) (AO ?_)⟩
   refine⟨_,rfl,t,_,0,_,rfl,rfl,A3.of h,rfl,rfl,_,rfl,AG (v:=true) (B6 rfl) (BE (BE ?_))⟩
   exact⟨Ak rfl,fun l hl=>q l _ [] (Aa hl _) A6 .nil⟩
  |
   @v t z h=>
   refine⟨_,rfl,t,_,0,_,rfl,rfl,A3.of h,rfl,rfl,_,rfl,AG (v:=false) (dS (by decide +kernel)) (AO ?_)⟩
   refine⟨_,rfl,t,_,0,_,rfl,rfl,A3.of h,rfl,rfl,_,rfl,AG (v:=false) (dS (by decide +kernel)) (AO ?_)⟩
   refine⟨_,rfl,t,_,0,_,rfl,rfl,A3.of h,rfl,rfl,_,rfl,AG (v:=true) (B6 rfl) (BE ?_)⟩
   exact⟨Ak rfl,fun l hl=>q l _ [] (Aa hl _) A6 .nil⟩
  |
   @c t p z h hsp=>
   refine⟨_,rfl,t,_,0,_,rfl,rfl,A3.of h,rfl,rfl,_,rfl,AG (v:=true) (B6 rfl) (BE ?_)⟩
   refine⟨_,rfl,t,_,1,_,rfl,rfl,A3.of h,rfl,_,rfl,t,_,2,_,rfl,rfl,A3.of h,rfl,Ak rfl,fun t2 ht2=>⟨Ak rfl,fun l hl=>?_⟩⟩
   have s1:=Aa ht2 (.tup [V.bl false,V.str z,V.ref p])
   have s2:=Aa hl (.lst [V.ref t2])
   exact q l _ [.ref t2] (s1.trans s2) A6 (.one (r:=(z,p)) (s2 _ _ A6))
  |
   @j t l r m1 m2 rs us z hz h tl tr=>
   obtain⟨z1,z2,z3⟩:=Q1 hz
   have:=tl.pos
   have:=tr.pos
   refine⟨_,rfl,t,_,0,_,rfl,rfl,A3.of h,rfl,rfl,_,rfl,AG (v:=false) (dS z3) (AO ?_)⟩
   refine⟨_,rfl,t,_,0,_,rfl,rfl,A3.of h,rfl,rfl,_,rfl,AG (v:=false) (dS z1) (AO ?_)⟩
   refine⟨_,rfl,t,_,0,_,rfl,rfl,A3.of h,rfl,rfl,_,rfl,AG (v:=false) (dS z2) (AO ?_)⟩
   refine⟨_,rfl,t,_,1,_,rfl,rfl,A3.of h,rfl,l,m1,rs,rfl,by lia,by lia,tl,fun l1 H1 xs1 e1 g1 o1=>?_⟩
   refine⟨_,rfl,t,_,2,_,rfl,rfl,A3.of (e1 _ _ h),rfl,r,m2,us,rfl,by lia,by lia,tr.over e1,fun l2 H2 xs2 e2 g2 o2=>?_⟩
   have k1:=o1.1
   have k2:=o2.1
   refine⟨l1,l2,_,_,rfl,rfl,e2 _ _ g1,g2,Bc (by lia),fun p hp=>?_⟩
   have s3:=Aa hp (.lst (xs1++xs2))
   exact q p _ _ (e1.trans (e2.trans s3)) A6 (((o1.over e2).app o2).over s3)
theorem Q0 (T:Tx K mg a):AB P w K mg base AI 102 a.f_i a.d_i ["deed"] (SA (CH a) a.c_Deed):=by
 have G_x :=@Oc P w K mg base a T
 have G_y :=@OP P w K mg base a T
 have G_z :=@Q9 P w K mg base a T
 have G_A :=@Od P w K mg base a T 100
 refine T.F_i.ok Ov (fun vs H Q E h=>?_) (fun cdv A outer s H vs Q E hr h=>?_)
 .obtain⟨_,_,_,_,_,rfl,_⟩:=h;rfl
 obtain⟨v,z,p,m,rs,rfl,⟨d,dx,v1,v2,v3,x,v7,rfl,hd,hto⟩,hm,q⟩:=h
 refine⟨_,(A8 (JJ (i:=1) ["table","spots"] [none,none] Ov.nd rfl (.inl rfl) (by rfl) (CK (FA (Es (Bx (pv 0) rfl) T.cl_Number T.me_Number_reads G_x (hr.mono (by lia)) T.b_x .nil Af) (FA (Es (Bx (pv 0) rfl) T.cl_Value T.me_Value_reads G_y (hr.mono (by lia)) T.b_y .nil Af) (FA (Es (Bx (pv 0) rfl) T.cl_Cell T.me_Cell_reads G_z (hr.mono (by lia)) T.b_z .nil Af) (Es (Bx (pv 0) rfl) T.cl_Joined T.me_Joined_reads G_A (hr.mono (by lia)) T.b_A .nil Af))))) Xl (fun _ _ _ _ _ _=>⟨(show PG _ _ (N2 K 2 _) from(BY rfl (AA (Al (i:=0) NH rfl (.inl rfl)) (AA (Al (i:=1) NH rfl (.inl rfl)) BS)))),DP,(BB (Ab CS (Ab (pv 0) (Ab (pv 1) Bm AK) AK) B7))⟩))
  (Ae (Av (Ah Dl (B9 (A0 (BB (Ab CS (Ab (Bx (pv 0) rfl) (Ab (Bx (pv 0) rfl) Bm O0) O0) B7)) A2)) (pv 1))))),?_⟩
 refine Nd (c:=CH a) (n:=100) (v:=x) (fun R hR=>⟨_,rfl,d,_,dx,_,_,rfl,hd,T.cl_Deed,T.n_Deed_term,rfl,hR⟩) hto (by lia) (by lia) (fun a1 ys1 H1 e1 g1 t1=>?_)
 refine⟨a1,rfl,⟨_,A5.of g1⟩,?_⟩
 have l1:=t1.1
 have hp:=hto.pos
 refine XG (xs:=ys1) (fun i ys H'=>A9 H1 H'/\D8 H' (Mo false) ys (rs.take i)) ⟨A9.refl _,.nil⟩ (Bc (by lia)) (fun i ys H' hi pp=>⟨A5.of (pp.1 _ _ g1),by rw[pp.2.1,Bg];lia⟩) (fun i y ys H' hy pp=>?_) (fun ys H' pp r hr'=>?_)
 .obtain⟨e2,hR⟩:=pp
  have hi:i<rs.length:=by have:=(AX.mp hy).1;lia
  have er:rs[i]?=some rs[i]:=AL hi
  obtain⟨t,rfl,ht⟩:=t1.2 i y _ hy er
  refine⟨t,_,rfl,A3.of (e2 _ _ ht),rfl,_,_,rfl,_,_,rfl,rfl,Py (ρ:=[]) _ _,?_⟩
  refine⟨_,rfl,_,rfl,Ak rfl,fun t2 ht2=>?_⟩
  have s3:=Aa ht2 (.tup [V.bl false,.str rs[i].1,.ref rs[i].2])
  refine⟨e2.trans s3,?_⟩
  rw[CJ er]
  exact(hR.over s3).app (.one A6)
 obtain⟨e2,hR⟩:=pp
 rw[l1,DS]at hR
 have s3:=Aa hr' (.lst ys)
 have e3:=e1.trans (e2.trans s3)
 have hd3:=e3 _ _ hd
 have hl3:=hR.1
 dsimp only[Ag]
 refine⟨_,rfl,d,_,dx,_,_,rfl,hd3,T.cl_Deed,T.n_Deed_table,rfl,_,rfl,d,_,dx,_,_,rfl,hd3,T.cl_Deed,T.n_Deed_spots,rfl,Ak rfl,fun t5 ht5=>⟨Ak rfl,fun l5 hl5=>?_⟩⟩
 have s5:=Aa ht5 (.tup [V.bl true,.str z,.ref p])
 have s6:=Aa hl5 (.lst [V.ref t5])
 refine⟨_,rfl,l5,r,_,_,rfl,rfl,A6,s6 _ _ (s5 _ _ A6),Bc (by simp only[BI];lia),fun l7 hl7=>?_⟩
 have s7:=Aa hl7 (.lst ([V.ref t5]++ys))
 have e57:=s5.trans (s6.trans s7)
 refine q l7 _ (e3.trans e57) ((e3.trans (s5.trans s6)).free hl7) ⟨t5,ys,A6,s7 _ _ (s6 _ _ A6),hR.over (s3.trans e57)⟩
theorem XB (T:Tx K mg a):AB P w K mg base AI 103 a.f_T a.d_T ["_law_size","_law_rows_here"] (Vt a.c_Program a.c_Deed (CH a)):=by
 have G_9 :=@V0 P w K mg base a T
 have G_aa :=@Vo P w K mg base a T
 have G_j :=@P9 P w K mg base a T 100
 refine T.F_T.ok NY (fun vs H Q E h=>?_) (fun cdv A outer s H vs Q E hr h=>?_)
 .obtain⟨_,_,_,_,rfl,_⟩:=h;rfl
 obtain⟨n,l,Rs,M,rfl,⟨xs,hl,ax⟩,n6,ok,q⟩:=h
 refine⟨_,(A8 (JJ (i:=2) ["_law_row_here"] [none] NY.nd rfl (.inl rfl) (by rfl) (CK (pv 1)) U9 (fun _ _ _ _ _ _=>⟨(Al (i:=0) Rj rfl (.inl rfl)),DP,(I0 T.mk_Deed G_9 (hr.mono (by lia)) (by rfl) T.mc_Deed T.b_9 .nil Af (A0 (A7 (show Cn _ (CY K) from Ac) (pv 0) A1 (fun _ _=>rfl)) (A0 (A7 (show Cn _ (CY K) from Ac) (pv 0) A1 (fun _ _=>rfl)) (A0 (A7 (show Cn _ (CY K) from Ac) (pv 0) A1 (fun _ _=>rfl)) (A0 (A7 (show Cn _ (CY K) from Ac) (pv 0) A1 (fun _ _=>rfl)) (A0 (A7 (show Cn _ (CY K) from Ac) (pv 0) A1 (fun _ _=>rfl)) (A0 (Aj G_j (hr.mono (by lia)) (by rfl) T.m_j T.F_j.kp T.b_j .nil Af (A0 (A7 (show Cn _ (CY K) from Ac) (pv 0) A1 (fun _ _=>rfl)) A2)) (A0 (A7 (show Cn _ (CY K) from Ac) (pv 0) A1 (fun _ _=>rfl)) A2))))))))⟩))
  (Ae (Av (I0 T.mk_Program G_aa (hr.mono (by lia)) (by rfl) T.mc_Program T.b_aa .nil Af (A0 (pv 0) (A0 (pv 2) A2)))))),?_⟩
 have xl:=ax.1
 refine⟨_,rfl,l,rfl,⟨_,A5.of hl⟩,?_⟩
 refine G5 (xs:=xs) (fun i ys H'=>A9 H H'/\Ar (Dx (CH a) a.c_Deed H') ys (Rs.take i)) ⟨A9.refl _,.nil⟩ (Bc (by lia)) (fun i ys H' hi pp=>⟨A5.of (pp.1 _ _ hl),by rw[pp.2.1,Bg];lia⟩) (fun i x ys H' hx pp=>?_) (fun ys H' pp dl hdl=>?_)
 .obtain⟨e,ay⟩:=pp
  obtain⟨R,hR,⟨r,u1,u2,u3,u4,x,ls,hs,rfl,hr1,hu1,hu2,als,hu3,ahs,hu4,tm⟩,_⟩:=ax.get' hx
  have rok:=ok R (Bh hR)
  have hr1':=e _ _ hr1
  refine⟨_,rfl,r,_,0,_,rfl,rfl,A3.of hr1',rfl,_,rfl,r,_,1,_,rfl,rfl,A3.of hr1',rfl,_,rfl,r,_,2,_,rfl,rfl,A3.of hr1',rfl,_,rfl,r,_,3,_,rfl,rfl,A3.of hr1',rfl,_,rfl,r,_,4,_,rfl,rfl,A3.of hr1',rfl,_,rfl,r,_,5,_,rfl,rfl,A3.of hr1',rfl,?_⟩
  refine⟨x,R.m,R.rs,rfl,by lia,tm.over e,fun y H2 e2 to=>?_⟩
  refine⟨_,rfl,r,_,6,_,rfl,rfl,A3.of (e2 _ _ hr1'),rfl,?_⟩
  intro d dd hd hdd hne2
  refine⟨d,dd,_,_,_,_,_,_,_,rfl,A6,fun HB kB hdB=>⟨rfl,?_⟩⟩
  obtain⟨dxB,hdB⟩:=hdB
  have eAB:=Hs hd hdd kB
  have eB:=e2.trans eAB
  refine⟨e.trans eB,?_⟩
  rw[CJ hR]
  exact(ay.mono fun _ _ z=>z.over eB).snoc ⟨d,dxB,u1,u2,u3,u4,y,ls,hs,rfl,hdB,eB _ _ (e _ _ hu1),eB _ _ (e _ _ hu2),als.mono fun _ _ z=>z.tk (A9.tk (e.trans eB)),eB _ _ (e _ _ hu3),ahs.mono fun _ _ z=>z.tk (A9.tk (e.trans eB)),eB _ _ (e _ _ hu4),to.over eAB⟩
 obtain⟨e,ay⟩:=pp
 rw[EZ (by lia)]at ay
 have s1:=Aa hdl (.lst ys)
 have hdl1:(upd H' dl (.lst ys)) dl=some (.lst ys):=A6
 have dl0:=e.free hdl
 dsimp only[Ag]
 generalize upd H' dl (.lst ys)=H1 at s1 hdl1
 refine⟨_,rfl,_,rfl,?_⟩
 intro x dx hx hdx hxd
 have ntx:dl≠x:=AC hdl1 hx
 have ntd:dl≠dx:=AC hdl1 hdx
 refine⟨x,dx,_,dl,ys,rfl,A6,A5.of (by rw[Am ntx,Am ntd];exact hdl1),fun d5 H6 hd5 k6 hd6 hx6=>⟨rfl,?_⟩⟩
 obtain⟨dx6,hx6⟩:=hx6
 have e6:=Hs hx hdx k6
 exact q x dx6 d5 ys H6 (e.trans (s1.trans e6)) hx6 hd6 (ay.mono fun _ _ z=>z.over (s1.trans e6))
theorem KM (T:Tx K mg a):AB P w K mg base AI 103 a.f_b a.d_b ["_law_row_here"] XI:=by
 have G_m :=@Pc P w K mg base a T 100
 refine T.F_b.ok RW (fun vs H Q E h=>?_) (fun cdv A outer s H vs Q E hr h=>?_)
 .obtain⟨_,_,rfl,_⟩:=h;rfl
 obtain⟨v,R,rfl,⟨r,u1,u4,v1,v2,x,ys,rfl,hr1,hu1,yl,_,hu4,tm⟩,hm,q⟩:=h
 refine⟨_,(Ae (Av (Ah Dl (B9 (A0 (BB (Ab CS (Ab (A7 Ac (pv 0) A1 (fun _ _=>rfl)) (Ab (A7 Ac (pv 0) A1 (fun _ _=>rfl)) Bm Ed) Ed) B7)) A2)) (Aj G_m (hr.mono (by lia)) (by rfl) T.m_m T.F_m.kp T.b_m .nil Af (A0 (A7 Ac (pv 0) A1 (fun _ _=>rfl)) A2))))),?_⟩
 refine⟨_,rfl,r,_,3,_,rfl,rfl,A3.of hr1,rfl,_,rfl,r,_,4,_,rfl,rfl,A3.of hr1,rfl,Ak rfl,fun t ht=>⟨Ak rfl,fun l hl=>?_⟩⟩
 have s1:=Aa ht (.tup [V.bl true,.str R.z,.ref R.p])
 have s2:=Aa hl (.lst [V.ref t])
 have e2:=s1.trans s2
 refine⟨_,rfl,r,_,5,_,rfl,rfl,A3.of (e2 _ _ hr1),rfl,x,R.m,R.rs,rfl,hm,by lia,tm.over e2,fun l2 H3 zs e3 hl2 rd=>?_⟩
 have zl:=rd.1
 have rl:=tm.pos.2.1
 refine⟨l,l2,_,_,rfl,rfl,e3 _ _ A6,hl2,Bc (by simp only[BI];lia),fun l4 hl4=>?_⟩
 have s4:=Aa hl4 (.lst ([V.ref t]++zs))
 have ht4:=(s2.trans (e3.trans s4)) _ _ (show(upd H t (.tup [V.bl true,.str R.z,.ref R.p])) t=_ from A6)
 exact q l4 _ (e2.trans (e3.trans s4)) ((e2.trans e3).free hl4) ⟨t,zs,A6,ht4,rd.over s4⟩
theorem X2 (T:Tx K mg a):AB P w K mg base AI 104 a.f_U a.d_U ["_law_rows_here"] WQ:=by
 have G_b :=@KM P w K mg base a T
 refine T.F_U.ok Ey (fun vs H Q E h=>?_) (fun cdv A outer s H vs Q E hr h=>?_)
 .obtain⟨_,_,rfl,_⟩:=h;rfl
 obtain⟨l,Rs,rfl,⟨xs,hl,ax⟩,ok,n6,q⟩:=h
 refine⟨_,(A8 (Ai (i:=1) Ey.nd rfl (.inl rfl) (B9 A2))
  (A8 (Br PassesOwn.never rfl (Ce (by rfl) T.z_range (A0 (B3 Bp (by rfl) T.z_len Bo (A0 (pv 0) A2)) A2)) (Al (i:=2) Ey.nd rfl (.inl rfl))
  (Ae (Br PassesOwn.never rfl (IJ (by rfl) T.z_enumerate (A0 (Aj G_b (hr.mono (by lia)) (by rfl) T.m_b T.F_b.kp T.b_b .nil Af (A0 (A7 AH (pv 0) (pv 2) (fun _ _=>rfl)) A2)) A2)) (BY rfl (AA (Al (i:=3) Ey.nd rfl (.inl rfl)) (AA (Al (i:=4) Ey.nd rfl (.inl rfl)) BS)))
  (Ae (BP (BR BX Cq Cr Ca (pv 1) (A0 (BB (Ab (pv 2) (Ab (pv 3) (Ab (pv 4) Bm AK) AK) AK)) A2)))))))
  (A8 (Ai (i:=5) Ey.nd rfl (.inl rfl) (B9 A2))
  (A8 (Br PassesOwn.never rfl (CK (pv 1)) (BY rfl (AA (Al (i:=2) Ey.nd rfl (.inl rfl)) (AA (Al (i:=3) Ey.nd rfl (.inl rfl)) (AA (Al (i:=6) Ey.nd rfl (.inl rfl)) BS))))
  (Ae (Br PassesOwn.never rfl (CK (pv 1)) (BY rfl (AA (Al (i:=7) Ey.nd rfl (.inl rfl)) (AA (Al (i:=8) Ey.nd rfl (.inl rfl)) (AA (Al (i:=9) Ey.nd rfl (.inl rfl)) BS))))
  (Ae (Be (PW.pt (FS (AZ Cm (A7 Ac (pv 6) A1 (fun _ _=>rfl)) (A7 Ac (pv 9) A1 (fun _ _=>rfl)) (AR _)) (HJ (PW.pt (Cy (Cv (A7 Ac (pv 6) A1 (fun _ _=>rfl))) (DL (Cv (A7 Ac (pv 9) A1 (fun _ _=>rfl)))))))))
  (Ae (BP (BR BX Cq Cr Ca (pv 5) (A0 (BB (Ab (pv 2) (Ab (pv 3) (Ab (pv 7) (Ab (pv 8) Bm AK) AK) AK) AK)) A2))))
  Bj)))))
  (Ae (Av (pv 5))))))),?_⟩
 have xl:=ax.1
 refine⟨Ak rfl,fun to hto0=>?_⟩
 have e1:=Aa hto0 (.lst [])
 have hto1:(upd H to (.lst [])) to=some (.lst []):=A6
 dsimp only[Ag]
 generalize upd H to (.lst [])=H0 at e1 hto1
 refine ED (fun σ' H'=>∃(ys:List V) (o2 o3 o4:Option V),σ'=[some (.ref l),some (.ref to),o2,o3,o4,none,none,none,none,none]/\A9 H H'/\H' to=some (.lst ys)/\Ar (EE H') ys (Ba Rs)) (fun σ' H1 pp=>?_) (fun nx=>?_)
 rotate_left
 .refine⟨_,rfl,l,_,rfl,.inl (A5.of (e1 _ _ hl)),_,rfl,by lia,by lia,?_⟩
  rw[Em]
  refine CN (lo:=0) (n:=xs.length) (fun i σ' H'=>∃(ys:List V) (o2 o3 o4:Option V),σ'=[some (.ref l),some (.ref to),o2,o3,o4,none,none,none,none,none]/\A9 H H'/\H' to=some (.lst ys)/\Ar (EE H') ys (Ba (Rs.take i))) ⟨[],_,_,_,rfl,e1,hto1,.nil⟩ (fun i σ' H' hi pp=>?_) (fun σ' H' pp=>?_)
  rotate_left
  .obtain⟨ys,o2,o3,o4,rfl,e,hy,ay⟩:=pp
   rw[EZ (by lia)]at ay
   exact nx _ _ ⟨ys,_,_,_,rfl,e,hy,ay⟩
  obtain⟨ys,o2,o3,o4,rfl,e,hys,ay⟩:=pp
  have hR:Rs[i]?=some (Rs[i]'(by lia)):=AL (by lia)
  generalize Rs[i]'(by lia)=R at hR
  obtain⟨y,hy,r5⟩:=ax.get hR
  have rok:=ok R (Bh hR)
  have il:i<Rs.length:=(AX.mp hR).1
  rw[En]
  refine⟨_,rfl,_,rfl,l,_,_,_,rfl,rfl,A5.of (e _ _ hl),By hy,y,R,rfl,r5.over e,by have:=rok.ms;lia,fun tr H3 e3 htr0 tch=>?_⟩
  obtain⟨ts,hts,ath⟩:=PF tch
  have tsl:=ath.1
  have tll:=Ms rok
  have hys3:=e3 _ _ hys
  have ay3:=ay.mono fun _ _ z=>z.over e3
  have pl:=Gz (Rs:=Rs.take i) (fun R hR=>ok R (Jz hR)) (by rw[Bg];lia)
  have nlf:tr≠to:=fun z=>by rw[z,hys]at htr0;cases htr0
  refine⟨tr,rfl,⟨_,A5.of hts⟩,?_⟩
  refine Lc (xs:=ts) (fun j σ' H4=>∃(zs:List V) (o3 o4:Option V),σ'=[some (.ref l),some (.ref to),some (.int (i:Int)),o3,o4,none,none,none,none,none]/\(∀b o,b≠to->H3 b=some o->H4 b=some o)/\H4 to=some (.lst zs)/\Ar (EE H4) zs (Ba (Rs.take i)++Pm.tk3 i 0 ((D6 R).take j))) ⟨ys,_,_,rfl,fun _ _ _ h=>h,hys3,by show Ar _ _ (_++[]);rw[DA];exact ay3⟩ (fun j σ' H4 _ pp=>by obtain⟨_,_,_,_,k4,_⟩:=pp;exact A5.of (k4 _ _ nlf hts)) (fun j y2 Tt2 σ' H4 hy2 pp hT2=>?_) (fun σ' H4 pp=>?_)
  .obtain⟨zs,o4,o5,rfl,k4,hzs,az⟩:=pp
   obtain⟨tb,htb,u,p,rfl,hu⟩:=ath.get' hy2
   have jl:j<(D6 R).length:=(AX.mp htb).1
   have nu:u≠to:=fun z=>by rw[z,hys3]at hu;cases hu
   have hu4:=k4 _ _ nu hu
   have sT2:=Aa hT2 (.tup [V.int (j:Int),V.ref u])
   refine⟨Tt2,_,rfl,A3.of A6,rfl,_,_,rfl,_,_,rfl,rfl,?_⟩
   refine⟨_,rfl,.inl ⟨rfl,_,A5.of (sT2 _ _ hzs)⟩,_,rfl,_,rfl,_,rfl,Ak rfl,fun r hr=>?_⟩
   have s6:=Aa hr (.tup [V.int (i:Int),V.int (j:Int),V.ref u])
   have e6:=sT2.trans s6
   have hz6:=e6 _ _ hzs
   have zl:=az.1
   rw[Az,Pm.tk3_len,Bg]at zl
   refine⟨to,_,_,rfl,rfl,hz6,C5 (by lia),?_⟩
   have tk:=TK.upd (o:=.lst (zs++[V.ref r])) hz6
   refine⟨zs++[.ref r],_,_,rfl,fun b o hb h=>by rw[Am hb];exact e6 _ _ (k4 b o hb h),A6,?_⟩
   rw[CJ htb,Pm.tk3_snoc,←DR]
   refine(az.mono fun _ _ z=>(z.over e6).tk tk).snoc ⟨r,u,p,rfl,?_,tk _ _ (e6 _ _ hu4)⟩
   rw[Bg,EY (EG jl),GY]
   exact tk _ _ A6
  .obtain⟨zs,o4,o5,rfl,k4,hzs,az⟩:=pp
   rw[tsl,DS]at az
   refine⟨zs,_,_,_,rfl,fun b o hb=>k4 _ _ (AC hb hto0) (e3 _ _ (e _ _ hb)),hzs,?_⟩
   show Ar _ _ (Pm.all3 0 ((Rs.take (i+1)).map D6))
   rw[CJ hR,Bq]
   show Ar _ _ (Pm.all3 0 ((Rs.take i).map D6++[D6 R]))
   rw[Pm.all3_snoc,Aq,Bg,EY (EG il),GY]
   exact az
 obtain⟨ys,o2,o3,o4,rfl,e1',hto,at1⟩:=pp
 refine⟨Ak rfl,fun fo hfo=>?_⟩
 have e2:=Aa hfo (.lst [])
 have hfo2:(upd H1 fo (.lst [])) fo=some (.lst []):=A6
 dsimp only[Ag]
 generalize upd H1 fo (.lst [])=H2 at e2 hfo2
 have tl:=Gz ok n6
 have ysl:=at1.1
 have nyf:to≠fo:=AC hto hfo
 refine⟨_,rfl,to,rfl,⟨_,A5.of (e2 _ _ hto)⟩,?_⟩
 refine EU (xs:=ys) (fun i σ' H'=>∃(zs:List V) (q2 q3 q4 q6 q7 q8 q9:Option V),σ'=[some (.ref l),some (.ref to),q2,q3,q4,some (.ref fo),q6,q7,q8,q9]/\A9 H1 H'/\H' fo=some (.lst zs)/\Ar (Ei H') zs (Pm.mtF ((Ba Rs).take i) (Ba Rs))) ⟨[],_,_,_,_,_,_,_,rfl,e2,hfo2,.nil⟩ (fun i σ' H' _ pp=>by obtain⟨_,_,_,_,_,_,_,_,_,e,_⟩:=pp;exact A5.of (e _ _ hto)) (fun i y σ' H' hy pp=>?_) (fun σ' H' pp=>?_)
 rotate_left
 .obtain⟨zs,q2,q3,q4,q6,q7,q8,q9,rfl,e,hzs,az⟩:=pp
  rw[EZ (by lia)]at az
  exact⟨_,rfl,q fo _ (e1'.trans e) (e1'.free hfo) ⟨zs,hzs,az⟩⟩
 obtain⟨zs,q2,q3,q4,q6,q7,q8,q9,rfl,e,hzs,az⟩:=pp
 obtain⟨X,hX,t,u,p1,rfl,ht,hu⟩:=(at1.mono fun _ _ z=>z.over e).get' hy
 have il:i<(Ba Rs).length:=(AX.mp hX).1
 refine⟨t,_,rfl,A3.of ht,rfl,_,_,rfl,_,_,rfl,_,_,rfl,rfl,?_⟩
 have mlen:=Pm.mtF_len (Ba Rs) ((Ba Rs).take i)
 rw[Bg,EY (EG il)]at mlen
 have ml2:i*(Ba Rs).length<=186*186:=Nat.mul_le_mul (by lia) tl
 refine⟨_,rfl,to,rfl,⟨_,A5.of (e _ _ hto)⟩,?_⟩
 refine EU (xs:=ys) (fun j σ' H4=>∃(ws:List V) (q7 q8 q9:Option V),σ'=[some (.ref l),some (.ref to),some (.int (X.k:Int)),some (.int (X.a:Int)),q4,some (.ref fo),some (.ref u),q7,q8,q9]/\(∀b o,b≠fo->H' b=some o->H4 b=some o)/\H4 fo=some (.lst ws)/\Ar (Ei H4) ws (Pm.mtF ((Ba Rs).take i) (Ba Rs)++Pm.in1 X ((Ba Rs).take j))) ⟨zs,_,_,_,rfl,fun _ _ _ h=>h,hzs,by show Ar _ _ (_++[]);rw[DA];exact az⟩ (fun j σ' H4 _ pp=>by obtain⟨_,_,_,_,_,k4,_⟩:=pp;exact A5.of (k4 _ _ nyf (e _ _ hto))) (fun j y2 σ' H4 hy2 pp=>?_) (fun σ' H4 pp=>?_)
 rotate_left
 .obtain⟨ws,q7,q8,q9,rfl,k4,hws,aw⟩:=pp
  rw[ysl,DS,←Pm.mtF_snoc,←CJ hX]at aw
  exact⟨ws,_,_,_,_,_,_,_,rfl,fun b o hb=>k4 _ _ (AC hb hfo) (e _ _ hb),hws,aw⟩
 obtain⟨ws,q7,q8,q9,rfl,k4,hws,aw⟩:=pp
 have tk4:TK H' H4:=fun b o hb=>k4 _ _ (F8 hb hzs (by intro z;cases z)) hb
 obtain⟨Y,hY,t2,u2,p2,rfl,ht2,hu2⟩:=(at1.mono fun _ _ z=>(z.over e).tk tk4).get' hy2
 have hu4:=tk4 _ _ hu
 refine⟨t2,_,rfl,A3.of ht2,rfl,_,_,rfl,_,_,rfl,_,_,rfl,rfl,?_⟩
 have wl:=aw.1
 have il2:=Pm.in1_len X ((Ba Rs).take j)
 rw[Az]at wl
 rw[Bg]at il2
 refine LK (fun H''=>H''=H4/\Pm.ok X Y=true) (fun H'' hh=>?_) (fun go=>?_)
 .obtain⟨rfl,h⟩:=hh
  refine⟨_,rfl,.inl ⟨rfl,_,A5.of hws⟩,_,rfl,_,rfl,_,rfl,_,rfl,Ak rfl,fun r hr=>?_⟩
  have s6:=Aa hr (.tup [V.int (X.k:Int),V.int (X.a:Int),V.int (Y.k:Int),V.int (Y.a:Int)])
  have hw6:=s6 _ _ hws
  refine⟨fo,_,_,rfl,rfl,hw6,C5 (by lia),?_⟩
  have tk:=TK.upd (o:=.lst (ws++[V.ref r])) hw6
  refine⟨ws++[.ref r],_,_,_,rfl,fun b o hb h=>by rw[Am hb];exact s6 _ _ (k4 b o hb h),A6,?_⟩
  rw[CJ hY,Pm.in1_snoc,h,Ax rfl,←DR]
  exact(aw.mono fun _ _ z=>(z.over s6).tk tk).snoc ⟨r,rfl,tk _ _ A6⟩
 have no:Pm.ok X Y=false->Ar (Ei H4) ws (Pm.mtF ((Ba Rs).take i) (Ba Rs)++Pm.in1 X ((Ba Rs).take (j+1))):=fun h=>by
  rw[CJ hY,Pm.in1_snoc,h,As (by decide),DA]
  exact aw
 refine⟨_,rfl,u,_,1,_,rfl,rfl,A3.of hu4,rfl,_,rfl,u2,_,1,_,rfl,rfl,A3.of hu2,rfl,rfl,_,rfl,?_⟩
 by_cases cz:X.z=Y.z
 .refine AG (v:=true) (B6 (congrArg V.str cz)) (BE ?_)
  refine⟨_,rfl,u,_,0,_,rfl,rfl,A3.of hu4,rfl,_,rfl,?_⟩
  cases cb:X.b with
  |true=>exact BE (go _ ⟨rfl,by unfold Pm.ok;rw[B6 cz,cb];rfl⟩)
  |
   false=>
   refine AO ?_
   refine⟨_,rfl,u2,_,0,_,rfl,rfl,A3.of hu2,rfl,_,rfl,?_⟩
   cases cd:Y.b with
   |true=>exact BE (go _ ⟨rfl,by unfold Pm.ok;rw[B6 cz,cb,cd];rfl⟩)
   |false=>exact AO ⟨ws,_,_,_,rfl,k4,hws,no (by unfold Pm.ok;rw[cb,cd,Bool.or_self,Lw])⟩
 .refine AG (v:=false) (BO fun z=>cz (V.str.inj z)) (AO ?_)
  exact⟨ws,_,_,_,rfl,k4,hws,no (by unfold Pm.ok;rw[BO cz];rfl)⟩
theorem Xx (T:Tx K mg a):AB P w K mg base AI 103 a.f_H a.d_H ["program"] (YK a.c_Program a.c_Deed (CH a)):=by
 have G_i :=@Q0 P w K mg base a T
 refine T.F_H.ok Hk (fun vs H Q E h=>?_) (fun cdv A outer s H vs Q E hr h=>?_)
 .obtain⟨_,_,rfl,_⟩:=h;rfl
 obtain⟨v,Rs,rfl,⟨x,dx,dl,sz,xs,rfl,hx,hdl,ax⟩,ok,n6,q⟩:=h
 refine⟨_,(A8 (Ai (i:=1) Hk.nd rfl (.inl rfl) (B9 A2))
  (A8 (Br PassesOwn.never rfl (IJ (by rfl) T.z_enumerate (A0 (Bx (pv 0) rfl) A2)) (BY rfl (AA (Al (i:=2) Hk.nd rfl (.inl rfl)) (AA (Al (i:=3) Hk.nd rfl (.inl rfl)) BS)))
  (Ae (Br PassesOwn.never rfl (IJ (by rfl) T.z_enumerate (A0 (Aj G_i (hr.mono (by lia)) (by rfl) T.m_i T.F_i.kp T.b_i .nil Af (A0 (pv 3) A2)) A2)) (BY rfl (AA (Al (i:=4) Hk.nd rfl (.inl rfl)) (AA (Al (i:=5) Hk.nd rfl (.inl rfl)) BS)))
  (Ae (BP (BR BX Cq Cr Ca (pv 1) (A0 (BB (Ab (pv 2) (Ab (pv 4) (Ab (pv 5) Bm AK) AK) AK)) A2)))))))
  (Ae (Av (pv 1))))),?_⟩
 have xl:=ax.1
 refine⟨Ak rfl,fun fo hfo=>?_⟩
 have e1:=Aa hfo (.lst [])
 have hfo1:(upd H fo (.lst [])) fo=some (.lst []):=A6
 dsimp only[Ag]
 generalize upd H fo (.lst [])=H1 at e1 hfo1
 refine⟨_,rfl,x,_,dx,_,_,rfl,e1 _ _ hx,T.cl_Program,T.n_Program_deeds,rfl,dl,rfl,⟨_,A5.of (e1 _ _ hdl)⟩,?_⟩
 refine Lc (xs:=xs) (fun i σ' H'=>∃(ys:List V) (o2 o3 o4 o5:Option V),σ'=[some (.ref x),some (.ref fo),o2,o3,o4,o5]/\A9 H H'/\H' fo=some (.lst ys)/\Ar (EE H') ys (Ba (Rs.take i))) ⟨[],_,_,_,_,rfl,e1,hfo1,.nil⟩ (fun i σ' H' _ pp=>by obtain⟨_,_,_,_,_,_,e,_⟩:=pp;exact A5.of (e _ _ hdl)) (fun i y Tt σ' H' hy pp hT=>?_) (fun σ' H' pp=>?_)
 rotate_left
 .obtain⟨ys,o2,o3,o4,o5,rfl,e,hy,ay⟩:=pp
  rw[EZ (by lia)]at ay
  exact⟨_,rfl,q fo ys _ e hfo hy ay⟩
 obtain⟨ys,o2,o3,o4,o5,rfl,e,hys,ay⟩:=pp
 obtain⟨R,hR,d5⟩:=ax.get' hy
 have rok:=ok R (Bh hR)
 have il:i<Rs.length:=(AX.mp hR).1
 have sT:=Aa hT (.tup [V.int (i:Int),y])
 have e2:=e.trans sT
 have hys2:=sT _ _ hys
 have ay2:=ay.mono fun _ _ z=>z.over sT
 refine⟨Tt,_,rfl,A3.of A6,rfl,_,_,rfl,_,_,rfl,rfl,?_⟩
 generalize upd H' Tt (.tup [V.int (i:Int),y])=H2 at e2 hys2 ay2
 refine⟨_,rfl,y,R.z,R.p,R.m,R.rs,rfl,(d5.over e2).tm,by have:=rok.ms;lia,fun l H3 e3 hl0 th=>?_⟩
 obtain⟨ts,hts,ath⟩:=PF th
 have tsl:=ath.1
 have tll:=Ms rok
 have hys3:=e3 _ _ hys2
 have nlf:l≠fo:=fun z=>by rw[z,hys2]at hl0;cases hl0
 have ay3:=ay2.mono fun _ _ z=>z.over e3
 have pl:=Gz (Rs:=Rs.take i) (fun R hR=>ok R (Jz hR)) (by rw[Bg];lia)
 refine⟨l,rfl,⟨_,A5.of hts⟩,?_⟩
 refine Lc (xs:=ts) (fun j σ' H4=>∃(zs:List V) (o4 o5:Option V),σ'=[some (.ref x),some (.ref fo),some (.int (i:Int)),some y,o4,o5]/\(∀b o,b≠fo->H3 b=some o->H4 b=some o)/\H4 fo=some (.lst zs)/\Ar (EE H4) zs (Ba (Rs.take i)++Pm.tk3 i 0 ((D6 R).take j))) ⟨ys,_,_,rfl,fun _ _ _ h=>h,hys3,by show Ar _ _ (_++[]);rw[DA];exact ay3⟩ (fun j σ' H4 _ pp=>by obtain⟨_,_,_,_,k4,_⟩:=pp;exact A5.of (k4 _ _ nlf hts)) (fun j y2 Tt2 σ' H4 hy2 pp hT2=>?_) (fun σ' H4 pp=>?_)
 .obtain⟨zs,o4,o5,rfl,k4,hzs,az⟩:=pp
  obtain⟨tb,htb,u,p,rfl,hu⟩:=ath.get' hy2
  have jl:j<(D6 R).length:=(AX.mp htb).1
  have nu:u≠fo:=fun z=>by rw[z,hys3]at hu;cases hu
  have hu4:=k4 _ _ nu hu
  have sT2:=Aa hT2 (.tup [V.int (j:Int),V.ref u])
  refine⟨Tt2,_,rfl,A3.of A6,rfl,_,_,rfl,_,_,rfl,rfl,?_⟩
  refine⟨_,rfl,.inl ⟨rfl,_,A5.of (sT2 _ _ hzs)⟩,_,rfl,_,rfl,_,rfl,Ak rfl,fun r hr=>?_⟩
  have s6:=Aa hr (.tup [V.int (i:Int),V.int (j:Int),V.ref u])
  have e6:=sT2.trans s6
  have hz6:=e6 _ _ hzs
  have zl:=az.1
  rw[Az,Pm.tk3_len,Bg]at zl
  have nr:r≠fo:=fun z=>by rw[z,sT2 _ _ hzs]at hr;cases hr
  refine⟨fo,_,_,rfl,rfl,hz6,C5 (by lia),?_⟩
  have tk:=TK.upd (o:=.lst (zs++[V.ref r])) hz6
  refine⟨zs++[.ref r],_,_,rfl,fun b o hb h=>by rw[Am hb];exact e6 _ _ (k4 b o hb h),A6,?_⟩
  rw[CJ htb,Pm.tk3_snoc,←DR]
  refine(az.mono fun _ _ z=>(z.over e6).tk tk).snoc ⟨r,u,p,rfl,?_,tk _ _ (e6 _ _ hu4)⟩
  rw[Bg,EY (EG jl),GY]
  exact tk _ _ A6
 .obtain⟨zs,o4,o5,rfl,k4,hzs,az⟩:=pp
  rw[tsl,DS]at az
  refine⟨zs,_,_,_,_,rfl,fun b o hb=>k4 _ _ (AC hb hfo) (e3 _ _ (e2 _ _ hb)),hzs,?_⟩
  show Ar _ _ (Pm.all3 0 ((Rs.take (i+1)).map D6))
  rw[CJ hR,Bq]
  show Ar _ _ (Pm.all3 0 ((Rs.take i).map D6++[D6 R]))
  rw[Pm.all3_snoc,Aq,Bg,EY (EG il),GY]
  exact az
theorem R7 (T:Tx K mg a):AB P w K mg base AI 104 a.f_G a.d_G ["program"] (QT a.c_Program a.c_Deed (CH a)):=by
 have G_H :=@Xx P w K mg base a T
 refine T.F_G.ok FB (fun vs H Q E h=>?_) (fun cdv A outer s H vs Q E hr h=>?_)
 .obtain⟨_,_,rfl,_⟩:=h;rfl
 obtain⟨v,Rs,rfl,hP,ok,n6,q⟩:=h
 refine⟨_,(A8 (Ai (i:=1) FB.nd rfl (.inl rfl) (Aj G_H (hr.mono (by lia)) (by rfl) T.m_H T.F_H.kp T.b_H .nil Af (A0 (pv 0) A2)))
  (A8 (Ai (i:=2) FB.nd rfl (.inl rfl) (B9 A2))
  (A8 (Br PassesOwn.never rfl (CK (pv 1)) (BY rfl (AA (Al (i:=3) FB.nd rfl (.inl rfl)) (AA (Al (i:=4) FB.nd rfl (.inl rfl)) (AA (Al (i:=5) FB.nd rfl (.inl rfl)) BS))))
  (Ae (Br PassesOwn.never rfl (CK (pv 1)) (BY rfl (AA (Al (i:=6) FB.nd rfl (.inl rfl)) (AA (Al (i:=7) FB.nd rfl (.inl rfl)) (AA (Al (i:=8) FB.nd rfl (.inl rfl)) BS))))
  (Ae (Be (PW.pt (FS (AZ Cm (A7 Ac (pv 5) A1 (fun _ _=>rfl)) (A7 Ac (pv 8) A1 (fun _ _=>rfl)) (AR _)) (HJ (PW.pt (Cy (Cv (A7 Ac (pv 5) A1 (fun _ _=>rfl))) (DL (Cv (A7 Ac (pv 8) A1 (fun _ _=>rfl)))))))))
  (Ae (BP (BR BX Cq Cr Ca (pv 2) (A0 (BB (Ab (pv 3) (Ab (pv 4) (Ab (pv 6) (Ab (pv 7) Bm AK) AK) AK) AK)) A2))))
  Bj)))))
  (Ae (Av (pv 2)))))),?_⟩
 refine⟨_,rfl,v,Rs,rfl,hP,ok,n6,fun to ys H1 e1 hto0 hto at1=>?_⟩
 dsimp only[Ag]
 refine⟨Ak rfl,fun fo hfo=>?_⟩
 have e2:=Aa hfo (.lst [])
 have hfo2:(upd H1 fo (.lst [])) fo=some (.lst []):=A6
 dsimp only[Ag]
 generalize upd H1 fo (.lst [])=H2 at e2 hfo2
 have tl:=Gz ok n6
 have ysl:=at1.1
 have nyf:to≠fo:=AC hto hfo
 refine⟨_,rfl,to,rfl,⟨_,A5.of (e2 _ _ hto)⟩,?_⟩
 refine EU (xs:=ys) (fun i σ' H'=>∃(zs:List V) (o3 o4 o5 o6 o7 o8:Option V),σ'=[some v,some (.ref to),some (.ref fo),o3,o4,o5,o6,o7,o8]/\A9 H1 H'/\H' fo=some (.lst zs)/\Ar (Ei H') zs (Pm.mtF ((Ba Rs).take i) (Ba Rs))) ⟨[],_,_,_,_,_,_,rfl,e2,hfo2,.nil⟩ (fun i σ' H' _ pp=>by obtain⟨_,_,_,_,_,_,_,_,e,_⟩:=pp;exact A5.of (e _ _ hto)) (fun i y σ' H' hy pp=>?_) (fun σ' H' pp=>?_)
 rotate_left
 .obtain⟨zs,o3,o4,o5,o6,o7,o8,rfl,e,hzs,az⟩:=pp
  rw[EZ (by lia)]at az
  exact⟨_,rfl,q fo _ (e1.trans e) (e1.free hfo) ⟨zs,hzs,az⟩⟩
 obtain⟨zs,o3,o4,o5,o6,o7,o8,rfl,e,hzs,az⟩:=pp
 obtain⟨X,hX,t,u,p1,rfl,ht,hu⟩:=(at1.mono fun _ _ z=>z.over e).get' hy
 have il:i<(Ba Rs).length:=(AX.mp hX).1
 refine⟨t,_,rfl,A3.of ht,rfl,_,_,rfl,_,_,rfl,_,_,rfl,rfl,?_⟩
 have mlen:=Pm.mtF_len (Ba Rs) ((Ba Rs).take i)
 rw[Bg,EY (EG il)]at mlen
 have ml2:i*(Ba Rs).length<=186*186:=Nat.mul_le_mul (by lia) tl
 refine⟨_,rfl,to,rfl,⟨_,A5.of (e _ _ hto)⟩,?_⟩
 refine EU (xs:=ys) (fun j σ' H4=>∃(ws:List V) (o6 o7 o8:Option V),σ'=[some v,some (.ref to),some (.ref fo),some (.int (X.k:Int)),some (.int (X.a:Int)),some (.ref u),o6,o7,o8]/\(∀b o,b≠fo->H' b=some o->H4 b=some o)/\H4 fo=some (.lst ws)/\Ar (Ei H4) ws (Pm.mtF ((Ba Rs).take i) (Ba Rs)++Pm.in1 X ((Ba Rs).take j))) ⟨zs,_,_,_,rfl,fun _ _ _ h=>h,hzs,by show Ar _ _ (_++[]);rw[DA];exact az⟩ (fun j σ' H4 _ pp=>by obtain⟨_,_,_,_,_,k4,_⟩:=pp;exact A5.of (k4 _ _ nyf (e _ _ hto))) (fun j y2 σ' H4 hy2 pp=>?_) (fun σ' H4 pp=>?_)
 rotate_left
 .obtain⟨ws,o6,o7,o8,rfl,k4,hws,aw⟩:=pp
  rw[ysl,DS,←Pm.mtF_snoc,←CJ hX]at aw
  exact⟨ws,_,_,_,_,_,_,rfl,fun b o hb=>k4 _ _ (AC hb hfo) (e _ _ hb),hws,aw⟩
 obtain⟨ws,o6,o7,o8,rfl,k4,hws,aw⟩:=pp
 have tk4:TK H' H4:=fun b o hb=>k4 _ _ (F8 hb hzs (by intro z;cases z)) hb
 obtain⟨Y,hY,t2,u2,p2,rfl,ht2,hu2⟩:=(at1.mono fun _ _ z=>(z.over e).tk tk4).get' hy2
 have hu4:=tk4 _ _ hu
 refine⟨t2,_,rfl,A3.of ht2,rfl,_,_,rfl,_,_,rfl,_,_,rfl,rfl,?_⟩
 have wl:=aw.1
 have il2:=Pm.in1_len X ((Ba Rs).take j)
 rw[Az]at wl
 rw[Bg]at il2
 refine LK (fun H''=>H''=H4/\Pm.ok X Y=true) (fun H'' hh=>?_) (fun go=>?_)
 .obtain⟨rfl,h⟩:=hh
  refine⟨_,rfl,.inl ⟨rfl,_,A5.of hws⟩,_,rfl,_,rfl,_,rfl,_,rfl,Ak rfl,fun r hr=>?_⟩
  have s6:=Aa hr (.tup [V.int (X.k:Int),V.int (X.a:Int),V.int (Y.k:Int),V.int (Y.a:Int)])
  have hw6:=s6 _ _ hws
  refine⟨fo,_,_,rfl,rfl,hw6,C5 (by lia),?_⟩
  have tk:=TK.upd (o:=.lst (ws++[V.ref r])) hw6
  refine⟨ws++[.ref r],_,_,_,rfl,fun b o hb h=>by rw[Am hb];exact s6 _ _ (k4 b o hb h),A6,?_⟩
  rw[CJ hY,Pm.in1_snoc,h,Ax rfl,←DR]
  exact(aw.mono fun _ _ z=>(z.over s6).tk tk).snoc ⟨r,rfl,tk _ _ A6⟩
 have no:Pm.ok X Y=false->Ar (Ei H4) ws (Pm.mtF ((Ba Rs).take i) (Ba Rs)++Pm.in1 X ((Ba Rs).take (j+1))):=fun h=>by
  rw[CJ hY,Pm.in1_snoc,h,As (by decide),DA]
  exact aw
 refine⟨_,rfl,u,_,1,_,rfl,rfl,A3.of hu4,rfl,_,rfl,u2,_,1,_,rfl,rfl,A3.of hu2,rfl,rfl,_,rfl,?_⟩
 by_cases cz:X.z=Y.z
 .refine AG (v:=true) (B6 (congrArg V.str cz)) (BE ?_)
  refine⟨_,rfl,u,_,0,_,rfl,rfl,A3.of hu4,rfl,_,rfl,?_⟩
  cases cb:X.b with
  |true=>exact BE (go _ ⟨rfl,by unfold Pm.ok;rw[B6 cz,cb];rfl⟩)
  |
   false=>
   refine AO ?_
   refine⟨_,rfl,u2,_,0,_,rfl,rfl,A3.of hu2,rfl,_,rfl,?_⟩
   cases cd:Y.b with
   |true=>exact BE (go _ ⟨rfl,by unfold Pm.ok;rw[B6 cz,cb,cd];rfl⟩)
   |false=>exact AO ⟨ws,_,_,_,rfl,k4,hws,no (by unfold Pm.ok;rw[cb,cd,Bool.or_self,Lw])⟩
 .refine AG (v:=false) (BO fun z=>cz (V.str.inj z)) (AO ?_)
  exact⟨ws,_,_,_,rfl,k4,hws,no (by unfold Pm.ok;rw[BO cz];rfl)⟩
theorem Sf (T:Tx K mg a):AB P w K mg base AI 1 a.f_B a.d_B ["path","other","most"] RU:=by
 refine T.F_B.ok Ot (fun vs H Q E h=>?_) (fun cdv A outer s H vs Q E hr h=>?_)
 .obtain⟨_,_,_,_,_,_,rfl,_⟩:=h;rfl
 obtain⟨p1,p2,xs,ys,m,k,rfl,hp1,hp2,hm1,hm2,hm3,hkm,ke,kn,q⟩:=h
 refine⟨_,(A8 (Br PassesOwn.never rfl (Ce (by rfl) T.z_range (A0 (pv 2) A2)) (Al (i:=3) Ot.nd rfl (.inl rfl))
  (Ae (Be (AZ Ek (A7 Ac (pv 0) (pv 3) (fun _ _=>rfl)) (A7 Ac (pv 1) (pv 3) (fun _ _=>rfl)) (AR _))
  (Ae (Av (pv 3)))
  Bj)))
  (Ae (Av (pv 2)))),?_⟩
 refine⟨_,rfl,_,rfl,by lia,by lia,?_⟩
 refine CN (lo:=0) (n:=m) (fun i σ' H'=>H'=H/\(∃o,σ'=[some (.ref p1),some (.ref p2),some (.int (m:Int)),o])/\i<=k) ⟨rfl,⟨_,rfl⟩,BN _⟩ (fun i σ' H' hi p=>?_) (fun σ' H' p=>?_)
 .obtain⟨rfl,⟨o,rfl⟩,hik⟩:=p
  have a1:B8 (xs.map V.int) (0+(i:Int))=some (.int (xs.getD i 0)):=by
   have:=FD (ns:=xs) (k:=0+(i:Int)) (by lia) (by lia)
   rwa [show(0+(i:Int)).toNat=i by rw[En];rfl]at this
  have a2:B8 (ys.map V.int) (0+(i:Int))=some (.int (ys.getD i 0)):=by
   have:=FD (ns:=ys) (k:=0+(i:Int)) (by lia) (by lia)
   rwa [show(0+(i:Int)).toNat=i by rw[En];rfl]at this
  refine⟨_,rfl,_,rfl,p1,_,_,_,rfl,rfl,A3.of hp1,a1,?_⟩
  refine⟨_,rfl,_,rfl,p2,_,_,_,rfl,rfl,A3.of hp2,a2,rfl,_,rfl,?_⟩
  by_cases hk:i<k
  .refine AG (EA (congrArg V.int (ke i hk))) (AO ?_)
   exact⟨rfl,⟨_,rfl⟩,hk⟩
  .have e:i=k:=by lia
   subst e
   refine AG (M1 (fun z=>kn hi (V.int.inj z))) (BE ?_)
   exact⟨_,rfl,by rw[En];exact q⟩
 .obtain⟨rfl,⟨o,rfl⟩,hik⟩:=p
  have e:m=k:=by lia
  subst e
  exact⟨_,rfl,q⟩
theorem Qg (T:Tx K mg a):AB P w K mg base AI 2 a.f_o a.d_o ["one","other"] (XZ a.c_Deed (CH a)):=by
 have G_B :=@Sf P w K mg base a T
 refine T.F_o.ok TF (fun vs H Q E h=>?_) (fun cdv A outer s H vs Q E hr h=>?_)
 .obtain⟨_,_,_,_,_,rfl,_⟩:=h;rfl
 obtain⟨x,y,R,S,k,rfl,hx,hy,oR,oS,⟨k1,k2,ke,kn⟩,q⟩:=h
 refine⟨_,(Ae (Av (Aj G_B (hr.mono (by lia)) (by rfl) T.m_B T.F_B.kp T.b_B .nil Af (A0 (Bx (pv 0) rfl) (A0 (Bx (pv 1) rfl) (A0 (B3 (MU rfl) (by rfl) T.z_min MJ (A0 (B3 Bp (by rfl) T.z_len Bo (A0 (Bx (pv 0) rfl) A2)) (A0 (B3 Bp (by rfl) T.z_len Bo (A0 (Bx (pv 1) rfl) A2)) A2))) A2)))))),?_⟩
 obtain⟨d1,dx1,nm1,pt1,_,_,_,xs1,rfl,hd1,hn1,l1,hp1,_⟩:=hx
 obtain⟨d2,dx2,nm2,pt2,_,_,_,xs2,rfl,hd2,hn2,l2,hp2,_⟩:=hy
 have p1:=oR.pl
 have p2:=oS.pl
 have q1:=oR.n3
 have q2:=oS.n3
 have hm:(if((xs2.length:Nat):Int)<((xs1.length:Nat):Int) then((xs2.length:Nat):Int) else((xs1.length:Nat):Int))=((min R.n S.n:Nat):Int):=by split<;>lia
 refine⟨_,rfl,d1,_,dx1,_,_,rfl,hd1,T.cl_Deed,T.n_Deed_path,rfl,_,rfl,d2,_,dx2,_,_,rfl,hd2,T.cl_Deed,T.n_Deed_path,rfl,?_⟩
 refine⟨_,rfl,d1,_,dx1,_,_,rfl,hd1,T.cl_Deed,T.n_Deed_names,rfl,nm1,_,rfl,.inr (A3.of hn1),?_⟩
 refine⟨_,rfl,d2,_,dx2,_,_,rfl,hd2,T.cl_Deed,T.n_Deed_names,rfl,nm2,_,rfl,.inr (A3.of hn2),?_⟩
 refine⟨_,_,rfl,?_⟩
 rw[hm]
 exact⟨pt1,pt2,R.path,S.path,min R.n S.n,k,rfl,hp1,hp2,by lia,by lia,by lia,by lia,ke,kn,q⟩
theorem QJ (T:Tx K mg a):AB P w K mg base AI 3 a.f_I a.d_I ["program","k","l"] (Ru a.c_Program a.c_Deed (CH a)):=by
 have G_o :=@Qg P w K mg base a T
 refine T.F_I.ok LO (fun vs H Q E h=>?_) (fun cdv A outer s H vs Q E hr h=>?_)
 .obtain⟨_,_,_,_,_,_,_,rfl,_⟩:=h;rfl
 obtain⟨v,Rs,k,l,n,R,S,rfl,⟨x,dx,dl,sz,xs,rfl,hx,hdl,ax⟩,ok,hR,hS,pf,q⟩:=h
 refine⟨_,(A8 (Ai (i:=3) LO.nd rfl (.inl rfl) (Aj G_o (hr.mono (by lia)) (by rfl) T.m_o T.F_o.kp T.b_o .nil Af (A0 (A7 AH (Bx (pv 0) rfl) (pv 1) (fun _ _=>rfl)) (A0 (A7 AH (Bx (pv 0) rfl) (pv 2) (fun _ _=>rfl)) A2))))
  (A8 (Be (AZ Ea (pv 1) (pv 2) (AR _))
  (Ae (RS (i:=3) LO.nd rfl (.inl rfl) A1 SX))
  Bj)
  (Ae (Av (Xw rfl (by rfl) T.z_list (by rfl) T.z_range (A0 (pv 3) A2)))))),?_⟩
 obtain⟨y1,hy1,d1⟩:=ax.get hR
 obtain⟨y2,hy2,d2⟩:=ax.get hS
 have oR:=ok R (Bh hR)
 have k1:=pf.1
 have k3:=oR.n3
 refine⟨_,rfl,x,_,dx,_,_,rfl,hx,T.cl_Program,T.n_Program_deeds,rfl,_,rfl,dl,_,_,_,rfl,rfl,A5.of hdl,By hy1,_,rfl,x,_,dx,_,_,rfl,hx,T.cl_Program,T.n_Program_deeds,rfl,_,rfl,dl,_,_,_,rfl,rfl,A5.of hdl,By hy2,y1,y2,R,S,n,rfl,d1,d2,oR,ok S (Bh hS),pf,?_⟩
 dsimp only[Ag]
 refine ED (fun σ' H'=>H'=H/\σ'=[some (.ref x),some (.int (k:Int)),some (.int (l:Int)),some (.int ((C0 k l n:Nat):Int))]) (fun σ' H' pp=>?_) (fun nx=>?_)
 .obtain⟨rfl,rfl⟩:=pp
  have c4:C0 k l n<=4:=by unfold C0;split<;>lia
  exact⟨_,rfl,C0 k l n,rfl,by lia,fun r hr=>q r _ (Aa hr _) hr A6⟩
 refine⟨_,rfl,_,rfl,_,_,rfl,rfl,_,rfl,Cf (fun c=>?_) (fun c=>?_)⟩
 .have c:=dT c
  have:C0 k l n=n+1:=Ax (by lia)
  exact⟨_,rfl,_,_,rfl,rfl,nx _ _ ⟨rfl,by rw[this];rfl⟩⟩
 .have c:=dF c
  have:C0 k l n=n:=As (by lia)
  exact nx _ _ ⟨rfl,by rw[this];rfl⟩
theorem N8 (T:Tx K mg a):AB P w K mg base AI 1 a.f_h a.d_h ["_law_one","_law_other"] S5:=by
 refine T.F_h.ok M9 (fun vs H Q E h=>?_) (fun cdv A outer s H vs Q E hr h=>?_)
 .obtain⟨_,_,_,_,_,rfl,_⟩:=h;rfl
 obtain⟨x,y,R,S,k,rfl,hx,hy,oR,oS,⟨k1,k2,ke,kn⟩,q⟩:=h
 refine⟨_,(A8 (Ai (i:=2) M9.nd rfl (.inl rfl) A1)
  (A8 (N3 PassesOwn.never (PW.pt (FS (AZ Ea (pv 2) (B3 Bp (by rfl) T.z_len Bo (A0 (A7 Ac (pv 0) A1 (fun _ _=>rfl)) A2)) (AR _)) (FS (AZ Ea (pv 2) (B3 Bp (by rfl) T.z_len Bo (A0 (A7 Ac (pv 1) A1 (fun _ _=>rfl)) A2)) (AR _)) (HJ (AZ Cm (A7 Ac (A7 Ac (pv 0) A1 (fun _ _=>rfl)) (pv 2) (fun _ _=>rfl)) (A7 Ac (A7 Ac (pv 1) A1 (fun _ _=>rfl)) (pv 2) (fun _ _=>rfl)) (AR _))))))
  (Ae (Ai (i:=2) M9.nd rfl (.inl rfl) (Ah B2 (pv 2) A1))))
  (Ae (Av (pv 2))))),?_⟩
 obtain⟨r1,u1,w1,_,_,_,xs1,rfl,hr1,hu1,l1,_,hw1,_⟩:=hx
 obtain⟨r2,u2,w2,_,_,_,xs2,rfl,hr2,hu2,l2,_,hw2,_⟩:=hy
 have p1:=oR.pl
 have p2:=oS.pl
 have q1:=oR.n3
 refine IY ?_
 refine ED (fun σ' H'=>H'=H/\σ'=[some (.ref r1),some (.ref r2),some (.int (k:Int))]) (fun σ' H' pp=>?_) (fun nx=>?_)
 .obtain⟨rfl,rfl⟩:=pp
  exact⟨_,rfl,q⟩
 refine M7 k (fun i σ' H'=>H'=H/\σ'=[some (.ref r1),some (.ref r2),some (.int (i:Int))]/\i<=k) ⟨rfl,rfl,BN _⟩ (fun i σ' H' hi pp=>?_) (MT.and (MT.test (ME.op (MR.i0 _) (ME.var _) (ME.cb MB.len (MA.cons (ME.op (MR.ixT _) (ME.var _) (ME.c _)) MA.nil)))) (MT.and (MT.test (ME.op (MR.i0 _) (ME.var _) (ME.cb MB.len (MA.cons (ME.op (MR.ixT _) (ME.var _) (ME.c _)) MA.nil)))) (MT.test (ME.op MR.eq (ME.op (MR.ixT _) (ME.op (MR.ixT _) (ME.var _) (ME.c _)) (ME.var _)) (ME.op (MR.ixT _) (ME.op (MR.ixT _) (ME.var _) (ME.c _)) (ME.var _))))))
 .obtain⟨rfl,rfl,ik⟩:=pp
  refine⟨_,rfl,_,rfl,r1,_,0,_,rfl,rfl,A3.of hr1,rfl,u1,_,rfl,.inr (A3.of hu1),_,_,rfl,rfl,_,rfl,Cf (fun c=>?_) (fun c=>?_)⟩
  rotate_left
  .have c:=dF c
   have e:i=k:=by lia
   subst e
   exact nx _ _ ⟨rfl,rfl⟩
  have c:=dT c
  refine⟨_,rfl,_,rfl,r2,_,0,_,rfl,rfl,A3.of hr2,rfl,u2,_,rfl,.inr (A3.of hu2),_,_,rfl,rfl,_,rfl,Cf (fun c2=>?_) (fun c2=>?_)⟩
  rotate_left
  .have c2:=dF c2
   have e:i=k:=by lia
   subst e
   exact nx _ _ ⟨rfl,rfl⟩
  have c2:=dT c2
  have at1:B8 (R.path.map V.int) (i:Int)=some (.int (R.path.getD i 0)):=FD (ns:=R.path) (k:=(i:Int)) (Ha _) (by lia)
  have at2:B8 (S.path.map V.int) (i:Int)=some (.int (S.path.getD i 0)):=FD (ns:=S.path) (k:=(i:Int)) (Ha _) (by lia)
  refine⟨_,rfl,r1,_,6,_,rfl,rfl,A3.of hr1,rfl,_,rfl,w1,_,_,_,rfl,rfl,A3.of hw1,at1,_,rfl,r2,_,6,_,rfl,rfl,A3.of hr2,rfl,_,rfl,w2,_,_,_,rfl,rfl,A3.of hw2,at2,rfl,_,rfl,?_⟩
  by_cases hk:i<k
  .refine AG (v:=true) (B6 (congrArg V.int (ke i hk))) (BE ?_)
   exact⟨hk,_,rfl,_,_,rfl,rfl,rfl,rfl,hk⟩
  .have e:i=k:=by lia
   subst e
   refine AG (v:=false) (BO fun z=>kn (by lia) (V.int.inj z)) (AO ?_)
   exact nx _ _ ⟨rfl,rfl⟩
theorem SV (T:Tx K mg a):AB P w K mg base AI 2 a.f_V a.d_V ["_law_rows_here","_law_k","_law_l"] V1:=by
 have G_h :=@N8 P w K mg base a T
 refine T.F_V.ok PV (fun vs H Q E h=>?_) (fun cdv A outer s H vs Q E hr h=>?_)
 .obtain⟨_,_,_,_,_,_,_,rfl,_⟩:=h;rfl
 obtain⟨l0,Rs,k,l,n,R,S,rfl,⟨xs,hl0,ax⟩,ok,hR,hS,pf,q⟩:=h
 refine⟨_,(A8 (Ai (i:=3) PV.nd rfl (.inr rfl) (Aj G_h (hr.mono (by lia)) (by rfl) T.m_h T.F_h.kp T.b_h .nil Af (A0 (A7 AH (pv 0) (pv 1) (fun _ _=>rfl)) (A0 (A7 AH (pv 0) (pv 2) (fun _ _=>rfl)) A2))))
  (Ae (Av (DZ ["_law_e","_law_k","_law_l","_law_many"] [none,some 1,some 2,some 3] (by rfl) (Ce (by rfl) T.z_range (A0 (Ah B2 (pv 3) A1) A2)) Uj (fun _ _ _ _ _ _=>⟨(Al (i:=0) S1 rfl (.inl rfl)),(JO (PW.pt (Cy (AZ Ea (pv 0) (pv 3) (AR _)) (DL (AZ Ea (pv 1) (pv 2) (AR _)))))),(pv 0)⟩))))),?_⟩
 obtain⟨y1,hy1,d1⟩:=ax.get hR
 obtain⟨y2,hy2,d2⟩:=ax.get hS
 have oR:=ok R (Bh hR)
 have k1:=pf.1
 have k3:=oR.n3
 refine⟨_,rfl,_,rfl,l0,_,_,_,rfl,rfl,A5.of hl0,By hy1,_,rfl,_,rfl,l0,_,_,_,rfl,rfl,A5.of hl0,By hy2,y1,y2,R,S,n,rfl,d1,d2,oR,ok S (Bh hS),pf,?_⟩
 dsimp only[Ag]
 refine⟨_,rfl,_,_,rfl,rfl,_,rfl,by lia,by lia,?_⟩
 refine Jk (n:=n+1) (fun m ys H'=>H'=H/\ys=(List.range (if k<l then m else min m n)).map (fun i:Nat=>V.int (i:Int))) ⟨rfl,by split<;>simp⟩ (Bc (by lia)) (fun m ys H' hm pp=>by rw[pp.2,Aq,CL];split<;>lia) (fun m ys H' hm pp=>?_) (fun ys H' pp r hr=>?_)
 .obtain⟨rfl,rfl⟩:=pp
  have grow:(k<l\/m<n)->(List.range (if k<l then m else min m n)).map (fun i:Nat=>V.int (i:Int))++[V.int (0+(m:Int))]=(List.range (if k<l then m+1 else min (m+1) n)).map (fun i:Nat=>V.int (i:Int)):=fun h=>by
   have e1:(if k<l then m else min m n)=m:=by split<;>lia
   have e2:(if k<l then m+1 else min (m+1) n)=m+1:=by split<;>lia
   rw[e1,e2,FL,Bq,En]
   rfl
  refine⟨_,rfl,_,rfl,_,_,rfl,rfl,_,rfl,Cf (fun c=>?_) (fun c=>?_)⟩
  .have c:=dT c
   exact BE ⟨_,rfl,rfl,grow (.inr (by lia))⟩
  have c:=dF c
  refine⟨_,rfl,_,rfl,_,_,rfl,rfl,_,rfl,?_⟩
  by_cases c2:(k:Int)<(l:Int)
  .refine AG (v:=true) (B6 c2) (BE ⟨_,rfl,rfl,grow (.inl (by lia))⟩)
  .refine AG (v:=false) (BO c2) (AO ⟨rfl,?_⟩)
   rw[As (by lia),As (by lia),Nm (by lia),Nm (by lia)]
 obtain⟨rfl,rfl⟩:=pp
 refine q r _ (Aa hr _) hr ?_
 rw[A6]
 have:(if k<l then n+1 else min (n+1) n)=C0 k l n:=by unfold C0;split<;>lia
 rw[this]
theorem PR (T:Tx K mg a):AB P w K mg base AI 1 a.f_k a.d_k ["_law_names_here","_law_values"] WU:=by
 refine T.F_k.ok L1 (fun vs H Q E h=>?_) (fun cdv A outer s H vs Q E hr h=>?_)
 .obtain⟨_,_,_,_,rfl,_⟩:=h;rfl
 obtain⟨nm,vt,zs,W,rfl,hn,hv,hle,hl,nd,q⟩:=h
 refine⟨_,(A8 (Ai (i:=2) L1.nd rfl (.inl rfl) Wc)
  (A8 (Br PassesOwn.never rfl (LX (by rfl) T.z_zip (A0 (pv 0) (A0 (pv 1) A2))) (BY rfl (AA (Al (i:=3) L1.nd rfl (.inl rfl)) (AA (Al (i:=4) L1.nd rfl (.inl rfl)) BS)))
  (Ae (WM (Oe hr) (pv 2) (pv 3) (pv 4) rfl)))
  (Ae (Av (pv 2))))),?_⟩
 intro d hd
 have e1:=Aa hd (.dK [])
 have hd1:(upd H d (.dK [])) d=some (.dK []):=A6
 dsimp only[Ag]
 generalize upd H d (.dK [])=H1 at e1 hd1
 refine⟨_,rfl,_,rfl,nm,vt,rfl,⟨_,A3.of (e1 _ _ hn)⟩,⟨_,A3.of (e1 _ _ hv)⟩,?_⟩
 refine U5 (xs:=zs.map V.str) (ys:=W.map V.int) (by rw[Aq,Aq];exact hle) (fun i σ' H'=>A9 H H'/\(∃o3 o4,σ'=[some (.ref nm),some (.ref vt),some (.ref d),o3,o4])/\∃kvs:List (AU×V),H' d=some (.dK kvs)/\kvs.length<=i/\∀(j:Nat) (z:Str),j<i->zs[j]?=some z->Ck kvs (Sum.inr z:AU)=some (.int (W.getD j 0))) ⟨e1,⟨_,_,rfl⟩,[],hd1,Ap _,fun j z hj=>by lia⟩ (fun i σ' H' _ pp=>⟨A3.of (pp.1 _ _ hn),A3.of (pp.1 _ _ hv)⟩) (fun i x y Tt σ' H' hx hy pp hT=>?_) (fun σ' H' pp=>?_)
 .obtain⟨e,⟨o3,o4,rfl⟩,kvs,hk,kl,kv⟩:=pp
  rw[BG]at hx hy
  obtain⟨z,hz,rfl⟩:=Ju.mp hx
  obtain⟨n,hn',rfl⟩:=Ju.mp hy
  have sT:=Aa hT (.tup [V.str z,V.int n])
  have hk2:=sT _ _ hk
  have hi:=(AX.mp hn').1
  refine⟨Tt,_,rfl,A3.of A6,rfl,_,_,rfl,_,_,rfl,rfl,?_⟩
  refine⟨_,rfl,_,rfl,_,rfl,d,_,rfl,IV.k (k:=Sum.inr z) hk2 (C5 (by lia)),?_⟩
  refine⟨fun a o ha=>by rw[Am (AC ha hd)];exact sT _ _ (e _ _ ha),⟨_,_,rfl⟩,_,A6,E3 Ut (by lia),fun j z' hj hz'=>?_⟩
  by_cases c:j=i
  .subst c
   rw[hz]at hz'
   cases hz'
   rw[Qf,Ax rfl,Cp,hn']
   rfl
  .rw[Qf,As (fun w=>?_)]
   .exact kv j z' (by lia) hz'
   .have w:=Sum.inr.inj w
    subst w
    obtain⟨l1,a1⟩:=AX.mp hz'
    obtain⟨l2,a2⟩:=AX.mp hz
    exact Ip.mp nd j i l1 l2 (by lia) (by rw[a1,a2])
 .obtain⟨e,⟨o3,o4,rfl⟩,kvs,hk,kl,kv⟩:=pp
  rw[Aq]at kv
  exact⟨_,rfl,q d kvs _ e hk kv⟩
theorem Ow (T:Tx K mg a):AB P w K mg base AI 1 a.f_l a.d_l ["_law_spots","_law_around_here"] Vr:=by
 refine T.F_l.ok Kb (fun vs H Q E h=>?_) (fun cdv A outer s H vs Q E hr h=>?_)
 .obtain⟨_,_,_,_,_,_,_,rfl,_⟩:=h;rfl
 obtain⟨sp,d,m,z,n,b,kvs,rfl,⟨xs,hs,xl,hxs⟩,m1,hd,hb,q⟩:=h
 refine⟨_,(A8 (Ai (i:=2) Kb.nd rfl (.inl rfl) (B9 A2))
  (A8 (Br PassesOwn.never rfl (KS (pv 0)) (BY rfl (AA (Al (i:=3) Kb.nd rfl (.inl rfl)) (AA (Al (i:=4) Kb.nd rfl (.inl rfl)) BS)))
  (Ae (Be (AZ Cm (pv 3) BD (AR _))
  (Ae (BP (BR BX Cq Cr Ca (pv 2) (A0 (pv 4) A2))))
  (Ae (BP (BR BX Cq Cr Ca (pv 2) (A0 (Ah B2 (XW (Oe hr) (pv 1) (pv 3) (fun _ _=>rfl)) (pv 4)) A2)))))))
  (Ae (Av (Ec GH (by rfl) T.z_tuple Ew (A0 (pv 2) A2)))))),?_⟩
 refine⟨Ak rfl,fun l hl=>?_⟩
 have e1:=Aa hl (.lst [])
 have hl1:(upd H l (.lst [])) l=some (.lst []):=A6
 dsimp only[Ag]
 generalize upd H l (.lst [])=H1 at e1 hl1
 refine⟨_,rfl,sp,rfl,⟨_,A3.of (e1 _ _ hs)⟩,?_⟩
 refine VI (xs:=xs) (fun i σ' H'=>A9 H H'/\(∃o3 o4,σ'=[some (.ref sp),some (.ref d),some (.ref l),o3,o4])/\H' l=some (.lst ((DO i fun i=>b i+n i).map V.int))) ⟨e1,⟨_,_,rfl⟩,hl1⟩ (fun i σ' H' _ pp=>A3.of (pp.1 _ _ hs)) (fun i x σ' H' hx pp=>?_) (fun σ' H' pp=>?_)
 .obtain⟨e,⟨o3,o4,rfl⟩,hl'⟩:=pp
  obtain⟨t,rfl,ht⟩:=hxs i x hx
  have hi:=(AX.mp hx).1
  have ln:((DO i fun i=>b i+n i).map V.int).length<=100:=by rw[Aq,Rg];lia
  have nx:(DO (i+1) fun i=>b i+n i).map V.int=(DO i fun i=>b i+n i).map V.int++[V.int (b i+n i)]:=by rw[Mq,Bq];rfl
  rw[nx]
  generalize (DO i fun i=>b i+n i).map V.int=ys at hl' ln
  have hbi:=hb i (by lia)
  refine⟨t,_,rfl,A3.of (e _ _ ht),rfl,_,_,rfl,_,_,rfl,rfl,?_⟩
  refine⟨_,rfl,rfl,_,rfl,?_⟩
  rcases hbi with⟨hz,hb0⟩|⟨hz,hv⟩
  .refine AG (v:=true) (B6 (by rw[hz])) (BE ?_)
   refine⟨_,rfl,.inl ⟨rfl,_,A5.of hl'⟩,_,rfl,l,_,_,rfl,rfl,hl',C5 (by lia),?_⟩
   rw[hb0,En]
   exact⟨fun a o ha=>by rw[Am (AC ha hl)];exact e _ _ ha,⟨_,_,rfl⟩,A6⟩
  .refine AG (v:=false) (dS hz) (AO ?_)
   refine⟨_,rfl,.inl ⟨rfl,_,A5.of hl'⟩,_,rfl,_,rfl,d,_,rfl,(show GJ H' d (kV (Sum.inr (z i))) _ from hv▸GJ.k (e _ _ hd)),_,rfl,_,_,rfl,rfl,l,_,_,rfl,rfl,hl',C5 (by lia),?_⟩
   exact⟨fun a o ha=>by rw[Am (AC ha hl)];exact e _ _ ha,⟨_,_,rfl⟩,A6⟩
 .obtain⟨e,⟨o3,o4,rfl⟩,hl'⟩:=pp
  rw[xl]at hl'
  refine⟨_,rfl,l,_,rfl,.inl ⟨A5.of hl',fun t ht=>?_⟩⟩
  exact q t _ (e.trans (Aa ht _)) A6
theorem Pi (T:Tx K mg a):AB P w K mg base AI 1 a.f_e a.d_e ["spot","names","first"] VR:=by
 refine T.F_e.ok WS (fun vs H Q E h=>?_) (fun cdv A outer s H vs Q E hr h=>?_)
 .obtain⟨_,_,_,_,_,_,_,rfl,_⟩:=h;rfl
 obtain⟨t,nm,z,n,first,zs,u,rfl,ht,hn,hw,q⟩:=h
 refine⟨_,(A8 (Be (AZ Cm (A7 Ac (pv 0) A1 (fun _ _=>rfl)) BD (AR _))
  (Ae (Av A1))
  Bj)
  (Ae (Av (Ah B2 (pv 2) (Pl QE PySem.F.type_tuple_index P5 (pv 1) (A0 (A7 Ac (pv 0) A1 (fun _ _=>rfl)) A2)))))),?_⟩
 refine⟨_,rfl,t,_,0,_,rfl,rfl,A3.of ht,rfl,rfl,_,rfl,?_⟩
 rcases hw with⟨rfl,rfl⟩|⟨hz,j,hj,hno,rfl⟩
 .exact AG (v:=true) (B6 rfl) (BE q)
 .refine AG (v:=false) (dS hz) (AO ?_)
  exact⟨_,rfl,_,rfl,⟨nm,_,rfl,hn⟩,_,rfl,t,_,0,_,rfl,rfl,A3.of ht,rfl,nm,zs,z,j,rfl,rfl,A3.of hn,hj,hno,_,_,rfl,rfl,q⟩
theorem R8 (T:Tx K mg a):AB P w K mg base AI 2 a.f_r a.d_r ["deed","first"] (QI a.c_Deed):=by
 have G_e :=@Pi P w K mg base a T
 refine T.F_r.ok Je (fun vs H Q E h=>?_) (fun cdv A outer s H vs Q E hr h=>?_)
 .obtain⟨_,_,_,_,_,_,_,_,_,_,_,_,_,_,_,_,_,rfl,_⟩:=h;rfl
 obtain⟨d,dx,nm,lo,hh,v4,v5,v6,v7,f,zs,lz,hz,ln,hn,u,w2,rfl,hd,hnm,hlo,hhi,zl,hu,hw,q⟩:=h
 refine⟨_,(A8 (Ai (i:=2) Je.nd rfl (.inl rfl) (B9 A2))
  (A8 (Br PassesOwn.never rfl (Ce (by rfl) T.z_range (A0 (B3 Bp (by rfl) T.z_len Bo (A0 (Bx (pv 0) rfl) A2)) A2)) (Al (i:=3) Je.nd rfl (.inl rfl))
  (A8 (Ai (i:=4) Je.nd rfl (.inl rfl) (A7 Ac (Bx (pv 0) rfl) (pv 3) (fun _ _=>rfl)))
  (A8 (Ai (i:=5) Je.nd rfl (.inl rfl) (A7 Ac (Bx (pv 0) rfl) (pv 3) (fun _ _=>rfl)))
  (A8 (BP (BR BX Cq Cr Ca (pv 2) (A0 (BB (Ab (Aj G_e (hr.mono (by lia)) (by rfl) T.m_e T.F_e.kp T.b_e .nil Af (A0 (pv 4) (A0 (Bx (pv 0) rfl) (A0 (pv 1) A2)))) (Ab (Ah B2 (pv 1) (pv 3)) (Ab (Dm Dy (A7 Ac (pv 4) A1 (fun _ _=>rfl))) Bm L8) CC) Fi)) A2)))
  (Ae (BP (BR BX Cq Cr Ca (pv 2) (A0 (BB (Ab (Ah B2 (pv 1) (pv 3)) (Ab (Aj G_e (hr.mono (by lia)) (by rfl) T.m_e T.F_e.kp T.b_e .nil Af (A0 (pv 5) (A0 (Bx (pv 0) rfl) (A0 (pv 1) A2)))) (Ab (A7 Ac (pv 5) A1 (fun _ _=>rfl)) Bm Ed) Fi) CC)) A2))))))))
  (Ae (Av (pv 2))))),?_⟩
 obtain⟨xs,hx,xl,hxs⟩:=hlo
 obtain⟨os,ho,ol,hos⟩:=hhi
 refine⟨Ak rfl,fun l hl=>?_⟩
 have e1:=Aa hl (.lst [])
 have hl1:(upd H l (.lst [])) l=some (.lst []):=A6
 dsimp only[Ag]
 generalize upd H l (.lst [])=H1 at e1 hl1
 refine⟨_,rfl,d,_,dx,_,_,rfl,e1 _ _ hd,T.cl_Deed,T.n_Deed_names,rfl,nm,_,rfl,.inr (A3.of (e1 _ _ hnm)),_,rfl,by rw[Aq];lia,by rw[Aq];lia,?_⟩
 rw[Aq]
 refine CN (lo:=0) (n:=zs.length) (fun i σ' H'=>A9 H H'/\(∃o3 o4 o5,σ'=[some (.ref d),some (.int f),some (.ref l),o3,o4,o5])/\∃ys:List V,H' l=some (.lst ys)/\Bf H' ys (CB (DM f u ln) (DW f w2 hn) i)) ⟨e1,⟨_,_,_,rfl⟩,[],hl1,.nil⟩ (fun i σ' H' hi pp=>?_) (fun σ' H' pp=>?_)
 .obtain⟨e,⟨o3,o4,o5,rfl⟩,ys,hy,tr⟩:=pp
  have z0:(0+(i:Int))=(i:Int):=En _
  have x1:xs[i]?=some xs[i]:=AL (by lia)
  have x2:os[i]?=some os[i]:=AL (by lia)
  obtain⟨t1,et1,ht1⟩:=hxs i _ x1
  obtain⟨t2,et2,ht2⟩:=hos i _ x2
  have at1:B8 xs (0+(i:Int))=some (.ref t1):=by rw[z0];exact(By x1).trans (congrArg some et1)
  have at2:B8 os (0+(i:Int))=some (.ref t2):=by rw[z0];exact(By x2).trans (congrArg some et2)
  have yl:ys.length=2*i:=by rw[tr.1,E2]
  have g1:=e _ _ ht1
  have g2:=e _ _ ht2
  refine⟨_,rfl,d,_,dx,_,_,rfl,e _ _ hd,T.cl_Deed,T.n_Deed_lows,rfl,_,rfl,lo,_,_,_,rfl,rfl,A3.of (e _ _ hx),at1,?_⟩
  dsimp only[Ag]
  refine⟨_,rfl,d,_,dx,_,_,rfl,e _ _ hd,T.cl_Deed,T.n_Deed_highs,rfl,_,rfl,hh,_,_,_,rfl,rfl,A3.of (e _ _ ho),at2,?_⟩
  dsimp only[Ag]
  refine⟨_,rfl,.inl ⟨rfl,_,A5.of hy⟩,_,rfl,_,rfl,d,_,dx,_,_,rfl,e _ _ hd,T.cl_Deed,T.n_Deed_names,rfl,_,rfl,t1,nm,lz i,ln i,f,zs,u i,rfl,g1,e _ _ hnm,hu i hi,_,rfl,_,rfl,_,_,rfl,rfl,_,rfl,t1,_,1,_,rfl,rfl,A3.of g1,rfl,_,rfl,Ak rfl,fun b1 hb1=>?_⟩
  rw[z0]
  have s3:=Aa hb1 (.tup [V.int (u i),V.int (f+(i:Int)),V.int (-(ln i))])
  have nb1:b1≠l:=fun z=>by rw[z,hy]at hb1;cases hb1
  refine⟨l,_,_,rfl,rfl,s3 _ _ hy,C5 (by lia),?_⟩
  have tr3:=((tr.over s3).upd (xs:=ys++[V.ref b1]) (s3 _ _ hy)).snoc (t:=b1) (b:=DM f u ln i) (by rw[Am nb1];exact A6)
  have hy3:(upd (upd H' b1 (.tup [V.int (u i),V.int (f+(i:Int)),V.int (-(ln i))])) l (.lst (ys++[V.ref b1]))) l=some (.lst (ys++[V.ref b1])):=A6
  have e3:A9 H (upd (upd H' b1 (.tup [V.int (u i),V.int (f+(i:Int)),V.int (-(ln i))])) l (.lst (ys++[V.ref b1]))):=fun a o ha=>by rw[Am (AC ha hl)];exact s3 _ _ (e _ _ ha)
  generalize upd (upd H' b1 (.tup [V.int (u i),V.int (f+(i:Int)),V.int (-(ln i))])) l (.lst (ys++[V.ref b1]))=H3 at tr3 hy3 e3
  have g2:=e3 _ _ ht2
  refine⟨_,rfl,.inl ⟨rfl,_,A5.of hy3⟩,_,rfl,_,rfl,_,_,rfl,rfl,_,rfl,_,rfl,d,_,dx,_,_,rfl,e3 _ _ hd,T.cl_Deed,T.n_Deed_names,rfl,_,rfl,t2,nm,hz i,hn i,f,zs,w2 i,rfl,g2,e3 _ _ hnm,hw i hi,_,rfl,t2,_,1,_,rfl,rfl,A3.of g2,rfl,Ak rfl,fun b2 hb2=>?_⟩
  have s4:=Aa hb2 (.tup [V.int (f+(i:Int)),V.int (w2 i),V.int (hn i)])
  have nb2:b2≠l:=fun z=>by rw[z,hy3]at hb2;cases hb2
  refine⟨l,_,_,rfl,rfl,s4 _ _ hy3,C5 (by rw[Az,BI];lia),?_⟩
  have tr4:=((tr3.over s4).upd (xs:=ys++[V.ref b1]++[V.ref b2]) (s4 _ _ hy3)).snoc (t:=b2) (b:=DW f w2 hn i) (by rw[Am nb2];exact A6)
  exact⟨fun a o ha=>by rw[Am (AC ha hl)];exact s4 _ _ (e3 _ _ ha),⟨_,_,_,rfl⟩,_,A6,tr4⟩
 .obtain⟨e,⟨o3,o4,o5,rfl⟩,ys,hy,tr⟩:=pp
  exact⟨_,rfl,q l ys _ e hy tr⟩
theorem Vq (T:Tx K mg a):AB P w K mg base AI 2 a.f_F a.d_F ["spots","names","first","others","other_names","other_first"] Sk:=by
 have G_e :=@Pi P w K mg base a T
 refine T.F_F.ok Ij (fun vs H Q E h=>?_) (fun cdv A outer s H vs Q E hr h=>?_)
 .obtain⟨_,_,_,_,_,_,_,_,_,_,_,_,_,_,_,rfl,_⟩:=h;rfl
 obtain⟨sp,nm,ot,nm2,f,s2,m,z1,z2,n1,n2,u,w2,zs,zs2,rfl,hm,hS,hO,hn,hn2,hu,hw,q⟩:=h
 refine⟨_,(A8 (Ai (i:=6) Ij.nd rfl (.inl rfl) (B9 A2))
  (A8 (Br PassesOwn.never rfl (LX (by rfl) T.z_zip (A0 (pv 0) (A0 (pv 3) A2))) (BY rfl (AA (Al (i:=7) Ij.nd rfl (.inl rfl)) (AA (Al (i:=8) Ij.nd rfl (.inl rfl)) BS)))
  (A8 (Ai (i:=9) Ij.nd rfl (.inl rfl) (Aj G_e (hr.mono (by lia)) (by rfl) T.m_e T.F_e.kp T.b_e .nil Af (A0 (pv 7) (A0 (pv 1) (A0 (pv 2) A2)))))
  (A8 (Ai (i:=10) Ij.nd rfl (.inl rfl) (Aj G_e (hr.mono (by lia)) (by rfl) T.m_e T.F_e.kp T.b_e .nil Af (A0 (pv 8) (A0 (pv 4) (A0 (pv 5) A2)))))
  (A8 (BP (BR BX Cq Cr Ca (pv 6) (A0 (BB (Ab (pv 9) (Ab (pv 10) (Ab (Ah DF (A7 Ac (pv 8) A1 (fun _ _=>rfl)) (A7 Ac (pv 7) A1 (fun _ _=>rfl))) Bm CC) AK) AK)) A2)))
  (Ae (BP (BR BX Cq Cr Ca (pv 6) (A0 (BB (Ab (pv 10) (Ab (pv 9) (Ab (Ah DF (A7 Ac (pv 7) A1 (fun _ _=>rfl)) (A7 Ac (pv 8) A1 (fun _ _=>rfl))) Bm CC) AK) AK)) A2))))))))
  (Ae (Av (pv 6))))),?_⟩
 obtain⟨xs,hx,xl,hxs⟩:=hS
 obtain⟨os,ho,ol,hos⟩:=hO
 refine⟨Ak rfl,fun l hl=>?_⟩
 have e1:=Aa hl (.lst [])
 refine⟨_,rfl,_,rfl,sp,ot,rfl,⟨_,A3.of (e1 _ _ hx)⟩,⟨_,A3.of (e1 _ _ ho)⟩,?_⟩
 refine NM (xs:=xs) (ys:=os) (by lia) (fun i σ' H'=>A9 H H'/\(∃o7 o8 o9 o10,σ'=[some (.ref sp),some (.ref nm),some (.int f),some (.ref ot),some (.ref nm2),some (.int s2),some (.ref l),o7,o8,o9,o10])/\∃ys:List V,H' l=some (.lst ys)/\Bf H' ys (CB (fun i=>(u i,w2 i,n2 i-n1 i)) (fun i=>(w2 i,u i,n1 i-n2 i)) i)) ⟨e1,⟨_,_,_,_,rfl⟩,[],A6,.nil⟩ (fun i σ' H' _ pp=>⟨A3.of (pp.1 _ _ hx),A3.of (pp.1 _ _ ho)⟩) (fun i x y Tt σ' H' hxi hyi pp hT=>?_) (fun σ' H' pp=>?_)
 .obtain⟨e,⟨o7,o8,o9,o10,rfl⟩,ys,hy,tr⟩:=pp
  obtain⟨t,rfl,ht⟩:=hxs i x hxi
  obtain⟨t2,rfl,ht2⟩:=hos i y hyi
  have hi:i<m:=by have:=(AX.mp hxi).1;lia
  have sT:=Aa hT (.tup [V.ref t,V.ref t2])
  have e2:=e.trans sT
  have hy2:=sT _ _ hy
  have tr2:=tr.over sT
  refine⟨Tt,_,rfl,A3.of A6,rfl,_,_,rfl,_,_,rfl,rfl,?_⟩
  generalize upd H' Tt (.tup [V.ref t,V.ref t2])=H2 at e2 hy2 tr2
  have g1:=e2 _ _ ht
  have g2:=e2 _ _ ht2
  have yl:ys.length=2*i:=by rw[tr2.1,E2]
  refine⟨_,rfl,_,rfl,_,rfl,t,nm,z1 i,n1 i,f,zs,u i,rfl,g1,e2 _ _ hn,hu i hi,?_⟩
  dsimp only[Ag]
  refine⟨_,rfl,_,rfl,_,rfl,t2,nm2,z2 i,n2 i,s2,zs2,w2 i,rfl,g2,e2 _ _ hn2,hw i hi,?_⟩
  dsimp only[Ag]
  refine⟨_,rfl,.inl ⟨rfl,_,A5.of hy2⟩,_,rfl,_,rfl,_,rfl,t2,_,1,_,rfl,rfl,A3.of g2,rfl,_,rfl,t,_,1,_,rfl,rfl,A3.of g1,rfl,_,_,rfl,rfl,Ak rfl,fun b1 hb1=>?_⟩
  have s3:=Aa hb1 (.tup [V.int (u i),V.int (w2 i),V.int (n2 i-n1 i)])
  have nb1:b1≠l:=fun z=>by rw[z,hy2]at hb1;cases hb1
  refine⟨l,_,_,rfl,rfl,s3 _ _ hy2,C5 (by lia),?_⟩
  have tr3:=((tr2.over s3).upd (xs:=ys++[V.ref b1]) (s3 _ _ hy2)).snoc (t:=b1) (b:=(u i,w2 i,n2 i-n1 i)) (by rw[Am nb1];exact A6)
  have hy3:(upd (upd H2 b1 (.tup [V.int (u i),V.int (w2 i),V.int (n2 i-n1 i)])) l (.lst (ys++[V.ref b1]))) l=some (.lst (ys++[V.ref b1])):=A6
  have e3:A9 H (upd (upd H2 b1 (.tup [V.int (u i),V.int (w2 i),V.int (n2 i-n1 i)])) l (.lst (ys++[V.ref b1]))):=fun a o ha=>by rw[Am (AC ha hl)];exact s3 _ _ (e2 _ _ ha)
  generalize upd (upd H2 b1 (.tup [V.int (u i),V.int (w2 i),V.int (n2 i-n1 i)])) l (.lst (ys++[V.ref b1]))=H3 at tr3 hy3 e3
  have g1:=e3 _ _ ht
  have g2:=e3 _ _ ht2
  refine⟨_,rfl,.inl ⟨rfl,_,A5.of hy3⟩,_,rfl,_,rfl,_,rfl,t,_,1,_,rfl,rfl,A3.of g1,rfl,_,rfl,t2,_,1,_,rfl,rfl,A3.of g2,rfl,_,_,rfl,rfl,Ak rfl,fun b2 hb2=>?_⟩
  have s4:=Aa hb2 (.tup [V.int (w2 i),V.int (u i),V.int (n1 i-n2 i)])
  have nb2:b2≠l:=fun z=>by rw[z,hy3]at hb2;cases hb2
  refine⟨l,_,_,rfl,rfl,s4 _ _ hy3,C5 (by rw[Az,BI];lia),?_⟩
  have tr4:=((tr3.over s4).upd (xs:=ys++[V.ref b1]++[V.ref b2]) (s4 _ _ hy3)).snoc (t:=b2) (b:=(w2 i,u i,n1 i-n2 i)) (by rw[Am nb2];exact A6)
  exact⟨fun a o ha=>by rw[Am (AC ha hl)];exact s4 _ _ (e3 _ _ ha),⟨_,_,_,_,rfl⟩,_,A6,tr4⟩
 .obtain⟨e,⟨o7,o8,o9,o10,rfl⟩,ys,hy,tr⟩:=pp
  rw[xl]at tr
  exact⟨_,rfl,q l ys _ e hy tr⟩
theorem Tu (T:Tx K mg a):AB P w K mg base AI 1 a.f_K a.d_K ["many","case","behind"] SZ:=by
 refine T.F_K.ok Ma (fun vs H Q E h=>?_) (fun cdv A outer s H vs Q E hr h=>?_)
 .obtain⟨_,_,_,rfl,_⟩:=h;rfl
 obtain⟨sn,cs,bh,rfl,c1,q⟩:=h
 refine⟨_,(A8 (Ai (i:=3) Ma.nd rfl (.inl rfl) (B9 A2))
  (A8 (Br PassesOwn.never rfl (Ce (by rfl) T.z_range (A0 (pv 1) A2)) (Al (i:=4) Ma.nd rfl (.inl rfl))
  (A8 (BP (BR BX Cq Cr Ca (pv 3) (A0 (BB (Ab (Ah B2 A1 (pv 4)) (Ab (Ah B2 (pv 2) (pv 4)) (Ab A1 Bm B7) CC) CC)) A2)))
  (Ae (BP (BR BX Cq Cr Ca (pv 3) (A0 (BB (Ab (Ah B2 (pv 2) (pv 4)) (Ab (Ah B2 A1 (pv 4)) (Ab A1 Bm B7) CC) CC)) A2))))))
  (A8 (Be (AZ Ea (pv 1) (pv 0) (AR _))
  (Ae (BP (BR BX Cq Cr Ca (pv 3) (A0 (BB (Ab (Ah B2 A1 (pv 1)) (Ab (Ah B2 (pv 2) (pv 1)) (Ab (Dm Dy A1) Bm L8) CC) CC)) A2))))
  Bj)
  (Ae (Av (pv 3)))))),?_⟩
 refine⟨Ak rfl,fun l hl=>?_⟩
 have e1:=Aa hl (.lst [])
 have hl1:(upd H l (.lst [])) l=some (.lst []):=A6
 dsimp only[Ag]
 generalize upd H l (.lst [])=H1 at e1 hl1
 refine⟨_,rfl,_,rfl,by lia,by lia,?_⟩
 rw[Em]
 refine CN (lo:=0) (n:=cs) (fun i σ' H'=>A9 H H'/\(∃o4,σ'=[some (.int (sn:Int)),some (.int (cs:Int)),some (.int bh),some (.ref l),o4])/\∃ys:List V,H' l=some (.lst ys)/\Bf H' ys (Eu bh i)) ⟨e1,⟨_,rfl⟩,[],hl1,.nil⟩ (fun i σ' H' hi pp=>?_) (fun σ' H' pp=>?_)
 .obtain⟨e,⟨o4,rfl⟩,ys,hy,tr⟩:=pp
  have z0:(0+(i:Int))=(i:Int):=En _
  have yl:ys.length=2*i:=by rw[tr.1];exact E2 _ _ _
  refine⟨_,rfl,.inl ⟨rfl,_,A5.of hy⟩,_,rfl,_,_,rfl,rfl,_,rfl,_,rfl,_,_,rfl,rfl,Ak rfl,fun b1 hb1=>?_⟩
  rw[z0]
  have s3:=Aa hb1 (.tup [V.int (1+(i:Int)),V.int (bh+(i:Int)),V.int 0])
  have nb1:b1≠l:=fun z=>by rw[z,hy]at hb1;cases hb1
  refine⟨l,_,_,rfl,rfl,s3 _ _ hy,C5 (by lia),?_⟩
  have tr3:=((tr.over s3).upd (xs:=ys++[V.ref b1]) (s3 _ _ hy)).snoc (t:=b1) (b:=(1+(i:Int),bh+(i:Int),0)) (by rw[Am nb1];exact A6)
  have hy3:(upd (upd H' b1 (.tup [V.int (1+(i:Int)),V.int (bh+(i:Int)),V.int 0])) l (.lst (ys++[V.ref b1]))) l=some (.lst (ys++[V.ref b1])):=A6
  have e3:A9 H (upd (upd H' b1 (.tup [V.int (1+(i:Int)),V.int (bh+(i:Int)),V.int 0])) l (.lst (ys++[V.ref b1]))):=fun a o ha=>by rw[Am (AC ha hl)];exact s3 _ _ (e _ _ ha)
  generalize upd (upd H' b1 (.tup [V.int (1+(i:Int)),V.int (bh+(i:Int)),V.int 0])) l (.lst (ys++[V.ref b1]))=H3 at tr3 hy3 e3
  refine⟨_,rfl,.inl ⟨rfl,_,A5.of hy3⟩,_,rfl,_,rfl,_,_,rfl,rfl,_,rfl,_,_,rfl,rfl,Ak rfl,fun b2 hb2=>?_⟩
  have s4:=Aa hb2 (.tup [V.int (bh+(i:Int)),V.int (1+(i:Int)),V.int 0])
  have nb2:b2≠l:=fun z=>by rw[z,hy3]at hb2;cases hb2
  refine⟨l,_,_,rfl,rfl,s4 _ _ hy3,C5 (by rw[Az,BI];lia),?_⟩
  have tr4:=((tr3.over s4).upd (xs:=ys++[V.ref b1]++[V.ref b2]) (s4 _ _ hy3)).snoc (t:=b2) (b:=(bh+(i:Int),1+(i:Int),0)) (by rw[Am nb2];exact A6)
  exact⟨fun a o ha=>by rw[Am (AC ha hl)];exact s4 _ _ (e3 _ _ ha),⟨_,rfl⟩,_,A6,tr4⟩
 obtain⟨e,⟨o4,rfl⟩,ys,hy,tr⟩:=pp
 have yl:ys.length=2*cs:=by rw[tr.1];exact E2 _ _ _
 refine⟨_,rfl,_,rfl,_,_,rfl,rfl,_,rfl,Cf (fun c=>?_) (fun c=>?_)⟩
 .have c:=dT c
  refine⟨_,rfl,.inl ⟨rfl,_,A5.of hy⟩,_,rfl,_,_,rfl,rfl,_,rfl,_,rfl,_,_,rfl,rfl,_,rfl,Ak rfl,fun b1 hb1=>?_⟩
  have s3:=Aa hb1 (.tup [V.int (1+(cs:Int)),V.int (bh+(cs:Int)),V.int (-1)])
  have nb1:b1≠l:=fun z=>by rw[z,hy]at hb1;cases hb1
  refine⟨l,_,_,rfl,rfl,s3 _ _ hy,C5 (by lia),?_⟩
  have tr3:=((tr.over s3).upd (xs:=ys++[V.ref b1]) (s3 _ _ hy)).snoc (t:=b1) (b:=(1+(cs:Int),bh+(cs:Int),-1)) (by rw[Am nb1];exact A6)
  refine⟨_,rfl,q l _ _ (fun a o ha=>by rw[Am (AC ha hl)];exact s3 _ _ (e _ _ ha)) A6 ?_⟩
  unfold FG
  rw[Ax (by lia)]
  exact tr3
 .have c:=dF c
  refine⟨_,rfl,q l _ _ e hy ?_⟩
  unfold FG
  rw[As (by lia),DA]
  exact tr
theorem UJ (T:Tx K mg a):AB P w K mg base AI 104 a.f_J a.d_J ["program","k","a","l","b","case"] (Ri a.c_Program a.c_Deed (CH a)):=by
 have G_i :=@Q0 P w K mg base a T
 have G_r :=@R8 P w K mg base a T
 have G_F :=@Vq P w K mg base a T
 have G_K :=@Tu P w K mg base a T
 have G_o :=@Qg P w K mg base a T
 refine T.F_J.ok Gg (fun vs H Q E h=>?_) (fun cdv A outer s H vs Q E hr h=>?_)
 .obtain⟨_,_,_,_,_,_,_,_,_,_,_,_,_,_,_,_,rfl,_⟩:=h;rfl
 obtain⟨x,dx,dl,sz,xs,Rs,R,R',r,r',k,ta,l,tb,cs,D,rfl,hx,hdl,ax,hR,hR',g,g',ok,ok',hta,htb,hS,hS',cd,c1,q⟩:=h
 refine⟨_,(A8 (Ai (i:=6) Gg.nd rfl (.inl rfl) (A7 AH (Bx (pv 0) rfl) (pv 1) (fun _ _=>rfl)))
  (A8 (Ai (i:=7) Gg.nd rfl (.inl rfl) (A7 AH (Bx (pv 0) rfl) (pv 3) (fun _ _=>rfl)))
  (A8 (Ai (i:=8) Gg.nd rfl (.inl rfl) (Ah B2 A1 (B3 Bp (by rfl) T.z_len Bo (A0 (Bx (pv 6) rfl) A2))))
  (A8 (Ai (i:=9) Gg.nd rfl (.inl rfl) (A7 Ac (A7 AH (Aj G_i (hr.mono (by lia)) (by rfl) T.m_i T.F_i.kp T.b_i .nil Af (A0 (pv 6) A2)) (pv 2) (fun _ _=>rfl)) A1 (fun _ _=>rfl)))
  (A8 (Ai (i:=10) Gg.nd rfl (.inl rfl) (A7 Ac (A7 AH (Aj G_i (hr.mono (by lia)) (by rfl) T.m_i T.F_i.kp T.b_i .nil Af (A0 (pv 7) A2)) (pv 4) (fun _ _=>rfl)) A1 (fun _ _=>rfl)))
  (A8 (Ai (i:=11) Gg.nd rfl (.inl rfl) (Ah Dl (Aj G_r (hr.mono (by lia)) (by rfl) T.m_r T.F_r.kp T.b_r .nil Af (A0 (pv 6) (A0 A1 A2))) (Aj G_r (hr.mono (by lia)) (by rfl) T.m_r T.F_r.kp T.b_r .nil Af (A0 (pv 7) (A0 (pv 8) A2)))))
  (A8 (BP (BR BX PySem.F.slot_list_extend PySem.F.type_list_extend OR (pv 11) (A0 (Aj G_F (hr.mono (by lia)) (by rfl) T.m_F T.F_F.kp T.b_F .nil Af (A0 (pv 9) (A0 (Bx (pv 6) rfl) (A0 A1 (A0 (pv 10) (A0 (Bx (pv 7) rfl) (A0 (pv 8) A2))))))) A2)))
  (A8 (BP (BR BX PySem.F.slot_list_extend PySem.F.type_list_extend OR (pv 11) (A0 (Aj G_K (hr.mono (by lia)) (by rfl) T.m_K T.F_K.kp T.b_K .nil Af (A0 (Aj G_o (hr.mono (by lia)) (by rfl) T.m_o T.F_o.kp T.b_o .nil Af (A0 (pv 6) (A0 (pv 7) A2))) (A0 (pv 5) (A0 (pv 8) A2)))) A2)))
  (Ae (Av (pv 11))))))))))),?_⟩
 obtain⟨y1,hy1,d4⟩:=ax.get hR
 obtain⟨y2,hy2,d4'⟩:=ax.get hR'
 have d5:=d4.d5
 have d5':=d4'.d5
 have dt:=d4.tm
 have dt':=d4'.tm
 obtain⟨d1,dx1,nm1,lo1,hi1,pt1,v1,ls1,hs1,rfl,hd1,hn1,hlo1,al1,hhi1,ah1,hp1,to1⟩:=d4
 obtain⟨d2,dx2,nm2,lo2,hi2,pt2,v2,ls2,hs2,rfl,hd2,hn2,hlo2,al2,hhi2,ah2,hp2,to2⟩:=d4'
 have k1:D.s<=R.S.length:=cd.pf.1
 have k3:=g.len
 have k4:=g'.len
 have m3:=cd.m3
 have nl:((AV R.S).map V.str).length=R.S.length:=by unfold AV;rw[Aq,Aq]
 have n1:=g.nd
 have n2:=g'.nd
 have z1:=g.ne
 have z2:=g'.ne
 have nm1l:=EV R.S
 have nm2l:=EV R'.S
 refine⟨_,rfl,x,_,dx,_,_,rfl,hx,T.cl_Program,T.n_Program_deeds,rfl,_,rfl,dl,_,_,_,rfl,rfl,A5.of hdl,By hy1,?_⟩
 dsimp only[Ag]
 refine⟨_,rfl,x,_,dx,_,_,rfl,hx,T.cl_Program,T.n_Program_deeds,rfl,_,rfl,dl,_,_,_,rfl,rfl,A5.of hdl,By hy2,?_⟩
 dsimp only[Ag]
 refine⟨_,rfl,d1,_,dx1,_,_,rfl,hd1,T.cl_Deed,T.n_Deed_names,rfl,nm1,_,rfl,.inr (A3.of hn1),_,_,rfl,rfl,?_⟩
 rw[nl]
 dsimp only[Ag]
 generalize hbh:1+(R.S.length:Int)=bh
 refine⟨_,rfl,.ref d1,R.z,R.p,R.m,R.rs,rfl,dt,by have:=g.m3;lia,fun q1 H1 e1 q10 tc1=>?_⟩
 obtain⟨as1,tp1,fl1,hq1,at1,htp1⟩:=Ih tc1 hta
 refine⟨_,rfl,q1,_,_,_,rfl,rfl,A5.of hq1,at1,tp1,_,2,_,rfl,rfl,A3.of htp1,rfl,?_⟩
 dsimp only[Ag]
 refine⟨_,rfl,.ref d2,R'.z,R'.p,R'.m,R'.rs,rfl,dt'.over e1,by have:=g'.m3;lia,fun q2 H2 e2 q20 tc2=>?_⟩
 obtain⟨as2,tp2,fl2,hq2,at2,htp2⟩:=Ih tc2 htb
 refine⟨_,rfl,q2,_,_,_,rfl,rfl,A5.of hq2,at2,tp2,_,2,_,rfl,rfl,A3.of htp2,rfl,?_⟩
 have e02:=e1.trans e2
 have tk02:=A9.tk e02
 dsimp only[Ag]
 refine⟨_,rfl,d1,dx1,nm1,lo1,hi1,_,_,_,_,1,AV R.S,Dg R.S,Dw R.S,Da R.S,DV R.S,D.u,D.w,rfl,e02 _ _ hd1,e02 _ _ hn1,by rw[nm1l];exact MH (e02 _ _ hlo1) (al1.mono fun _ _ z=>z.tk tk02),by rw[nm1l];exact ML (e02 _ _ hhi1) (ah1.mono fun _ _ z=>z.tk tk02),by lia,fun i hi=>EF n1 z1 (cd.hu i (by lia)),fun i hi=>EF n1 z1 (cd.hw i (by lia)),fun f1 ys1 H3 e3 hf1 tr1=>?_⟩
 rw[nm1l]at tr1
 have tr1:Bf H3 ys1 (Fg R.S 1 D.u D.w):=tr1
 have e03:=e02.trans e3
 have tk03:=A9.tk e03
 refine⟨_,rfl,_,rfl,d2,dx2,nm2,lo2,hi2,_,_,_,_,bh,AV R'.S,Dg R'.S,Dw R'.S,Da R'.S,DV R'.S,D.u',D.w',rfl,e03 _ _ hd2,e03 _ _ hn2,by rw[nm2l];exact MH (e03 _ _ hlo2) (al2.mono fun _ _ z=>z.tk tk03),by rw[nm2l];exact ML (e03 _ _ hhi2) (ah2.mono fun _ _ z=>z.tk tk03),by lia,fun i hi=>by rw[←hbh];exact EF n2 z2 (cd.hu' i (by lia)),fun i hi=>by rw[←hbh];exact EF n2 z2 (cd.hw' i (by lia)),fun f2 ys2 H4 e4 hf2 tr2=>?_⟩
 rw[nm2l]at tr2
 have tr2:Bf H4 ys2 (Fg R'.S bh D.u' D.w'):=tr2
 have y1l:ys1.length=2*R.S.length:=by rw[tr1.1,FZ]
 have y2l:ys2.length=2*R'.S.length:=by rw[tr2.1,FZ]
 refine⟨f1,f2,_,_,rfl,rfl,e4 _ _ hf1,hf2,Bc (by lia),fun bo hbo=>?_⟩
 have s5:=Aa hbo (.lst (ys1++ys2))
 have hbo5:(upd H4 bo (.lst (ys1++ys2))) bo=some (.lst (ys1++ys2)):=A6
 have tr5:=((tr1.over e4).app tr2).over s5
 dsimp only[Ag]
 generalize upd H4 bo (.lst (ys1++ys2))=H5 at s5 hbo5 tr5
 have e04:=e03.trans e4
 have bo0:H bo=none:=e04.free hbo
 have e05:=e04.trans s5
 refine⟨_,rfl,.inl ⟨rfl,_,A5.of hbo5⟩,_,rfl,_,rfl,d1,_,dx1,_,_,rfl,e05 _ _ hd1,T.cl_Deed,T.n_Deed_names,rfl,_,rfl,_,rfl,d2,_,dx2,_,_,rfl,e05 _ _ hd2,T.cl_Deed,T.n_Deed_names,rfl,_,rfl,r.2,nm1,r'.2,nm2,1,bh,D.m,D.z1,D.z2,D.n1,D.n2,D.x1,D.x2,AV R.S,AV R'.S,rfl,by lia,hS.over e05,hS'.over e05,e05 _ _ hn1,e05 _ _ hn2,cd.hx1,by rw[←hbh];exact cd.hx2,fun f3 ys3 H6 e6 hf3 tr3=>?_⟩
 have tr3:Bf H6 ys3 (HK D):=tr3
 have hbo6:=e6 _ _ hbo5
 have y3l:ys3.length=2*D.m:=by rw[tr3.1];exact E2 _ _ _
 refine⟨bo,f3,_,_,rfl,rfl,hbo6,hf3,Bc (by rw[Az];lia),?_⟩
 have tk7:TK H6 (upd H6 bo (.lst (ys1++ys2++ys3))):=TK.upd hbo6
 have tr7:=((tr5.over e6).app tr3).tk tk7
 have hbo7:(upd H6 bo (.lst (ys1++ys2++ys3))) bo=some (.lst (ys1++ys2++ys3)):=A6
 have e07:A9 H (upd H6 bo (.lst (ys1++ys2++ys3))):=fun b o hb=>by rw[Am (AC hb bo0)];exact e6 _ _ (e05 _ _ hb)
 generalize upd H6 bo (.lst (ys1++ys2++ys3))=H7 at tr7 hbo7 e07
 refine⟨_,rfl,.inl ⟨rfl,_,A5.of hbo7⟩,_,rfl,_,rfl,.ref d1,.ref d2,R.r5,R'.r5,D.s,rfl,d5.over e07,d5'.over e07,ok,ok',cd.pf,_,rfl,_,rfl,D.s,cs,bh,rfl,by lia,fun f4 ys4 H8 e8 hf4 tr4=>?_⟩
 have hbo8:=e8 _ _ hbo7
 have y4l:ys4.length<=100:=by
  rw[tr4.1]
  unfold FG Eu
  rw[Az,E2]
  split<;>simp<;>lia
 refine⟨bo,f4,_,_,rfl,rfl,hbo8,hf4,Bc (by rw[Az,Az];lia),?_⟩
 have tk9:TK H8 (upd H8 bo (.lst (ys1++ys2++ys3++ys4))):=TK.upd hbo8
 have tr9:=((tr7.over e8).app tr4).tk tk9
 refine⟨_,rfl,q bo _ _ (fun b o hb=>by rw[Am (AC hb bo0)];exact e8 _ _ (e07 _ _ hb)) A6 ?_⟩
 unfold CV
 rw[hbh]
 exact tr9
theorem Xp (T:Tx K mg a):AB P w K mg base AI 2 a.f_W a.d_W ["_law_rows_here","_law_one","_law_other"] Yw:=by
 have G_h :=@N8 P w K mg base a T
 refine T.F_W.ok MC (fun vs H Q E h=>?_) (fun cdv A outer s H vs Q E hr h=>?_)
 .obtain⟨_,_,_,_,_,_,_,_,_,_,_,_,_,_,rfl,_⟩:=h;rfl
 obtain⟨rl,t1,t2,w1,w2,Rs,M,R,R',k,l,sn,W,W',rfl,⟨xs,hrl,ax⟩,hR,hR',g,g',pf,ht1,ht2,hw1,hw2,wl,wl',q⟩:=h
 refine⟨_,(A8 (Ai (i:=3) MC.nd rfl (.inl rfl) (Aj G_h (hr.mono (by lia)) (by rfl) T.m_h T.F_h.kp T.b_h .nil Af (A0 (A7 AH (pv 0) (A7 Ac (pv 1) A1 (fun _ _=>rfl)) (fun _ _=>rfl)) (A0 (A7 AH (pv 0) (A7 Ac (pv 2) A1 (fun _ _=>rfl)) (fun _ _=>rfl)) A2))))
  (A8 (Br PassesOwn.never rfl (Ce (by rfl) T.z_range (A0 (pv 3) A2)) (Al (i:=4) MC.nd rfl (.inl rfl))
  (Ae (Be (AZ Ek (A7 Ac (A7 Ac (pv 1) A1 (fun _ _=>rfl)) (pv 4) (fun _ _=>rfl)) (A7 Ac (A7 Ac (pv 2) A1 (fun _ _=>rfl)) (pv 4) (fun _ _=>rfl)) (AR _))
  (Ae (Av (A7 AH (B9 (A0 FY (A0 (pv 4) A2))) (Ec KU (by rfl) T.z_int Jc (A0 (ET Ea (A7 Ac (A7 Ac (pv 1) A1 (fun _ _=>rfl)) (pv 4) (fun _ _=>rfl)) (A7 Ac (A7 Ac (pv 2) A1 (fun _ _=>rfl)) (pv 4) (fun _ _=>rfl)) (AR _)) A2)) (fun _ _=>rfl))))
  Bj)))
  (Ae (Av (A7 AH (B9 (A0 FY (A0 (pv 3) A2))) (Ec KU (by rfl) T.z_int Jc (A0 (ET Ea (A7 Ac (pv 1) A1 (fun _ _=>rfl)) (A7 Ac (pv 2) A1 (fun _ _=>rfl)) (AR _)) A2)) (fun _ _=>rfl)))))),?_⟩
 obtain⟨y1,hy1,r1⟩:=ax.get hR
 obtain⟨y2,hy2,r2⟩:=ax.get hR'
 have k1:sn<=R.S.length:=pf.1
 have k2:sn<=R'.S.length:=pf.2.1
 have k3:=g.len
 have pick:∀(A B:Int) (y:Nat),B8 [V.non,V.int (y:Int)] (if decide (A<B)=true then 1 else 0)=some (Gn (if A<B then some y else none)):=fun A B y=>by
  by_cases c:A<B
  .rw[Ax (B6 c),Ax c];rfl
  .rw[As (by rw[BO c];decide),As c];rfl
 refine⟨_,rfl,_,rfl,t1,_,0,_,rfl,rfl,A3.of ht1,rfl,rl,_,_,_,rfl,rfl,A5.of hrl,By hy1,_,rfl,_,rfl,t2,_,0,_,rfl,rfl,A3.of ht2,rfl,rl,_,_,_,rfl,rfl,A5.of hrl,By hy2,y1,y2,R.r5,R'.r5,sn,rfl,r1.1.r5,r2.1.r5,g.ok5 r1.1,g'.ok5 r2.1,pf,?_⟩
 dsimp only[Ag]
 refine⟨_,rfl,_,rfl,by lia,by lia,?_⟩
 rw[Em]
 refine CN (lo:=0) (n:=sn) (fun i σ' H'=>H'=H/\(∃o4,σ'=[some (.ref rl),some (.ref t1),some (.ref t2),some (.int (sn:Int)),o4])/\∀j<i,W.getD j 0=W'.getD j 0) ⟨rfl,⟨_,rfl⟩,fun j hj=>by lia⟩ (fun i σ' H' hi pp=>?_) (fun σ' H' pp=>?_)
 .obtain⟨rfl,⟨o4,rfl⟩,al⟩:=pp
  have z0:(0+(i:Int))=(i:Int):=En _
  have at1:B8 (W.map V.int) (0+(i:Int))=some (.int (W.getD i 0)):=by rw[z0];exact FD (ns:=W) (k:=(i:Int)) (Ha _) (by lia)
  have at2:B8 (W'.map V.int) (0+(i:Int))=some (.int (W'.getD i 0)):=by rw[z0];exact FD (ns:=W') (k:=(i:Int)) (Ha _) (by lia)
  dsimp only[Ag]
  refine⟨_,rfl,t1,_,1,_,rfl,rfl,A3.of ht1,rfl,_,rfl,w1,_,_,_,rfl,rfl,A3.of hw1,at1,_,rfl,t2,_,1,_,rfl,rfl,A3.of ht2,rfl,_,rfl,w2,_,_,_,rfl,rfl,A3.of hw2,at2,rfl,_,rfl,?_⟩
  by_cases c:W.getD i 0=W'.getD i 0
  .refine AG (v:=false) (EA (congrArg V.int c)) (AO ⟨rfl,⟨_,rfl⟩,fun j hj=>?_⟩)
   by_cases z:j=i
   .rw[z];exact c
   .exact al j (by lia)
  .refine AG (v:=true) (M1 fun z=>c (V.int.inj z)) (BE ?_)
   refine⟨_,rfl,Ak rfl,fun p hp=>?_⟩
   have s1:=Aa hp (.lst [V.non,V.int (0+(i:Int))])
   refine⟨_,rfl,t1,_,1,_,rfl,rfl,A3.of (s1 _ _ ht1),rfl,_,rfl,w1,_,_,_,rfl,rfl,A3.of (s1 _ _ hw1),at1,_,rfl,t2,_,1,_,rfl,rfl,A3.of (s1 _ _ ht2),rfl,_,rfl,w2,_,_,_,rfl,rfl,A3.of (s1 _ _ hw2),at2,_,_,rfl,rfl,.inr ⟨_,rfl,p,_,_,_,rfl,rfl,A5.of A6,(by rw[z0];exact pick _ _ i),?_⟩⟩
   refine q _ _ s1 fun e=>⟨fun z=>?_,fun z=>?_⟩
   .split at z
    .cases z
     exact⟨al,.inl ⟨hi,by assumption⟩⟩
    .cases z
   .obtain⟨z1,z2⟩:=z
    rcases Nr e i with y|y|y
    .have:=al e y
     lia
    .subst y
     rw[Ax (by lia)]
    .exact absurd (z1 i y) c
 obtain⟨rfl,⟨o4,rfl⟩,al⟩:=pp
 refine⟨_,rfl,Ak rfl,fun p hp=>?_⟩
 have s1:=Aa hp (.lst [V.non,V.int (sn:Int)])
 refine⟨_,rfl,t1,_,0,_,rfl,rfl,A3.of (s1 _ _ ht1),rfl,_,rfl,t2,_,0,_,rfl,rfl,A3.of (s1 _ _ ht2),rfl,_,_,rfl,rfl,.inr ⟨_,rfl,p,_,_,_,rfl,rfl,A5.of A6,pick _ _ sn,?_⟩⟩
 refine q _ _ s1 fun e=>⟨fun z=>?_,fun z=>?_⟩
 .split at z
  .cases z
   exact⟨al,.inr ⟨rfl,by lia⟩⟩
  .cases z
 .obtain⟨z1,z2⟩:=z
  rcases z2 with⟨y1,y2⟩|⟨rfl,y2⟩
  .have:=al e y1
   lia
  .rw[Ax (by lia)]
theorem NI (T:Tx K mg a):AB P w K mg base AI 1 a.f_g a.d_g ["_law_name","_law_names_here","_law_first"] YN:=by
 refine T.F_g.ok XC (fun vs H Q E h=>?_) (fun cdv A outer s H vs Q E hr h=>?_)
 .obtain⟨_,_,_,_,_,rfl,_⟩:=h;rfl
 obtain⟨nm,z,first,zs,u,rfl,hn,hw,q⟩:=h
 refine⟨_,(A8 (Be (AZ Cm (pv 0) BD (AR _))
  (Ae (Av A1))
  Bj)
  (Ae (Av (Ah B2 (pv 2) (Pl QE PySem.F.type_tuple_index P5 (pv 1) (A0 (pv 0) A2)))))),?_⟩
 refine⟨_,rfl,rfl,_,rfl,?_⟩
 rcases hw with⟨rfl,rfl⟩|⟨hz,j,hj,hno,rfl⟩
 .exact AG (v:=true) (B6 rfl) (BE q)
 .refine AG (v:=false) (dS hz) (AO ?_)
  exact⟨_,rfl,_,rfl,⟨nm,_,rfl,hn⟩,_,rfl,nm,zs,z,j,rfl,rfl,A3.of hn,hj,hno,_,_,rfl,rfl,q⟩
theorem Xq (T:Tx K mg a):AB P w K mg base AI 2 a.f_v a.d_v ["_law_row_here","_law_first"] T9:=by
 have G_g :=@NI P w K mg base a T
 refine T.F_v.ok Gv (fun vs H Q E h=>?_) (fun cdv A outer s H vs Q E hr h=>?_)
 .obtain⟨_,_,_,_,_,rfl,_⟩:=h;rfl
 obtain⟨v,R,f,u,w2,rfl,⟨r,u1,u2,u3,u4,x,ls,hs,rfl,hr1,hu1,hu2,als,hu3,ahs,hu4,tm⟩,l3,hu,hw,q⟩:=h
 refine⟨_,(A8 (Ai (i:=2) Gv.nd rfl (.inl rfl) (B9 A2))
  (A8 (Br PassesOwn.never rfl (Ce (by rfl) T.z_range (A0 (B3 Bp (by rfl) T.z_len Bo (A0 (A7 Ac (pv 0) A1 (fun _ _=>rfl)) A2)) A2)) (Al (i:=3) Gv.nd rfl (.inl rfl))
  (A8 (Ep (A7 Ac (A7 Ac (pv 0) A1 (fun _ _=>rfl)) (pv 3) (fun _ _=>rfl)) (BY rfl (AA (Al (i:=4) Gv.nd rfl (.inl rfl)) (AA (Al (i:=5) Gv.nd rfl (.inl rfl)) BS))))
  (A8 (Ep (A7 Ac (A7 Ac (pv 0) A1 (fun _ _=>rfl)) (pv 3) (fun _ _=>rfl)) (BY rfl (AA (Al (i:=6) Gv.nd rfl (.inl rfl)) (AA (Al (i:=7) Gv.nd rfl (.inl rfl)) BS))))
  (A8 (BP (BR BX Cq Cr Ca (pv 2) (A0 (BB (Ab (Aj G_g (hr.mono (by lia)) (by rfl) T.m_g T.F_g.kp T.b_g .nil Af (A0 (pv 4) (A0 (A7 Ac (pv 0) A1 (fun _ _=>rfl)) (A0 (pv 1) A2)))) (Ab (Ah B2 (pv 1) (pv 3)) (Ab (Ah DF A1 (pv 5)) Bm CC) CC) Fi)) A2)))
  (Ae (BP (BR BX Cq Cr Ca (pv 2) (A0 (BB (Ab (Ah B2 (pv 1) (pv 3)) (Ab (Aj G_g (hr.mono (by lia)) (by rfl) T.m_g T.F_g.kp T.b_g .nil Af (A0 (pv 6) (A0 (A7 Ac (pv 0) A1 (fun _ _=>rfl)) (A0 (pv 1) A2)))) (Ab (pv 7) Bm AK) Fi) CC)) A2))))))))
  (Ae (Av (pv 2))))),?_⟩
 obtain⟨xs,hx,xl,hxs⟩:=MH hu2 als
 obtain⟨os,ho,ol,hos⟩:=ML hu3 ahs
 have nl:((AV R.S).map V.str).length=R.S.length:=by unfold AV;rw[Aq,Aq]
 refine⟨Ak rfl,fun l hl=>?_⟩
 have e1:=Aa hl (.lst [])
 have hl1:(upd H l (.lst [])) l=some (.lst []):=A6
 dsimp only[Ag]
 generalize upd H l (.lst [])=H1 at e1 hl1
 refine⟨_,rfl,r,_,0,_,rfl,rfl,A3.of (e1 _ _ hr1),rfl,u1,_,rfl,.inr (A3.of (e1 _ _ hu1)),_,rfl,by rw[nl];lia,by rw[nl];lia,?_⟩
 rw[nl,Em]
 refine CN (lo:=0) (n:=R.S.length) (fun i σ' H'=>A9 H H'/\(∃o3 o4 o5 o6 o7,σ'=[some (.ref r),some (.int f),some (.ref l),o3,o4,o5,o6,o7])/\∃ys:List V,H' l=some (.lst ys)/\Bf H' ys (CB (DM f u (Da R.S)) (DW f w2 (DV R.S)) i)) ⟨e1,⟨_,_,_,_,_,rfl⟩,[],hl1,.nil⟩ (fun i σ' H' hi pp=>?_) (fun σ' H' pp=>?_)
 .obtain⟨e,⟨o3,o4,o5,o6,o7,rfl⟩,ys,hy,tr⟩:=pp
  have z0:(0+(i:Int))=(i:Int):=En _
  have x1:xs[i]?=some xs[i]:=AL (by lia)
  have x2:os[i]?=some os[i]:=AL (by lia)
  obtain⟨t1,et1,ht1⟩:=hxs i _ x1
  obtain⟨t2,et2,ht2⟩:=hos i _ x2
  have at1:B8 xs (0+(i:Int))=some (.ref t1):=by rw[z0];exact(By x1).trans (congrArg some et1)
  have at2:B8 os (0+(i:Int))=some (.ref t2):=by rw[z0];exact(By x2).trans (congrArg some et2)
  have yl:ys.length=2*i:=by rw[tr.1,E2]
  have g1:=e _ _ ht1
  have g2:=e _ _ ht2
  have gr:=e _ _ hr1
  dsimp only[Ag]
  refine⟨_,rfl,r,_,1,_,rfl,rfl,A3.of gr,rfl,_,rfl,u2,_,_,_,rfl,rfl,A3.of (e _ _ hx),at1,t1,_,rfl,A3.of g1,rfl,_,_,rfl,_,_,rfl,rfl,?_⟩
  refine⟨_,rfl,r,_,2,_,rfl,rfl,A3.of gr,rfl,_,rfl,u3,_,_,_,rfl,rfl,A3.of (e _ _ ho),at2,t2,_,rfl,A3.of g2,rfl,_,_,rfl,_,_,rfl,rfl,?_⟩
  refine⟨_,rfl,.inl ⟨rfl,_,A5.of hy⟩,_,rfl,_,rfl,r,_,0,_,rfl,rfl,A3.of gr,rfl,_,rfl,u1,Dg R.S i,f,AV R.S,u i,rfl,e _ _ hu1,hu i hi,_,rfl,_,rfl,_,_,rfl,rfl,_,rfl,_,_,rfl,rfl,Ak rfl,fun b1 hb1=>?_⟩
  rw[z0]
  have s3:=Aa hb1 (.tup [V.int (u i),V.int (f+(i:Int)),V.int (0-Da R.S i)])
  have nb1:b1≠l:=fun z=>by rw[z,hy]at hb1;cases hb1
  refine⟨l,_,_,rfl,rfl,s3 _ _ hy,C5 (by lia),?_⟩
  have tr3:=((tr.over s3).upd (xs:=ys++[V.ref b1]) (s3 _ _ hy)).snoc (t:=b1) (b:=DM f u (Da R.S) i) (by rw[Am nb1,A6];unfold DM;dsimp only;rw[Int.zero_sub])
  have hy3:(upd (upd H' b1 (.tup [V.int (u i),V.int (f+(i:Int)),V.int (0-Da R.S i)])) l (.lst (ys++[V.ref b1]))) l=some (.lst (ys++[V.ref b1])):=A6
  have e3:A9 H (upd (upd H' b1 (.tup [V.int (u i),V.int (f+(i:Int)),V.int (0-Da R.S i)])) l (.lst (ys++[V.ref b1]))):=fun a o ha=>by rw[Am (AC ha hl)];exact s3 _ _ (e _ _ ha)
  generalize upd (upd H' b1 (.tup [V.int (u i),V.int (f+(i:Int)),V.int (0-Da R.S i)])) l (.lst (ys++[V.ref b1]))=H3 at tr3 hy3 e3
  refine⟨_,rfl,.inl ⟨rfl,_,A5.of hy3⟩,_,rfl,_,rfl,_,_,rfl,rfl,_,rfl,_,rfl,r,_,0,_,rfl,rfl,A3.of (e3 _ _ hr1),rfl,_,rfl,u1,Dw R.S i,f,AV R.S,w2 i,rfl,e3 _ _ hu1,hw i hi,_,rfl,Ak rfl,fun b2 hb2=>?_⟩
  have s4:=Aa hb2 (.tup [V.int (f+(i:Int)),V.int (w2 i),V.int (DV R.S i)])
  have nb2:b2≠l:=fun z=>by rw[z,hy3]at hb2;cases hb2
  refine⟨l,_,_,rfl,rfl,s4 _ _ hy3,C5 (by rw[Az,BI];lia),?_⟩
  have tr4:=((tr3.over s4).upd (xs:=ys++[V.ref b1]++[V.ref b2]) (s4 _ _ hy3)).snoc (t:=b2) (b:=DW f w2 (DV R.S) i) (by rw[Am nb2];exact A6)
  exact⟨fun a o ha=>by rw[Am (AC ha hl)];exact s4 _ _ (e3 _ _ ha),⟨_,_,_,_,_,rfl⟩,_,A6,tr4⟩
 .obtain⟨e,⟨o3,o4,o5,o6,o7,rfl⟩,ys,hy,tr⟩:=pp
  exact⟨_,rfl,q l ys _ e hy tr⟩
theorem W4 (T:Tx K mg a):AB P w K mg base AI 104 a.f_X a.d_X ["_law_rows_here","_law_k","_law_a","_law_l","_law_b","_law_case"] R1:=by
 have G_v :=@Xq P w K mg base a T
 have G_b :=@KM P w K mg base a T
 have G_g :=@NI P w K mg base a T
 have G_h :=@N8 P w K mg base a T
 refine T.F_X.ok Ex (fun vs H Q E h=>?_) (fun cdv A outer s H vs Q E hr h=>?_)
 .obtain⟨_,_,_,_,_,_,_,_,_,_,_,_,_,rfl,_⟩:=h;rfl
 obtain⟨rl,Rs,M,R,R',r,r',k,ta,l,tb,cs,D,rfl,⟨xs,hrl,ax⟩,hR,hR',g,g',ok,ok',hta,htb,hS,hS',cd,c1,q⟩:=h
 refine⟨_,(A8 (Ai (i:=6) Ex.nd rfl (.inl rfl) (A7 AH (pv 0) (pv 1) (fun _ _=>rfl)))
  (A8 (Ai (i:=7) Ex.nd rfl (.inl rfl) (A7 AH (pv 0) (pv 3) (fun _ _=>rfl)))
  (A8 (Ai (i:=8) Ex.nd rfl (.inl rfl) (Ah B2 A1 (B3 Bp (by rfl) T.z_len Bo (A0 (A7 Ac (pv 6) A1 (fun _ _=>rfl)) A2))))
  (A8 (Ai (i:=9) Ex.nd rfl (.inl rfl) (Ah Dl (Aj G_v (hr.mono (by lia)) (by rfl) T.m_v T.F_v.kp T.b_v .nil Af (A0 (pv 6) (A0 A1 A2))) (Aj G_v (hr.mono (by lia)) (by rfl) T.m_v T.F_v.kp T.b_v .nil Af (A0 (pv 7) (A0 (pv 8) A2)))))
  (A8 (Br PassesOwn.never rfl (LX (by rfl) T.z_zip (A0 (A7 Ac (A7 AH (Aj G_b (hr.mono (by lia)) (by rfl) T.m_b T.F_b.kp T.b_b .nil Af (A0 (pv 6) A2)) (pv 2) (fun _ _=>rfl)) A1 (fun _ _=>rfl)) (A0 (A7 Ac (A7 AH (Aj G_b (hr.mono (by lia)) (by rfl) T.m_b T.F_b.kp T.b_b .nil Af (A0 (pv 7) A2)) (pv 4) (fun _ _=>rfl)) A1 (fun _ _=>rfl)) A2))) (BY rfl (AA (Al (i:=10) Ex.nd rfl (.inl rfl)) (AA (Al (i:=11) Ex.nd rfl (.inl rfl)) BS)))
  (A8 (Ai (i:=12) Ex.nd rfl (.inl rfl) (Aj G_g (hr.mono (by lia)) (by rfl) T.m_g T.F_g.kp T.b_g .nil Af (A0 (A7 Ac (pv 10) A1 (fun _ _=>rfl)) (A0 (A7 Ac (pv 6) A1 (fun _ _=>rfl)) (A0 A1 A2)))))
  (A8 (Ai (i:=13) Ex.nd rfl (.inl rfl) (Aj G_g (hr.mono (by lia)) (by rfl) T.m_g T.F_g.kp T.b_g .nil Af (A0 (A7 Ac (pv 11) A1 (fun _ _=>rfl)) (A0 (A7 Ac (pv 7) A1 (fun _ _=>rfl)) (A0 (pv 8) A2)))))
  (Ae (Ai (i:=9) Ex.nd rfl (.inl rfl) (Ah Dl (pv 9) (B9 (A0 (BB (Ab (pv 12) (Ab (pv 13) (Ab (Ah DF (A7 Ac (pv 11) A1 (fun _ _=>rfl)) (A7 Ac (pv 10) A1 (fun _ _=>rfl))) Bm CC) AK) AK)) (A0 (BB (Ab (pv 13) (Ab (pv 12) (Ab (Ah DF (A7 Ac (pv 10) A1 (fun _ _=>rfl)) (A7 Ac (pv 11) A1 (fun _ _=>rfl))) Bm CC) AK) AK)) A2)))))))))
  (A8 (Br PassesOwn.never rfl (Ce (by rfl) T.z_range (A0 (pv 5) A2)) (Al (i:=14) Ex.nd rfl (.inl rfl))
  (Ae (Ai (i:=9) Ex.nd rfl (.inl rfl) (Ah Dl (pv 9) (B9 (A0 (BB (Ab (Ah B2 A1 (pv 14)) (Ab (Ah B2 (pv 8) (pv 14)) (Ab A1 Bm B7) CC) CC)) (A0 (BB (Ab (Ah B2 (pv 8) (pv 14)) (Ab (Ah B2 A1 (pv 14)) (Ab A1 Bm B7) CC) CC)) A2)))))))
  (A8 (Be (AZ Ea (pv 5) (Aj G_h (hr.mono (by lia)) (by rfl) T.m_h T.F_h.kp T.b_h .nil Af (A0 (pv 6) (A0 (pv 7) A2))) (AR _))
  (Ae (BP (BR BX Cq Cr Ca (pv 9) (A0 (BB (Ab (Ah B2 A1 (pv 5)) (Ab (Ah B2 (pv 8) (pv 5)) (Ab (Dm Dy A1) Bm L8) CC) CC)) A2))))
  Bj)
  (Ae (Av (pv 9)))))))))),?_⟩
 obtain⟨y1,hy1,r4⟩:=ax.get hR
 obtain⟨y2,hy2,r4'⟩:=ax.get hR'
 have r3:=r4.1
 have r3':=r4'.1
 have r5:=r3.r5
 have r5':=r3'.r5
 obtain⟨v1,a1,a2,a3,a4,x1,ls1,hs1,rfl,hv1,ha1,_⟩:=r4.1
 obtain⟨v2,b1,b2,b3,b4,x2,ls2,hs2,rfl,hv2,hb1,_⟩:=r4'.1
 have k1:D.s<=R.S.length:=cd.pf.1
 have k3:=g.len
 have k4:=g'.len
 have m3:=cd.m3
 have nl:((AV R.S).map V.str).length=R.S.length:=by unfold AV;rw[Aq,Aq]
 have n1:=g.nd
 have n2:=g'.nd
 have z1:=g.ne
 have z2:=g'.ne
 refine⟨_,rfl,_,rfl,rl,_,_,_,rfl,rfl,A5.of hrl,By hy1,?_⟩
 dsimp only[Ag]
 refine⟨_,rfl,_,rfl,rl,_,_,_,rfl,rfl,A5.of hrl,By hy2,?_⟩
 dsimp only[Ag]
 refine⟨_,rfl,v1,_,0,_,rfl,rfl,A3.of hv1,rfl,a1,_,rfl,.inr (A3.of ha1),_,_,rfl,rfl,?_⟩
 rw[nl]
 dsimp only[Ag]
 generalize hbh:1+(R.S.length:Int)=bh
 refine⟨_,rfl,.ref v1,R,1,D.u,D.w,rfl,r3,k3,fun i hi=>EF n1 z1 (cd.hu i (by lia)),fun i hi=>EF n1 z1 (cd.hw i (by lia)),fun f1 ys1 H3 e3 hf1 tr1=>?_⟩
 refine⟨_,rfl,_,rfl,.ref v2,R',bh,D.u',D.w',rfl,r3'.over e3,k4,fun i hi=>by rw[←hbh];exact EF n2 z2 (cd.hu' i (by lia)),fun i hi=>by rw[←hbh];exact EF n2 z2 (cd.hw' i (by lia)),fun f2 ys2 H4 e4 hf2 tr2=>?_⟩
 have y1l:ys1.length=2*R.S.length:=by rw[tr1.1,FZ]
 have y2l:ys2.length=2*R'.S.length:=by rw[tr2.1,FZ]
 refine⟨f1,f2,_,_,rfl,rfl,e4 _ _ hf1,hf2,Bc (by lia),fun bo hbo=>?_⟩
 have s5:=Aa hbo (.lst (ys1++ys2))
 have hbo5:(upd H4 bo (.lst (ys1++ys2))) bo=some (.lst (ys1++ys2)):=A6
 have tr5:=((tr1.over e4).app tr2).over s5
 dsimp only[Ag]
 generalize upd H4 bo (.lst (ys1++ys2))=H5 at s5 hbo5 tr5
 have e04:=e3.trans e4
 have bo0:H bo=none:=e04.free hbo
 have e05:=e04.trans s5
 generalize hB0:Fg R.S 1 D.u D.w++Fg R'.S bh D.u' D.w'=B0 at tr5
 have B0l:B0.length<=12:=by rw[←hB0,Az,FZ,FZ];lia
 generalize ys1++ys2=yy at hbo5 tr5
 refine⟨_,rfl,.ref v1,R.r5,rfl,r5.over e05,by have:=g.m3;show R.m<=100;lia,fun q1 H6 e6 q10 tc1=>?_⟩
 obtain⟨as1,tp1,fl1,hq1,at1,htp1⟩:=Ih tc1 hta
 refine⟨_,rfl,q1,_,_,_,rfl,rfl,A5.of hq1,at1,tp1,_,2,_,rfl,rfl,A3.of htp1,rfl,?_⟩
 have e06:=e05.trans e6
 refine⟨_,rfl,.ref v2,R'.r5,rfl,r5'.over e06,by have:=g'.m3;show R'.m<=100;lia,fun q2 H7 e7 q20 tc2=>?_⟩
 obtain⟨as2,tp2,fl2,hq2,at2,htp2⟩:=Ih tc2 htb
 have e07:=e06.trans e7
 obtain⟨xs,hx,xl,hxs⟩:=hS
 obtain⟨os,ho,ol,hos⟩:=hS'
 refine⟨_,rfl,q2,_,_,_,rfl,rfl,A5.of hq2,at2,tp2,_,2,_,rfl,rfl,A3.of htp2,rfl,r.2,r'.2,rfl,⟨_,A3.of (e07 _ _ hx)⟩,⟨_,A3.of (e07 _ _ ho)⟩,?_⟩
 have hbo7:=(e6.trans e7) _ _ hbo5
 have tr7:=tr5.over (e6.trans e7)
 generalize hF:(fun i=>(D.x1 i,D.x2 i,D.n2 i-D.n1 i))=F1
 generalize hG:(fun i=>(D.x2 i,D.x1 i,D.n1 i-D.n2 i))=G1
 refine NM (xs:=xs) (ys:=os) (by lia) (fun i σ' H'=>A9 H H'/\∃(o10 o11 o12 o13:Option V) (fo:Addr) (ys:List V),σ'=[some (.ref rl),some (.int (k:Int)),some (.int (ta:Int)),some (.int (l:Int)),some (.int (tb:Int)),some (.int (cs:Int)),some (.ref v1),some (.ref v2),some (.int bh),some (.ref fo),o10,o11,o12,o13,none]/\H fo=none/\H' fo=some (.lst ys)/\Bf H' ys (B0++CB F1 G1 i)) ⟨e07,_,_,_,_,bo,yy,rfl,bo0,hbo7,by show Bf _ _ (B0++[]);rw[DA];exact tr7⟩ (fun i σ' H' _ pp=>⟨A3.of (pp.1 _ _ hx),A3.of (pp.1 _ _ ho)⟩) (fun i x y Tt σ' H' hxi hyi pp hT=>?_) (fun σ' H' pp=>?_)
 .obtain⟨e,o10,o11,o12,o13,fo,ys,rfl,fo0,hy,tr⟩:=pp
  obtain⟨t,rfl,ht⟩:=hxs i x hxi
  obtain⟨t2,rfl,ht2⟩:=hos i y hyi
  have hi:i<D.m:=by have:=(AX.mp hxi).1;lia
  have sT:=Aa hT (.tup [V.ref t,V.ref t2])
  have e2:=e.trans sT
  have hy2:=sT _ _ hy
  have tr2:=tr.over sT
  refine⟨Tt,_,rfl,A3.of A6,rfl,_,_,rfl,_,_,rfl,rfl,?_⟩
  generalize upd H' Tt (.tup [V.ref t,V.ref t2])=H2 at e2 hy2 tr2
  have g1:=e2 _ _ ht
  have g2:=e2 _ _ ht2
  have yl:ys.length<=12+2*i:=by rw[tr2.1,Az,E2];lia
  refine⟨_,rfl,t,_,0,_,rfl,rfl,A3.of g1,rfl,_,rfl,v1,_,0,_,rfl,rfl,A3.of (e2 _ _ hv1),rfl,a1,D.z1 i,1,AV R.S,D.x1 i,rfl,e2 _ _ ha1,cd.hx1 i hi,?_⟩
  dsimp only[Ag]
  refine⟨_,rfl,t2,_,0,_,rfl,rfl,A3.of g2,rfl,_,rfl,v2,_,0,_,rfl,rfl,A3.of (e2 _ _ hv2),rfl,_,rfl,b1,D.z2 i,bh,AV R'.S,D.x2 i,rfl,e2 _ _ hb1,by rw[←hbh];exact cd.hx2 i hi,?_⟩
  dsimp only[Ag]
  refine⟨_,rfl,_,rfl,_,rfl,_,rfl,t2,_,1,_,rfl,rfl,A3.of g2,rfl,_,rfl,t,_,1,_,rfl,rfl,A3.of g1,rfl,_,_,rfl,rfl,Ak rfl,fun w1 hw1=>?_⟩
  have s3:=Aa hw1 (.tup [V.int (D.x1 i),V.int (D.x2 i),V.int (D.n2 i-D.n1 i)])
  have hw13:(upd H2 w1 (.tup [V.int (D.x1 i),V.int (D.x2 i),V.int (D.n2 i-D.n1 i)])) w1=some (.tup [V.int (D.x1 i),V.int (D.x2 i),V.int (D.n2 i-D.n1 i)]):=A6
  generalize upd H2 w1 (.tup [V.int (D.x1 i),V.int (D.x2 i),V.int (D.n2 i-D.n1 i)])=H3 at s3 hw13
  refine⟨_,rfl,_,rfl,_,rfl,t,_,1,_,rfl,rfl,A3.of (s3 _ _ g1),rfl,_,rfl,t2,_,1,_,rfl,rfl,A3.of (s3 _ _ g2),rfl,_,_,rfl,rfl,Ak rfl,fun w2 hw2=>⟨Ak rfl,fun l2 hl2=>?_⟩⟩
  have s4:=Aa hw2 (.tup [V.int (D.x2 i),V.int (D.x1 i),V.int (D.n1 i-D.n2 i)])
  have hw24:(upd H3 w2 (.tup [V.int (D.x2 i),V.int (D.x1 i),V.int (D.n1 i-D.n2 i)])) w2=some (.tup [V.int (D.x2 i),V.int (D.x1 i),V.int (D.n1 i-D.n2 i)]):=A6
  have s5:=Aa hl2 (.lst [V.ref w1,V.ref w2])
  refine⟨fo,l2,_,_,rfl,rfl,s5 _ _ (s4 _ _ (s3 _ _ hy2)),A6,Bc (by show _+2<=1000000;lia),fun p hp=>?_⟩
  have s6:=Aa hp (.lst (ys++[V.ref w1,V.ref w2]))
  have s26:=s3.trans (s4.trans (s5.trans s6))
  refine⟨e2.trans s26,_,_,_,_,p,_,rfl,(e2.trans (s3.trans (s4.trans s5))).free hp,A6,?_⟩
  have:=((tr2.over s26).snoc (t:=w1) (b:=F1 i) (by rw[←hF];exact(s4.trans (s5.trans s6)) _ _ hw13)).snoc (t:=w2) (b:=G1 i) (by rw[←hG];exact(s5.trans s6) _ _ hw24)
  rw[DR ys]at this
  rw[show CB F1 G1 (i+1)=CB F1 G1 i++[F1 i]++[G1 i] from rfl,←DR,←DR]
  exact this
 obtain⟨e,o10,o11,o12,o13,fo,ys,rfl,fo0,hy,tr⟩:=pp
 rw[xl]at tr
 generalize hB1:B0++CB F1 G1 D.m=B1 at tr
 have B1l:B1.length<=18:=by rw[←hB1,Az,E2];lia
 dsimp only[Ag]
 refine⟨_,rfl,_,rfl,by lia,by lia,?_⟩
 rw[Em]
 refine CN (lo:=0) (n:=cs) (fun i σ' H'=>A9 H H'/\∃(o14:Option V) (fo:Addr) (ys:List V),σ'=[some (.ref rl),some (.int (k:Int)),some (.int (ta:Int)),some (.int (l:Int)),some (.int (tb:Int)),some (.int (cs:Int)),some (.ref v1),some (.ref v2),some (.int bh),some (.ref fo),o10,o11,o12,o13,o14]/\H fo=none/\H' fo=some (.lst ys)/\Bf H' ys (B1++Eu bh i)) ⟨e,_,fo,ys,rfl,fo0,hy,by show Bf _ _ (B1++[]);rw[DA];exact tr⟩ (fun i σ' H' hi pp=>?_) (fun σ' H' pp=>?_)
 .clear tr hy fo0 e
  obtain⟨e,o14,fo,ys,rfl,fo0,hy,tr⟩:=pp
  have yl:ys.length<=18+2*i:=by rw[tr.1,Az,show(Eu bh i).length=2*i from E2 _ _ _];lia
  have z0:(0+(i:Int))=(i:Int):=En _
  dsimp only[Ag]
  rw[z0]
  refine⟨_,rfl,_,rfl,_,_,rfl,rfl,_,rfl,_,rfl,_,_,rfl,rfl,Ak rfl,fun w1 hw1=>?_⟩
  have s3:=Aa hw1 (.tup [V.int (1+(i:Int)),V.int (bh+(i:Int)),V.int 0])
  have hw13:(upd H' w1 (.tup [V.int (1+(i:Int)),V.int (bh+(i:Int)),V.int 0])) w1=some (.tup [V.int (1+(i:Int)),V.int (bh+(i:Int)),V.int 0]):=A6
  generalize upd H' w1 (.tup [V.int (1+(i:Int)),V.int (bh+(i:Int)),V.int 0])=H3 at s3 hw13
  refine⟨_,rfl,_,rfl,_,_,rfl,rfl,_,rfl,_,_,rfl,rfl,Ak rfl,fun w2 hw2=>⟨Ak rfl,fun l2 hl2=>?_⟩⟩
  have s4:=Aa hw2 (.tup [V.int (bh+(i:Int)),V.int (1+(i:Int)),V.int 0])
  have hw24:(upd H3 w2 (.tup [V.int (bh+(i:Int)),V.int (1+(i:Int)),V.int 0])) w2=some (.tup [V.int (bh+(i:Int)),V.int (1+(i:Int)),V.int 0]):=A6
  have s5:=Aa hl2 (.lst [V.ref w1,V.ref w2])
  refine⟨fo,l2,_,_,rfl,rfl,s5 _ _ (s4 _ _ (s3 _ _ hy)),A6,Bc (by show _+2<=1000000;lia),fun p hp=>?_⟩
  have s6:=Aa hp (.lst (ys++[V.ref w1,V.ref w2]))
  have s26:=s3.trans (s4.trans (s5.trans s6))
  refine⟨e.trans s26,_,p,_,rfl,(e.trans (s3.trans (s4.trans s5))).free hp,A6,?_⟩
  have:=((tr.over s26).snoc (t:=w1) (b:=(1+(i:Int),bh+(i:Int),0)) ((s4.trans (s5.trans s6)) _ _ hw13)).snoc (t:=w2) (b:=(bh+(i:Int),1+(i:Int),0)) ((s5.trans s6) _ _ hw24)
  rw[DR ys]at this
  rw[show Eu bh (i+1)=Eu bh i++[(1+(i:Int),bh+(i:Int),0)]++[(bh+(i:Int),1+(i:Int),0)] from rfl,←DR,←DR]
  exact this
 clear tr hy fo0 e
 obtain⟨e,o14,fo,ys,rfl,fo0,hy,tr⟩:=pp
 have yl:ys.length<=18+2*cs:=by rw[tr.1,Az,show(Eu bh cs).length=2*cs from E2 _ _ _];lia
 have fin:CV R R' D cs=B1++Eu bh cs++if cs<D.s then[(1+(cs:Int),bh+(cs:Int),-1)] else[]:=by
  unfold CV HK FG
  rw[hbh,hB0,hF,hG,hB1,DR]
 rw[fin]at q
 refine⟨_,rfl,_,rfl,_,rfl,.ref v1,.ref v2,R.r5,R'.r5,D.s,rfl,r5.over e,r5'.over e,ok,ok',cd.pf,_,_,rfl,rfl,_,rfl,Cf (fun c=>?_) (fun c=>?_)⟩
 .have c:=dT c
  refine⟨_,rfl,.inl ⟨rfl,_,A5.of hy⟩,_,rfl,_,_,rfl,rfl,_,rfl,_,rfl,_,_,rfl,rfl,_,rfl,Ak rfl,fun b1 hb1=>?_⟩
  have s3:=Aa hb1 (.tup [V.int (1+(cs:Int)),V.int (bh+(cs:Int)),V.int (-1)])
  have nb1:b1≠fo:=fun z=>by rw[z,hy]at hb1;cases hb1
  refine⟨fo,_,_,rfl,rfl,s3 _ _ hy,C5 (by lia),?_⟩
  have tr3:=((tr.over s3).upd (xs:=ys++[V.ref b1]) (s3 _ _ hy)).snoc (t:=b1) (b:=(1+(cs:Int),bh+(cs:Int),-1)) (by rw[Am nb1];exact A6)
  refine⟨_,rfl,q fo _ _ (fun a o ha=>by rw[Am (AC ha fo0)];exact s3 _ _ (e _ _ ha)) A6 ?_⟩
  rw[Ax (by lia)]
  exact tr3
 .have c:=dF c
  refine⟨_,rfl,q fo _ _ e hy ?_⟩
  rw[As (by lia),DA]
  exact tr
theorem Sj (T:Tx K mg a):AB P w K mg base AI 1 a.f_D a.d_D ["bonds","values","lowered_by"] QR:=by
 refine T.F_D.ok He (fun vs H Q E h=>?_) (fun cdv A outer s H vs Q E hr h=>?_)
 .obtain⟨_,_,_,_,_,_,rfl,_⟩:=h;rfl
 obtain⟨b,v,l,B,n,s,rfl,nv,nl,nvl,hB,hw,hv,hl,q⟩:=h
 refine⟨_,(A8 (Ai (i:=3) He.nd rfl (.inl rfl) FY)
  (A8 (Br PassesOwn.never rfl (IJ (by rfl) T.z_enumerate (A0 (pv 0) A2)) (BY rfl (AA (Al (i:=4) He.nd rfl (.inl rfl)) (AA (Al (i:=5) He.nd rfl (.inl rfl)) BS)))
  (A8 (Ai (i:=6) He.nd rfl (.inl rfl) (Ah B2 (A7 AH (pv 1) (A7 Ac (pv 5) A1 (fun _ _=>rfl)) (fun _ _=>rfl)) (A7 Ac (pv 5) A1 (fun _ _=>rfl))))
  (Ae (Be (AZ FR (A7 AH (pv 1) (A7 Ac (pv 5) A1 (fun _ _=>rfl)) (fun _ _=>rfl)) (pv 6) (AR _))
  (A8 (Ep (pv 6) (LH (pv 1) (A7 Ac (pv 5) A1 (fun _ _=>rfl)) LR))
  (A8 (Ep (pv 4) (LH (pv 2) (A7 Ac (pv 5) A1 (fun _ _=>rfl)) LR))
  (Ae (Ai (i:=3) He.nd rfl (.inl rfl) (A7 Ac (pv 5) A1 (fun _ _=>rfl))))))
  Bj))))
  (Ae (Av (pv 3))))),?_⟩
 obtain⟨vs,hb,hbs⟩:=hB
 have hbl:=hbs.1
 refine⟨_,rfl,b,rfl,⟨_,A5.of hb⟩,?_⟩
 refine Lc (xs:=vs) (fun i σ' H'=>MF H H' v l/\(∃o4 o5 o6,σ'=[some (.ref b),some (.ref v),some (.ref l),some (Gn (rnd B i {s with low:=none}).low),o4,o5,o6])/\H' v=some (.lst (vl n (rnd B i {s with low:=none}).v))/\H' l=some (.lst (pl n (rnd B i {s with low:=none}).p))) ⟨fun a o e _ _=>e,⟨_,_,_,rfl⟩,hv,hl⟩ (fun i σ' H' _ p=>A5.of (p.1 _ _ hb nv nl)) (fun i x Tt σ' H' hx p hT=>?_) (fun σ' H' p=>?_)
 case refine_2=>
  obtain⟨e,⟨o4,o5,o6,rfl⟩,h1,h2⟩:=p
  rw[hbl]at h1 h2 ⊢
  exact⟨_,rfl,q H' e h1 h2⟩
 obtain⟨e,⟨o4,o5,o6,rfl⟩,h1,h2⟩:=p
 have hi:i<B.length:=by have:=(AX.mp hx).1;lia
 have eB:B[i]?=some B[i]:=AL hi
 obtain⟨t,rfl,ht⟩:=hbs.2 i x _ hx eB
 have hW:=hw _ (Jv hi)
 have ht':=e _ _ ht (F8 ht hv (by intro z;cases z)) (F8 ht hl (by intro z;cases z))
 have st:rnd B (i+1) {s with low:=none}=HR i B[i] (rnd B i {s with low:=none}):=by
  show(match B[i]? with|some b=>HR i b (rnd B i {s with low:=none})|none=>rnd B i {s with low:=none})=_
  rw[eB]
 rw[st]
 generalize rnd B i {s with low:=none}=s0 at h1 h2 ⊢
 generalize B[i]=bb at ht' hW
 have sT:=Aa hT (.tup [V.int (i:Int),.ref t])
 have ht2:=sT _ _ ht'
 have h12:=sT _ _ h1
 have h22:=sT _ _ h2
 have e2:MF H (upd H' Tt (.tup [V.int (i:Int),.ref t])) v l:=fun a o ha na nb=>sT _ _ (e a o ha na nb)
 refine⟨Tt,_,rfl,A3.of A6,rfl,_,_,rfl,_,_,rfl,rfl,?_⟩
 generalize upd H' Tt (.tup [V.int (i:Int),.ref t])=H2 at ht2 h12 h22 e2 ⊢
 refine⟨_,rfl,_,rfl,t,_,1,_,rfl,rfl,A3.of ht2,rfl,v,_,_,_,rfl,rfl,A5.of h12,LI hW.2,_,rfl,t,_,2,_,rfl,rfl,A3.of ht2,rfl,_,_,rfl,rfl,?_⟩
 dsimp only[Ag]
 refine⟨_,rfl,_,rfl,t,_,0,_,rfl,rfl,A3.of ht2,rfl,v,_,_,_,rfl,rfl,A5.of h12,LI hW.1,_,rfl,_,_,rfl,rfl,_,rfl,?_⟩
 unfold HR
 refine Cf (fun c=>?_) (fun c=>?_)
 .have c:=dT c
  rw[Ax (by lia)]
  refine⟨_,rfl,_,rfl,_,rfl,t,_,0,_,rfl,rfl,A3.of ht2,rfl,v,_,_,_,rfl,rfl,h12,OZ (by rw[J9];exact hW.1),?_⟩
  rw[UT]
  have tv:t≠v:=F8 ht2 h12 (by intro z;cases z)
  have tl:t≠l:=F8 ht2 h22 (by intro z;cases z)
  refine⟨_,rfl,_,rfl,_,rfl,t,_,0,_,rfl,rfl,A3.of (by rw[Am tv];exact ht2),rfl,l,_,_,_,rfl,rfl,(by rw[Am (Ne.symm nvl)];exact h22),OZ (by rw[TB];exact hW.1),?_⟩
  rw[Vw]
  refine⟨_,rfl,t,_,0,_,rfl,rfl,A3.of (by rw[Am tl,Am tv];exact ht2),rfl,?_⟩
  refine⟨fun a o ha na nb=>?_,⟨_,_,_,rfl⟩,?_,A6⟩
  .rw[Am nb,Am na];exact e2 a o ha na nb
  .rw[Am nvl];exact A6
 .have c:=dF c
  rw[As (by lia)]
  exact⟨e2,⟨_,_,_,rfl⟩,h12,h22⟩
theorem Xj (T:Tx K mg a):AB P w K mg base AI 1 a.f_E a.d_E ["count","bonds","lowered_by","lowered"] Vj:=by
 refine T.F_E.ok GR (fun vs H Q E h=>?_) (fun cdv A outer s H vs Q E hr h=>?_)
 .obtain⟨_,_,_,_,_,_,_,rfl,_⟩:=h;rfl
 obtain⟨n,b,l,B,s,x0,m,rfl,⟨bs,hb,hbs⟩,hBl,hn,hl,hlow,hR,hw,q⟩:=h
 refine⟨_,(A8 (Ai (i:=4) GR.nd rfl (.inl rfl) (pv 3))
  (A8 (Br PassesOwn.never rfl (Ce (by rfl) T.z_range (A0 (pv 0) A2)) (Al (i:=5) GR.nd rfl (.inl rfl))
  (Ae (Ai (i:=4) GR.nd rfl (.inl rfl) (A7 Ac (A7 AH (pv 1) (A7 AH (pv 2) (pv 4) (fun _ _=>rfl)) (fun _ _=>rfl)) A1 (fun _ _=>rfl)))))
  (A8 (Ai (i:=6) GR.nd rfl (.inl rfl) (B9 (A0 (A7 AH (pv 2) (pv 4) (fun _ _=>rfl)) A2)))
  (A8 (Ai (i:=7) GR.nd rfl (.inl rfl) (A7 Ac (A7 AH (pv 1) (A7 AH (pv 2) (pv 4) (fun _ _=>rfl)) (fun _ _=>rfl)) A1 (fun _ _=>rfl)))
  (A8 (N3 PassesOwn.never (AZ Ek (pv 7) (pv 4) (AR _))
  (A8 (BP (BR BX Cq Cr Ca (pv 6) (A0 (A7 AH (pv 2) (pv 7) (fun _ _=>rfl)) A2)))
  (Ae (Ai (i:=7) GR.nd rfl (.inl rfl) (A7 Ac (A7 AH (pv 1) (A7 AH (pv 2) (pv 7) (fun _ _=>rfl)) (fun _ _=>rfl)) A1 (fun _ _=>rfl))))))
  (Ae (Av (pv 6)))))))),?_⟩
 have hm:=hR.pos
 have hm2:=hR.le
 refine⟨_,rfl,_,rfl,(n:Int),rfl,by lia,by lia,?_⟩
 refine CN (lo:=0) (n:=n) (fun i σ' H'=>H'=H/\∃o5 o6 o7,σ'=[some (.int (n:Int)),some (.ref b),some (.ref l),some (.int (x0:Int)),some (.int (it B s.p i x0:Int)),o5,o6,o7]) ⟨rfl,_,_,_,rfl⟩ (fun i σ' H' hi p=>?_) (fun σ' H' p=>?_)
 .obtain⟨rfl,o5,o6,o7,rfl⟩:=p
  obtain⟨j,bb,g1,g2,g3⟩:=hR.walk i hi
  obtain⟨t,c0,c1⟩:=hbs.get g2
  have hz:=hR.lt i (by lia)
  have ha:B8 (pl n s.p) (it B s.p i x0:Int)=some (.int (j:Int)):=(Mv hz).trans (by rw[g1];rfl)
  refine⟨_,rfl,_,rfl,_,rfl,l,_,_,_,rfl,rfl,A5.of hl,ha,b,_,_,_,rfl,rfl,A5.of hb,c0,t,_,1,_,rfl,rfl,A3.of c1,rfl,rfl,_,_,_,congrArg (fun v:Nat=>[some (V.int (n:Int)),some (.ref b),some (.ref l),some (.int (x0:Int)),some (.int (v:Int)),some (.int (0+(i:Int))),o6,o7]) (show bb.y=it B s.p (i+1) x0 by rw[GQ,Fc g1 g2])⟩
 obtain⟨rfl,o5,o6,o7,rfl⟩:=p
 have he:=hR.lt n (Ap _)
 have hal:=hR.alive
 have hlt:∀k,it B s.p k (it B s.p n x0)<n:=fun k=>by
  obtain⟨i,bb,g1,g2,g3⟩:=hal k
  rw[←g3]
  exact(hw _ (Bh g2)).1
 have heq:=hR.eq hlow
 have hback:=hR.back
 have hleast:=hR.least
 rw[heq]at q
 generalize it B s.p n x0=e at *
 obtain⟨j,bb,g1,g2,g3⟩:=hal 0
 change s.p e=some j at g1
 obtain⟨t,c0,c1⟩:=hbs.get g2
 have ha:B8 (pl n s.p) (e:Int)=some (.int (j:Int)):=(Mv he).trans (by rw[g1];rfl)
 refine⟨_,rfl,_,rfl,l,_,_,_,rfl,rfl,A5.of hl,ha,Ak rfl,fun r hr=>?_⟩
 have s1:=Aa hr (.lst [V.int (j:Int)])
 refine⟨_,rfl,_,rfl,_,rfl,l,_,_,_,rfl,rfl,A5.of (s1 _ _ hl),ha,b,_,_,_,rfl,rfl,A5.of (s1 _ _ hb),c0,t,_,1,_,rfl,rfl,A3.of (s1 _ _ c1),rfl,?_⟩
 dsimp only[Ag]
 refine ED (fun σ' H''=>∃o5 o7,σ'=[some (.int (n:Int)),some (.ref b),some (.ref l),some (.int (x0:Int)),some (.int (e:Int)),o5,some (.ref r),o7]/\A9 H' H''/\H'' r=some (.lst (CG (DE B s.p e m)))) (fun σ' H'' pp=>?_) (fun nx=>?_)
 .obtain⟨o5,o7,rfl,e1,hr1⟩:=pp
  exact⟨_,rfl,q r H'' e1 hr hr1⟩
 refine M7 (m-1) (fun i σ' H''=>∃o5,σ'=[some (.int (n:Int)),some (.ref b),some (.ref l),some (.int (x0:Int)),some (.int (e:Int)),o5,some (.ref r),some (.int (it B s.p (i+1) e:Int))]/\A9 H' H''/\H'' r=some (.lst (CG (DE B s.p e (i+1))))) ⟨o5,?_,s1,?_⟩ (fun i σ' H'' hi pp=>?_) (fun σ H Q Q' hq h=>?_)
 .rw[GQ]
  show _=[_,_,_,_,_,_,_,some (V.int ((pb B s.p e).y:Int))]
  rw[Fc g1 g2]
  rfl
 .rw[A6]
  show _=some (HO.lst [V.int (((s.p e).getD 0:Nat):Int)])
  rw[g1]
  rfl
 .obtain⟨o5,rfl,e1,hr1⟩:=pp
  refine⟨_,rfl,_,rfl,rfl,_,rfl,?_⟩
  by_cases c:it B s.p (i+1) e=e
  .have hi2:i+1=m:=by
    by_cases z:i+1<m
    .exact absurd c (hleast _ (by lia) z)
    .lia
   rw[c]
   refine AG (EA rfl) (AO ?_)
   rw[hi2]at hr1
   exact nx _ _ ⟨_,_,rfl,e1,hr1⟩
  .have hi2:i+1<m:=by
    by_cases z:i+1=m
    .rw[z]at c;exact absurd hback c
    .lia
   refine AG (M1 (fun z=>c (by have:=V.int.inj z;lia))) (BE ⟨by lia,?_⟩)
   obtain⟨j2,b2,k1,k2,k3⟩:=hal (i+1)
   obtain⟨t2,d0,d1⟩:=hbs.get k2
   have ha2:B8 (pl n s.p) (it B s.p (i+1) e:Int)=some (.int (j2:Int)):=(Mv (hlt (i+1))).trans (by rw[k1];rfl)
   refine⟨_,rfl,.inl ⟨rfl,_,A5.of hr1⟩,_,rfl,_,rfl,l,_,_,_,rfl,rfl,A5.of (e1 _ _ hl),ha2,r,_,_,rfl,rfl,hr1,(by rw[L6];unfold DE;rw[Aq,CL];exact C5 (by lia)),?_⟩
   have s2:A9 H' (upd H'' r (.lst (CG (DE B s.p e (i+1))++[V.int (j2:Int)]))):=fun a o ha=>by rw[Am (AC ha hr)];exact e1 _ _ ha
   have hr2:(upd H'' r (.lst (CG (DE B s.p e (i+1))++[V.int (j2:Int)]))) r=some (.lst (CG (DE B s.p e (i+1+1)))):=by
    rw[A6,Sx]
    unfold DE
    rw[FL (n:=i+1),Bq]
    show some (HO.lst (CG (_++[j2])))=some (HO.lst (CG (_++[(s.p (it B s.p (i+1) e)).getD 0])))
    rw[k1]
    rfl
   refine⟨_,rfl,_,rfl,_,rfl,l,_,_,_,rfl,rfl,A5.of (s2 _ _ hl),ha2,b,_,_,_,rfl,rfl,A5.of (s2 _ _ hb),d0,t2,_,1,_,rfl,rfl,A3.of (s2 _ _ d1),rfl,?_⟩
   refine⟨o5,?_,s2,hr2⟩
   rw[GQ B s.p (i+1),Fc k1 k2]
   rfl
 .obtain⟨a1,h1,a2,h2,h3,a3,h4,h5⟩:=h
  exact⟨a1,h1,a2,h2,h3,a3,h4,hq _ _ h5⟩
theorem TJ (T:Tx K mg a):AB P w K mg base AI 2 a.f_C a.d_C ["count","bonds"] TU:=by
 have G_D :=@Sj P w K mg base a T
 have G_E :=@Xj P w K mg base a T
 refine T.F_C.ok Hu (fun vs H Q E h=>?_) (fun cdv A outer s H vs Q E hr h=>?_)
 .obtain⟨_,_,_,rfl,_⟩:=h;rfl
 obtain⟨n,b,B,rfl,hB,hw,n0,n1,hBl,q⟩:=h
 refine⟨_,(A8 (Ai (i:=2) Hu.nd rfl (.inr rfl) (Ah Oo (B9 (A0 A1 A2)) (pv 0)))
  (A8 (Ai (i:=3) Hu.nd rfl (.inl rfl) (Ah Oo (B9 (A0 FY A2)) (pv 0)))
  (A8 (Ai (i:=4) Hu.nd rfl (.inl rfl) FY)
  (A8 (Br PassesOwn.never rfl (Ce (by rfl) T.z_range (A0 (pv 0) A2)) (Al (i:=5) Hu.nd rfl (.inl rfl))
  (A8 (Ai (i:=4) Hu.nd rfl (.inl rfl) (Aj G_D (hr.mono (by lia)) (by rfl) T.m_D T.F_D.kp T.b_D .nil Af (A0 (pv 1) (A0 (pv 2) (A0 (pv 3) A2)))))
  (Ae (Be (AZ RN (pv 4) FY (AR _))
  (Ae (Av (CM (A0 BD (A0 (DZ ["value","values"] [none,some 2] (by rfl) (CK (pv 2)) SS (fun _ _ _ _ _ _=>⟨(Al (i:=0) VX rfl (.inl rfl)),DP,(Ah DF (pv 0) (A7 (show Cn _ (JQ K) from AH) (pv 1) A1 (fun _ _=>rfl)))⟩)) A2)))))
  Bj))))
  (Ae (Av (CM (A0 BD (A0 (Aj G_E (hr.mono (by lia)) (by rfl) T.m_E T.F_E.kp T.b_E .nil Af (A0 (pv 0) (A0 (pv 1) (A0 (pv 3) (A0 (pv 4) A2))))) A2))))))))),?_⟩
 have p63:(2:Int) ^ 63=9223372036854775808:=by decide
 refine⟨Ak rfl,fun l1 hl1=>⟨_,rfl,l1,_,_,rfl,rfl,A6,by lia,by lia,Bc (by show 1*n<=1000000;lia),fun v hv=>?_⟩⟩
 have s1:=(Aa hl1 (.lst [V.int 0])).trans (Aa hv (.lst (List.replicate ((n:Int)).toNat [V.int 0]).flatten))
 have hv1:(upd (upd H l1 (.lst [V.int 0])) v (.lst (List.replicate ((n:Int)).toNat [V.int 0]).flatten)) v=some (.lst (vl n st0.v)):=by rw[A6];exact congrArg (fun z=>some (HO.lst z)) (P1 n _)
 have hv0:H v=none:=(Aa hl1 (.lst [V.int 0])).free hv
 dsimp only[Ag]
 generalize upd (upd H l1 (.lst [V.int 0])) v (.lst (List.replicate ((n:Int)).toNat [V.int 0]).flatten)=H1 at s1 hv1
 refine⟨Ak rfl,fun l2 hl2=>⟨_,rfl,l2,_,_,rfl,rfl,A6,by lia,by lia,Bc (by show 1*n<=1000000;lia),fun l hl=>?_⟩⟩
 have s2:=(Aa hl2 (.lst [V.non])).trans (Aa hl (.lst (List.replicate ((n:Int)).toNat [V.non]).flatten))
 have hl1':(upd (upd H1 l2 (.lst [V.non])) l (.lst (List.replicate ((n:Int)).toNat [V.non]).flatten)) l=some (.lst (pl n st0.p)):=by rw[A6];exact congrArg (fun z=>some (HO.lst z)) (P1 n _)
 have hlH1:H1 l=none:=(Aa hl2 (.lst [V.non])).free hl
 have hl0:H l=none:=s1.free hlH1
 have nvl:v≠l:=AC hv1 hlH1
 have hv2:=s2 _ _ hv1
 have s12:=s1.trans s2
 dsimp only[Ag]
 generalize upd (upd H1 l2 (.lst [V.non])) l (.lst (List.replicate ((n:Int)).toNat [V.non]).flatten)=H2 at s12 hv2 hl1'
 clear s1 s2 hv1 hl hv hl1 hl2 hlH1
 have nbv:b≠v:=by obtain⟨vs,g,_⟩:=hB;exact AC g hv0
 have nbl:b≠l:=by obtain⟨vs,g,_⟩:=hB;exact AC g hl0
 refine⟨_,rfl,(n:Int),rfl,by lia,by lia,?_⟩
 refine CN (lo:=0) (n:=n) (fun i σ' H'=>A9 H H'/\∃(s:Sv) (o5:Option V),σ'=[some (.int (n:Int)),some (.ref b),some (.ref v),some (.ref l),some (Gn s.low),o5]/\H' v=some (.lst (vl n s.v))/\H' l=some (.lst (pl n s.p))/\go B n st0=go B (n-i) s) ⟨s12,st0,_,rfl,hv2,hl1',rfl⟩ (fun i σ' H' hi pp=>?_) (fun σ' H' pp=>?_)
 .obtain⟨e,s,o5,rfl,h1,h2,hg⟩:=pp
  refine⟨_,rfl,_,rfl,_,rfl,b,v,l,B,n,s,rfl,nbv,nbl,nvl,hB.over e,hw,h1,h2,fun H3 fr h13 h23=>?_⟩
  have e3:A9 H H3:=fun a o ha=>fr _ _ (e _ _ ha) (AC ha hv0) (AC ha hl0)
  obtain⟨k,hk⟩:∃k,n-i=k+1:=⟨n-i-1,by lia⟩
  rw[hk]at hg
  dsimp only[Ag]
  refine⟨_,rfl,rfl,_,rfl,?_⟩
  cases hlow:(CT B s).low with
  |
   none=>
   refine AG (v:=true) (B6 rfl) (BE ?_)
   have hg2:go B n st0 = .inl (CT B s):=by rw[hg];unfold go;rw[hlow]
   have er:Fb n B=(.str "values",vl n fun i=>(CT B s).v i-(CT B s).v 0):=by unfold Fb;rw[hg2]
   rw[er]at q
   refine⟨_,rfl,v,rfl,⟨_,A5.of h13⟩,?_⟩
   refine G5 (xs:=vl n (CT B s).v) (fun i ys H'=>H'=H3/\ys=vl i fun i=>(CT B s).v i-(CT B s).v 0) ⟨rfl,rfl⟩ (by rw[J9];exact Bc (by lia)) (fun i ys H' hi p=>by obtain⟨rfl,rfl⟩:=p;exact⟨A5.of h13,by rw[J9];exact Ap _⟩) (fun i x ys H' hx p=>?_) (fun ys H' p r hr'=>?_)
   .obtain⟨rfl,rfl⟩:=p
    have hi:i<n:=by have:=(AX.mp hx).1;rwa [J9]at this
    have ex:x = .int ((CT B s).v i):=Cg (hx.symm.trans (Kr (n:=n) (f:=fun i=>V.int ((CT B s).v i)) hi))
    subst ex
    exact⟨_,rfl,_,rfl,v,_,0,_,rfl,rfl,A5.of h13,LI n0,_,_,rfl,rfl,rfl,(S9 _ _).symm⟩
   .obtain⟨rfl,rfl⟩:=p
    rw[J9]
    refine⟨Ak rfl,fun t ht=>?_⟩
    exact q t r _ ((e3.trans (Aa hr' _)).trans (Aa ht _)) (e3.free hr') A6 (Aa ht _ _ _ A6)
  |
   some x=>
   refine AG (v:=false) (BO (by intro z;cases z)) (AO ?_)
   refine⟨e3,CT B s,some (.int (0+(i:Int))),by rw[hlow];rfl,h13,h23,?_⟩
   rw[show n-(i+1)=k by lia,hg]
   show(match (CT B s).low with|none=>_|some _=>_)=_
   rw[hlow]
 .obtain⟨e,s,o5,rfl,h1,h2,hg⟩:=pp
  rw[Fs]at hg
  change go B n st0 = .inr s at hg
  rcases go_ok n0 hw with⟨s',e',_⟩|⟨s',x0,m,e',hl',hR⟩
  .rw[hg]at e';cases e'
  rw[hg]at e'
  cases e'
  have er:Fb n B=(.str "ring",CG (ringOf n B s)):=by unfold Fb;rw[hg]
  rw[er]at q
  rw[hl']
  refine⟨_,rfl,_,rfl,_,rfl,_,rfl,n,b,l,B,s,x0,m,rfl,hB.over e,hBl,n1,h2,hl',hR,hw,fun r H3 e3 hr0 hr3=>?_⟩
  refine⟨Ak rfl,fun t ht=>?_⟩
  exact q t r _ ((e.trans e3).trans (Aa ht _)) (e.free hr0) A6 (Aa ht _ _ _ hr3)
theorem WE (T:Tx K mg a):AB P w K mg base AI 3 a.f_s a.d_s ["_law_left_here","_law_cell_here","_law_digits"] VH:=by
 have G_N :=@SK P w K mg base a T
 have G_a :=@FO P w K mg base a T
 refine T.F_s.ok Hm (fun vs H Q E h=>?_) (fun cdv A outer s H vs Q E hr h=>?_)
 .obtain⟨_,_,_,rfl,_⟩:=h;rfl
 obtain⟨lf,c,d,rfl,lft,q⟩:=h
 refine⟨_,(A8 (Be (D7 (Cv (pv 2)))
  (Ae (Av (DZ ["_law_e","_law_cell_here"] [none,some 1] (by rfl) (Ce (by rfl) T.z_range (A0 A1 A2)) RL (fun _ _ _ _ _ _=>⟨(Al (i:=0) Yk rfl (.inl rfl)),DP,(Aj G_N (hr.mono (by lia)) (by rfl) T.m_N T.F_N.kp T.b_N .nil Af (A0 (pv 1) (A0 (pv 0) A2)))⟩))))
  Bj)
  (A8 (Ai (i:=3) Hm.nd rfl (.inr rfl) BD)
  (A8 (Ai (i:=4) Hm.nd rfl (.inr rfl) (B9 A2))
  (A8 (Br PassesOwn.never rfl (Ce (by rfl) T.z_range (A0 A1 A2)) (Al (i:=5) Hm.nd rfl (.inl rfl))
  (A8 (Ai (i:=6) Hm.nd rfl (.inl rfl) (BR PySem.F.plainAttrs_str PySem.F.slot_str_join PySem.F.type_str_join S2 BD (A0 (DZ ["_law_k","_law_left_here","_law_some"] [none,some 0,some 3] (by rfl) (Ce (by rfl) T.z_range (A0 (Ah B2 A1 (Aj G_a (hr.mono (by lia)) (by rfl) T.m_a T.F_a.kp T.b_a .nil Af (A0 (pv 0) (A0 A1 A2)))) A2)) Uh (fun _ _ _ _ _ _=>⟨(Al (i:=0) Vz rfl (.inl rfl)),DP,(A7 K7 (pv 2) (Aj G_a (hr.mono (by lia)) (by rfl) T.m_a T.F_a.kp T.b_a .nil Af (A0 (pv 1) (A0 A1 A2))) (fun _ _=>rfl))⟩)) A2)))
  (A8 (Be (PW.pt (Cy (AZ LS (pv 6) (pv 4) (by with_unfolding_all rfl)) (DL (AZ LS (pv 6) (BB (Ab BD (Ab BD (Ab BD Bm B7) B7) B7)) (by with_unfolding_all rfl)))))
  (Ae (Ai (i:=6) Hm.nd rfl (.inl rfl) (A7 AH (DZ ["_law_one","_law_found"] [none,some 4] (by rfl) (Yy (pv 3)) UL (fun _ _ _ _ _ _=>⟨(Al (i:=0) SQ rfl (.inl rfl)),(JO (AZ (show BF _ _ (Mi K true) from UO) (pv 0) (pv 1) (by with_unfolding_all rfl))),(pv 0)⟩)) A1 (fun _ _=>rfl))))
  Bj)
  (Ae (BP (BR BX Cq Cr Ca (pv 4) (A0 (pv 6) A2)))))))
  (Ae (Av (pv 4))))))),?_⟩
 refine⟨_,rfl,_,rfl,Cf (fun c1=>?_) (fun c1=>?_)⟩
 .refine⟨3,rfl,by decide,by decide,?_⟩
  refine Jk (n:=3) (fun m ys H'=>A9 H H'/\ys=((List.range m).map fun i:Nat=>Bn (DD (Fj c 11) (i:Int))).map V.str) ⟨A9.refl _,rfl⟩ (Ak rfl) (fun m ys H' hm pp=>by rw[pp.2,Aq,Aq,CL];exact Ap _) (fun m ys H' hm pp=>?_) (fun ys H' pp r hr=>?_)
  .obtain⟨e,rfl⟩:=pp
   refine⟨_,rfl,_,rfl,c,_,rfl,by lia,by lia,fun H2 e2=>⟨e.trans e2,?_⟩⟩
   rw[FL,Bq,Bq,En]
   rfl
  obtain⟨e,rfl⟩:=pp
  have s1:=Aa hr (.lst (((List.range 3).map fun i:Nat=>Bn (DD (Fj c 11) (i:Int))).map V.str))
  refine q r _ _ (Bt.same (e.trans s1)) (lft.over (e.trans s1)) (e.free hr) A6 ⟨rfl,?_,fun z hz=>?_⟩
  .refine Ip.mpr fun i j hi hj ij=>?_
   rw[QF,QF,List.getElem_range,List.getElem_range]
   rw[Aq,CL]at hi hj
   intro z
   have z:=congrArg AS z
   rw[CZ,CZ]at z
   exact TY (by lia) (by lia) (by lia) (by lia) (by lia) z
  .obtain⟨i,hi,rfl⟩:=D5.mp hz
   have hi:=Fp.mp hi
   have b:=Yr (m:=Fj c 11) (e:=(i:Int)) (by lia) (by lia)
   intro z
   have z:(AS (Bn (DD (Fj c 11) (i:Int)))).length=(AS ("":Str)).length:=congrArg (fun z=>(AS z).length) z
   rw[CZ]at z
   rw[z]at b
   exact absurd b.1 (by decide +kernel)
 refine IY ?_
 refine⟨Ak rfl,fun fo hfo=>?_⟩
 have s1:=Aa hfo (.lst [])
 have hf1:(upd H fo (.lst [])) fo=some (.lst []):=A6
 have nf:fo≠lf:=fun z=>by obtain⟨n,hn⟩:=lft;rw[z,hn]at hfo;cases hfo
 have lf1:=lft.over s1
 dsimp only[Ag]
 generalize upd H fo (.lst [])=H1 at s1 hf1 lf1
 refine⟨3,rfl,by decide,by decide,?_⟩
 refine CN (lo:=0) (n:=3) (fun i σ' H'=>∃(zs:List Str) (o5 o6:Option V),σ'=[some (.ref lf),some (.int c),some (.bl d),some (.str DI),some (.ref fo),o5,o6]/\Bt lf H H'/\Bw H' lf/\H' fo=some (.lst (zs.map V.str))/\zs.length=i/\zs.Nodup/\∀z∈zs,z≠"") ⟨[],_,_,rfl,Bt.same s1,lf1,hf1,rfl,List.nodup_nil,fun z hz=>by cases hz⟩ (fun i σ' H' hi pp=>?_) (fun σ' H' pp=>?_)
 rotate_left
 .obtain⟨zs,o5,o6,rfl,b,l,hf,zl,nd,ne⟩:=pp
  exact⟨_,rfl,q fo _ zs b l hfo hf ⟨zl,nd,ne⟩⟩
 obtain⟨zs,o5,o6,rfl,b,l,hf,zl,nd,ne⟩:=pp
 dsimp only[Ag]
 refine⟨rfl,_,rfl,lf,8,rfl,l,by decide,by decide,fun dd H2 b2 l2 d0 d1=>?_⟩
 have hf2:=b2 _ _ nf hf
 refine⟨_,_,rfl,rfl,_,rfl,by lia,by lia,?_⟩
 obtain⟨m,hm⟩:∃m:Nat,1+dd=(m:Int):=⟨(1+dd).toNat,by lia⟩
 rw[hm,Em]
 refine Jk (n:=m) (fun j ys H'=>Bt lf H2 H'/\Bw H' lf/\∃cs:List Nat,ys=(cs.map fun c=>(⟨#[c]⟩:Str)).map V.str/\cs.length=j) ⟨fun _ _ _ h=>h,l2,[],rfl,rfl⟩ (Bc (by lia)) (fun j ys H' hj pp=>by obtain⟨_,_,cs,rfl,cl⟩:=pp;rw[Aq,Aq,cl];exact Ap _) (fun j ys H' hj pp=>?_) (fun ys H3 pp r hr3=>?_)
 .obtain⟨b3,l3,cs,rfl,cl⟩:=pp
  refine⟨_,rfl,_,rfl,lf,26,rfl,l3,by decide,by decide,fun e H4 b4 l4 e0 e1=>?_⟩
  refine⟨_,_,_,rfl,rfl,Kj,(Int.emod_eq_of_lt e0 e1)▸N0 e,b3.trans b4,l4,cs++[FW e],?_,by rw[Az,cl];rfl⟩
  rw[Bq,Bq]
  rfl
 obtain⟨b3,l3,cs,rfl,cl⟩:=pp
 have s4:=Aa hr3 (.lst ((cs.map fun c=>(⟨#[c]⟩:Str)).map V.str))
 have hf3:=s4 _ _ (b3 _ _ nf hf2)
 have b04:Bt lf H (upd H3 r (.lst ((cs.map fun c=>(⟨#[c]⟩:Str)).map V.str))):=((b.trans b2).trans b3).trans (Bt.same s4)
 have l4:=l3.over s4
 have ew:Txt.join "" (cs.map fun c=>(⟨#[c]⟩:Str))=Bn cs:=J6 (by
  rw[Yi,CZ]
  generalize cs=l
  induction l with
  |nil=>rfl
  |
   cons y l ih=>
   rw[Bz,Bz,Lv,ih]
   rfl)
 refine⟨_,r,_,rfl,rfl,.inl (A5.of A6),?_,?_⟩
 .have:∀l:List Nat,((l.map fun x=>(⟨#[x]⟩:Str)).map (·.length)).sum=l.length:=fun l=>by
   induction l with
   |nil=>rfl
   |cons y l ih=>rw[Bz,Bz,List.sum_cons,ih];show 1+l.length=l.length+1;lia
  rw[this,Aq,cl,show(Str.ofString "").length=0 by decide +kernel]
  lia
 rw[ew]
 dsimp only[Ag]
 generalize upd H3 r (.lst ((cs.map fun c=>(⟨#[c]⟩:Str)).map V.str))=H4 at hf3 b04 l4
 have ne0:Bn cs≠"":=fun z=>by
  have z:(AS (Bn cs)).length=(AS ("":Str)).length:=congrArg (fun z=>(AS z).length) z
  rw[CZ,cl]at z
  have:(AS ("":Str)).length=0:=by decide +kernel
  lia
 have fl:(zs.map V.str).all E8=true:=Ly.mpr fun v hv=>by obtain⟨z,_,rfl⟩:=D5.mp hv;rfl
 generalize Bn cs=nm at ne0
 refine ED (fun σ' H'=>∃z:Str,σ'=[some (.ref lf),some (.int c),some (.bl d),some (.str DI),some (.ref fo),some (.int (0+(i:Int))),some (.str z)]/\A9 H4 H'/\z∉zs/\z≠"") (fun σ' H5 pp=>?_) (fun nx=>?_)
 .obtain⟨z,rfl,e5,nz,z0⟩:=pp
  have hf5:=e5 _ _ hf3
  refine⟨_,rfl,.inl ⟨rfl,_,A5.of hf5⟩,_,rfl,fo,_,_,rfl,rfl,hf5,C5 (by rw[Aq];lia),?_⟩
  refine⟨zs++[z],_,_,rfl,fun x o hx ho=>?_,?_,?_,by rw[Az,zl];rfl,?_,fun y hy=>?_⟩
  .rw[Am (AC ho hfo)]
   exact e5 _ _ (b04 _ _ hx ho)
  .obtain⟨n,hn⟩:=l4.over e5
   exact⟨n,by rw[Am (Ne.symm nf)];exact hn⟩
  .rw[A6,Bq]
   rfl
  .exact List.nodup_append.mpr ⟨nd,List.pairwise_singleton _ _,fun x hx y hy e=>by rw[DT.mp hy]at e;rw[e]at hx;exact nz hx⟩
  .rcases Co.mp hy with h|h
   .exact ne y h
   .rw[DT.mp h];exact z0
 refine LK (fun H'=>A9 H4 H') (fun HX eX=>?_) (fun go=>?_)
 .have hfX:=eX _ _ hf3
  refine⟨_,rfl,_,rfl,?_⟩
  refine QY (z:=DI) (fun j ys H'=>H'=HX/\∃ws:List Str,ys=ws.map V.str/\ws.length<=j/\(∀y∈ws,y∉zs/\y≠"")/\∀k<j,∀x,(AS DI)[k]?=some x->(⟨#[x]⟩:Str)∉zs->(⟨#[x]⟩:Str)∈ws) ⟨rfl,[],rfl,Ap _,fun y hy=>(by cases hy),fun k hk=>absurd hk (LC _)⟩ Kj (fun j ys H' hj pp=>by obtain⟨_,ws,rfl,wl,_⟩:=pp;rw[Aq];exact wl) (fun j x ys H' hx pp=>?_) (fun ys H' pp r2 hr2=>?_)
  .obtain⟨rfl,ws,rfl,wl,wn,wm⟩:=pp
   refine⟨_,rfl,_,rfl,fo,_,rfl,.inl (A5.of hfX),rfl,fl,_,rfl,?_⟩
   rw[Ax rfl,PC]
   by_cases c2:(⟨#[x]⟩:Str)∈zs
   .refine AG (v:=false) (by rw[B6 c2];rfl) (AO ⟨rfl,ws,rfl,by lia,wn,fun k hk y hy ny=>?_⟩)
    by_cases z:k=j
    .subst z
     rw[hx]at hy
     cases hy
     exact absurd c2 ny
    .exact wm k (by lia) y hy ny
   .refine AG (v:=true) (by rw[BO c2];rfl) (BE ⟨_,rfl,rfl,ws++[⟨#[x]⟩],by rw[Bq];rfl,by rw[Az];show ws.length+1<=j+1;lia,fun y hy=>?_,fun k hk y hy ny=>?_⟩)
    .rcases Co.mp hy with h|h
     .exact wn y h
     .rw[DT.mp h]
      refine⟨c2,fun z=>?_⟩
      have z:(AS (⟨#[x]⟩:Str)).length=(AS ("":Str)).length:=congrArg (fun z=>(AS z).length) z
      exact absurd (show 1=(AS ("":Str)).length from z) (by decide +kernel)
    .by_cases z:k=j
     .subst z
      rw[hx]at hy
      cases hy
      exact Dz _ E4
     .exact Qq _ (wm k (by lia) y hy ny)
  obtain⟨rfl,ws,rfl,wl,wn,wm⟩:=pp
  have w0:0<ws.length:=by
   have some1:∃x∈[(⟨#[97]⟩:Str),⟨#[98]⟩,⟨#[99]⟩],x∉zs:=QA fun h=>by
    have all:∀x∈[(⟨#[97]⟩:Str),⟨#[98]⟩,⟨#[99]⟩],x∈zs:=fun x hx=>QA fun h2=>h ⟨x,hx,h2⟩
    have:=Bd.nodup_le (l:=[(⟨#[97]⟩:Str),⟨#[98]⟩,⟨#[99]⟩]) (k:=zs) (by decide) all
    rw[zl]at this
    exact absurd (show 3<=i from this) (by lia)
   obtain⟨x,hx,nx1⟩:=some1
   simp only[Bv,DB,or_false]at hx
   rcases hx with rfl|rfl|rfl
   .exact Np (wm 0 (by decide +kernel) 97 (by decide +kernel) nx1)
   .exact Np (wm 1 (by decide +kernel) 98 (by decide +kernel) nx1)
   .exact Np (wm 2 (by decide +kernel) 99 (by decide +kernel) nx1)
  have g0:ws[0]?=some ws[0]:=AL w0
  have at0:B8 (ws.map V.str) (0:Int)=some (.str ws[0]):=By (j:=0) (by rw[BG,g0];rfl)
  have wn0:=wn _ (Jv w0)
  refine⟨r2,_,0,_,rfl,rfl,A5.of A6,at0,?_⟩
  exact nx _ _ ⟨ws[0],rfl,eX.trans (Aa hr2 _),wn0.1,wn0.2⟩
 refine⟨_,rfl,_,rfl,fo,_,rfl,.inl (A5.of hf3),rfl,fl,_,rfl,?_⟩
 rw[As (by decide),PC]
 by_cases c2:nm∈zs
 .exact AG (v:=true) (B6 c2) (BE (go _ (A9.refl _)))
 refine AG (v:=false) (BO c2) (AO ?_)
 refine⟨_,rfl,Ak rfl,fun tp htp=>?_⟩
 refine⟨tp,[.str "for",.str "end",.str "size"],rfl,.inr (A3.of A6),rfl,rfl,_,rfl,Cf (fun _=>go _ (Aa htp _)) (fun _=>?_)⟩
 exact nx _ _ ⟨nm,rfl,Aa htp _,c2,ne0⟩
theorem O9 (T:Tx K mg a):AB P w K mg base AI 2 a.f_q a.d_q ["_law_left_here","_law_bases","_law_heads"] VS:=by
 have G_a :=@FO P w K mg base a T
 refine T.F_q.ok GV (fun vs H Q E h=>?_) (fun cdv A outer s H vs Q E hr h=>?_)
 .obtain⟨_,_,_,_,_,rfl,_⟩:=h;rfl
 obtain⟨Z,M,lf,b,hd,rfl,lft,⟨bs,hb,hb0,hb1,hbp⟩,⟨hs,hh,hl,hp⟩,nb,nh,q⟩:=h
 refine⟨_,(A8 (Ep (A7 AH (pv 2) (A7 AH (Hf (Ab A1 (Ab A1 (Ab A1 (Ab A1 (Ab A1 (Ab A1 Bm B7) B7) B7) B7) B7) B7)) (Aj G_a (hr.mono (by lia)) (by rfl) T.m_a T.F_a.kp T.b_a .nil Af (A0 (pv 0) (A0 A1 A2))) (fun _ _=>rfl)) (fun _ _=>rfl)) (BY rfl (AA (Al (i:=3) GV.nd rfl (.inl rfl)) (AA (Al (i:=4) GV.nd rfl (.inl rfl)) (AA (Al (i:=5) GV.nd rfl (.inl rfl)) BS)))))
  (A8 (Ai (i:=6) GV.nd rfl (.inl rfl) (B9 A2))
  (A8 (Br PassesOwn.never rfl (Ce (by rfl) T.z_range (A0 (pv 4) A2)) (Al (i:=7) GV.nd rfl (.inl rfl))
  (A8 (Ai (i:=8) GV.nd rfl (.inl rfl) (A7 AH (pv 1) (Aj G_a (hr.mono (by lia)) (by rfl) T.m_a T.F_a.kp T.b_a .nil Af (A0 (pv 0) (A0 (B3 Bp (by rfl) T.z_len Bo (A0 (pv 1) A2)) A2))) (fun _ _=>rfl)))
  (Ae (BP (BR BX Cq Cr Ca (pv 6) (A0 (CM (A0 (A7 Ac (pv 8) A1 (fun _ _=>rfl)) (A0 (Ah DF (Ah B2 (pv 5) (Aj G_a (hr.mono (by lia)) (by rfl) T.m_a T.F_a.kp T.b_a .nil Af (A0 (pv 0) (A0 A1 A2)))) (A7 Ac (pv 8) A1 (fun _ _=>rfl))) A2))) A2))))))
  (Ae (Av (CM (A0 (pv 3) (A0 (Ec GH (by rfl) T.z_tuple Ew (A0 (pv 6) A2)) A2)))))))),?_⟩
 refine⟨_,rfl,Ak rfl,fun q1 hq1=>?_⟩
 have s1:=Aa hq1 (.lst [V.int 0,V.int 0,V.int 0,V.int 1,V.int 1,V.int 2])
 have hq11:(upd H q1 (.lst [V.int 0,V.int 0,V.int 0,V.int 1,V.int 1,V.int 2])) q1=some (.lst [V.int 0,V.int 0,V.int 0,V.int 1,V.int 1,V.int 2]):=A6
 have n1:q1≠lf:=fun z=>by obtain⟨n,hn⟩:=lft;rw[z,hn]at hq1;cases hq1
 refine⟨_,rfl,lf,6,rfl,lft.over s1,by decide,by decide,fun dd H1 b1 l1 d0 d1=>?_⟩
 obtain⟨d,hd2,ed⟩:=Gh (L:=[0,0,0,1,1,2]) (i:=dd) 6 rfl d0 (by lia)
 have hd2:0<=d/\d<3:=by
  simp only[Bv,DB,or_false]at hd2
  lia
 obtain⟨v,hv,ev⟩:=Jn (vs:=hs) (i:=d) hd2.1 (by lia)
 obtain⟨t,z,m,k,rfl,ht,m0,m1,hM⟩:=hp v hv
 have b01:Bt lf H H1:=(Bt.same s1).trans b1
 have tk1:=lft.tk b01
 refine⟨q1,_,_,_,rfl,rfl,A5.of (b1 _ _ n1 hq11),ed,hd,_,_,_,rfl,rfl,A5.of (b01 _ _ nh hh),ev,?_⟩
 refine⟨t,_,rfl,A3.of (tk1 _ _ ht),rfl,_,_,rfl,_,_,rfl,_,_,rfl,rfl,?_⟩
 dsimp only[Ag]
 refine⟨Ak rfl,fun l hl1=>?_⟩
 have s2:=Aa hl1 (.lst [])
 have hl2:(upd H1 l (.lst [])) l=some (.lst []):=A6
 have nl:l≠lf:=fun z=>by obtain⟨n,hn⟩:=l1;rw[z,hn]at hl1;cases hl1
 have l0:∀x o,x≠lf->H x=some o->x≠l:=fun x o nx hx=>AC (b01 _ _ nx hx) hl1
 have b02:Bt lf H (upd H1 l (.lst [])):=b01.trans (Bt.same s2)
 have l2:=l1.over s2
 dsimp only[Ag]
 generalize upd H1 l (.lst [])=H2 at hl2 b02 l2
 refine⟨_,rfl,m,rfl,by lia,by lia,?_⟩
 have hb2:(0:Int)<(bs.length:Int):=by lia
 refine CN (lo:=0) (n:=m.toNat) (fun i σ' H'=>Bt lf H H'/\Bw H' lf/\(∃o7 o8,σ'=[some (.ref lf),some (.ref b),some (.ref hd),some (.str z),some (.int m),some (.int k),some (.ref l),o7,o8])/\∃(xs:List V),H' l=some (.lst xs)/\xs.length=i/\DX Z H' xs) ⟨b02,l2,⟨_,_,rfl⟩,[],hl2,rfl,fun v hv=>by cases hv⟩ (fun i σ' H' hi p=>?_) (fun σ' H' p=>?_)
 .obtain⟨b3,l3,⟨o7,o8,rfl⟩,xs,hx,xl,tr⟩:=p
  have hb3:=b3 _ _ nb hb
  refine⟨_,rfl,_,rfl,_,rfl,b,_,rfl,.inl (A5.of hb3),lf,_,rfl,l3,hb2,by lia,fun pt H4 b4 l4 p0 p1=>?_⟩
  obtain⟨v,hv,ev⟩:=Jn (vs:=bs) (i:=pt) p0 p1
  obtain⟨t',z',k',rfl,ht',hz⟩:=hbp v hv
  have b04:=b3.trans b4
  have hx4:=b4 _ _ nl hx
  refine⟨b,_,_,_,rfl,rfl,A5.of (b04 _ _ nb hb),ev,?_⟩
  dsimp only[Ag]
  have ht4:=lft.tk b04 _ _ ht'
  refine⟨_,rfl,.inl ⟨rfl,_,A5.of hx4⟩,_,rfl,t',_,0,_,rfl,rfl,A3.of ht4,rfl,_,rfl,_,rfl,lf,4,rfl,l4,by decide,by decide,fun p2 H5 b5 l5 p20 p21=>?_⟩
  have b05:=b04.trans b5
  have hx5:=b5 _ _ nl hx4
  have tr5:=(tr.bt l3 b4).bt l4 b5
  refine⟨_,_,rfl,rfl,_,rfl,t',_,1,_,rfl,rfl,A3.of (lft.tk b05 _ _ ht'),rfl,_,_,rfl,rfl,Ak rfl,fun t6 ht6=>?_⟩
  have s6:=Aa ht6 (.tup [V.str z',V.int (k+p2-k')])
  have hx6:=s6 _ _ hx5
  have tr6:=tr5.over s6
  have hn6:t6≠l:=fun z=>by rw[z,hx5]at ht6;cases ht6
  refine⟨l,_,_,rfl,rfl,hx6,C5 (by lia),?_⟩
  refine⟨fun x o nx ho=>by rw[Am (l0 x o nx ho)];exact s6 _ _ (b05 _ _ nx ho),?_,⟨_,_,rfl⟩,xs++[.ref t6],A6,by rw[Az,xl];rfl,fun v hv=>?_⟩
  .obtain⟨n,hn⟩:=l5.over s6
   exact⟨n,by rw[Am (Ne.symm nl)];exact hn⟩
  rcases Co.mp hv with h|h
  .obtain⟨t,z,n,rfl,ht,hz⟩:=tr6 v h
   exact⟨t,z,n,rfl,by rw[Am (F8 ht hx6 (by intro z;cases z))];exact ht,hz⟩
  .rw[DT]at h
   exact⟨t6,z',_,h,by rw[Am hn6];exact A6,hz⟩
 .obtain⟨b3,l3,⟨o7,o8,rfl⟩,xs,hx,xl,tr⟩:=p
  refine⟨_,rfl,_,rfl,l,_,rfl,.inl ⟨A5.of hx,fun t7 ht7=>⟨Ak rfl,fun t8 ht8=>?_⟩⟩⟩
  have s7:=Aa ht7 (.tup xs)
  have s8:=Aa ht8 (.tup [V.str z,V.ref t7])
  exact q t8 _ z t7 (b3.trans (Bt.same (s7.trans s8))) (l3.over (s7.trans s8)) A6 ⟨m.toNat,by rw[LB (by lia)];exact hM,xs,s8 _ _ A6,xl,by lia,tr.over (s7.trans s8)⟩
theorem RA (T:Tx K mg a):AB P w K mg base AI 3 a.f_t a.d_t ["_law_left_here","_law_bases","_law_heads"] V4:=by
 have G_a :=@FO P w K mg base a T
 have G_q :=@O9 P w K mg base a T
 refine T.F_t.ok KQ (fun vs H Q E h=>?_) (fun cdv A outer s H vs Q E hr h=>?_)
 .obtain⟨_,_,_,_,_,rfl,_⟩:=h;rfl
 obtain⟨Z,M,lf,b,hd,rfl,lft,hB,hH,nb,nh,q⟩:=h
 refine⟨_,(@A8 _ _ _ _ _ (@Ai _ _ (3) _ _ _ _ KQ.nd rfl (.inl rfl) (@Aj _ _ _ _ _ _ _ _ _ _ _ _ _ _ _ _ G_a (hr.mono (by lia)) (by rfl) T.m_a T.F_a.kp T.b_a .nil Af (@A0 _ _ _ _ _ (pv 0) (@A0 _ _ _ _ _ A1 A2 (by rfl)) (by rfl)) (by decide) (by rfl) (by rfl)) (by rfl) (by first|exact .inl rfl|exact .inr rfl|assumption)) (@A8 _ _ _ _ _ (@Be _ _ _ _ _ _ _ _ (@AZ _ _ _ _ _ _ _ _ FR (pv 3) A1 (@AR _ _ (by decide) (by decide))) (@A8 _ _ _ _ _ (@Ep _ _ _ _ _ _ (@Aj _ _ _ _ _ _ _ _ _ _ _ _ _ _ _ _ G_q (hr.mono (by lia)) (by rfl) T.m_q T.F_q.kp T.b_q .nil Af (@A0 _ _ _ _ _ (pv 0) (@A0 _ _ _ _ _ (pv 1) (@A0 _ _ _ _ _ (pv 2) A2 (by rfl)) (by rfl)) (by rfl)) (by decide) (by rfl) (by rfl)) (BY rfl (AA (Al (i:=4) KQ.nd rfl (.inl rfl)) (AA (Al (i:=5) KQ.nd rfl (.inl rfl)) BS))) (by rfl) (by rfl) (by rfl)) (@Ae _ _ _ (@Av _ _ _ _ (@BB _ _ _ _ _ (@Ab _ _ _ _ _ BD (@Ab _ _ _ _ _ (pv 4) (@Ab _ _ _ _ _ (pv 5) Bm AK) AK) B7))))) Bj) (@A8 _ _ _ _ _ (@Be _ _ _ _ _ _ _ _ (@PW.pt _ _ _ (@FS _ _ _ _ _ _ _ (@AZ _ _ _ _ _ _ _ _ Cm (pv 3) A1 (@AR _ _ (by decide) (by decide))) (@HJ _ _ _ _ (@AZ _ _ _ _ _ _ _ _ FR (@B3 _ _ _ _ _ _ _ _ _ Bp (by rfl) T.z_len Bo (@A0 _ _ _ _ _ (pv 1) A2 (by rfl)) (by decide) (by decide) (by rfl) (by rfl)) A1 (@AR _ _ (by decide) (by decide)))))) (@Ae _ _ _ (@Av _ _ _ _ (@CM _ _ _ _ _ (@A0 _ _ _ _ _ BD (@A0 _ _ _ _ _ (@A7 _ _ _ _ _ _ _ Ac (@A7 _ _ _ _ _ _ _ AH (pv 1) (@Ah _ _ _ _ _ _ _ _ B2 A1 (@Aj _ _ _ _ _ _ _ _ _ _ _ _ _ _ _ _ G_a (hr.mono (by lia)) (by rfl) T.m_a T.F_a.kp T.b_a .nil Af (@A0 _ _ _ _ _ (pv 0) (@A0 _ _ _ _ _ (@Ah _ _ _ _ _ _ _ _ DF (@B3 _ _ _ _ _ _ _ _ _ Bp (by rfl) T.z_len Bo (@A0 _ _ _ _ _ (pv 1) A2 (by rfl)) (by decide) (by decide) (by rfl) (by rfl)) A1) A2 (by rfl)) (by rfl)) (by decide) (by rfl) (by rfl))) (fun _ _=>rfl)) A1 (fun _ _=>rfl)) A2 (by rfl)) (by rfl))))) Bj) (@Ae _ _ _ (@Av _ _ _ _ (@CM _ _ _ _ _ (@A0 _ _ _ _ _ BD (@A0 _ _ _ _ _ (@Aj _ _ _ _ _ _ _ _ _ _ _ _ _ _ _ _ G_a (hr.mono (by lia)) (by rfl) T.m_a T.F_a.kp T.b_a .nil Af (@A0 _ _ _ _ _ (pv 0) (@A0 _ _ _ _ _ (@A7 _ _ _ _ _ _ _ AH (@B9 _ _ _ _ (@A0 _ _ _ _ _ A1 (@A0 _ _ _ _ _ (@Ah _ _ _ _ _ _ _ _ Gf A1 A1) A2 (by rfl)) (by rfl))) (@Aj _ _ _ _ _ _ _ _ _ _ _ _ _ _ _ _ G_a (hr.mono (by lia)) (by rfl) T.m_a T.F_a.kp T.b_a .nil Af (@A0 _ _ _ _ _ (pv 0) (@A0 _ _ _ _ _ A1 A2 (by rfl)) (by rfl)) (by decide) (by rfl) (by rfl)) (fun _ _=>rfl)) A2 (by rfl)) (by rfl)) (by decide) (by rfl) (by rfl)) A2 (by rfl)) (by rfl)))))))),?_⟩
 refine⟨_,rfl,lf,4,rfl,lft,by decide,by decide,fun pk H1 b1 l1 p0 p1=>?_⟩
 have hB1:=hB.bt lft b1 nb
 have hH1:=hH.bt lft b1 nh
 dsimp only[Ag]
 refine⟨_,rfl,_,_,rfl,rfl,_,rfl,Cf (fun c=>?_) (fun c=>?_)⟩
 .refine⟨_,rfl,_,rfl,_,rfl,Z,M,lf,b,hd,rfl,l1,hB1,hH1,nb,nh,fun r H2 z p b2 l2 hr1 hC=>?_⟩
  have hC1:=hC
  obtain⟨nn,hM,hsz⟩:=hC1
  refine⟨r,_,rfl,A3.of hr1,rfl,_,_,rfl,_,_,rfl,rfl,?_⟩
  dsimp only[Ag]
  refine⟨_,rfl,_,rfl,Ak rfl,fun t2 ht2=>?_⟩
  have s2:=Aa ht2 (.tup [V.str "c",V.str z,V.ref p])
  exact q _ _ _ ((b1.trans b2).trans (Bt.same s2)) (l2.over s2) (.c z A6 (hsz.tk (A9.tk s2)).sp) (fun r hr=>by rw[DT]at hr;subst hr;exact hC.over s2)
 dsimp only[Dj]
 refine ED (fun σ' H'=>H'=H1/\σ'=[some (.ref lf),some (.ref b),some (.ref hd),some (.int pk),none,none]) (fun σ' H' pp=>?_) (fun nx=>?_)
 .obtain⟨rfl,rfl⟩:=pp
  refine⟨_,rfl,_,_,rfl,rfl,⟨by decide,by decide,by decide⟩,Ak rfl,fun q1 hq1=>?_⟩
  have s2:=Aa hq1 (.lst [V.int 10,V.int (10 ^ (18:Int).toNat)])
  have hq11:(upd H' q1 (.lst [V.int 10,V.int (10 ^ (18:Int).toNat)])) q1=some (.lst [V.int 10,V.int (10 ^ (18:Int).toNat)]):=A6
  have n1:q1≠lf:=fun z=>by obtain⟨n,hn⟩:=l1;rw[z,hn]at hq1;cases hq1
  refine⟨_,rfl,lf,2,rfl,l1.over s2,by decide,by decide,fun d2 H3 b3 l3 d20 d21=>?_⟩
  obtain⟨i,hi,ei⟩:=Gh (L:=[10,10 ^ (18:Int).toNat]) (i:=d2) 2 rfl d20 (by lia)
  have ib:0<i/\i<18446744073709551616:=by
   simp only[Bv,DB,or_false]at hi
   rcases hi with rfl|rfl<;>decide
  refine⟨q1,_,_,_,rfl,rfl,A5.of (b3 _ _ n1 hq11),ei,lf,i,rfl,l3,ib.1,ib.2,fun d3 H4 b4 l4 d30 d31=>⟨Ak rfl,fun t2 ht2=>?_⟩⟩
  have s5:=Aa ht2 (.tup [V.str "n",V.int d3])
  exact q _ _ _ ((((b1.trans (Bt.same s2)).trans b3).trans b4).trans (Bt.same s5)) (l4.over s5) (.n d3 A6) (fun r hr=>by cases hr)
 obtain⟨bs,hb,hb0,hb1,hbp⟩:=hB1
 refine⟨_,rfl,rfl,_,rfl,Cf (fun c2=>?_) (fun c2=>nx _ _ ⟨rfl,rfl⟩)⟩
 refine⟨_,rfl,b,_,rfl,.inl (A5.of hb),_,_,rfl,rfl,_,rfl,Cf (fun c3=>?_) (fun c3=>nx _ _ ⟨rfl,rfl⟩)⟩
 have c3:=dT c3
 refine⟨_,rfl,_,rfl,_,rfl,b,_,rfl,.inl (A5.of hb),_,_,rfl,rfl,lf,_,rfl,l1,(by show(0:Int)<(bs.length:Int)-1;lia),(by show(bs.length:Int)-1<18446744073709551616;lia),fun d2 H3 b3 l3 d20 d21=>?_⟩
 obtain⟨v,hv,ev⟩:=Jn (vs:=bs) (i:=1+d2) (by lia) (by lia)
 obtain⟨t,z,k,rfl,ht,_⟩:=hbp v hv
 refine⟨_,_,rfl,rfl,b,_,_,_,rfl,rfl,A5.of (b3 _ _ nb hb),ev,t,_,0,_,rfl,rfl,A3.of (l1.tk b3 _ _ ht),rfl,Ak rfl,fun t2 ht2=>?_⟩
 have s5:=Aa ht2 (.tup [V.str "v",V.str z])
 exact q _ _ _ ((b1.trans b3).trans (Bt.same s5)) (l3.over s5) (.v z A6) (fun r hr=>by cases hr)
theorem Y7 (T:Tx K mg a):AB P w K mg base AI 4 a.f_O a.d_O ["_law_left_here","_law_bases","_law_heads"] XH:=by
 have G_a :=@FO P w K mg base a T
 have G_t :=@RA P w K mg base a T
 refine T.F_O.ok HZ (fun vs H Q E h=>?_) (fun cdv A outer s H vs Q E hr h=>?_)
 .obtain⟨_,_,_,_,_,rfl,_⟩:=h;rfl
 obtain⟨Z,M,lf,b,hd,rfl,lft,hB,hH,nb,nh,q⟩:=h
 refine⟨_,(A8 (Ai (i:=3) HZ.nd rfl (.inl rfl) (Aj G_t (hr.mono (by lia)) (by rfl) T.m_t T.F_t.kp T.b_t .nil Af (A0 (pv 0) (A0 (pv 1) (A0 (pv 2) A2)))))
  (A8 (Br PassesOwn.never rfl (Ce (by rfl) T.z_range (A0 (Aj G_a (hr.mono (by lia)) (by rfl) T.m_a T.F_a.kp T.b_a .nil Af (A0 (pv 0) (A0 A1 A2))) A2)) (Al (i:=4) HZ.nd rfl (.inl rfl))
  (A8 (Ai (i:=5) HZ.nd rfl (.inl rfl) (A7 K7 BD (Aj G_a (hr.mono (by lia)) (by rfl) T.m_a T.F_a.kp T.b_a .nil Af (A0 (pv 0) (A0 A1 A2))) (fun _ _=>rfl)))
  (A8 (Ai (i:=6) HZ.nd rfl (.inl rfl) (Aj G_t (hr.mono (by lia)) (by rfl) T.m_t T.F_t.kp T.b_t .nil Af (A0 (pv 0) (A0 (pv 1) (A0 (pv 2) A2)))))
  (Ae (Ai (i:=3) HZ.nd rfl (.inl rfl) (A7 AH (B9 (A0 (BB (Ab (pv 5) (Ab (pv 3) (Ab (pv 6) Bm AK) AK) AK)) (A0 (BB (Ab (pv 5) (Ab (pv 6) (Ab (pv 3) Bm AK) AK) AK)) A2))) (Aj G_a (hr.mono (by lia)) (by rfl) T.m_a T.F_a.kp T.b_a .nil Af (A0 (pv 0) (A0 A1 A2))) (fun _ _=>rfl)))))))
  (Ae (Av (pv 3))))),?_⟩
 refine⟨_,rfl,_,rfl,_,rfl,Z,M,lf,b,hd,rfl,lft,hB,hH,nb,nh,fun x0 H1 rs0 b1 l1 tm0 tz0=>?_⟩
 dsimp only[Ag]
 refine⟨_,rfl,lf,3,rfl,l1,by decide,by decide,fun dd H2 b2 l2 d0 d1=>?_⟩
 refine⟨_,rfl,by lia,by lia,?_⟩
 have tk2:=l1.tk b2
 refine CN (lo:=0) (n:=dd.toNat) (fun i σ' H'=>Bt lf H H'/\Bw H' lf/\∃(x:V) (m:Nat) (rs:BK) (o4 o5 o6:Option V),σ'=[some (.ref lf),some (.ref b),some (.ref hd),some x,o4,o5,o6]/\m=i+1/\Cz H' m x rs/\∀r∈rs,DK Z M H' r) ⟨b1.trans b2,l2,x0,1,rs0,_,_,_,rfl,rfl,tm0.tk tk2,fun r hr=>(tz0 r hr).tk tk2⟩ (fun i σ' H' hi p=>?_) (fun σ' H' p=>?_)
 .obtain⟨b3,l3,x,m,rs,o4,o5,o6,rfl,hm,tm,tz⟩:=p
  dsimp only[Ag]
  refine⟨_,rfl,lf,3,rfl,l3,by decide,by decide,fun ds H4 b4 l4 s0 s1=>?_⟩
  obtain⟨c,ec,hz⟩:∃c,B8 (AS (Str.ofString "+-*")) ds=some c/\(⟨#[c]⟩:Str)∈[Str.ofString "+",Str.ofString "-",Str.ofString "*"]:=by
   have:ds=0\/ds=1\/ds=2:=by lia
   rcases this with rfl|rfl|rfl
   .exact⟨43,by decide +kernel,by decide +kernel⟩
   .exact⟨45,by decide +kernel,by decide +kernel⟩
   .exact⟨42,by decide +kernel,by decide +kernel⟩
  refine⟨_,_,_,rfl,rfl,Bc (by decide +kernel),ec,?_⟩
  dsimp only[Ag]
  generalize (⟨#[c]⟩:Str)=zz at hz ⊢
  have b04:=b3.trans b4
  refine⟨_,rfl,_,rfl,_,rfl,Z,M,lf,b,hd,rfl,l4,hB.bt lft b04 nb,hH.bt lft b04 nh,nb,nh,fun x5 H5 rs5 b5 l5 tm5 tz5=>?_⟩
  have tk5:=(l3.tk b4).trans (l4.tk b5)
  dsimp only[Ag]
  refine⟨_,rfl,_,rfl,_,rfl,Ak rfl,fun t6 ht6=>?_⟩
  have s6:=Aa ht6 (.tup [V.str zz,x,x5])
  have ht66:(upd H5 t6 (.tup [V.str zz,x,x5])) t6=some (.tup [V.str zz,x,x5]):=A6
  generalize upd H5 t6 (.tup [V.str zz,x,x5])=H6 at s6 ht66
  refine⟨_,rfl,_,rfl,_,rfl,Ak rfl,fun t7 ht7=>⟨Ak rfl,fun l7 hl7=>?_⟩⟩
  have s7:=Aa ht7 (.tup [V.str zz,x5,x])
  have ht77:(upd H6 t7 (.tup [V.str zz,x5,x])) t7=some (.tup [V.str zz,x5,x]):=A6
  generalize upd H6 t7 (.tup [V.str zz,x5,x])=H7 at s7 ht77 hl7
  have s8:=Aa hl7 (.lst [V.ref t6,V.ref t7])
  have hl8:(upd H7 l7 (.lst [V.ref t6,V.ref t7])) l7=some (.lst [V.ref t6,V.ref t7]):=A6
  generalize upd H7 l7 (.lst [V.ref t6,V.ref t7])=H8 at s8 hl8
  have s58:=s6.trans (s7.trans s8)
  have l8:=l5.over s58
  have n8:l7≠lf:=fun z=>by obtain⟨n,hn⟩:=l5.over (s6.trans s7);rw[z,hn]at hl7;cases hl7
  refine⟨_,rfl,lf,2,rfl,l8,by decide,by decide,fun d9 H9 b9 l9 d90 d91=>?_⟩
  have tk9:=(A9.tk s58).trans (l8.tk b9)
  have b09:Bt lf H H9:=((b04.trans b5).trans (Bt.same s58)).trans b9
  have tmx:=(tm.tk tk5).tk tk9
  have tm9:=tm5.tk tk9
  have tzx:∀r∈rs,DK Z M H9 r:=fun r hr=>(tz r hr).tk (tk5.trans tk9)
  have tz9:∀r∈rs5,DK Z M H9 r:=fun r hr=>(tz5 r hr).tk tk9
  have h69:=l8.tk b9 _ _ ((s7.trans s8) _ _ ht66)
  have h79:=l8.tk b9 _ _ (s8 _ _ ht77)
  rcases show d9=0\/d9=1 by lia with rfl|rfl
  .refine⟨l7,_,0,_,rfl,rfl,A5.of (b9 _ _ n8 hl8),rfl,?_⟩
   exact⟨b09,l9,_,m+1,_,_,_,_,rfl,by lia,.j zz hz h69 tmx tm9,fun r hr=>(Co.mp hr).elim (tzx r) (tz9 r)⟩
  .refine⟨l7,_,1,_,rfl,rfl,A5.of (b9 _ _ n8 hl8),rfl,?_⟩
   exact⟨b09,l9,_,1+m,_,_,_,_,rfl,by lia,.j zz hz h79 tm9 tmx,fun r hr=>(Co.mp hr).elim (tz9 r) (tzx r)⟩
 .obtain⟨b3,l3,x,m,rs,o4,o5,o6,rfl,hm,tm,tz⟩:=p
  exact⟨_,rfl,q _ _ m rs b3 l3 (by lia) tm tz⟩
theorem Y0 (T:Tx K mg a):AB P w K mg base AI 2 a.f_P a.d_P ["_law_left_here","_law_far","_law_stack","_law_names_here"] RY:=by
 have G_a :=@FO P w K mg base a T
 refine T.F_P.ok FU (fun vs H Q E h=>?_) (fun cdv A outer s H vs Q E hr h=>?_)
 .obtain⟨_,_,_,_,_,_,rfl,_⟩:=h;rfl
 obtain⟨lf,far,st,nm,S,zs,rfl,lft,⟨vs,hv,hall⟩,k10,htn,hnm,nms,nst,nnm,q⟩:=h
 refine⟨_,(@A8 _ _ _ _ _ (@Ai _ _ (4) _ _ _ _ FU.nd rfl (.inl rfl) (@A7 _ _ _ _ _ _ _ AH (@Hf _ _ _ _ (@Ab _ _ _ _ _ A1 (@Ab _ _ _ _ _ A1 (@Ab _ _ _ _ _ (pv 1) Bm AK) B7) B7)) (@Aj _ _ _ _ _ _ _ _ _ _ _ _ _ _ _ _ G_a (hr.mono (by lia)) (by rfl) T.m_a T.F_a.kp T.b_a .nil Af (@A0 _ _ _ _ _ (pv 0) (@A0 _ _ _ _ _ A1 A2 (by rfl)) (by rfl)) (by decide) (by rfl) (by rfl)) (fun _ _=>rfl)) (by rfl) (by first|exact .inl rfl|exact .inr rfl|assumption)) (@A8 _ _ _ _ _ (@Ai _ _ (5) _ _ _ _ FU.nd rfl (.inl rfl) (@Ah _ _ _ _ _ _ _ _ Dl (@B9 _ _ _ _ (@A0 _ _ _ _ _ (@CM _ _ _ _ _ (@A0 _ _ _ _ _ BD (@A0 _ _ _ _ _ A1 A2 (by rfl)) (by rfl))) A2 (by rfl))) (@DZ _ _ _ _ _ _ _ ["_law_one"] [none] _ _ _ _ (by rfl) (@CK _ _ _ _ (pv 2)) QP (fun _ _ _ _ _ _=>⟨(Al (i:=0) X6 rfl (.inl rfl)),@DP _,(@CM _ _ _ _ _ (@A0 _ _ _ _ _ (@A7 _ _ _ _ _ _ _ (show Cn _ (CY K) from Ac) (pv 0) A1 (fun _ _=>rfl)) (@A0 _ _ _ _ _ (@A7 _ _ _ _ _ _ _ (show Cn _ (CY K) from Ac) (pv 0) A1 (fun _ _=>rfl)) A2 (by rfl)) (by rfl)))⟩) (by intro _;rfl))) (by rfl) (by first|exact .inl rfl|exact .inr rfl|assumption)) (@A8 _ _ _ _ _ (@Ai _ _ (6) _ _ _ _ FU.nd rfl (.inl rfl) (@A7 _ _ _ _ _ _ _ AH (pv 5) (@Aj _ _ _ _ _ _ _ _ _ _ _ _ _ _ _ _ G_a (hr.mono (by lia)) (by rfl) T.m_a T.F_a.kp T.b_a .nil Af (@A0 _ _ _ _ _ (pv 0) (@A0 _ _ _ _ _ (@B3 _ _ _ _ _ _ _ _ _ Bp (by rfl) T.z_len Bo (@A0 _ _ _ _ _ (pv 5) A2 (by rfl)) (by decide) (by decide) (by rfl) (by rfl)) A2 (by rfl)) (by rfl)) (by decide) (by rfl) (by rfl)) (fun _ _=>rfl)) (by rfl) (by first|exact .inl rfl|exact .inr rfl|assumption)) (@A8 _ _ _ _ _ (@Ai _ _ (7) _ _ _ _ FU.nd rfl (.inl rfl) (@A7 _ _ _ _ _ _ _ AH (pv 5) (@Aj _ _ _ _ _ _ _ _ _ _ _ _ _ _ _ _ G_a (hr.mono (by lia)) (by rfl) T.m_a T.F_a.kp T.b_a .nil Af (@A0 _ _ _ _ _ (pv 0) (@A0 _ _ _ _ _ (@B3 _ _ _ _ _ _ _ _ _ Bp (by rfl) T.z_len Bo (@A0 _ _ _ _ _ (pv 5) A2 (by rfl)) (by decide) (by decide) (by rfl) (by rfl)) A2 (by rfl)) (by rfl)) (by decide) (by rfl) (by rfl)) (fun _ _=>rfl)) (by rfl) (by first|exact .inl rfl|exact .inr rfl|assumption)) (@A8 _ _ _ _ _ (@Ai _ _ (8) _ _ _ _ FU.nd rfl (.inl rfl) (@A7 _ _ _ _ _ _ _ AH (@Hf _ _ _ _ (@Ab _ _ _ _ _ A1 (@Ab _ _ _ _ _ A1 (@Ab _ _ _ _ _ A1 (@Ab _ _ _ _ _ A1 (@Ab _ _ _ _ _ A1 (@Ab _ _ _ _ _ A1 (@Ab _ _ _ _ _ (@Dm _ _ _ _ _ _ Dy A1) (@Ab _ _ _ _ _ A1 Bm B7) L8) B7) B7) B7) B7) B7) B7)) (@Aj _ _ _ _ _ _ _ _ _ _ _ _ _ _ _ _ G_a (hr.mono (by lia)) (by rfl) T.m_a T.F_a.kp T.b_a .nil Af (@A0 _ _ _ _ _ (pv 0) (@A0 _ _ _ _ _ A1 A2 (by rfl)) (by rfl)) (by decide) (by rfl) (by rfl)) (fun _ _=>rfl)) (by rfl) (by first|exact .inl rfl|exact .inr rfl|assumption)) (@A8 _ _ _ _ _ (@Ai _ _ (9) _ _ _ _ FU.nd rfl (.inl rfl) (@CM _ _ _ _ _ (@A0 _ _ _ _ _ (@A7 _ _ _ _ _ _ _ Ac (pv 6) A1 (fun _ _=>rfl)) (@A0 _ _ _ _ _ (@Ah _ _ _ _ _ _ _ _ B2 (@Ah _ _ _ _ _ _ _ _ DF (pv 4) (@A7 _ _ _ _ _ _ _ Ac (pv 6) A1 (fun _ _=>rfl))) (@Aj _ _ _ _ _ _ _ _ _ _ _ _ _ _ _ _ G_a (hr.mono (by lia)) (by rfl) T.m_a T.F_a.kp T.b_a .nil Af (@A0 _ _ _ _ _ (pv 0) (@A0 _ _ _ _ _ A1 A2 (by rfl)) (by rfl)) (by decide) (by rfl) (by rfl))) A2 (by rfl)) (by rfl))) (by rfl) (by first|exact .inl rfl|exact .inr rfl|assumption)) (@A8 _ _ _ _ _ (@Ai _ _ (10) _ _ _ _ FU.nd rfl (.inl rfl) (@A7 _ _ _ _ _ _ _ AH (@Ah _ _ _ _ _ _ _ _ Dl (@DZ _ _ _ _ _ _ _ ["_law_one"] [none] _ _ _ _ (by rfl) (@CK _ _ _ _ (@Ds _ _ _ _ _ _ _ _ _ _ Fk (pv 2) DH (@D9 _ _ _ A1))) Rz (fun _ _ _ _ _ _=>⟨(Al (i:=0) SY rfl (.inl rfl)),@DP _,(@A7 _ _ _ _ _ _ _ (show Cn _ (CY K) from Ac) (pv 0) A1 (fun _ _=>rfl))⟩) (by intro _;rfl)) (@B9 _ _ _ _ (@A0 _ _ _ _ _ (@Aj _ _ _ _ _ _ _ _ _ _ _ _ _ _ _ _ G_a (hr.mono (by lia)) (by rfl) T.m_a T.F_a.kp T.b_a .nil Af (@A0 _ _ _ _ _ (pv 0) (@A0 _ _ _ _ _ A1 A2 (by rfl)) (by rfl)) (by decide) (by rfl) (by rfl)) A2 (by rfl)))) A1 (fun _ _=>rfl)) (by rfl) (by first|exact .inl rfl|exact .inr rfl|assumption)) (@Ae _ _ _ (@Av _ _ _ _ (@BB _ _ _ _ _ (@Ab _ _ _ _ _ (@A7 _ _ _ _ _ _ _ AH (pv 3) (@Ah _ _ _ _ _ _ _ _ E1 (@Ah _ _ _ _ _ _ _ _ B2 (@B3 _ _ _ _ _ _ _ _ _ Bp (by rfl) T.z_len Bo (@A0 _ _ _ _ _ (pv 2) A2 (by rfl)) (by decide) (by decide) (by rfl) (by rfl)) (pv 10)) A1) (fun _ _=>rfl)) (@Ab _ _ _ _ _ (pv 9) (@Ab _ _ _ _ _ (@CM _ _ _ _ _ (@A0 _ _ _ _ _ (@A7 _ _ _ _ _ _ _ Ac (pv 7) A1 (fun _ _=>rfl)) (@A0 _ _ _ _ _ (@Ah _ _ _ _ _ _ _ _ B2 (@Ah _ _ _ _ _ _ _ _ DF (pv 4) (@A7 _ _ _ _ _ _ _ Ac (pv 7) A1 (fun _ _=>rfl))) (pv 8)) A2 (by rfl)) (by rfl))) (@Ab _ _ _ _ _ (pv 4) (@Ab _ _ _ _ _ (pv 10) Bm AK) AK) VC) AK) Ed))))))))))),?_⟩
 have hk:=hall.1
 have fr:∀{HX:Hp} {x:Addr},Bw HX lf->HX x=none->x≠lf:=fun{HX x} l hx z=>by obtain⟨n,hn⟩:=l;rw[z,hn]at hx;cases hx
 refine⟨_,rfl,Ak rfl,fun q1 hq1=>?_⟩
 have s1:=Aa hq1 (.lst [V.int 0,V.int 0,V.int far])
 have hq11:(upd H q1 (.lst [V.int 0,V.int 0,V.int far])) q1=some (.lst [V.int 0,V.int 0,V.int far]):=A6
 refine⟨_,rfl,lf,3,rfl,lft.over s1,by decide,by decide,fun d1 H1 b1 l1 d10 d11=>?_⟩
 obtain⟨ab,hab,eab⟩:=Gh (L:=[0,0,far]) (i:=d1) 3 rfl d10 (by lia)
 refine⟨q1,_,_,_,rfl,rfl,A5.of (b1 _ _ (fr lft hq1) hq11),eab,?_⟩
 have b01:Bt lf H H1:=(Bt.same s1).trans b1
 dsimp only[Ag]
 clear hq11 s1 b1
 refine⟨Ak rfl,fun t0 ht0=>⟨Ak rfl,fun l0 hl0=>?_⟩⟩
 have e2:=(Aa ht0 (.tup [V.str "",V.int 0])).trans (Aa hl0 (.lst [V.ref t0]))
 have ht02:(upd (upd H1 t0 (.tup [V.str "",V.int 0])) l0 (.lst [V.ref t0])) t0=some (.tup [V.str "",V.int 0]):=Aa hl0 _ _ _ A6
 have hl02:(upd (upd H1 t0 (.tup [V.str "",V.int 0])) l0 (.lst [V.ref t0])) l0=some (.lst [V.ref t0]):=A6
 generalize upd (upd H1 t0 (.tup [V.str "",V.int 0])) l0 (.lst [V.ref t0])=H2 at e2 ht02 hl02
 have hv1:=b01 _ _ nst hv
 have hall1:=hall.mono fun _ _ z=>z.tk (lft.tk b01)
 refine⟨_,rfl,st,rfl,⟨_,A5.of (e2 _ _ hv1)⟩,?_⟩
 refine G5 (xs:=vs) (fun i ys H'=>A9 H2 H'/\ys.length=i/\DX (Bs S) H' ys) ⟨A9.refl _,rfl,fun v hv=>by cases hv⟩ (Bc (by lia)) (fun i ys H' hi p=>⟨A5.of (p.1 _ _ (e2 _ _ hv1)),by lia⟩) (fun i x ys H' hx p=>?_) (fun ys H' p r hr'=>?_)
 .obtain⟨e3,yl,yp⟩:=p
  obtain⟨qq,hqq,hlq⟩:=hall1.get' hx
  obtain⟨p0,p1,p2,rfl,h0,_⟩:=hlq.over (e2.trans e3)
  refine⟨_,rfl,p0,_,0,_,rfl,rfl,A3.of h0,rfl,_,rfl,p0,_,3,_,rfl,rfl,A3.of h0,rfl,Ak rfl,fun t4 ht4=>?_⟩
  have s4:=Aa ht4 (.tup [V.str qq.nm,V.int qq.ab])
  refine⟨e3.trans s4,by rw[Az,yl];rfl,fun v hv'=>?_⟩
  rcases Co.mp hv' with h|h
  .exact(yp.over s4) v h
  .rw[DT]at h
   exact⟨t4,qq.nm,qq.ab,h,A6,.inr ⟨qq,Bh hqq,rfl⟩⟩
 obtain⟨e3,yl,yp⟩:=p
 have s4:=Aa hr' (.lst ys)
 refine⟨l0,r,_,_,rfl,rfl,s4 _ _ (e3 _ _ hl02),A6,Bc (by simp only[BI];lia),fun bl hbl=>?_⟩
 have s5:=Aa hbl (.lst ([V.ref t0]++ys))
 have e15:=(e2.trans e3).trans (s4.trans s5)
 have nbl:bl≠lf:=fr (((l1.over e2).over e3).over s4) hbl
 have hB:EN (Bs S) (upd (upd H' r (.lst ys)) bl (.lst ([V.ref t0]++ys))) bl:=by
  refine⟨_,A6,by rw[Az];show 0<1+ys.length;lia,by rw[Az];show 1+ys.length<=100;lia,fun v hv'=>?_⟩
  rcases Co.mp hv' with h|h
  .rw[DT]at h
   exact⟨t0,_,_,h,s5 _ _ (s4 _ _ (e3 _ _ ht02)),.inl rfl⟩
  .exact(yp.over (s4.trans s5)) v h
 dsimp only[Ag]
 generalize upd (upd H' r (.lst ys)) bl (.lst ([V.ref t0]++ys))=H5 at e15 hB
 clear s4 s5 e3 yp hl02 ht02 yl hr' hbl e2 hl0 ht0 hv1 hall1
 have b05:=b01.trans (Bt.same e15)
 have l5:=l1.over e15
 obtain⟨bs,hb,hb0,hb1,hbp⟩:=hB
 have hb2:(0:Int)<(bs.length:Int):=by lia
 change DN _ _ _ [some (.ref lf),some (.int far),some (.ref st),some (.ref nm),some (.int ab),some (.ref bl),none,none,none,none,none] _
 refine⟨_,rfl,_,rfl,_,rfl,bl,_,rfl,.inl (A5.of hb),lf,_,rfl,l5,hb2,by lia,fun d6 H6 b6 l6 d60 d61=>?_⟩
 obtain⟨v1,hv1,ev1⟩:=Jn (vs:=bs) (i:=d6) d60 d61
 obtain⟨t1,z1,k1,rfl,ht1,bz1⟩:=hbp v1 hv1
 refine⟨bl,_,_,_,rfl,rfl,A5.of (b6 _ _ nbl hb),ev1,?_⟩
 refine⟨_,rfl,_,rfl,_,rfl,bl,_,rfl,.inl (A5.of (b6 _ _ nbl hb)),lf,_,rfl,l6,hb2,by lia,fun d7 H7 b7 l7 d70 d71=>?_⟩
 obtain⟨v2,hv2,ev2⟩:=Jn (vs:=bs) (i:=d7) d70 d71
 obtain⟨t2,z2,k2,rfl,ht2,bz2⟩:=hbp v2 hv2
 have b57:=b6.trans b7
 refine⟨bl,_,_,_,rfl,rfl,A5.of (b57 _ _ nbl hb),ev2,?_⟩
 dsimp only[Ag]
 have tk57:=l5.tk b57
 have ht17:=tk57 _ _ ht1
 have ht27:=tk57 _ _ ht2
 have b07:=b05.trans b57
 clear b6 b57 tk57 hb hbp
 change DN _ _ _ [some (.ref lf),some (.int far),some (.ref st),some (.ref nm),some (.int ab),some (.ref bl),some (.ref t1),some (.ref t2),none,none,none] _
 refine⟨_,rfl,Ak rfl,fun q2 hq2=>?_⟩
 have s8:=Aa hq2 (.lst [V.int 2,V.int 1,V.int 3,V.int 0,V.int 1,V.int 2,V.int (-1),V.int 1])
 have hq28:(upd H7 q2 (.lst [V.int 2,V.int 1,V.int 3,V.int 0,V.int 1,V.int 2,V.int (-1),V.int 1])) q2=some (.lst [V.int 2,V.int 1,V.int 3,V.int 0,V.int 1,V.int 2,V.int (-1),V.int 1]):=A6
 refine⟨_,rfl,lf,8,rfl,l7.over s8,by decide,by decide,fun d9 H9 b9 l9 d90 d91=>?_⟩
 obtain⟨mo,hmo,emo⟩:=Gh (L:=[2,1,3,0,1,2,-1,1]) (i:=d9) 8 rfl d90 (by lia)
 refine⟨q2,_,_,_,rfl,rfl,A5.of (b9 _ _ (fr l7 hq2) hq28),emo,?_⟩
 have b79:=(Bt.same s8).trans b9
 have ht19:=l7.tk b79 _ _ ht17
 have ht29:=l7.tk b79 _ _ ht27
 have b09:=b07.trans b79
 dsimp only[Ag]
 clear ht17 ht27 hq28 s8 b9 b79 b07
 change DN _ _ _ [some (.ref lf),some (.int far),some (.ref st),some (.ref nm),some (.int ab),some (.ref bl),some (.ref t1),some (.ref t2),some (.int mo),none,none] _
 refine⟨_,rfl,t1,_,0,_,rfl,rfl,A3.of ht19,rfl,_,rfl,_,rfl,t1,_,1,_,rfl,rfl,A3.of ht19,rfl,_,_,rfl,rfl,_,rfl,lf,2,rfl,l9,by decide,by decide,fun dA HA bA lA dA0 dA1=>⟨_,_,rfl,rfl,Ak rfl,fun ls hls=>?_⟩⟩
 have sB:=Aa hls (.tup [V.str z1,V.int (ab-k1+dA)])
 have hlsB:(upd HA ls (.tup [V.str z1,V.int (ab-k1+dA)])) ls=some (.tup [V.str z1,V.int (ab-k1+dA)]):=A6
 have b0B:=(b09.trans bA).trans (Bt.same sB)
 have lB:=lA.over sB
 have ht2B:=sB _ _ (l9.tk bA _ _ ht29)
 dsimp only[Ag]
 generalize upd HA ls (.tup [V.str z1,V.int (ab-k1+dA)])=HB at sB hlsB b0B lB ht2B
 clear sB bA b09 ht19 ht29
 change DN _ _ _ [some (.ref lf),some (.int far),some (.ref st),some (.ref nm),some (.int ab),some (.ref bl),some (.ref t1),some (.ref t2),some (.int mo),some (.ref ls),none] _
 have hvB:=b0B _ _ nst hv
 refine⟨_,rfl,_,rfl,st,_,rfl,A5.of hvB,fun p1 hp1=>?_⟩
 have cut1:C2 vs none (some 1)=vs.take 1:=IX vs (by decide)
 rw[cut1]
 have sC:=Aa hp1 (.lst (vs.take 1))
 have hallC:=hall.mono fun _ _ z=>(z.tk (lft.tk b0B)).over sC
 refine⟨p1,rfl,⟨_,A5.of A6⟩,?_⟩
 refine G5 (xs:=vs.take 1) (fun i ys H'=>H'=upd HB p1 (.lst (vs.take 1))/\ys=((S.take i).map fun q=>q.tn).map V.int) ⟨rfl,rfl⟩ (Bc (by rw[Bg];lia)) (fun i ys H' hi p=>by obtain⟨rfl,rfl⟩:=p;exact⟨A5.of A6,by rw[Aq,Aq,Bg];lia⟩) (fun i x ys H' hx p=>?_) (fun ys H' p r hr'=>?_)
 .obtain⟨rfl,rfl⟩:=p
  have li:=(AX.mp hx).1
  rw[Bg]at li
  rw[Jq (by lia)]at hx
  obtain⟨qq,hqq,hlq⟩:=hallC.get' hx
  obtain⟨p0,p1',p2,rfl,h0,_⟩:=hlq
  refine⟨_,rfl,p0,_,4,_,rfl,rfl,A3.of h0,rfl,rfl,?_⟩
  rw[CJ hqq,Bq,Bq]
  rfl
 obtain⟨rfl,rfl⟩:=p
 have sD:=Aa hr' (.lst (((S.take (vs.take 1).length).map fun q=>q.tn).map V.int))
 have hrD:(upd (upd HB p1 (.lst (vs.take 1))) r (.lst (((S.take (vs.take 1).length).map fun q=>q.tn).map V.int))) r=some (.lst (((S.take (vs.take 1).length).map fun q=>q.tn).map V.int)):=A6
 have sCD:=sC.trans sD
 have lD:=lB.over sCD
 have nr:r≠lf:=fr (lB.over sC) hr'
 generalize upd (upd HB p1 (.lst (vs.take 1))) r (.lst (((S.take (vs.take 1).length).map fun q=>q.tn).map V.int))=HD at hrD sCD lD
 refine⟨_,rfl,lf,3,rfl,lD,by decide,by decide,fun dE HE bE lE dE0 dE1=>⟨Ak rfl,fun p3 hp3=>?_⟩⟩
 have sF:=Aa hp3 (.lst [V.int dE])
 refine⟨r,p3,_,_,rfl,rfl,sF _ _ (bE _ _ nr hrD),A6,Bc (by rw[Aq,Aq,Bg,Bg,BI];lia),fun p4 hp4=>?_⟩
 obtain⟨u,hu,u0,u1,hd⟩:∃u:Int,B8 (((S.take (vs.take 1).length).map fun q=>q.tn).map V.int++[V.int dE]) 0=some (.int u)/\0<=u/\u<=2/\∀r,S.head?=some r->u=r.tn:=by
  cases S with
  |nil=>exact⟨dE,by rw[List.take_nil];rfl,dE0,by lia,fun r hr=>by cases hr⟩
  |
   cons r0 S'=>
   have:(vs.take 1).length=1:=by rw[Bg,hk,C9];lia
   rw[this]
   have t0:=htn r0 E4
   exact⟨r0.tn,rfl,t0.1,t0.2,fun r hr=>by cases hr;rfl⟩
 refine⟨p4,_,0,_,rfl,rfl,A5.of A6,hu,?_⟩
 have sG:=Aa hp4 (.lst (((S.take (vs.take 1).length).map fun q=>q.tn).map V.int++[V.int dE]))
 have sFG:=sF.trans sG
 have bBG:=((Bt.same sCD).trans bE).trans (Bt.same sFG)
 have b0G:=b0B.trans bBG
 have lG:=lE.over sFG
 have tkG:=lB.tk bBG
 have ht2G:=tkG _ _ ht2B
 have hlsG:=tkG _ _ hlsB
 dsimp only[Ag]
 generalize upd (upd HE p3 (.lst [V.int dE])) p4 (.lst (((S.take (vs.take 1).length).map fun q=>q.tn).map V.int++[V.int dE]))=HG at b0G lG ht2G hlsG
 change O2 _ _ [some (.ref lf),some (.int far),some (.ref st),some (.ref nm),some (.int ab),some (.ref bl),some (.ref t1),some (.ref t2),some (.int mo),some (.ref ls),some (.int u)] _
 have e3:(((vs.length:Int)+u)%3)=(((S.length+u.toNat)%3:Nat):Int):=by lia
 have atn:B8 (zs.map V.str) (((vs.length:Int)+u)%3)=some (.str (zs.getD ((S.length+u.toNat)%3) "")):=by
  rw[e3]
  exact By (by rw[BG,nms.get (LA _ (by decide))];rfl)
 refine⟨_,rfl,_,rfl,st,_,rfl,.inl (A5.of (b0G _ _ nst hv)),_,rfl,_,_,rfl,rfl,_,_,rfl,rfl,(by show(0:Int)<3;decide),nm,_,_,_,rfl,rfl,A5.of (b0G _ _ nnm hnm),atn,_,rfl,_,rfl,t2,_,0,_,rfl,rfl,A3.of ht2G,rfl,_,rfl,_,rfl,t2,_,1,_,rfl,rfl,A3.of ht2G,rfl,_,_,rfl,rfl,_,rfl,_,_,rfl,rfl,Ak rfl,fun hs hhs=>⟨_,rfl,_,rfl,Ak rfl,fun rr hrr=>?_⟩⟩
 have sI:=Aa hhs (.tup [V.str z2,V.int (ab-k2+mo)])
 have sJ:=Aa hrr (.tup [V.str (zs.getD ((S.length+u.toNat)%3) ""),V.ref ls,V.ref hs,V.int ab,V.int u])
 exact q _ _ ⟨zs.getD ((S.length+u.toNat)%3) "",z1,ab-k1+dA,z2,ab-k2+mo,ab,u⟩ (b0G.trans (Bt.same (sI.trans sJ))) (lG.over (sI.trans sJ)) ⟨rr,ls,hs,rfl,A6,sJ _ _ (sI _ _ hlsG),sJ _ _ A6⟩ ⟨rfl,u0,u1,hd,bz1,bz2⟩
theorem Wk (T:Tx K mg a):AB P w K mg base AI 5 a.f_Q a.d_Q ["_law_left_here","_law_stack","_law_path","_law_heads"] Yu:=by
 have G_q :=@O9 P w K mg base a T
 have G_O :=@Y7 P w K mg base a T
 refine T.F_Q.ok Gu (fun vs H Q E h=>?_) (fun cdv A outer s H vs Q E hr h=>?_)
 .obtain⟨_,_,_,_,_,_,_,rfl,_⟩:=h;rfl
 obtain⟨M,lf,st,pt,hd,S,ps,rfl,lft,⟨vs,hv,hall⟩,k10,hpt,hH,nst,npt,nhd,q⟩:=h
 refine⟨_,(A8 (Ai (i:=4) Gu.nd rfl (.inl rfl) (Ah Dl (B9 (A0 (CM (A0 BD (A0 A1 A2))) A2)) (DZ ["_law_one"] [none] (by rfl) (CK (pv 1)) WO (fun _ _ _ _ _ _=>⟨(Al (i:=0) Tg rfl (.inl rfl)),DP,(CM (A0 (A7 (show Cn _ (CY K) from Ac) (pv 0) A1 (fun _ _=>rfl)) (A0 (A7 (show Cn _ (CY K) from Ac) (pv 0) A1 (fun _ _=>rfl)) A2)))⟩))))
  (A8 (Ep (Yt "_law_j" ["_law_j","_law_stack"] [none,some 1] (by rfl) (Ce (by rfl) T.z_range (A0 A1 A2)) Th (fun _ _ _ _ _ _=>⟨(Al (i:=0) Xz rfl (.inr rfl)),DP,(Ec (show EC _ _ (Yo K) from GH) (by rfl) T.z_tuple Ew (A0 (DZ ["_law_one","_law_j"] [none,some 0] (by rfl) (show PI _ _ _ (LL K _) from(CK (pv 1))) WY (fun _ _ _ _ _ _=>⟨(Al (i:=0) SN rfl (.inl rfl)),DP,(A7 (show Cn _ (CY K) from Ac) (pv 0) (pv 1) (fun _ _=>rfl))⟩)) A2))⟩)) (Va rfl (AA (Al (i:=5) Gu.nd rfl (.inl rfl)) (AA (Al (i:=6) Gu.nd rfl (.inl rfl)) (AA (Al (i:=7) Gu.nd rfl (.inl rfl)) BS)))))
  (A8 (Ep (Aj G_q (hr.mono (by lia)) (by rfl) T.m_q T.F_q.kp T.b_q .nil Af (A0 (pv 0) (A0 (pv 4) (A0 (pv 3) A2)))) (BY rfl (AA (Al (i:=8) Gu.nd rfl (.inl rfl)) (AA (Al (i:=9) Gu.nd rfl (.inl rfl)) BS))))
  (Ae (Av (BB (Ab (pv 5) (Ab (pv 6) (Ab (pv 7) (Ab (pv 8) (Ab (pv 9) (Ab (Aj G_O (hr.mono (by lia)) (by rfl) T.m_O T.F_O.kp T.b_O .nil Af (A0 (pv 0) (A0 (pv 4) (A0 (pv 3) A2)))) (Ab (Ec GH (by rfl) T.z_tuple Ew (A0 (pv 2) A2)) Bm Fi) Fi) AK) AK) AK) AK) AK))))))),?_⟩
 have hk:vs.length=S.length:=hall.1
 refine⟨Ak rfl,fun t0 ht0=>⟨Ak rfl,fun l0 hl0=>?_⟩⟩
 have e2:=(Aa ht0 (.tup [V.str "",V.int 0])).trans (Aa hl0 (.lst [V.ref t0]))
 have ht02:(upd (upd H t0 (.tup [V.str "",V.int 0])) l0 (.lst [V.ref t0])) t0=some (.tup [V.str "",V.int 0]):=Aa hl0 _ _ _ A6
 have hl02:(upd (upd H t0 (.tup [V.str "",V.int 0])) l0 (.lst [V.ref t0])) l0=some (.lst [V.ref t0]):=A6
 generalize upd (upd H t0 (.tup [V.str "",V.int 0])) l0 (.lst [V.ref t0])=H2 at e2 ht02 hl02
 refine⟨_,rfl,st,rfl,⟨_,A5.of (e2 _ _ hv)⟩,?_⟩
 refine G5 (xs:=vs) (fun i ys H'=>A9 H2 H'/\ys.length=i/\DX (Bs S) H' ys) ⟨A9.refl _,rfl,fun v hv=>by cases hv⟩ (Bc (by lia)) (fun i ys H' hi p=>⟨A5.of (p.1 _ _ (e2 _ _ hv)),by lia⟩) (fun i x ys H' hx p=>?_) (fun ys H' p r hr'=>?_)
 .obtain⟨e3,yl,yp⟩:=p
  obtain⟨qq,hqq,hlq⟩:=hall.get' hx
  obtain⟨p0,p1,p2,rfl,h0,_⟩:=hlq.over (e2.trans e3)
  refine⟨_,rfl,p0,_,0,_,rfl,rfl,A3.of h0,rfl,_,rfl,p0,_,3,_,rfl,rfl,A3.of h0,rfl,Ak rfl,fun t4 ht4=>?_⟩
  have s4:=Aa ht4 (.tup [V.str qq.nm,V.int qq.ab])
  refine⟨e3.trans s4,by rw[Az,yl];rfl,fun v hv'=>?_⟩
  rcases Co.mp hv' with h|h
  .exact(yp.over s4) v h
  .rw[DT]at h
   exact⟨t4,qq.nm,qq.ab,h,A6,.inr ⟨qq,Bh hqq,rfl⟩⟩
 obtain⟨e3,yl,yp⟩:=p
 have s4:=Aa hr' (.lst ys)
 refine⟨l0,r,_,_,rfl,rfl,s4 _ _ (e3 _ _ hl02),A6,Bc (by simp only[BI];lia),fun bl hbl=>?_⟩
 have s5:=Aa hbl (.lst ([V.ref t0]++ys))
 have e5:=(e2.trans e3).trans (s4.trans s5)
 have nbl:bl≠lf:=fun z=>by obtain⟨n,hn⟩:=(lft.over (e2.trans e3)).over s4;rw[z,hn]at hbl;cases hbl
 have hB:EN (Bs S) (upd (upd H' r (.lst ys)) bl (.lst ([V.ref t0]++ys))) bl:=by
  refine⟨_,A6,by rw[Az];show 0<1+ys.length;lia,by rw[Az];show 1+ys.length<=100;lia,fun v hv'=>?_⟩
  rcases Co.mp hv' with h|h
  .rw[DT]at h
   exact⟨t0,_,_,h,s5 _ _ (s4 _ _ (e3 _ _ ht02)),.inl rfl⟩
  .exact(yp.over (s4.trans s5)) v h
 dsimp only[Ag]
 generalize upd (upd H' r (.lst ys)) bl (.lst ([V.ref t0]++ys))=H5 at e5 hB
 clear s4 s5 e3 yp hl02 ht02 yl hr' hbl e2 hl0 ht0
 refine⟨3,rfl,by decide,by decide,?_⟩
 refine Jk (n:=3) (fun m ys H'=>A9 H5 H'/\ys.length=m/\∀j<m,∃(u:Addr) (zs:List V),ys[j]?=some (.ref u)/\H' u=some (.tup zs)/\Ar (Hj H' j) zs S) ⟨A9.refl _,rfl,fun j hj=>absurd hj (LC _)⟩ (Ak rfl) (fun m ys H' hm pp=>by rw[pp.2.1];exact Ap _) (fun m ys H' hm pp=>?_) (fun ys H' pp r3 hr3=>?_)
 .obtain⟨e6,yl,yj⟩:=pp
  have hv6:=e6 _ _ (e5 _ _ hv)
  have hall6:=hall.mono fun _ _ z=>z.over (e5.trans e6)
  refine⟨_,rfl,st,rfl,⟨_,A5.of hv6⟩,?_⟩
  refine G5 (xs:=vs) (fun i zs H2=>H2=H'/\Ar (Hj H' m) zs (S.take i)) ⟨rfl,.nil⟩ (Bc (by lia)) (fun i zs H2 hi p=>by obtain⟨rfl,p⟩:=p;exact⟨A5.of hv6,by rw[p.1,Bg];lia⟩) (fun i x zs H2 hx p=>?_) (fun zs H2 p r6 hr6=>?_)
  .obtain⟨rfl,az⟩:=p
   obtain⟨qq,hqq,p0,p1,p2,rfl,h0,h1,h2⟩:=hall6.get' hx
   obtain⟨v,ev,xv⟩:∃v,B8 [V.str qq.nm,V.ref p1,V.ref p2,V.int qq.ab,V.int qq.tn] (0+(m:Int))=some v/\Hj H2 m v qq:=by
    have:m=0\/m=1\/m=2:=by lia
    rcases this with rfl|rfl|rfl
    .exact⟨_,rfl,fun _=>rfl,fun z=>(by cases z),fun z=>(by cases z)⟩
    .exact⟨_,rfl,fun z=>(by cases z),fun _=>⟨p1,rfl,h1⟩,fun z=>(by cases z)⟩
    .exact⟨_,rfl,fun z=>(by cases z),fun z=>(by cases z),fun _=>⟨p2,rfl,h2⟩⟩
   refine⟨_,rfl,_,rfl,p0,_,_,_,rfl,rfl,A3.of h0,ev,rfl,?_⟩
   rw[CJ hqq]
   exact az.snoc xv
  obtain⟨rfl,az⟩:=p
  rw[EZ (by lia)]at az
  refine⟨r6,_,rfl,.inl ⟨A5.of A6,fun u hu=>?_⟩⟩
  have s7:=(Aa hr6 (.lst zs)).trans (Aa hu (.tup zs))
  have xo:∀{HX:Hp} {j:Nat} {v:V} {q:Lp},A9 H2 HX->Hj H2 j v q->Hj HX j v q:=fun{HX j v q} e h=>⟨h.1,fun z=>(h.2.1 z).tk (A9.tk e),fun z=>(h.2.2 z).tk (A9.tk e)⟩
  refine⟨e6.trans s7,by rw[Az,yl];rfl,fun j hj=>?_⟩
  by_cases z:j<m
  .obtain⟨u',zs',h1,h2,h3⟩:=yj j z
   exact⟨u',zs',by rw[EH (by lia)];exact h1,s7 _ _ h2,h3.mono fun _ _ z=>xo s7 z⟩
  .have:j=m:=by lia
   subst this
   exact⟨u,zs,by rw[DQ (by lia),yl,Fs];rfl,A6,az.mono fun _ _ z=>xo s7 z⟩
 obtain⟨e6,yl,yj⟩:=pp
 obtain⟨u1,y1,g1,hu1,a1⟩:=yj 0 (by decide)
 obtain⟨u2,y2,g2,hu2,a2⟩:=yj 1 (by decide)
 obtain⟨u3,y3,g3,hu3,a3⟩:=yj 2 (by decide)
 have ey:ys=[V.ref u1,V.ref u2,V.ref u3]:=by
  match ys,yl,g1,g2,g3 with
  |
   [x,y,z],_,g1,g2,g3=>
   cases g1
   cases g2
   cases g3
   rfl
 subst ey
 have s7:=Aa hr3 (.lst [V.ref u1,V.ref u2,V.ref u3])
 have ey1:=Y9 a1
 refine⟨r3,_,rfl,A6,rfl,_,_,rfl,_,_,rfl,_,_,rfl,rfl,?_⟩
 dsimp only[Ag]
 have e57:=e6.trans s7
 have e07:=e5.trans e57
 have hu1:=s7 _ _ hu1
 have hu2:=s7 _ _ hu2
 have hu3:=s7 _ _ hu3
 have a2:Ar (fun v q=>Dc (upd H' r3 (.lst [V.ref u1,V.ref u2,V.ref u3])) v (q.lz,q.ln)) y2 S:=a2.mono fun _ _ z=>(z.2.1 rfl).tk (A9.tk s7)
 have a3:Ar (fun v q=>Dc (upd H' r3 (.lst [V.ref u1,V.ref u2,V.ref u3])) v (q.hz,q.hn)) y3 S:=a3.mono fun _ _ z=>(z.2.2 rfl).tk (A9.tk s7)
 have hB7:=hB.over e57
 have l7:=lft.over e07
 have hH7:=hH.over e07
 generalize upd H' r3 (.lst [V.ref u1,V.ref u2,V.ref u3])=H7 at e07 hu1 hu2 hu3 a2 a3 hB7 l7 hH7
 refine⟨_,rfl,_,rfl,_,rfl,Bs S,M,lf,bl,hd,rfl,l7,hB7,hH7,nbl,nhd,fun rc HC z p bC lC hrc hC=>?_⟩
 refine⟨rc,_,rfl,A3.of hrc,rfl,_,_,rfl,_,_,rfl,rfl,?_⟩
 dsimp only[Ag]
 refine⟨_,rfl,_,rfl,_,rfl,_,rfl,_,rfl,_,rfl,_,rfl,_,rfl,Bs S,M,lf,bl,hd,rfl,lC,hB7.bt l7 bC nbl,hH7.bt l7 bC nhd,nbl,nhd,fun x HD m rs bD lD m3 tm tz=>?_⟩
 have b7D:=bC.trans bD
 have b0D:Bt lf H HD:=(Bt.same e07).trans b7D
 have tk7:=l7.tk b7D
 refine⟨_,rfl,pt,_,rfl,.inl ⟨A5.of (b0D _ _ npt hpt),fun u4 hu4=>⟨Ak rfl,fun rr hrr=>?_⟩⟩⟩
 have sE:=(Aa hu4 (.tup (ps.map V.int))).trans (Aa hrr (.tup [V.ref u1,V.ref u2,V.ref u3,V.str z,V.ref p,x,V.ref u4]))
 have tkE:=tk7.trans (A9.tk sE)
 refine q rr _ z p m rs (b0D.trans (Bt.same sE)) (lD.over sE) ⟨⟨rr,u1,u2,u3,u4,x,y2,y3,rfl,A6,?_,tkE _ _ hu2,a2.mono fun _ _ w=>w.tk tkE,tkE _ _ hu3,a3.mono fun _ _ w=>w.tk tkE,Aa hrr _ _ _ A6,tm.over sE⟩,fun r hr=>(Bv.mp hr).elim (fun e=>by rw[e];exact(hC.tk (lC.tk bD)).over sE) fun h=>(tz r h).over sE⟩ m3
 rw[←ey1]
 exact tkE _ _ hu1
theorem U2 (T:Tx K mg a):AB P w K mg base AI 6 a.f_S a.d_S ["_law_script","_law_setting_here","_law_many"] (R4 K):=by
 have G_c :=@NW P w K mg base a T
 have G_f :=@OO P w K mg base a T
 have G_a :=@FO P w K mg base a T
 have G_P :=@Y0 P w K mg base a T
 have G_Q :=@Wk P w K mg base a T
 refine T.F_S.ok BQ (fun vs H Q E h=>?_) (fun cdv A outer s H vs Q E hr h=>?_)
 .obtain⟨_,_,_,_,_,rfl,_⟩:=h;rfl
 obtain⟨p,se,ns,S,n,rfl,hp,h63,⟨hs0,hH,hnm,hwl⟩,sok,n6,q⟩:=h
 refine⟨_,(@A8 _ _ _ _ _ (@Ep _ _ _ _ _ _ (pv 1) (BY rfl (AA (Al (i:=3) BQ.nd rfl (.inl rfl)) (AA (Al (i:=4) BQ.nd rfl (.inl rfl)) (AA (Al (i:=5) BQ.nd rfl (.inl rfl)) (AA (Al (i:=6) BQ.nd rfl (.inl rfl)) (AA (Al (i:=7) BQ.nd rfl (.inl rfl)) (AA (Al (i:=8) BQ.nd rfl (.inl rfl)) (AA (Al (i:=9) BQ.nd rfl (.inl rfl)) BS)))))))) (by rfl) (by rfl) (by rfl)) (@A8 _ _ _ _ _ (@Ai _ _ (10) _ _ _ _ BQ.nd rfl (.inl rfl) (@B9 _ _ _ _ A2) (by rfl) (by first|exact .inl rfl|exact .inr rfl|assumption)) (@A8 _ _ _ _ _ (@Ai _ _ (11) _ _ _ _ BQ.nd rfl (.inl rfl) (@B9 _ _ _ _ (@A0 _ _ _ _ _ A1 A2 (by rfl))) (by rfl) (by first|exact .inl rfl|exact .inr rfl|assumption)) (@A8 _ _ _ _ _ (@Ai _ _ (12) _ _ _ _ BQ.nd rfl (.inl rfl) (@B9 _ _ _ _ A2) (by rfl) (by first|exact .inl rfl|exact .inr rfl|assumption)) (@A8 _ _ _ _ _ (@Ai _ _ (13) _ _ _ _ BQ.nd rfl (.inl rfl) (@B9 _ _ _ _ A2) (by rfl) (by first|exact .inl rfl|exact .inr rfl|assumption)) (@A8 _ _ _ _ _ (@Br _ _ _ _ _ _ _ _ PassesOwn.never rfl (@Ce _ _ _ _ _ _ (by rfl) T.z_range (@A0 _ _ _ _ _ (pv 2) A2 (by rfl)) (by rfl)) (Al (i:=14) BQ.nd rfl (.inl rfl)) (@A8 _ _ _ _ _ (@Ai _ _ (15) _ _ _ _ BQ.nd rfl (.inl rfl) (@Aj _ _ _ _ _ _ _ _ _ _ _ _ _ _ _ _ G_f (hr.mono (by lia)) (by rfl) T.m_f T.F_f.kp T.b_f .nil Af (@A0 _ _ _ _ _ (@Aj _ _ _ _ _ _ _ _ _ _ _ _ _ _ _ _ G_c (hr.mono (by lia)) (by rfl) T.m_c T.F_c.kp T.b_c .nil Af (@A0 _ _ _ _ _ (pv 0) (@A0 _ _ _ _ _ (@Ah _ _ _ _ _ _ _ _ B2 A1 (pv 14)) A2 (by rfl)) (by rfl)) (by decide) (by rfl) (by rfl)) (@A0 _ _ _ _ _ A1 (@A0 _ _ _ _ _ (pv 3) A2 (by rfl)) (by rfl)) (by rfl)) (by decide) (by rfl) (by rfl)) (by rfl) (by first|exact .inl rfl|exact .inr rfl|assumption)) (@A8 _ _ _ _ _ (@Ai _ _ (16) _ _ _ _ BQ.nd rfl (.inl rfl) FY (by rfl) (by first|exact .inl rfl|exact .inr rfl|assumption)) (@A8 _ _ _ _ _ (@Br _ _ _ _ _ _ _ _ PassesOwn.never rfl (@Ce _ _ _ _ _ _ (by rfl) T.z_range (@A0 _ _ _ _ _ (@Aj _ _ _ _ _ _ _ _ _ _ _ _ _ _ _ _ G_a (hr.mono (by lia)) (by rfl) T.m_a T.F_a.kp T.b_a .nil Af (@A0 _ _ _ _ _ (pv 15) (@A0 _ _ _ _ _ (@Ah _ _ _ _ _ _ _ _ B2 (@B3 _ _ _ _ _ _ _ _ _ Bp (by rfl) T.z_len Bo (@A0 _ _ _ _ _ (pv 10) A2 (by rfl)) (by decide) (by decide) (by rfl) (by rfl)) A1) A2 (by rfl)) (by rfl)) (by decide) (by rfl) (by rfl)) A2 (by rfl)) (by rfl)) (Al (i:=17) BQ.nd rfl (.inl rfl)) (@A8 _ _ _ _ _ (@Ai _ _ (16) _ _ _ _ BQ.nd rfl (.inl rfl) (@A7 _ _ _ _ _ _ _ AH (pv 10) (@Dm _ _ _ _ _ _ Dy A1) (fun _ _=>rfl)) (by rfl) (by first|exact .inl rfl|exact .inr rfl|assumption)) (@A8 _ _ _ _ _ (@Ai _ _ (10) _ _ _ _ BQ.nd rfl (.inl rfl) (@Ds _ _ _ _ _ _ _ _ _ _ Fk (pv 10) DH (@D9 _ _ _ (@Dm _ _ _ _ _ _ Dy A1))) (by rfl) (by first|exact .inl rfl|exact .inr rfl|assumption)) (@A8 _ _ _ _ _ (@Ai _ _ (11) _ _ _ _ BQ.nd rfl (.inl rfl) (@Ds _ _ _ _ _ _ _ _ _ _ Fk (pv 11) DH (@D9 _ _ _ (@Dm _ _ _ _ _ _ Dy A1))) (by rfl) (by first|exact .inl rfl|exact .inr rfl|assumption)) (@Ae _ _ _ (@Ai _ _ (12) _ _ _ _ BQ.nd rfl (.inl rfl) (@Ds _ _ _ _ _ _ _ _ _ _ Fk (pv 12) DH (@D9 _ _ _ (@Dm _ _ _ _ _ _ Dy A1))) (by rfl) (by first|exact .inl rfl|exact .inr rfl|assumption)))))) (by intro _;rfl)) (@A8 _ _ _ _ _ (@Ai _ _ (18) _ _ _ _ BQ.nd rfl (.inl rfl) (@A7 _ _ _ _ _ _ _ AH (@A7 _ _ _ _ _ _ _ AH (@B9 _ _ _ _ (@A0 _ _ _ _ _ (@Hf _ _ _ _ (@Ab _ _ _ _ _ A1 (@Ab _ _ _ _ _ A1 (@Ab _ _ _ _ _ A1 (@Ab _ _ _ _ _ A1 (@Ab _ _ _ _ _ A1 (@Ab _ _ _ _ _ A1 (@Ab _ _ _ _ _ A1 (@Ab _ _ _ _ _ A1 Bm B7) B7) B7) B7) B7) B7) B7) B7)) (@A0 _ _ _ _ _ (@Hf _ _ _ _ (@Ab _ _ _ _ _ A1 (@Ab _ _ _ _ _ A1 (@Ab _ _ _ _ _ A1 (@Ab _ _ _ _ _ A1 (@Ab _ _ _ _ _ A1 (@Ab _ _ _ _ _ A1 (@Ab _ _ _ _ _ A1 (@Ab _ _ _ _ _ A1 Bm B7) B7) B7) B7) B7) B7) B7) B7)) A2 (by rfl)) (by rfl))) (@Ec _ _ _ _ _ _ _ _ _ KU (by rfl) T.z_int Jc (@A0 _ _ _ _ _ (@ET _ _ _ _ _ _ _ _ FR (pv 14) A1 (@AR _ _ (by decide) (by decide))) A2 (by rfl)) (by decide) (by decide) (by rfl) (by rfl)) (fun _ _=>rfl)) (@Aj _ _ _ _ _ _ _ _ _ _ _ _ _ _ _ _ G_a (hr.mono (by lia)) (by rfl) T.m_a T.F_a.kp T.b_a .nil Af (@A0 _ _ _ _ _ (pv 15) (@A0 _ _ _ _ _ A1 A2 (by rfl)) (by rfl)) (by decide) (by rfl) (by rfl)) (fun _ _=>rfl)) (by rfl) (by first|exact .inl rfl|exact .inr rfl|assumption)) (@A8 _ _ _ _ _ (@Br _ _ _ _ _ _ _ _ PassesOwn.never rfl (@Ce _ _ _ _ _ _ (by rfl) T.z_range (@A0 _ _ _ _ _ (@B3 _ _ _ _ _ _ _ _ _ (@MU _ rfl) (by rfl) T.z_min MJ (@A0 _ _ _ _ _ (pv 18) (@A0 _ _ _ _ _ (@Ah _ _ _ _ _ _ _ _ DF A1 (@B3 _ _ _ _ _ _ _ _ _ Bp (by rfl) T.z_len Bo (@A0 _ _ _ _ _ (pv 10) A2 (by rfl)) (by decide) (by decide) (by rfl) (by rfl))) A2 (by rfl)) (by rfl)) (by decide) (by decide) (by rfl) (by rfl)) A2 (by rfl)) (by rfl)) (Al (i:=19) BQ.nd rfl (.inl rfl)) (@A8 _ _ _ _ _ (@Ai _ _ (20) _ _ _ _ BQ.nd rfl (.inl rfl) (@Aj _ _ _ _ _ _ _ _ _ _ _ _ _ _ _ _ G_P (hr.mono (by lia)) (by rfl) T.m_P T.F_P.kp T.b_P .nil Af (@A0 _ _ _ _ _ (pv 15) (@A0 _ _ _ _ _ (pv 8) (@A0 _ _ _ _ _ (pv 10) (@A0 _ _ _ _ _ (pv 7) A2 (by rfl)) (by rfl)) (by rfl)) (by rfl)) (by decide) (by rfl) (by rfl)) (by rfl) (by first|exact .inl rfl|exact .inr rfl|assumption)) (@A8 _ _ _ _ _ (@Be _ _ _ _ _ _ _ _ (@PW.pt _ _ _ (@FS _ _ _ _ _ _ _ (@AZ _ _ _ _ _ _ _ _ Cm (pv 19) A1 (@AR _ _ (by decide) (by decide))) (@FS _ _ _ _ _ _ _ (@AZ _ _ _ _ _ _ _ _ Ue (pv 16) FY (@AR _ _ (by decide) (by decide))) (@HJ _ _ _ _ (@AZ _ _ _ _ _ _ _ _ Cm (@Aj _ _ _ _ _ _ _ _ _ _ _ _ _ _ _ _ G_a (hr.mono (by lia)) (by rfl) T.m_a T.F_a.kp T.b_a .nil Af (@A0 _ _ _ _ _ (pv 15) (@A0 _ _ _ _ _ A1 A2 (by rfl)) (by rfl)) (by decide) (by rfl) (by rfl)) A1 (@AR _ _ (by decide) (by decide))))))) (@Ae _ _ _ (@Ai _ _ (20) _ _ _ _ BQ.nd rfl (.inl rfl) (pv 16) (by rfl) (by first|exact .inl rfl|exact .inr rfl|assumption))) Bj) (@A8 _ _ _ _ _ (@Ai _ _ (10) _ _ _ _ BQ.nd rfl (.inl rfl) (@Ah _ _ _ _ _ _ _ _ Dl (pv 10) (@B9 _ _ _ _ (@A0 _ _ _ _ _ (pv 20) A2 (by rfl)))) (by rfl) (by first|exact .inl rfl|exact .inr rfl|assumption)) (@A8 _ _ _ _ _ (@Ai _ _ (12) _ _ _ _ BQ.nd rfl (.inl rfl) (@Ah _ _ _ _ _ _ _ _ Dl (pv 12) (@B9 _ _ _ _ (@A0 _ _ _ _ _ (@A7 _ _ _ _ _ _ _ AH (pv 11) (@Dm _ _ _ _ _ _ Dy A1) (fun _ _=>rfl)) A2 (by rfl)))) (by rfl) (by first|exact .inl rfl|exact .inr rfl|assumption)) (@Ae _ _ _ (@Ai _ _ (11) _ _ _ _ BQ.nd rfl (.inl rfl) (@Ah _ _ _ _ _ _ _ _ Dl (@Ds _ _ _ _ _ _ _ _ _ _ Fk (pv 11) DH (@D9 _ _ _ (@Dm _ _ _ _ _ _ Dy A1))) (@B9 _ _ _ _ (@A0 _ _ _ _ _ (@Ah _ _ _ _ _ _ _ _ B2 (@A7 _ _ _ _ _ _ _ AH (pv 11) (@Dm _ _ _ _ _ _ Dy A1) (fun _ _=>rfl)) A1) (@A0 _ _ _ _ _ A1 A2 (by rfl)) (by rfl)))) (by rfl) (by first|exact .inl rfl|exact .inr rfl|assumption))))))) (by intro _;rfl)) (@A8 _ _ _ _ _ (@BP _ _ _ _ (@BR _ _ _ _ _ _ _ _ _ _ _ _ BX Cq Cr Ca (pv 13) (@A0 _ _ _ _ _ (@Aj _ _ _ _ _ _ _ _ _ _ _ _ _ _ _ _ G_Q (hr.mono (by lia)) (by rfl) T.m_Q T.F_Q.kp T.b_Q .nil Af (@A0 _ _ _ _ _ (pv 15) (@A0 _ _ _ _ _ (pv 10) (@A0 _ _ _ _ _ (@Ah _ _ _ _ _ _ _ _ Dl (pv 12) (@B9 _ _ _ _ (@A0 _ _ _ _ _ (@A7 _ _ _ _ _ _ _ AH (pv 11) (@Dm _ _ _ _ _ _ Dy A1) (fun _ _=>rfl)) A2 (by rfl)))) (@A0 _ _ _ _ _ (pv 5) A2 (by rfl)) (by rfl)) (by rfl)) (by rfl)) (by decide) (by rfl) (by rfl)) A2 (by rfl)) (by rfl) (by rfl) (by rfl) (by rfl) (by rfl)) (by rfl)) (@Ae _ _ _ (@Ai _ _ (11) _ _ _ _ BQ.nd rfl (.inl rfl) (@Ah _ _ _ _ _ _ _ _ Dl (@Ds _ _ _ _ _ _ _ _ _ _ Fk (pv 11) DH (@D9 _ _ _ (@Dm _ _ _ _ _ _ Dy A1))) (@B9 _ _ _ _ (@A0 _ _ _ _ _ (@Ah _ _ _ _ _ _ _ _ B2 (@A7 _ _ _ _ _ _ _ AH (pv 11) (@Dm _ _ _ _ _ _ Dy A1) (fun _ _=>rfl)) A1) A2 (by rfl)))) (by rfl) (by first|exact .inl rfl|exact .inr rfl|assumption))))))))) (by intro _;rfl)) (@Ae _ _ _ (@Av _ _ _ _ (pv 13))))))))),?_⟩
 refine⟨_,rfl,se,_,rfl,A3.of hs0,rfl,_,_,rfl,_,_,rfl,_,_,rfl,_,_,rfl,_,_,rfl,_,_,rfl,_,_,rfl,rfl,?_⟩
 dsimp only[Ag]
 refine⟨Ak rfl,fun st0 hst0=>?_⟩
 have s1:=Aa hst0 (.lst [])
 have h1a:(upd H st0 (.lst [])) st0=some (.lst []):=A6
 dsimp only[Ag]
 generalize upd H st0 (.lst [])=H1 at s1 h1a
 refine⟨Ak rfl,fun co0 hco0=>?_⟩
 have s2:=Aa hco0 (.lst [V.int 0])
 have h2b:(upd H1 co0 (.lst [V.int 0])) co0=some (.lst [V.int 0]):=A6
 have h2a:=s2 _ _ h1a
 dsimp only[Ag]
 generalize upd H1 co0 (.lst [V.int 0])=H2 at s2 h2a h2b
 refine⟨Ak rfl,fun pa0 hpa0=>?_⟩
 have s3:=Aa hpa0 (.lst [])
 have h3c:(upd H2 pa0 (.lst [])) pa0=some (.lst []):=A6
 have h3a:=s3 _ _ h2a
 have h3b:=s3 _ _ h2b
 dsimp only[Ag]
 generalize upd H2 pa0 (.lst [])=H3 at s3 h3a h3b h3c
 refine⟨Ak rfl,fun ro hro=>?_⟩
 have s4:=Aa hro (.lst [])
 have h4d:(upd H3 ro (.lst [])) ro=some (.lst []):=A6
 have h4a:=s4 _ _ h3a
 have h4b:=s4 _ _ h3b
 have h4c:=s4 _ _ h3c
 have e4:=s1.trans (s2.trans (s3.trans s4))
 have ro0:H ro=none:=(s1.trans (s2.trans s3)).free hro
 have na:st0≠ro:=AC h3a hro
 have nb:co0≠ro:=AC h3b hro
 have nc:pa0≠ro:=AC h3c hro
 dsimp only[Ag]
 generalize upd H3 ro (.lst [])=H4 at s4 h4a h4b h4c h4d e4
 refine⟨_,rfl,(n:Int),rfl,by lia,by lia,?_⟩
 rw[Em]
 refine CN (lo:=0) (n:=n) (fun i σ' H'=>∃(st co pa:Addr) (vs:List V) (L:List Lp) (C Pp:List Int) (xs:List V) (Rs:List R3) (o14 o15 o16 o17 o18 o19 o20:Option V),σ'=Hi p se n S st co pa ro [o14,o15,o16,o17,o18,o19,o20]/\A9 H H'/\W6 H' S.zs ro st co pa vs L C Pp/\H' ro=some (.lst xs)/\Ar (Ez S.M H') xs Rs/\Rs.length=i/\∀R∈Rs,RB R) ⟨st0,co0,pa0,[],[],[0],[],[],[],_,_,_,_,_,_,_,rfl,e4,⟨h4a,.nil,.nil _,h4b,rfl,h4c,rfl,na,nb,nc⟩,h4d,.nil,rfl,fun R hR=>by cases hR⟩ (fun i σ' H' hi pp=>?_) (fun σ' H' pp=>?_)
 rotate_left
 .obtain⟨st,co,pa,vs,L,C,Pp,xs,Rs,_,_,_,_,_,_,_,rfl,e,w6,hxs,axs,Rl,Rok⟩:=pp
  exact⟨_,rfl,q ro _ Rs e ro0 ⟨xs,hxs,axs⟩ Rl Rok⟩
 clear h4a h4b h4c h4d e4 na nb nc s1 s2 s3 s4 h3a h3b h3c h2a h2b h1a
 obtain⟨st,co,pa,vs,L,C,Pp,xs,Rs,o14,o15,o16,o17,o18,o19,o20,rfl,e,w6,hxs,axs,Rl,Rok⟩:=pp
 have xl:=axs.1
 dsimp only[Ag]
 refine⟨_,rfl,_,rfl,_,_,rfl,rfl,p,ns,_,rfl,e.seq hp,by lia,by lia,_,rfl,_,4,S.d,rfl,fun lf HL eL lf0 l0=>?_⟩
 dsimp only[Ag]
 have w0:=w6.over eL
 have nn0:N6 lf st co pa:=⟨AC w6.hst lf0,AC w6.hco lf0,AC w6.hpa lf0⟩
 have nro:ro≠lf:=AC hxs lf0
 have nhd:S.hd≠lf:=by obtain⟨_,h1,_⟩:=hH.over e;exact AC h1 lf0
 have nnm:S.nm≠lf:=AC (e _ _ hnm) lf0
 refine IY ?_
 refine ED (fun σ' H2=>∃(st co pa:Addr) (vs:List V) (L:List Lp) (C Pp:List Int) (cl:V) (o17:Option V),σ'=Hi p se n S st co pa ro [some (.int (0+(i:Int))),some (.ref lf),some cl,o17,o18,o19,o20]/\A9 H' H2/\Bw H2 lf/\W6 H2 S.zs ro st co pa vs L C Pp/\N6 lf st co pa/\HM H2 S.zs L cl) (fun σ' H2 pp=>?_) (fun nx=>?_)
 rotate_left
 .have vl:=w0.al.1
  have l3:=w0.so.1
  refine⟨_,rfl,_,rfl,st,_,rfl,.inl (A5.of w0.hst),_,_,rfl,rfl,lf,_,rfl,l0,(by show(0:Int)<(vs.length:Int)+1;lia),(by show(vs.length:Int)+1<18446744073709551616;lia),fun dd H2 b2 l2 d0 d1=>⟨_,rfl,by lia,by lia,?_⟩⟩
  refine CN (lo:=0) (n:=dd.toNat) (fun j σ' H2=>∃(st co pa:Addr) (vs2:List V) (L:List Lp) (C Pp:List Int) (cl:V) (o17:Option V),σ'=Hi p se n S st co pa ro [some (.int (0+(i:Int))),some (.ref lf),some cl,o17,o18,o19,o20]/\A9 H' H2/\Bw H2 lf/\W6 H2 S.zs ro st co pa vs2 L C Pp/\N6 lf st co pa/\HM H2 S.zs L cl/\vs2.length+j=vs.length) ⟨st,co,pa,vs,L,C,Pp,.non,_,rfl,DU eL lf0 b2,l2,w0.bt nn0 l0 b2,nn0,.inl rfl,rfl⟩ (fun j σ' H3 hj pp=>?_) (fun σ' H3 pp=>?_)
  rotate_left
  .obtain⟨st,co,pa,vs2,L,C,Pp,cl,o17,rfl,g1,g2,g3,g4,g5,g6⟩:=pp
   exact nx _ _ ⟨st,co,pa,vs2,L,C,Pp,cl,_,rfl,g1,g2,g3,g4,g5⟩
  obtain⟨st,co,pa,vs2,L,C,Pp,cl,o17,rfl,g1,g2,g3,g4,g5,g6⟩:=pp
  have l2l:=g3.al.1
  have cl2:=g3.cl
  have pl2:=g3.pl
  have al2:=g3.al
  have so2:=g3.so
  have hst2:=g3.hst
  have hco2:=g3.hco
  have hpa2:=g3.hpa
  obtain⟨vs3,v0,rfl,v3l⟩:=F6 (l:=vs2) (n:=vs2.length-1) (by lia)
  rw[Az,BI]at v3l l2l g6
  obtain⟨C3,c0,rfl,C3l⟩:=F6 (l:=C) (n:=L.length) (by lia)
  obtain⟨P3,p0,rfl,P3l⟩:=F6 (l:=Pp) (n:=L.length-1) (by lia)
  obtain⟨S3,q0,rfl,S3l⟩:=F6 (l:=L) (n:=L.length-1) (by lia)
  rw[Az,BI]at S3l C3l P3l l2l
  obtain⟨aS3,lv0⟩:=U6 al2
  obtain⟨so3,nw0⟩:=so2.init
  have at0:B8 (vs3++[v0]) (-1)=some v0:=K2 vs3 v0
  dsimp only[Ag]
  refine⟨_,rfl,_,rfl,st,_,_,_,rfl,rfl,A5.of hst2,at0,?_⟩
  dsimp only[Ag]
  refine⟨_,rfl,_,rfl,_,rfl,st,_,rfl,A5.of hst2,fun n1 hn1=>?_⟩
  rw[show C2 (vs3++[v0]) none (some (-1))=vs3 from Gq vs3 [v0] (Iq _) rfl]
  have hx3:=g1 _ _ hxs
  have t1:=Aa hn1 (.lst vs3)
  have k1:(upd H3 n1 (.lst vs3)) n1=some (.lst vs3):=A6
  have m1:n1≠ro:=fun z=>by rw[z,hx3]at hn1;cases hn1
  have q1:n1≠lf:=fun z=>by obtain⟨x,hx⟩:=g2;rw[z,hx]at hn1;cases hn1
  dsimp only[Ag]
  generalize upd H3 n1 (.lst vs3)=HA at t1 k1
  refine⟨_,rfl,_,rfl,_,rfl,co,_,rfl,A5.of (t1 _ _ hco2),fun n2 hn2=>?_⟩
  rw[Bq,show C2 (C3.map V.int++[c0].map V.int) none (some (-1))=C3.map V.int from Gq (C3.map V.int) [V.int c0] (Iq _) rfl]
  have t2:=Aa hn2 (.lst (C3.map V.int))
  have k2':(upd HA n2 (.lst (C3.map V.int))) n2=some (.lst (C3.map V.int)):=A6
  have m2:n2≠ro:=fun z=>by rw[z,t1 _ _ hx3]at hn2;cases hn2
  have q2:n2≠lf:=fun z=>by obtain⟨x,hx⟩:=g2.over t1;rw[z,hx]at hn2;cases hn2
  dsimp only[Ag]
  generalize upd HA n2 (.lst (C3.map V.int))=HB at t2 k2'
  refine⟨_,rfl,_,rfl,_,rfl,pa,_,rfl,A5.of (t2 _ _ (t1 _ _ hpa2)),fun n3 hn3=>?_⟩
  rw[Bq,show C2 (P3.map V.int++[p0].map V.int) none (some (-1))=P3.map V.int from Gq (P3.map V.int) [V.int p0] (Iq _) rfl]
  have t3:=Aa hn3 (.lst (P3.map V.int))
  have m3:n3≠ro:=fun z=>by rw[z,t2 _ _ (t1 _ _ hx3)]at hn3;cases hn3
  have q3:n3≠lf:=fun z=>by obtain⟨x,hx⟩:=(g2.over t1).over t2;rw[z,hx]at hn3;cases hn3
  have tt:=t1.trans (t2.trans t3)
  exact⟨n1,n2,n3,vs3,S3,C3,P3,v0,_,rfl,g1.trans tt,g2.over tt,⟨(t2.trans t3) _ _ k1,aS3.mono fun _ _ z=>z.over tt,so3,t3 _ _ k2',by lia,A6,by lia,m1,m2,m3⟩,⟨q1,q2,q3⟩,.inr ⟨q0,lv0.over tt,nw0⟩,by lia⟩
 clear w0 nn0 w6
 obtain⟨st,co,pa,vs,L,C,Pp,cl,o17',rfl,e2,l2,w2,nn2,c2⟩:=pp
 have vl:=w2.al.1
 have l3:=w2.so.1
 have e02:=e.trans e2
 have hxs2:=e2 _ _ hxs
 have axs2:=axs.mono fun _ _ z=>z.over e2
 refine⟨Ak rfl,fun q1 hq1=>?_⟩
 have t1:=Aa hq1 (.lst [V.int 1,V.int 2,V.int 2,V.int 3,V.int 1,V.int 2,V.int 0,V.int 1])
 have k1:(upd H2 q1 (.lst [V.int 1,V.int 2,V.int 2,V.int 3,V.int 1,V.int 2,V.int 0,V.int 1])) q1=some (.lst [V.int 1,V.int 2,V.int 2,V.int 3,V.int 1,V.int 2,V.int 0,V.int 1]):=A6
 generalize upd H2 q1 (.lst [V.int 1,V.int 2,V.int 2,V.int 3,V.int 1,V.int 2,V.int 0,V.int 1])=HA at t1 k1
 refine⟨Ak rfl,fun q2 hq2=>⟨Ak rfl,fun q3 hq3=>?_⟩⟩
 have t2:=Aa hq2 (.lst [V.int 0,V.int 1,V.int 0,V.int 1,V.int 2,V.int 3,V.int 1,V.int 0])
 have k2:(upd HA q2 (.lst [V.int 0,V.int 1,V.int 0,V.int 1,V.int 2,V.int 3,V.int 1,V.int 0])) q2=some (.lst [V.int 0,V.int 1,V.int 0,V.int 1,V.int 2,V.int 3,V.int 1,V.int 0]):=A6
 generalize upd HA q2 (.lst [V.int 0,V.int 1,V.int 0,V.int 1,V.int 2,V.int 3,V.int 1,V.int 0])=HB at t2 k2 hq3
 have t3:=Aa hq3 (.lst [V.ref q1,V.ref q2])
 have k3:(upd HB q3 (.lst [V.ref q1,V.ref q2])) q3=some (.lst [V.ref q1,V.ref q2]):=A6
 generalize upd HB q3 (.lst [V.ref q1,V.ref q2])=HC at t3 k3
 have t13:=t1.trans (t2.trans t3)
 have lC:=l2.over t13
 have wC:=w2.over t13
 have nq1:q1≠lf:=fun z=>by obtain⟨x,hx⟩:=l2;rw[z,hx]at hq1;cases hq1
 have nq2:q2≠lf:=fun z=>by obtain⟨x,hx⟩:=l2.over t1;rw[z,hx]at hq2;cases hq2
 obtain⟨qq,nqq,v8,hqq,hv8,va8,eq3⟩:∃(qq:Addr) (_:qq≠lf) (v8:List Int),HC qq=some (.lst (v8.map V.int))/\v8.length=8/\(∀x∈v8,0<=x/\x<=3)/\B8 [V.ref q1,V.ref q2] (if decide ((0:Int)<0+(i:Int))=true then 1 else 0)=some (.ref qq):=by
  by_cases c:(0:Int)<0+(i:Int)
  .exact⟨q2,nq2,[0,1,0,1,2,3,1,0],t3 _ _ k2,rfl,by decide,by rw[Ax (B6 c)];rfl⟩
  .exact⟨q1,nq1,[1,2,2,3,1,2,0,1],(t2.trans t3) _ _ k1,rfl,by decide,by rw[As (by rw[BO c];decide)];rfl⟩
 refine⟨_,rfl,_,_,rfl,rfl,.inr ⟨_,rfl,q3,_,_,_,rfl,rfl,A5.of k3,eq3,_,rfl,lf,8,rfl,lC,by decide,by decide,fun d8 HD bD lD d80 d81=>?_⟩⟩
 obtain⟨op,hop,eop⟩:=Gh (L:=v8) (i:=d8) 8 hv8 d80 (by lia)
 obtain⟨op0,op3⟩:=va8 op hop
 refine⟨qq,_,_,_,rfl,rfl,A5.of (bD _ _ nqq hqq),eop,?_⟩
 have b2D:Bt lf H2 HD:=(Bt.same t13).trans bD
 have e2D:A9 H' HD:=DU e2 lf0 b2D
 have wD:=w2.bt nn2 l2 b2D
 have cD:=c2.tk (l2.tk b2D)
 dsimp only[Ag]
 clear k1 k2 k3 hqq eq3 t1 t2 t3 t13 wC lC bD nq1 nq2 nqq
 refine ED (fun σ' H6=>∃(st co pa:Addr) (vs:List V) (L:List Lp) (C Pp:List Int) (o19 o20:Option V),σ'=Hi p se n S st co pa ro [some (.int (0+(i:Int))),some (.ref lf),some cl,o17',some (.int op),o19,o20]/\A9 H' H6/\Bw H6 lf/\W6 H6 S.zs ro st co pa vs L C Pp/\N6 lf st co pa) (fun σ' H6 pp=>?_) (fun nx=>?_)
 rotate_left
 .refine⟨_,rfl,_,rfl,st,_,rfl,.inl (A5.of wD.hst),_,_,rfl,rfl,_,_,rfl,_,rfl,?_,?_,?_⟩
  .split<;>lia
  .split<;>lia
  obtain⟨m0,em0,m0l⟩:∃m0:Nat,(if 3-(vs.length:Int)<op then 3-(vs.length:Int) else op)=(m0:Int)/\vs.length+m0<=3:=by
   split
   .exact⟨(3-(vs.length:Int)).toNat,by lia,by lia⟩
   .exact⟨op.toNat,by lia,by lia⟩
  rw[em0,Em]
  refine CN (lo:=0) (n:=m0) (fun j σ' H6=>∃(st co pa:Addr) (vs2:List V) (L:List Lp) (C Pp:List Int) (o19 o20:Option V),σ'=Hi p se n S st co pa ro [some (.int (0+(i:Int))),some (.ref lf),some cl,o17',some (.int op),o19,o20]/\A9 H' H6/\Bw H6 lf/\W6 H6 S.zs ro st co pa vs2 L C Pp/\N6 lf st co pa/\(j=0->HM H6 S.zs L cl)/\vs2.length=vs.length+j) ⟨st,co,pa,vs,L,C,Pp,_,_,rfl,e2D,lD,wD,nn2,fun _=>cD,rfl⟩ (fun j σ' H6 hj pp=>?_) (fun σ' H6 pp=>?_)
  rotate_left
  .obtain⟨st,co,pa,vs2,L,C,Pp,o19,o20,rfl,g1,g2,g3,g4,g5,g6⟩:=pp
   exact nx _ _ ⟨st,co,pa,vs2,L,C,Pp,_,_,rfl,g1,g2,g3,g4⟩
  obtain⟨st,co,pa,vs2,L,C,Pp,o19,o20,rfl,g1,g2,g3,g4,g5,g6⟩:=pp
  have l2l:=g3.al.1
  dsimp only[Ag]
  refine⟨_,rfl,_,rfl,_,rfl,_,rfl,lf,S.far,st,S.nm,L,S.zs,rfl,g2,⟨vs2,g3.hst,g3.al⟩,by lia,g3.so.tn,(e.trans g1) _ _ hnm,sok.nz,g4.1,nnm,fun x H7 qn b7 l7 lx nwq=>?_⟩
  dsimp only[Ag]
  have e7:=DU g1 lf0 b7
  have w7:=g3.bt g4 g2 b7
  refine ED (fun σ' H8=>∃y,(∃q,EK H8 y q/\Hv S.zs L q)/\σ'=Hi p se n S st co pa ro [some (.int (0+(i:Int))),some (.ref lf),some cl,o17',some (.int op),some (.int (0+(j:Int))),some y]/\A9 H' H8/\Bw H8 lf/\W6 H8 S.zs ro st co pa vs2 L C Pp) (fun σ' H8 pp=>?_) (fun nx2=>?_)
  rotate_left
  .refine⟨_,rfl,rfl,_,rfl,Cf (fun c00=>?_) (fun _=>nx2 _ _ ⟨x,⟨qn,lx,nwq⟩,rfl,e7,l7,w7⟩)⟩
   refine⟨_,rfl,rfl,_,rfl,Cf (fun cc=>?_) (fun _=>nx2 _ _ ⟨x,⟨qn,lx,nwq⟩,rfl,e7,l7,w7⟩)⟩
   refine⟨_,rfl,lf,3,rfl,l7,by decide,by decide,fun d9 H9 b9 l9 d90 d91=>?_⟩
   have e9:=DU e7 lf0 b9
   have w9:=w7.bt g4 l7 b9
   have lx9:=lx.tk (l7.tk b9)
   refine⟨rfl,_,rfl,Cf (fun _=>?_) (fun _=>nx2 _ _ ⟨x,⟨qn,lx9,nwq⟩,rfl,e9,l9,w9⟩)⟩
   have j0:j=0:=by have:=V.int.inj (Gd c00);lia
   rcases g5 j0 with rfl|⟨q',l1,l2⟩
   .exact absurd cc (by decide)
   .exact⟨_,rfl,nx2 _ _ ⟨cl,⟨q',(l1.tk (g2.tk b7)).tk (l7.tk b9),l2⟩,rfl,e9,l9,w9⟩⟩
  obtain⟨y,⟨qy,ly,nwy⟩,rfl,e8,l8,w8⟩:=pp
  have hx8:=e8 _ _ hxs
  have cl8:=w8.cl
  have pl8:=w8.pl
  have al8:=w8.al
  have so8:=w8.so
  have hst8:=w8.hst
  have hco8:=w8.hco
  have hpa8:=w8.hpa
  obtain⟨C3,c0,rfl,C3l⟩:=F6 (l:=C) (n:=L.length) (by lia)
  have atc:B8 ((C3++[c0]).map V.int) (-1)=some (.int c0):=by rw[Bq];exact K2 _ _
  refine⟨_,rfl,_,rfl,Ak rfl,fun u1 hu1=>?_⟩
  have v1:=Aa hu1 (.lst [y])
  refine⟨st,u1,_,_,rfl,rfl,v1 _ _ hst8,A6,Bc (by rw[BI];lia),fun n1 hn1=>?_⟩
  have v2:=v1.trans (Aa hn1 (.lst (vs2++[y])))
  have f1:(upd (upd H8 u1 (.lst [y])) n1 (.lst (vs2++[y]))) n1=some (.lst (vs2++[y])):=A6
  have m1:n1≠ro:=fun z=>by rw[z,v1 _ _ hx8]at hn1;cases hn1
  have q1':n1≠lf:=fun z=>by obtain⟨x,hx⟩:=l8.over v1;rw[z,hx]at hn1;cases hn1
  dsimp only[Ag]
  generalize upd (upd H8 u1 (.lst [y])) n1 (.lst (vs2++[y]))=HB at v2 f1
  refine⟨_,rfl,_,rfl,_,rfl,co,_,_,_,rfl,rfl,A5.of (v2 _ _ hco8),atc,Ak rfl,fun u2 hu2=>?_⟩
  have v3:=Aa hu2 (.lst [V.int c0])
  refine⟨pa,u2,_,_,rfl,rfl,v3 _ _ (v2 _ _ hpa8),A6,Bc (by rw[Aq,BI];lia),fun n2 hn2=>?_⟩
  have v4:=v3.trans (Aa hn2 (.lst (Pp.map V.int++[V.int c0])))
  have f2:(upd (upd HB u2 (.lst [V.int c0])) n2 (.lst (Pp.map V.int++[V.int c0]))) n2=some (.lst (Pp.map V.int++[V.int c0])):=A6
  have m2:n2≠ro:=fun z=>by rw[z,v3 _ _ (v2 _ _ hx8)]at hn2;cases hn2
  have q2':n2≠lf:=fun z=>by obtain⟨x,hx⟩:=l8.over (v2.trans v3);rw[z,hx]at hn2;cases hn2
  dsimp only[Ag]
  generalize upd (upd HB u2 (.lst [V.int c0])) n2 (.lst (Pp.map V.int++[V.int c0]))=HC at v4 f2
  have v24:=v2.trans v4
  refine⟨_,rfl,_,rfl,_,rfl,co,_,rfl,A5.of (v24 _ _ hco8),fun u3 hu3=>?_⟩
  rw[Bq,show C2 (C3.map V.int++[c0].map V.int) none (some (-1))=C3.map V.int from Gq (C3.map V.int) [V.int c0] (Iq _) rfl]
  have v5:=Aa hu3 (.lst (C3.map V.int))
  rw[Bq]at atc hco8
  refine⟨_,rfl,_,rfl,co,_,_,_,rfl,rfl,A5.of (v5 _ _ (v24 _ _ hco8)),atc,_,_,rfl,rfl,Ak rfl,fun u4 hu4=>?_⟩
  have v6:=Aa hu4 (.lst [V.int (c0+1),V.int 0])
  refine⟨u3,u4,_,_,rfl,rfl,v6 _ _ A6,A6,Bc (by rw[Aq];show C3.length+2<=_;lia),fun n3 hn3=>?_⟩
  have v7:=v5.trans (v6.trans (Aa hn3 (.lst (C3.map V.int++[V.int (c0+1),V.int 0]))))
  have m3:n3≠ro:=fun z=>by rw[z,(v5.trans v6) _ _ (v24 _ _ hx8)]at hn3;cases hn3
  have q3':n3≠lf:=fun z=>by obtain⟨x,hx⟩:=l8.over (v24.trans (v5.trans v6));rw[z,hx]at hn3;cases hn3
  have vA:=v24.trans v7
  refine⟨n1,n3,n2,vs2++[y],L++[qy],C3++[c0+1,0],Pp++[c0],_,_,rfl,e8.trans vA,l8.over vA,⟨(v4.trans v7) _ _ f1,(al8.mono fun _ _ z=>z.over vA).snoc (ly.over vA),so8.snoc (by lia) nwy,?_,?_,?_,by rw[Az,Az,BI,BI];lia,m1,m3,m2⟩,⟨q1',q3',q2'⟩,fun z=>absurd z (Nat.succ_ne_zero _),by rw[Az,BI];lia⟩
  .rw[A6,Bq];rfl
  .rw[Az,Az,BI];show C3.length+2=_;lia
  .rw[Bq];exact v7 _ _ f2
 clear wD cD e2D w2 nn2 l2 c2 lD b2D
 obtain⟨st,co,pa,vs,L,C,Pp,o19',o20',rfl,e6,l6,w6,nn6⟩:=pp
 have hx6:=e6 _ _ hxs
 have axs6:=axs.mono fun _ _ z=>z.over e6
 have cl6:=w6.cl
 have pl6:=w6.pl
 have so6:=w6.so
 have so61:=so6.1
 obtain⟨C3,c0,rfl,C3l⟩:=F6 (l:=C) (n:=L.length) (by lia)
 have hco6:=w6.hco
 have atc:B8 ((C3++[c0]).map V.int) (-1)=some (.int c0):=by rw[Bq];exact K2 _ _
 refine⟨_,rfl,.inl ⟨rfl,_,A5.of hx6⟩,_,rfl,_,rfl,_,rfl,_,rfl,_,rfl,co,_,_,_,rfl,rfl,A5.of hco6,atc,Ak rfl,fun u2 hu2=>?_⟩
 have v3:=Aa hu2 (.lst [V.int c0])
 refine⟨pa,u2,_,_,rfl,rfl,v3 _ _ w6.hpa,A6,Bc (by rw[Aq,BI];lia),fun n2 hn2=>?_⟩
 have v4:=v3.trans (Aa hn2 (.lst (Pp.map V.int++[V.int c0])))
 have f2:(upd (upd H6 u2 (.lst [V.int c0])) n2 (.lst (Pp.map V.int++[V.int c0]))) n2=some (.lst ((Pp++[c0]).map V.int)):=by rw[A6,Bq];rfl
 have nn2:n2≠lf:=fun z=>by obtain⟨x,hx⟩:=l6.over v3;rw[z,hx]at hn2;cases hn2
 generalize upd (upd H6 u2 (.lst [V.int c0])) n2 (.lst (Pp.map V.int++[V.int c0]))=HC at v4 f2
 have w7:=w6.over v4
 have l7:=l6.over v4
 refine⟨_,rfl,S.M,lf,st,n2,S.hd,L,Pp++[c0],rfl,l7,⟨vs,w7.hst,w7.al⟩,by have:=so6.1;lia,f2,hH.over ((e.trans e6).trans v4),nn6.1,nn2,nhd,fun r HE z pz m rs bE lE r5 m3=>?_⟩
 have e6E:A9 H' HE:=DU (e6.trans v4) lf0 bE
 have w8:=w7.bt nn6 l7 bE
 have hxE:=e6E _ _ hxs
 have axsE:=axs.mono fun _ _ q=>q.over e6E
 refine⟨ro,_,_,rfl,rfl,hxE,C5 (by lia),?_⟩
 have tkF:=TK.upd (o:=.lst (xs++[V.ref r])) hxE
 have keep:∀b o,b≠ro->HE b=some o->(upd HE ro (.lst (xs++[V.ref r]))) b=some o:=fun b o hb h=>by rw[Am hb];exact h
 have fr:(upd HE ro (.lst (xs++[V.ref r]))) ro=some (.lst (xs++[V.ref r])):=A6
 have axF:Ar (Ez S.M (upd HE ro (.lst (xs++[V.ref r])))) (xs++[V.ref r]) (Rs++[⟨L,Pp++[c0],z,pz,m,rs⟩]):=(axsE.mono fun _ _ q=>q.tk tkF).snoc (r5.tk tkF)
 have same:A9 H (upd HE ro (.lst (xs++[V.ref r]))):=fun b o hb=>keep b o (AC hb ro0) (e6E _ _ (e _ _ hb))
 have wF:W6 (upd HE ro (.lst (xs++[V.ref r]))) S.zs ro st co pa vs L (C3++[c0]) Pp:=⟨keep _ _ w8.n1 w8.hst,w8.al.mono fun _ _ z=>z.tk tkF,w8.so,keep _ _ w8.n2 w8.hco,w8.cl,keep _ _ w8.n3 w8.hpa,w8.pl,w8.n1,w8.n2,w8.n3⟩
 generalize upd HE ro (.lst (xs++[V.ref r]))=HF at fr axF same wF
 have hcoF:=wF.hco
 dsimp only[Ag]
 refine⟨_,rfl,_,rfl,_,rfl,co,_,rfl,A5.of hcoF,fun u3 hu3=>?_⟩
 rw[Bq,show C2 (C3.map V.int++[c0].map V.int) none (some (-1))=C3.map V.int from Gq (C3.map V.int) [V.int c0] (Iq _) rfl]
 have v5:=Aa hu3 (.lst (C3.map V.int))
 rw[Bq]at atc hcoF
 refine⟨_,rfl,_,rfl,co,_,_,_,rfl,rfl,A5.of (v5 _ _ hcoF),atc,_,_,rfl,rfl,Ak rfl,fun u4 hu4=>?_⟩
 have v6:=Aa hu4 (.lst [V.int (c0+1)])
 refine⟨u3,u4,_,_,rfl,rfl,v6 _ _ A6,A6,Bc (by rw[Aq,BI];lia),fun n3 hn3=>?_⟩
 have v7:=v5.trans (v6.trans (Aa hn3 (.lst (C3.map V.int++[V.int (c0+1)]))))
 have m3':n3≠ro:=fun q=>by rw[q,(v5.trans v6) _ _ fr]at hn3;cases hn3
 have w9:=wF.over v7
 refine⟨st,n3,pa,vs,L,C3++[c0+1],Pp,_,_,_,_,_,_,_,_,_,rfl,same.trans v7,⟨w9.hst,w9.al,w9.so,?_,?_,w9.hpa,w9.pl,w9.n1,m3',w9.n3⟩,v7 _ _ fr,axF.mono fun _ _ q=>q.over v7,by rw[Az,BI];lia,fun R hR=>?_⟩
 .rw[A6,Bq];rfl
 .rw[Az,BI];lia
 .rcases Co.mp hR with q|q
  .exact Rok R q
  .rw[DT.mp q]
   exact Du.rb sok.nz so6 (by show(Pp++[c0]).length=L.length+1;rw[Az,BI,pl6]) m3
theorem Uu (T:Tx K mg a):AB P w K mg base AI 4 a.f_R a.d_R ["_law_script"] (UA K):=by
 have G_c :=@NW P w K mg base a T
 have G_f :=@OO P w K mg base a T
 have G_a :=@FO P w K mg base a T
 have G_s :=@WE P w K mg base a T
 refine T.F_R.ok Ef (fun vs H Q E h=>?_) (fun cdv A outer s H vs Q E hr h=>?_)
 .obtain⟨_,_,rfl,_⟩:=h;rfl
 obtain⟨p,ns,rfl,hp,h63,q⟩:=h
 refine⟨_,(@A8 _ _ _ _ _ (@Ai _ _ (1) _ _ _ _ Ef.nd rfl (.inl rfl) (@Aj _ _ _ _ _ _ _ _ _ _ _ _ _ _ _ _ G_c (hr.mono (by lia)) (by rfl) T.m_c T.F_c.kp T.b_c .nil Af (@A0 _ _ _ _ _ (pv 0) (@A0 _ _ _ _ _ A1 A2 (by rfl)) (by rfl)) (by decide) (by rfl) (by rfl)) (by rfl) (by first|exact .inl rfl|exact .inr rfl|assumption)) (@A8 _ _ _ _ _ (@Ai _ _ (2) _ _ _ _ Ef.nd rfl (.inl rfl) (@ET _ _ _ _ _ _ _ _ Cm (@Ah _ _ _ _ _ _ _ _ E1 (pv 1) A1) A1 (@AR _ _ (by decide) (by decide))) (by rfl) (by first|exact .inl rfl|exact .inr rfl|assumption)) (@A8 _ _ _ _ _ (@Ai _ _ (3) _ _ _ _ Ef.nd rfl (.inr rfl) (@Aj _ _ _ _ _ _ _ _ _ _ _ _ _ _ _ _ G_f (hr.mono (by lia)) (by rfl) T.m_f T.F_f.kp T.b_f .nil Af (@A0 _ _ _ _ _ (@Ah _ _ _ _ _ _ _ _ Hn (pv 1) A1) (@A0 _ _ _ _ _ A1 (@A0 _ _ _ _ _ (pv 2) A2 (by rfl)) (by rfl)) (by rfl)) (by decide) (by rfl) (by rfl)) (by rfl) (by first|exact .inl rfl|exact .inr rfl|assumption)) (@A8 _ _ _ _ _ (@Ai _ _ (4) _ _ _ _ Ef.nd rfl (.inl rfl) (@Ah _ _ _ _ _ _ _ _ B2 A1 (@Aj _ _ _ _ _ _ _ _ _ _ _ _ _ _ _ _ G_a (hr.mono (by lia)) (by rfl) T.m_a T.F_a.kp T.b_a .nil Af (@A0 _ _ _ _ _ (pv 3) (@A0 _ _ _ _ _ A1 A2 (by rfl)) (by rfl)) (by decide) (by rfl) (by rfl))) (by rfl) (by first|exact .inl rfl|exact .inr rfl|assumption)) (@A8 _ _ _ _ _ (@Ai _ _ (5) _ _ _ _ Ef.nd rfl (.inr rfl) (@Ah _ _ _ _ _ _ _ _ Di (@A7 _ _ _ _ _ _ _ AH (@Hf _ _ _ _ (@Ab _ _ _ _ _ A1 (@Ab _ _ _ _ _ A1 (@Ab _ _ _ _ _ A1 Bm B7) B7) B7)) (@Aj _ _ _ _ _ _ _ _ _ _ _ _ _ _ _ _ G_a (hr.mono (by lia)) (by rfl) T.m_a T.F_a.kp T.b_a .nil Af (@A0 _ _ _ _ _ (pv 3) (@A0 _ _ _ _ _ A1 A2 (by rfl)) (by rfl)) (by decide) (by rfl) (by rfl)) (fun _ _=>rfl)) (@Ah _ _ _ _ _ _ _ _ DF (@Aj _ _ _ _ _ _ _ _ _ _ _ _ _ _ _ _ G_a (hr.mono (by lia)) (by rfl) T.m_a T.F_a.kp T.b_a .nil Af (@A0 _ _ _ _ _ (pv 3) (@A0 _ _ _ _ _ (@Ah _ _ _ _ _ _ _ _ B2 (@Ah _ _ _ _ _ _ _ _ Di A1 (@Ah _ _ _ _ _ _ _ _ Gf A1 A1)) A1) A2 (by rfl)) (by rfl)) (by decide) (by rfl) (by rfl)) (@Ah _ _ _ _ _ _ _ _ Gf A1 A1))) (by rfl) (by first|exact .inl rfl|exact .inr rfl|assumption)) (@A8 _ _ _ _ _ (@Ai _ _ (6) _ _ _ _ Ef.nd rfl (.inr rfl) (@DZ _ _ _ _ _ _ _ ["_law_t","_law_left_here"] [none,some 3] _ _ _ _ (by rfl) (@Ce _ _ _ _ _ _ (by rfl) T.z_range (@A0 _ _ _ _ _ A1 A2 (by rfl)) (by rfl)) Ug (fun _ _ _ _ _ _=>⟨(Al (i:=0) Sn rfl (.inl rfl)),@DP _,(@Ah _ _ _ _ _ _ _ _ B2 A1 (@Aj _ _ _ _ _ _ _ _ _ _ _ _ _ _ _ _ G_a (hr.mono (by lia)) (by rfl) T.m_a T.F_a.kp T.b_a .nil Af (@A0 _ _ _ _ _ (pv 1) (@A0 _ _ _ _ _ A1 A2 (by rfl)) (by rfl)) (by decide) (by rfl) (by rfl)))⟩) (by intro _;rfl)) (by rfl) (by first|exact .inl rfl|exact .inr rfl|assumption)) (@A8 _ _ _ _ _ (@JJ _ _ _ _ _ _ _ _ _ (7) _ ["_law_t","_law_name","_law_off","_law_sizes"] [none,none,some 5,some 6] _ _ _ _ Ef.nd rfl (.inl rfl) (by rfl) (@IJ _ _ _ _ _ _ _ _ (by rfl) T.z_enumerate (@A0 _ _ _ _ _ (@Aj _ _ _ _ _ _ _ _ _ _ _ _ _ _ _ _ G_s (hr.mono (by lia)) (by rfl) T.m_s T.F_s.kp T.b_s .nil Af (@A0 _ _ _ _ _ (pv 3) (@A0 _ _ _ _ _ (@Ah _ _ _ _ _ _ _ _ Hn (pv 1) A1) (@A0 _ _ _ _ _ (pv 2) A2 (by rfl)) (by rfl)) (by rfl)) (by decide) (by rfl) (by rfl)) A2 (by rfl)) (by rfl)) XF (fun _ _ _ _ _ _=>⟨(show PG _ _ (N2 K 2 _) from(BY rfl (AA (Al (i:=0) PP rfl (.inl rfl)) (AA (Al (i:=1) PP rfl (.inl rfl)) BS)))),@DP _,(@BB _ _ _ _ _ (@Ab _ _ _ _ _ (pv 1) (@Ab _ _ _ _ _ (@A7 _ _ _ _ _ _ _ (show Cn _ (JQ K) from AH) (pv 3) (pv 0) (fun _ _=>rfl)) (@Ab _ _ _ _ _ (pv 2) Bm AK) Ed) AK))⟩) (by rfl) (by intro _;rfl) (by first|exact .inl rfl|exact .inr rfl|assumption)) (@A8 _ _ _ _ _ (@Ai _ _ (3) _ _ _ _ Ef.nd rfl (.inr rfl) (@Aj _ _ _ _ _ _ _ _ _ _ _ _ _ _ _ _ G_f (hr.mono (by lia)) (by rfl) T.m_f T.F_f.kp T.b_f .nil Af (@A0 _ _ _ _ _ (@Aj _ _ _ _ _ _ _ _ _ _ _ _ _ _ _ _ G_c (hr.mono (by lia)) (by rfl) T.m_c T.F_c.kp T.b_c .nil Af (@A0 _ _ _ _ _ (pv 0) (@A0 _ _ _ _ _ A1 A2 (by rfl)) (by rfl)) (by decide) (by rfl) (by rfl)) (@A0 _ _ _ _ _ A1 (@A0 _ _ _ _ _ (pv 2) A2 (by rfl)) (by rfl)) (by rfl)) (by decide) (by rfl) (by rfl)) (by rfl) (by first|exact .inl rfl|exact .inr rfl|assumption)) (@A8 _ _ _ _ _ (@Ai _ _ (8) _ _ _ _ Ef.nd rfl (.inl rfl) (@Ah _ _ _ _ _ _ _ _ B2 A1 (@Aj _ _ _ _ _ _ _ _ _ _ _ _ _ _ _ _ G_a (hr.mono (by lia)) (by rfl) T.m_a T.F_a.kp T.b_a .nil Af (@A0 _ _ _ _ _ (pv 3) (@A0 _ _ _ _ _ (@A7 _ _ _ _ _ _ _ AH (@B9 _ _ _ _ (@A0 _ _ _ _ _ A1 (@A0 _ _ _ _ _ (@Ah _ _ _ _ _ _ _ _ DF (@Ah _ _ _ _ _ _ _ _ Gf A1 A1) A1) A2 (by rfl)) (by rfl))) (@Aj _ _ _ _ _ _ _ _ _ _ _ _ _ _ _ _ G_a (hr.mono (by lia)) (by rfl) T.m_a T.F_a.kp T.b_a .nil Af (@A0 _ _ _ _ _ (pv 3) (@A0 _ _ _ _ _ A1 A2 (by rfl)) (by rfl)) (by decide) (by rfl) (by rfl)) (fun _ _=>rfl)) A2 (by rfl)) (by rfl)) (by decide) (by rfl) (by rfl))) (by rfl) (by first|exact .inl rfl|exact .inr rfl|assumption)) (@A8 _ _ _ _ _ (@Ai _ _ (9) _ _ _ _ Ef.nd rfl (.inl rfl) (@Aj _ _ _ _ _ _ _ _ _ _ _ _ _ _ _ _ G_s (hr.mono (by lia)) (by rfl) T.m_s T.F_s.kp T.b_s .nil Af (@A0 _ _ _ _ _ (pv 3) (@A0 _ _ _ _ _ (@Aj _ _ _ _ _ _ _ _ _ _ _ _ _ _ _ _ G_c (hr.mono (by lia)) (by rfl) T.m_c T.F_c.kp T.b_c .nil Af (@A0 _ _ _ _ _ (pv 0) (@A0 _ _ _ _ _ A1 A2 (by rfl)) (by rfl)) (by decide) (by rfl) (by rfl)) (@A0 _ _ _ _ _ (pv 2) A2 (by rfl)) (by rfl)) (by rfl)) (by decide) (by rfl) (by rfl)) (by rfl) (by first|exact .inl rfl|exact .inr rfl|assumption)) (@A8 _ _ _ _ _ (@Ai _ _ (3) _ _ _ _ Ef.nd rfl (.inr rfl) (@Aj _ _ _ _ _ _ _ _ _ _ _ _ _ _ _ _ G_f (hr.mono (by lia)) (by rfl) T.m_f T.F_f.kp T.b_f .nil Af (@A0 _ _ _ _ _ (@Aj _ _ _ _ _ _ _ _ _ _ _ _ _ _ _ _ G_c (hr.mono (by lia)) (by rfl) T.m_c T.F_c.kp T.b_c .nil Af (@A0 _ _ _ _ _ (pv 0) (@A0 _ _ _ _ _ A1 A2 (by rfl)) (by rfl)) (by decide) (by rfl) (by rfl)) (@A0 _ _ _ _ _ A1 (@A0 _ _ _ _ _ (pv 2) A2 (by rfl)) (by rfl)) (by rfl)) (by decide) (by rfl) (by rfl)) (by rfl) (by first|exact .inl rfl|exact .inr rfl|assumption)) (@A8 _ _ _ _ _ (@Ai _ _ (10) _ _ _ _ Ef.nd rfl (.inl rfl) (@Ah _ _ _ _ _ _ _ _ DF (@Aj _ _ _ _ _ _ _ _ _ _ _ _ _ _ _ _ G_a (hr.mono (by lia)) (by rfl) T.m_a T.F_a.kp T.b_a .nil Af (@A0 _ _ _ _ _ (pv 3) (@A0 _ _ _ _ _ (@Ah _ _ _ _ _ _ _ _ B2 (@Ah _ _ _ _ _ _ _ _ Di A1 (@Ah _ _ _ _ _ _ _ _ Gf A1 A1)) A1) A2 (by rfl)) (by rfl)) (by decide) (by rfl) (by rfl)) (@Ah _ _ _ _ _ _ _ _ Gf A1 A1)) (by rfl) (by first|exact .inl rfl|exact .inr rfl|assumption)) (@Ae _ _ _ (@Av _ _ _ _ (@BB _ _ _ _ _ (@Ab _ _ _ _ _ (pv 2) (@Ab _ _ _ _ _ (pv 4) (@Ab _ _ _ _ _ (pv 7) (@Ab _ _ _ _ _ (pv 8) (@Ab _ _ _ _ _ (pv 9) (@Ab _ _ _ _ _ (pv 10) (@Ab _ _ _ _ _ (pv 3) Bm AK) AK) AK) AK) AK) AK) AK)))))))))))))))),?_⟩
 have fr:∀{HX:Hp} {x y:Addr},Bw HX y->HX x=none->x≠y:=fun{HX x y} l hx z=>by obtain⟨n,hn⟩:=l;rw[z,hn]at hx;cases hx
 refine⟨_,rfl,p,ns,0,rfl,hp,by decide,by decide,?_⟩
 dsimp only[Ag]
 generalize Nb ns 0=c0
 refine⟨_,rfl,_,_,rfl,rfl,(by show(0:Int)<2;decide),rfl,?_⟩
 dsimp only[Ag]
 generalize decide (V.int (c0%2)=V.int 1)=d
 refine⟨_,rfl,_,_,rfl,rfl,⟨by decide,by decide⟩,_,rfl,_,1,d,rfl,fun lf H1 e1 lf0 l1=>?_⟩
 dsimp only[Ag]
 refine⟨_,rfl,lf,4,rfl,l1,by decide,by decide,fun dm H2 b2 l2 m0 m1=>⟨_,_,rfl,rfl,?_⟩⟩
 obtain⟨m,hm⟩:∃m:Nat,1+dm=(m:Int):=⟨(1+dm).toNat,by lia⟩
 dsimp only[Ag]
 rw[hm]
 change DN _ _ _ [some (.ref p),some (.int c0),some (.bl d),some (.ref lf),some (.int (m:Int)),none,none,none,none,none,none] _
 refine⟨Ak rfl,fun q1 hq1=>?_⟩
 have s3:=Aa hq1 (.lst [V.int 0,V.int 0,V.int 1])
 have k3:(upd H2 q1 (.lst [V.int 0,V.int 0,V.int 1])) q1=some (.lst [V.int 0,V.int 0,V.int 1]):=A6
 refine⟨_,rfl,lf,3,rfl,l2.over s3,by decide,by decide,fun d4 H4 b4 l4 d40 d41=>?_⟩
 obtain⟨o,ho,eo⟩:=Gh (L:=[0,0,1]) (i:=d4) 3 rfl d40 (by lia)
 refine⟨q1,_,_,_,rfl,rfl,A5.of (b4 _ _ (fr l2 hq1) k3),eo,?_⟩
 have ob : -(2 ^ 64)<o/\o<2 ^ 64:=by
  simp only[Bv,DB,or_false]at ho
  rcases ho with rfl|rfl|rfl<;>decide
 refine⟨_,rfl,_,_,rfl,rfl,⟨by decide,by decide,by decide⟩,_,_,rfl,rfl,.inl ⟨by decide,by decide⟩,_,_,rfl,rfl,lf,_,rfl,l4,(by show(0:Int)<2*10 ^ (17:Int).toNat+1;decide),(by show 2*10 ^ (17:Int).toNat+1<(18446744073709551616:Int);decide),fun d5 H5 b5 l5 d50 d51=>⟨_,_,rfl,rfl,⟨by decide,by decide,by decide⟩,_,_,rfl,rfl,_,_,rfl,rfl,.inl ob,?_⟩⟩
 have e5:A9 H H5:=DU (DU (DU (DU e1 lf0 b2) lf0 (Bt.same s3)) lf0 b4) lf0 b5
 dsimp only[Ag]
 generalize o*(d5-10 ^ (17:Int).toNat)=off
 clear k3 s3 b4 b5 b2 l4 l2 l1 e1
 change DN _ _ _ [some (.ref p),some (.int c0),some (.bl d),some (.ref lf),some (.int (m:Int)),some (.int off),none,none,none,none,none] _
 refine⟨3,rfl,by decide,by decide,?_⟩
 refine Jk (n:=3) (fun j ys H'=>A9 H H'/\Bw H' lf/\∃ms:List Int,ys=ms.map V.int/\ms.length=j/\∀x∈ms,1<=x/\x<=3) ⟨e5,l5,[],rfl,rfl,fun x hx=>by cases hx⟩ (Ak rfl) (fun j ys H' hj pp=>by obtain⟨_,_,ms,rfl,ml,_⟩:=pp;rw[Aq,ml];exact Ap _) (fun j ys H' hj pp=>?_) (fun ys H6 pp sl hsl=>?_)
 .obtain⟨e6,l6,ms,rfl,ml,mb⟩:=pp
  refine⟨_,rfl,lf,3,rfl,l6,by decide,by decide,fun d7 H7 b7 l7 d70 d71=>⟨_,_,rfl,rfl,DU e6 lf0 b7,l7,ms++[1+d7],by rw[Bq];rfl,by rw[Az,ml];rfl,fun x hx=>?_⟩⟩
  rcases Co.mp hx with h|h
  .exact mb x h
  .rw[DT.mp h];lia
 obtain⟨e6,l6,ms,rfl,ml,mb⟩:=pp
 have s7:=Aa hsl (.lst (ms.map V.int))
 have hsl7:(upd H6 sl (.lst (ms.map V.int))) sl=some (.lst (ms.map V.int)):=A6
 have e7:=e6.trans s7
 have l7:=l6.over s7
 have nsl:sl≠lf:=fr l6 hsl
 dsimp only[Ag]
 generalize upd H6 sl (.lst (ms.map V.int))=H7 at hsl7 e7 l7
 clear e5 l5 e6 l6 s7
 change DN _ _ _ [some (.ref p),some (.int c0),some (.bl d),some (.ref lf),some (.int (m:Int)),some (.int off),some (.ref sl),none,none,none,none] _
 refine⟨_,rfl,_,rfl,_,_,rfl,rfl,⟨by decide,by decide⟩,_,rfl,lf,_,d,rfl,l7,fun nr HN zs bN lN nr0 hnr nms=>?_⟩
 have eN:=DU e7 lf0 bN
 have hslN:=bN _ _ nsl hsl7
 have zl:=nms.1
 refine⟨nr,rfl,⟨_,A5.of hnr⟩,?_⟩
 refine Vh (xs:=zs.map V.str) (fun j ys H'=>A9 HN H'/\ys.length=j/\∀v∈ys,∃(t:Addr) (z:Str) (m n:Int),v = .ref t/\H' t=some (.tup [.str z,.int m,.int n])/\1<=m/\m<=3/\∃t:Nat,zs[t]?=some z/\ms[t]?=some m) ⟨A9.refl _,rfl,fun v hv=>by cases hv⟩ (Bc (by rw[Aq];lia)) (fun j ys H' hj pp=>⟨A5.of (pp.1 _ _ hnr),by lia⟩) (fun j x Tt ys H' hx pp hT=>?_) (fun ys H8 pp hd hhd=>?_)
 .obtain⟨e8,yl,ya⟩:=pp
  have lj:=(AX.mp hx).1
  rw[Aq]at lj
  rw[BG,AL lj]at hx
  have ex:=(Cg hx).symm
  subst ex
  have mj:ms[j]?=some (ms[j]'(by lia)):=AL (by lia)
  have mbj:=mb _ (Bh mj)
  generalize ms[j]'(by lia)=mm at mj mbj
  have sT:=Aa hT (.tup [V.int (j:Int),V.str zs[j]])
  have at1:B8 (ms.map V.int) (j:Int)=some (.int mm):=By (by rw[BG,mj];rfl)
  refine⟨Tt,_,rfl,A3.of A6,rfl,_,_,rfl,_,_,rfl,rfl,Py (ρ:=[some 5,some 6]) _ _,?_⟩
  refine⟨_,rfl,_,rfl,_,rfl,sl,_,_,_,rfl,rfl,A5.of ((e8.trans sT) _ _ hslN),at1,_,rfl,Ak rfl,fun t9 ht9=>?_⟩
  have s9:=Aa ht9 (.tup [V.str zs[j],V.int mm,V.int off])
  refine⟨e8.trans (sT.trans s9),by rw[Az,yl];rfl,fun v hv=>?_⟩
  rcases Co.mp hv with h|h
  .obtain⟨t,z,m,n,a1,a2,a3⟩:=ya v h
   exact⟨t,z,m,n,a1,(sT.trans s9) _ _ a2,a3⟩
  .exact⟨t9,_,_,_,DT.mp h,A6,mbj.1,mbj.2,j,AL lj,mj⟩
 obtain⟨e8,yl,ya⟩:=pp
 rw[Aq]at yl
 have s9:=Aa hhd (.lst ys)
 generalize hM:(fun(z:Str) (m:Int)=>∃t:Nat,zs[t]?=some z/\ms[t]?=some m)=M
 have hH:EB M (upd H8 hd (.lst ys)) hd:=by
  refine⟨ys,A6,by lia,fun v hv=>?_⟩
  obtain⟨t,z,m,n,a1,a2,a3,a4,a5⟩:=ya v hv
  exact⟨t,z,m,n,a1,s9 _ _ a2,a3,a4,by rw[←hM];exact a5⟩
 have mo:∀{z:Str} {m n:Int},M z m->M z n->m=n:=fun{z m n} h g=>by
  rw[←hM]at h g
  obtain⟨t,a1,a2⟩:=h
  obtain⟨u,b1,b2⟩:=g
  have lt:=(AX.mp a1).1
  have lu:=(AX.mp b1).1
  have et:t=u:=nms.inj (by lia) (by lia) (by rw[Cp,Cp,a1,b1])
  rw[et,b2]at a2
  exact(Cg a2).symm
 have e9:A9 H (upd H8 hd (.lst ys)):=eN.trans (e8.trans s9)
 dsimp only[Ag]
 generalize upd H8 hd (.lst ys)=H9 at hH e9
 clear hslN e8 ya s9 hsl7 l7 lN bN eN e7
 change DN _ _ _ [some (.ref p),some (.int c0),some (.bl d),some (.ref lf),some (.int (m:Int)),some (.int off),some (.ref sl),some (.ref hd),none,none,none] _
 refine⟨_,rfl,p,ns,1,rfl,e9.seq hp,by decide,by decide,_,rfl,_,2,d,rfl,fun lg HA eA lgA lA=>?_⟩
 have lg0:H lg=none:=e9.free lgA
 have nhd:hd≠lg:=by obtain⟨_,h1,_⟩:=hH;exact AC h1 lgA
 have hHA:=hH.over eA
 have e0A:=e9.trans eA
 dsimp only[Ag]
 refine⟨_,rfl,_,_,rfl,rfl,⟨by decide,by decide,by decide⟩,_,_,rfl,rfl,Ak rfl,fun q2 hq2=>?_⟩
 have sB:=Aa hq2 (.lst [V.int 9,V.int (10 ^ (18:Int).toNat-2)])
 have kB:(upd HA q2 (.lst [V.int 9,V.int (10 ^ (18:Int).toNat-2)])) q2=some (.lst [V.int 9,V.int (10 ^ (18:Int).toNat-2)]):=A6
 refine⟨_,rfl,lg,2,rfl,lA.over sB,by decide,by decide,fun dC HC bC lC dC0 dC1=>?_⟩
 obtain⟨i,hi,ei⟩:=Gh (L:=[9,10 ^ (18:Int).toNat-2]) (i:=dC) 2 rfl dC0 (by lia)
 have ib:0<i/\i<18446744073709551616:=by
  simp only[Bv,DB,or_false]at hi
  rcases hi with rfl|rfl<;>decide
 refine⟨q2,_,_,_,rfl,rfl,A5.of (bC _ _ (fr lA hq2) kB),ei,lg,i,rfl,lC,ib.1,ib.2,fun dD HD bD lD dD0 dD1=>⟨_,_,rfl,rfl,?_⟩⟩
 have bAD:Bt lg HA HD:=((Bt.same sB).trans bC).trans bD
 have e0D:=DU e0A lg0 bAD
 have hHD:=hHA.bt lA bAD nhd
 dsimp only[Ag]
 generalize 2+dD=sz
 clear kB sB bC bD lC hHA e0A bAD lA eA
 change DN _ _ _ [some (.ref p),some (.int c0),some (.bl d),some (.ref lg),some (.int (m:Int)),some (.int off),some (.ref sl),some (.ref hd),some (.int sz),none,none] _
 refine⟨_,rfl,_,rfl,p,ns,1,rfl,e0D.seq hp,by decide,by decide,_,rfl,lg,_,d,rfl,lD,fun nm HE zs2 bE lE nmD hnm nms2=>?_⟩
 have e0E:=DU e0D lg0 bE
 have hHE:=hHD.bt lD bE nhd
 dsimp only[Ag]
 change DN _ _ _ [some (.ref p),some (.int c0),some (.bl d),some (.ref lg),some (.int (m:Int)),some (.int off),some (.ref sl),some (.ref hd),some (.int sz),some (.ref nm),none] _
 refine⟨_,rfl,p,ns,2,rfl,e0E.seq hp,by decide,by decide,_,rfl,_,3,d,rfl,fun wl HF eF wlE lF=>?_⟩
 have e0F:=e0E.trans eF
 have wl0:H wl=none:=e0E.free wlE
 have nhd2:hd≠wl:=by obtain⟨_,h1,_⟩:=hHE;exact AC h1 wlE
 have nnm2:nm≠wl:=AC hnm wlE
 dsimp only[Ag]
 refine⟨_,rfl,_,_,rfl,rfl,⟨by decide,by decide,by decide⟩,_,_,rfl,rfl,.inl ⟨by decide,by decide⟩,_,_,rfl,rfl,wl,_,rfl,lF,(by show(0:Int)<2*10 ^ (17:Int).toNat+1;decide),(by show 2*10 ^ (17:Int).toNat+1<(18446744073709551616:Int);decide),fun dG HG bG lG dG0 dG1=>⟨_,_,rfl,rfl,⟨by decide,by decide,by decide⟩,_,_,rfl,rfl,?_⟩⟩
 have e0G:=DU e0F wl0 bG
 have hHG:=(hHE.over eF).bt lF bG nhd2
 have hnmG:=bG _ _ nnm2 (eF _ _ hnm)
 dsimp only[Ag]
 generalize dG-10 ^ (17:Int).toNat=far
 refine⟨_,rfl,_,rfl,_,rfl,_,rfl,_,rfl,_,rfl,_,rfl,Ak rfl,fun rr hrr=>?_⟩
 have sI:=Aa hrr (.tup [V.bl d,V.int (m:Int),V.ref hd,V.int sz,V.ref nm,V.int far,V.ref wl])
 exact q rr ⟨d,m,hd,sz,nm,far,wl,zs2,M⟩ _ (e0G.trans sI) ⟨A6,hHG.over sI,sI _ _ hnmG,lG.over sI⟩ ⟨by show 1<=m;lia,by show m<=4;lia,nms2,mo⟩
theorem TC (T:Tx K mg a):AB P w K mg base AI 105 a.f_L a.d_L ["program"] (X8 a.c_Program a.c_Deed (CH a)):=by
 have G_G :=@R7 P w K mg base a T
 have G_I :=@QJ P w K mg base a T
 refine T.F_L.ok GC (fun vs H Q E h=>?_) (fun cdv A outer s H vs Q E hr h=>?_)
 .obtain⟨_,_,rfl,_⟩:=h;rfl
 obtain⟨v,Rs,rfl,hP,ok,R6,q⟩:=h
 refine⟨_,(A8 (Ai (i:=1) GC.nd rfl (.inl rfl) (B9 A2))
  (A8 (Br PassesOwn.never rfl (CK (Aj G_G (hr.mono (by lia)) (by rfl) T.m_G T.F_G.kp T.b_G .nil Af (A0 (pv 0) A2))) (BY rfl (AA (Al (i:=2) GC.nd rfl (.inl rfl)) (AA (Al (i:=3) GC.nd rfl (.inl rfl)) (AA (Al (i:=4) GC.nd rfl (.inl rfl)) (AA (Al (i:=5) GC.nd rfl (.inl rfl)) BS)))))
  (Ae (Br PassesOwn.never rfl (CK (Aj G_I (hr.mono (by lia)) (by rfl) T.m_I T.F_I.kp T.b_I .nil Af (A0 (pv 0) (A0 (pv 2) (A0 (pv 4) A2))))) (Al (i:=6) GC.nd rfl (.inl rfl))
  (Ae (BP (BR BX Cq Cr Ca (pv 1) (A0 (BB (Ab (pv 2) (Ab (pv 3) (Ab (pv 4) (Ab (pv 5) (Ab (pv 6) Bm AK) AK) AK) AK) AK)) A2)))))))
  (Ae (Av (pv 1))))),?_⟩
 refine⟨Ak rfl,fun fo hfo=>?_⟩
 have s1:=Aa hfo (.lst [])
 have hf1:(upd H fo (.lst [])) fo=some (.lst []):=A6
 dsimp only[Ag]
 generalize upd H fo (.lst [])=H1 at s1 hf1
 refine ⟨_,rfl,v,Rs,rfl,hP.over s1,ok,R6,fun mr H2 e2 mr1 zz=>?_⟩
 obtain⟨ms,hms,am⟩:=zz
 have nmf:mr≠fo:=fun z=>by rw[z,hf1]at mr1;cases mr1
 have e02:=s1.trans e2
 have mm:=fun q h=>P8 (Rs:=Rs) (q:=q) h
 have ml:=N9 (Gz ok R6)
 have msl:=am.1
 unfold Ee at q
 generalize Pm.mt (Ba Rs)=L at am mm ml msl q
 refine⟨mr,rfl,⟨_,A5.of hms⟩,?_⟩
 refine EU (xs:=ms) (fun i σ' H'=>∃(zs:List V) (o2 o3 o4 o5 o6:Option V),σ'=[some v,some (.ref fo),o2,o3,o4,o5,o6]/\Bt fo H2 H'/\H' fo=some (.lst zs)/\Ar (Eh H') zs ((L.take i).flatMap (Dr Rs))) ⟨[],_,_,_,_,_,rfl,fun _ _ _ h=>h,e2 _ _ hf1,.nil⟩ (fun i σ' H' _ pp=>by obtain⟨_,_,_,_,_,_,_,b,_⟩:=pp;exact A5.of (b _ _ nmf hms)) (fun i y σ' H' hy pp=>?_) (fun σ' H' pp=>?_)
 rotate_left
 .obtain⟨zs,o2,o3,o4,o5,o6,rfl,b,hz,az⟩:=pp
  rw[msl,DS]at az
  exact⟨_,rfl,q fo zs _ (fun x o hx=>b _ _ (AC hx hfo) (e02 _ _ hx)) hfo hz az⟩
 obtain⟨zs,o2,o3,o4,o5,o6,rfl,b,hz,az⟩:=pp
 obtain⟨q4,hq4,t,rfl,ht⟩:=am.get' hy
 have li:=(AX.mp hq4).1
 obtain⟨R,S,hR,hS⟩:=mm q4 (Bh hq4)
 have e0:A9 H H':=fun x o hx=>b _ _ (AC hx hfo) (e02 _ _ hx)
 have tk2:=b.tk (e2 _ _ hf1)
 have ht':=tk2 _ _ ht
 refine⟨t,_,rfl,A3.of ht',rfl,_,_,rfl,_,_,rfl,_,_,rfl,_,_,rfl,rfl,?_⟩
 dsimp only[Ag]
 have d1:=OG (Rs:=Rs) hq4
 have dl:=Ky ok (L.take i)
 have tl:(L.take i).length<=34596:=by rw[Bg];lia
 have azl:=az.1
 rw[d1]
 have e1:Dr Rs q4=(List.range (C0 q4.1 q4.2.2.1 (EL R S))).map fun e=>(q4,e):=by unfold Dr;rw[Ng hR hS]
 have cl4:C0 q4.1 q4.2.2.1 (EL R S)<=4:=by
  have:=(Ic R S).1
  have:=(ok R (Bh hR)).n3
  unfold C0
  split<;>lia
 rw[e1]
 generalize (L.take i).flatMap (Dr Rs)=done at az azl dl
 refine⟨_,rfl,_,rfl,_,rfl,v,Rs,q4.1,q4.2.2.1,EL R S,R,S,rfl,hP.over e0,ok,hR,hS,Ic R S,fun cr H3 e3 cr0 hcr=>?_⟩
 have ncf:cr≠fo:=fun z=>by rw[z,hz]at cr0;cases cr0
 refine⟨cr,rfl,⟨_,A5.of hcr⟩,?_⟩
 refine EU (xs:=(List.range (C0 q4.1 q4.2.2.1 (EL R S))).map fun i:Nat=>V.int (i:Int)) (fun j σ' H4=>∃(zs:List V) (o6:Option V),σ'=[some v,some (.ref fo),some (.int (q4.1:Int)),some (.int (q4.2.1:Int)),some (.int (q4.2.2.1:Int)),some (.int (q4.2.2.2:Int)),o6]/\Bt fo H3 H4/\H4 fo=some (.lst zs)/\Ar (Eh H4) zs (done++(List.range j).map fun e=>(q4,e))) ⟨zs,_,rfl,fun _ _ _ h=>h,e3 _ _ hz,by rw[List.range_zero,Io,DA];exact az.mono fun _ _ z=>z.over e3⟩ (fun j σ' H4 _ pp=>by obtain⟨_,_,_,b4,_⟩:=pp;exact A5.of (b4 _ _ ncf hcr)) (fun j y σ' H4 hy pp=>?_) (fun σ' H4 pp=>?_)
 .obtain⟨zs2,o6,rfl,b4,hz4,az4⟩:=pp
  have lj:=(AX.mp hy).1
  rw[Aq,CL]at lj
  rw[BG,Jw lj]at hy
  have ey:y = .int (j:Int):=(Cg hy).symm
  subst ey
  have z4l:=az4.1
  rw[Az,Aq,CL]at z4l
  dsimp only[Ag]
  refine⟨_,rfl,.inl ⟨rfl,_,A5.of hz4⟩,_,rfl,_,rfl,_,rfl,_,rfl,_,rfl,Ak rfl,fun t5 ht5=>?_⟩
  have s5:=Aa ht5 (.tup [V.int (q4.1:Int),V.int (q4.2.1:Int),V.int (q4.2.2.1:Int),V.int (q4.2.2.2:Int),V.int (j:Int)])
  have hz5:=s5 _ _ hz4
  refine⟨fo,_,_,rfl,rfl,hz5,C5 (by lia),?_⟩
  have tk6:=TK.upd (o:=.lst (zs2++[V.ref t5])) hz5
  refine⟨zs2++[.ref t5],_,rfl,(b4.trans (Bt.same s5)).trans Bt.put,A6,?_⟩
  rw[FL,Bq,←DR]
  exact(az4.mono fun _ _ z=>(z.over s5).tk tk6).snoc ⟨t5,rfl,tk6 _ _ A6⟩
 obtain⟨zs2,o6',rfl,b4,hz4,az4⟩:=pp
 rw[Aq,CL]at az4
 exact⟨zs2,_,_,_,_,_,rfl,(b.trans (Bt.same e3)).trans b4,hz4,az4⟩
theorem S7 (T:Tx K mg a):AB P w K mg base AI 3 a.f_M a.d_M ["program","k","l","bonds"] (Wb a.c_Program a.c_Deed (CH a)):=by
 have G_C :=@TJ P w K mg base a T
 refine T.F_M.ok LV (fun vs H Q E h=>?_) (fun cdv A outer s H vs Q E hr h=>?_)
 .obtain⟨_,_,_,_,_,_,_,_,_,_,_,_,_,rfl,_⟩:=h;rfl
 obtain⟨x,dx,dl,sz,xs,Rs,R,R',k,l,bl,bs,B,rfl,hx,hdl,ax,hR,hR',k3,k3',hbl,tr,bl1,hin,q⟩:=h
 refine⟨_,(A8 (Ai (i:=4) LV.nd rfl (.inl rfl) (Ah B2 A1 (B3 Bp (by rfl) T.z_len Bo (A0 (Bx (A7 AH (Bx (pv 0) rfl) (pv 1) (fun _ _=>rfl)) rfl) A2))))
  (A8 (Ai (i:=5) LV.nd rfl (.inl rfl) (Aj G_C (hr.mono (by lia)) (by rfl) T.m_C T.F_C.kp T.b_C .nil Af (A0 (Ah B2 (pv 4) (B3 Bp (by rfl) T.z_len Bo (A0 (Bx (A7 AH (Bx (pv 0) rfl) (pv 2) (fun _ _=>rfl)) rfl) A2))) (A0 (pv 3) A2))))
  (A8 (Be (AZ Cm (A7 Ac (pv 5) A1 (fun _ _=>rfl)) BD (AR _))
  (Ae (Av (CM (A0 BD (A0 (DZ ["number","bonds"] [none,some 3] (by rfl) (CK (A7 Ac (pv 5) A1 (fun _ _=>rfl))) Wn (fun _ _ _ _ _ _=>⟨(Al (i:=0) Ym rfl (.inl rfl)),DP,(A7 (show Cn _ (JQ K) from AH) (pv 1) (pv 0) (fun _ _=>rfl))⟩)) A2)))))
  Bj)
  (Ae (Av (BB (Ab BD (Ab (Ec GH (by rfl) T.z_tuple Ew (A0 (Ds Fk (A7 Ac (pv 5) A1 (fun _ _=>rfl)) (D9 A1) (D9 (pv 4))) A2)) (Ab (Ec GH (by rfl) T.z_tuple Ew (A0 (Ds Fk (A7 Ac (pv 5) A1 (fun _ _=>rfl)) (D9 (pv 4)) DH) A2)) Bm Fi) Fi) B7))))))),?_⟩
 obtain⟨y1,hy1,d4⟩:=ax.get hR
 obtain⟨y2,hy2,d4'⟩:=ax.get hR'
 obtain⟨d1,dx1,nm1,lo1,hi1,pt1,v1,ls1,hs1,rfl,hd1,hn1,_⟩:=d4
 obtain⟨d2,dx2,nm2,lo2,hi2,pt2,v2,ls2,hs2,rfl,hd2,hn2,_⟩:=d4'
 have nl:((AV R.S).map V.str).length=R.S.length:=by unfold AV;rw[Aq,Aq]
 have nl':((AV R'.S).map V.str).length=R'.S.length:=by unfold AV;rw[Aq,Aq]
 refine⟨_,rfl,x,_,dx,_,_,rfl,hx,T.cl_Program,T.n_Program_deeds,rfl,_,rfl,dl,_,_,_,rfl,rfl,A5.of hdl,By hy1,d1,_,dx1,_,_,rfl,hd1,T.cl_Deed,T.n_Deed_names,rfl,nm1,_,rfl,.inr (A3.of hn1),_,_,rfl,rfl,?_⟩
 rw[nl]
 dsimp only[Ag]
 generalize hn:1+R.S.length+R'.S.length=n at q hin
 generalize hbh:1+R.S.length=bh at q hn
 have ebh:(1+(R.S.length:Int))=(bh:Int):=by lia
 rw[ebh]
 have wf:=Ql hin
 have en:((bh:Int)+(R'.S.length:Int))=(n:Int):=by lia
 refine⟨_,rfl,_,rfl,x,_,dx,_,_,rfl,hx,T.cl_Program,T.n_Program_deeds,rfl,_,rfl,dl,_,_,_,rfl,rfl,A5.of hdl,By hy2,d2,_,dx2,_,_,rfl,hd2,T.cl_Deed,T.n_Deed_names,rfl,nm2,_,rfl,.inr (A3.of hn2),_,_,rfl,rfl,_,rfl,n,bl,B.map C8,(by rw[nl'];exact congrArg (fun z=>[V.int z,V.ref bl]) en),T7 hbl tr hin,wf,by lia,by lia,by rw[Aq];lia,fun t r H1 e1 r0 ht hr1=>?_⟩
 dsimp only[Ag]
 unfold Hy at q
 rcases Bd.go_ok (n:=n) (by lia) wf with⟨s',e,hv⟩|⟨s',x0,m,e,hl',rg⟩
 .have er:Fb n (B.map C8)=(.str "values",vl n fun i=>s'.v i-s'.v 0):=by unfold Fb;rw[e]
  rw[er]at ht hr1
  rw[e]at q
  dsimp only at q
  refine⟨_,rfl,t,_,0,_,rfl,rfl,A3.of ht,rfl,rfl,_,rfl,AG (v:=false) (dS (by decide)) (AO ?_)⟩
  dsimp only[Dj]
  have hr1:H1 r=some (.lst (vl n fun i=>s'.v i-s'.v 0)):=hr1
  rw[Wh]at hr1
  have wsl:((List.range n).map (fun i=>s'.v i-s'.v 0)).length=n:=by rw[Aq,CL]
  generalize (List.range n).map (fun i=>s'.v i-s'.v 0)=ws at hr1 q wsl
  have cut1:C2 (ws.map V.int) (some 1) (some (bh:Int))=((ws.drop 1).take (bh-1)).map V.int:=by
   rw[show C2 (ws.map V.int) (some 1) (some (bh:Int))=((ws.map V.int).drop (1:Int).toNat).take ((bh:Int).toNat-(1:Int).toNat) from V3 (ws.map V.int) (by decide) (Ha _) (by rw[Aq,wsl];lia) (by lia),Em,←List.map_drop,←List.map_take]
   rfl
  have cut2:C2 (ws.map V.int) (some (bh:Int)) none=(ws.drop bh).map V.int:=by
   rw[show C2 (ws.map V.int) (some (bh:Int)) none=(ws.map V.int).drop (bh:Int).toNat from OY (ws.map V.int) (Ha _),Em,List.map_drop]
  refine⟨_,rfl,t,_,1,_,rfl,rfl,A3.of ht,rfl,_,rfl,_,rfl,_,rfl,r,_,rfl,A5.of hr1,fun p1 hp1=>?_⟩
  rw[cut1]
  have s2:=Aa hp1 (.lst (((ws.drop 1).take (bh-1)).map V.int))
  refine⟨p1,_,rfl,.inl ⟨A5.of A6,fun u1 hu1=>?_⟩⟩
  have s3:=Aa hu1 (.tup (((ws.drop 1).take (bh-1)).map V.int))
  have s23:=s2.trans s3
  have hu13:(upd (upd H1 p1 (.lst (((ws.drop 1).take (bh-1)).map V.int))) u1 (.tup (((ws.drop 1).take (bh-1)).map V.int))) u1=some (.tup (((ws.drop 1).take (bh-1)).map V.int)):=A6
  have u10:=(e1.trans s2).free hu1
  generalize upd (upd H1 p1 (.lst (((ws.drop 1).take (bh-1)).map V.int))) u1 (.tup (((ws.drop 1).take (bh-1)).map V.int))=H3 at s23 hu13
  refine⟨_,rfl,t,_,1,_,rfl,rfl,A3.of (s23 _ _ ht),rfl,_,rfl,_,rfl,r,_,rfl,A5.of (s23 _ _ hr1),fun p2 hp2=>?_⟩
  rw[cut2]
  have s4:=Aa hp2 (.lst ((ws.drop bh).map V.int))
  refine⟨p2,_,rfl,.inl ⟨A5.of A6,fun u2 hu2=>⟨Ak rfl,fun t2 ht2=>?_⟩⟩⟩
  have s5:=Aa hu2 (.tup ((ws.drop bh).map V.int))
  have s6:=Aa ht2 (.tup [V.str "pair",V.ref u1,V.ref u2])
  have e03:=e1.trans s23
  have u20:=(e03.trans s4).free hu2
  have t20:=(e03.trans (s4.trans s5)).free ht2
  refine q t2 _ (e03.trans (s4.trans (s5.trans s6))) fun fo zz hfo=>?_
  have ne:∀{b:Addr},H b=none->b≠fo:=fun{b} hb z=>by rw[z,hfo]at hb;cases hb
  exact⟨t2,u1,u2,rfl,by rw[GN (ne t20)];exact A6,by rw[GN (ne u10)];exact(s4.trans (s5.trans s6)) _ _ hu13,by rw[GN (ne u20)];exact s6 _ _ A6⟩
 have er:Fb n (B.map C8)=(.str "ring",CG (ringOf n (B.map C8) s')):=by unfold Fb;rw[e]
 rw[er]at ht hr1
 rw[e]at q
 dsimp only at q
 have ht:H1 t=some (.tup [.str "ring",.ref r]):=ht
 have hr1:H1 r=some (.lst (CG (ringOf n (B.map C8) s'))):=hr1
 obtain⟨u,rok⟩:∃u,Bd.RingOk (B.map C8) (Bd.ringOf n (B.map C8) s') u:=⟨_,rg.ok hl'⟩
 generalize Bd.ringOf n (B.map C8) s'=L at hr1 q rok
 have ll:L.length<=1000:=by
  have:=Bd.nodup_le (k:=List.range B.length) rok.nd fun i hi=>by
   obtain⟨k,hk⟩:=Ga.mp hi
   obtain⟨b,hb,_⟩:=rok.bond k i hk
   obtain⟨t,ht,_⟩:=GF hb
   exact Fp.mpr (AX.mp ht).1
  rw[CL]at this
  lia
 refine⟨_,rfl,t,_,0,_,rfl,rfl,A3.of ht,rfl,rfl,_,rfl,AG (v:=true) (B6 rfl) (BE ?_)⟩
 refine⟨_,rfl,t,_,1,_,rfl,rfl,A3.of ht,rfl,r,rfl,⟨_,A5.of hr1⟩,?_⟩
 refine G5 (xs:=CG L) (fun i ys H'=>H'=H1/\Bf H1 ys ((L.take i).map fun i=>B.getD i (0,0,0))) ⟨rfl,.nil⟩ (Bc (by rw[L6];lia)) (fun i ys H' hi p=>by obtain⟨rfl,p⟩:=p;exact⟨A5.of hr1,by rw[p.1,Aq,Bg];lia⟩) (fun i v ys H' hv p=>?_) (fun ys H' p rl hrl=>?_)
 .obtain⟨rfl,az⟩:=p
  have li:=(AX.mp hv).1
  rw[L6]at li
  have gL:L[i]?=some L[i]:=AL li
  have ev:v = .int (L[i]:Int):=Cg (hv.symm.trans (VY gL))
  subst ev
  obtain⟨b,hb,_⟩:=rok.bond i _ gL
  obtain⟨tt,htt,_⟩:=GF hb
  obtain⟨ta,hta,hta2⟩:=(tr.over e1).get htt
  refine⟨_,rfl,_,rfl,bl,_,_,_,rfl,rfl,A5.of (e1 _ _ hbl),By hta,rfl,?_⟩
  rw[CJ gL,Bq]
  have hg:B.getD L[i] (0,0,0)=tt:=by rw[Cp,htt];rfl
  refine az.snoc ?_
  show H' ta=some (.tup [.int (B.getD L[i] (0,0,0)).1,.int (B.getD L[i] (0,0,0)).2.1,.int (B.getD L[i] (0,0,0)).2.2])
  rw[hg]
  exact hta2
 obtain⟨rfl,az⟩:=p
 rw[L6,DS]at az
 refine⟨Ak rfl,fun t2 ht2=>?_⟩
 have s2:=Aa hrl (.lst ys)
 have s3:=Aa ht2 (.tup [V.str "ring",V.ref rl])
 refine q t2 _ (e1.trans (s2.trans s3)) fun fo zz hfo=>?_
 have ne:∀{b:Addr},H b=none->b≠fo:=fun{b} hb z=>by rw[z,hfo]at hb;cases hb
 have rl0:=e1.free hrl
 have t20:=(e1.trans s2).free ht2
 refine⟨t2,rl,ys,rfl,by rw[GN (ne t20)];exact A6,by rw[GN (ne rl0)];exact s3 _ _ A6,?_⟩
 refine⟨az.1,fun i v b hv hb=>?_⟩
 obtain⟨ta,ea,hta⟩:=az.2 i v b hv hb
 refine⟨ta,ea,?_⟩
 have nta:ta≠fo:=fun z=>by
  have:=e1 _ _ hfo
  rw[←z,hta]at this
  cases this
 rw[GN nta]
 exact(s2.trans s3) _ _ hta
theorem Ya (T:Tx K mg a):AB P w K mg base AI 3 a.f_u a.d_u ["_law_turn","_law_rows_here"] X7:=by
 have G_d :=@M8 P w K mg base a T
 have G_k :=@PR P w K mg base a T
 have G_l :=@Ow P w K mg base a T
 refine T.F_u.ok Iw (fun vs H Q E h=>?_) (fun cdv A outer s H vs Q E hr h=>?_)
 .obtain⟨_,_,_,_,_,_,_,_,rfl,_⟩:=h;rfl
 obtain⟨t,u,rl,Rs,M,R,k,ws,rfl,ht,hu,⟨xs,hrl,ax⟩,R10,hk,g,wl,wb,q⟩:=h
 refine⟨_,(A8 (Be (PW.pt (Cy (D7 (Cv (B3 Fn (by rfl) T.z_isinstance Fm (A0 (pv 0) (A0 (Fd (v:=.ty "tuple") (by rfl) T.z_tuple Ew rfl) A2))))) (Cy (AZ Ek (B3 Bp (by rfl) T.z_len Bo (A0 (pv 0) A2)) A1 (AR _)) (Cy (D7 (Cv (Aj G_d (hr.mono (by lia)) (by rfl) T.m_d T.F_d.kp T.b_d .nil Af (A0 (A7 Ac (pv 0) A1 (fun _ _=>rfl)) A2)))) (DL (D7 (Pd N4 Ea A1 (A7 Ac (pv 0) A1 (fun _ _=>rfl)) (B3 Bp (by rfl) T.z_len Bo (A0 (pv 1) A2)))))))))
  (Ae (Av CS))
  Bj)
  (A8 (Ai (i:=2) Iw.nd rfl (.inl rfl) (A7 AH (pv 1) (A7 Ac (pv 0) A1 (fun _ _=>rfl)) (fun _ _=>rfl)))
  (A8 (Be (PW.pt (Cy (D7 (Cv (B3 Fn (by rfl) T.z_isinstance Fm (A0 (A7 Ac (pv 0) A1 (fun _ _=>rfl)) (A0 (Fd (v:=.ty "tuple") (by rfl) T.z_tuple Ew rfl) A2))))) (DL (AZ Ek (B3 Bp (by rfl) T.z_len Bo (A0 (A7 Ac (pv 0) A1 (fun _ _=>rfl)) A2)) (B3 Bp (by rfl) T.z_len Bo (A0 (A7 Ac (pv 2) A1 (fun _ _=>rfl)) A2)) (AR _)))))
  (Ae (Av CS))
  Bj)
  (A8 (Br PassesOwn.never rfl (Ce (by rfl) T.z_range (A0 (B3 Bp (by rfl) T.z_len Bo (A0 (A7 Ac (pv 2) A1 (fun _ _=>rfl)) A2)) A2)) (Al (i:=3) Iw.nd rfl (.inl rfl))
  (A8 (Ep (Aj G_l (hr.mono (by lia)) (by rfl) T.m_l T.F_l.kp T.b_l .nil Af (A0 (CM (A0 (A7 Ac (A7 Ac (pv 2) A1 (fun _ _=>rfl)) (pv 3) (fun _ _=>rfl)) (A0 (A7 Ac (A7 Ac (pv 2) A1 (fun _ _=>rfl)) (pv 3) (fun _ _=>rfl)) A2))) (A0 (Aj G_k (hr.mono (by lia)) (by rfl) T.m_k T.F_k.kp T.b_k .nil Af (A0 (A7 Ac (pv 2) A1 (fun _ _=>rfl)) (A0 (Ds Nh (A7 Ac (pv 0) A1 (fun _ _=>rfl)) DH (D9 (pv 3))) A2))) A2))) (BY rfl (AA (Al (i:=4) Iw.nd rfl (.inl rfl)) (AA (Al (i:=5) Iw.nd rfl (.inl rfl)) BS))))
  (Ae (Be (PW.pt (Cy (D7 (Cv (Aj G_d (hr.mono (by lia)) (by rfl) T.m_d T.F_d.kp T.b_d .nil Af (A0 (A7 Ac (A7 Ac (pv 0) A1 (fun _ _=>rfl)) (pv 3) (fun _ _=>rfl)) A2)))) (DL (D7 (Pd N4 N4 (pv 4) (A7 Ac (A7 Ac (pv 0) A1 (fun _ _=>rfl)) (pv 3) (fun _ _=>rfl)) (pv 5))))))
  (Ae (Av CS))
  Bj))))
  (Ae (Av CS)))))),?_⟩
 have xl:=ax.1
 have kl:=(AX.mp hk).1
 obtain⟨v,hv,⟨r,u1,u2,u3,u4,x,ls,hs,rfl,hr1,hu1,hu2,als,hu3,ahs,hu4,tm⟩,_⟩:=ax.get hk
 have ll:=g.len
 have nl:((AV R.S).map V.str).length=R.S.length:=by unfold AV;rw[Aq,Aq]
 refine⟨_,rfl,_,_,_,_,_,rfl,rfl,.tup ht,rfl,_,rfl,AO ?_⟩
 refine⟨_,rfl,t,_,rfl,.inr (A3.of ht),rfl,_,rfl,AG (EA rfl) (AO ?_)⟩
 refine⟨_,rfl,t,_,0,_,rfl,rfl,A3.of ht,rfl,.int (k:Int),rfl,rfl,_,rfl,AO ?_⟩
 refine⟨_,rfl,t,_,0,_,rfl,rfl,A3.of ht,rfl,_,_,rfl,rfl,_,rfl,AG (v:=true) (B6 (by show(0:Int)<=(k:Int);lia)) (BE ?_)⟩
 refine⟨_,rfl,rl,_,rfl,.inl (A5.of hrl),_,_,rfl,rfl,_,rfl,AG (v:=false) (by rw[B6 (by show(k:Int)<(xs.length:Int);lia)];rfl) (AO ?_)⟩
 dsimp only[Dj]
 refine⟨_,rfl,_,rfl,t,_,0,_,rfl,rfl,A3.of ht,rfl,rl,_,_,_,rfl,rfl,A5.of hrl,By hv,?_⟩
 dsimp only[Ag]
 refine⟨_,rfl,t,_,1,_,rfl,rfl,A3.of ht,rfl,_,_,_,_,_,rfl,rfl,.tup hu,rfl,_,rfl,AO ?_⟩
 refine⟨_,rfl,t,_,1,_,rfl,rfl,A3.of ht,rfl,u,_,rfl,.inr (A3.of hu),_,rfl,r,_,0,_,rfl,rfl,A3.of hr1,rfl,u1,_,rfl,.inr (A3.of hu1),rfl,_,rfl,AG (EA (by rw[nl,Aq,wl])) (AO ?_)⟩
 dsimp only[Dj]
 refine⟨_,rfl,r,_,0,_,rfl,rfl,A3.of hr1,rfl,u1,_,rfl,.inr (A3.of hu1),_,rfl,by rw[nl];lia,by rw[nl];lia,?_⟩
 rw[nl,Em]
 refine CN (lo:=0) (n:=R.S.length) (fun i σ' H'=>A9 H H'/\∃o3 o4 o5,σ'=[some (.ref t),some (.ref rl),some (.ref r),o3,o4,o5]) ⟨A9.refl _,_,_,_,rfl⟩ (fun i σ' H' hi pp=>?_) (fun σ' H' pp=>?_)
 rotate_left
 .obtain⟨e,_⟩:=pp
  exact q _ e
 obtain⟨e,o3,o4,o5,rfl⟩:=pp
 have hq:R.S[i]?=some R.S[i]:=AL hi
 generalize R.S[i]=qq at hq
 obtain⟨v1,hv1,t1,rfl,ht1⟩:=als.get hq
 obtain⟨v2,hv2,t2,rfl,ht2⟩:=ahs.get hq
 have i0:(0:Int)+(i:Int)=(i:Int):=En _
 have g1:=e _ _ hr1
 dsimp only[Ag]
 refine⟨_,rfl,r,_,1,_,rfl,rfl,A3.of g1,rfl,_,rfl,u2,_,_,_,rfl,rfl,A3.of (e _ _ hu2),by rw[i0];exact By hv1,_,rfl,r,_,2,_,rfl,rfl,A3.of g1,rfl,_,rfl,u3,_,_,_,rfl,rfl,A3.of (e _ _ hu3),by rw[i0];exact By hv2,Ak rfl,fun sp hsp=>?_⟩
 have s1:=Aa hsp (.tup [V.ref t1,V.ref t2])
 have hsp1:(upd H' sp (.tup [V.ref t1,V.ref t2])) sp=some (.tup [V.ref t1,V.ref t2]):=A6
 generalize upd H' sp (.tup [V.ref t1,V.ref t2])=H1 at s1 hsp1
 have e1:=e.trans s1
 refine⟨_,rfl,r,_,0,_,rfl,rfl,A3.of (e1 _ _ hr1),rfl,_,rfl,t,_,1,_,rfl,rfl,A3.of (e1 _ _ ht),rfl,_,rfl,_,rfl,u,_,rfl,e1 _ _ hu,fun sl H2 e2 hsl=>?_⟩
 have cut:C2 (ws.map V.int) none (some (0+(i:Int)))=(ws.take i).map V.int:=by
  rw[i0,show C2 (ws.map V.int) none (some (i:Int))=(ws.map V.int).take (i:Int).toNat from IX (ws.map V.int) (Ha _),Em,List.map_take]
 rw[cut]at hsl
 have e12:=e1.trans e2
 have tl:(ws.take i).length=i:=by rw[Bg];lia
 have nml:=EV R.S
 refine⟨u1,sl,AV R.S,ws.take i,rfl,e12 _ _ hu1,hsl,by lia,by lia,g.nd,fun d kvs H3 e3 hd3 ar=>?_⟩
 have e13:=e12.trans e3
 obtain⟨b1,sb1,bv1⟩:=Qh g.bl hi tl ar
 obtain⟨b2,sb2,bv2⟩:=Qh g.bh hi tl ar
 have bv1:=bv1.take
 have bv2:=bv2.take
 obtain⟨b,b',z1,z2,z3,z4⟩:=wb i hi
 rw[BV.inj g.nd z1 bv1]at z3
 rw[BV.inj g.nd z2 bv2]at z4
 have el:Dg R.S i=qq.lz:=by unfold Dg;rw[hq];rfl
 have eh:Dw R.S i=qq.hz:=by unfold Dw;rw[hq];rfl
 have eln:Da R.S i=qq.ln:=by unfold Da;rw[hq];rfl
 have ehn:DV R.S i=qq.hn:=by unfold DV;rw[hq];rfl
 rw[el]at sb1
 rw[eh]at sb2
 rw[eln]at z3
 rw[ehn]at z4
 refine⟨sp,d,2,_,_,_,kvs,rfl,Xf ((e2.trans e3) _ _ hsp1) (e13 _ _ ht1) (e13 _ _ ht2),by decide,hd3,Sd sb1 sb2,fun p H4 e4 hp=>?_⟩
 have hp:H4 p=some (.tup [V.int (b1+qq.ln),V.int (b2+qq.hn)]):=hp
 have e14:=e13.trans e4
 refine⟨p,_,rfl,A3.of hp,rfl,_,_,rfl,_,_,rfl,rfl,?_⟩
 have atw:B8 (ws.map V.int) (0+(i:Int))=some (.int (ws.getD i 0)):=by
  rw[i0]
  exact FD (ns:=ws) (k:=(i:Int)) (Ha _) (by lia)
 refine⟨_,rfl,t,_,1,_,rfl,rfl,A3.of (e14 _ _ ht),rfl,_,rfl,u,_,_,_,rfl,rfl,A3.of (e14 _ _ hu),atw,.int _,rfl,rfl,_,rfl,AO ?_⟩
 refine⟨_,rfl,_,rfl,t,_,1,_,rfl,rfl,A3.of (e14 _ _ ht),rfl,_,rfl,u,_,_,_,rfl,rfl,A3.of (e14 _ _ hu),atw,_,_,rfl,rfl,_,rfl,AG (v:=true) (B6 z3) (BE ?_)⟩
 refine⟨_,rfl,_,_,rfl,rfl,_,rfl,AG (v:=false) (by rw[B6 z4];rfl) (AO ?_)⟩
 exact⟨e14,_,_,_,rfl⟩
theorem Vn (T:Tx K mg a):AB P w K mg base AI 106 a.f_n a.d_n ["program"] (V8 a.c_Program a.c_Deed (CH a)):=by
 have G_L :=@TC P w K mg base a T
 have G_J :=@UJ P w K mg base a T
 have G_M :=@S7 P w K mg base a T
 refine T.F_n.ok FP (fun vs H Q E h=>?_) (fun cdv A outer s H vs Q E hr h=>?_)
 .obtain⟨_,_,_,_,_,_,_,rfl,_⟩:=h;rfl
 obtain⟨x,dx,dl,sz,xs,Rs,Df,rfl,hx,hdl,ax,rb,ok,R6,df,q⟩:=h
 refine⟨_,(A8 (Ai (i:=1) FP.nd rfl (.inl rfl) (B9 A2))
  (A8 (Br PassesOwn.never rfl (CK (Aj G_L (hr.mono (by lia)) (by rfl) T.m_L T.F_L.kp T.b_L .nil Af (A0 (pv 0) A2))) (BY rfl (AA (Al (i:=2) FP.nd rfl (.inl rfl)) (AA (Al (i:=3) FP.nd rfl (.inl rfl)) (AA (Al (i:=4) FP.nd rfl (.inl rfl)) (AA (Al (i:=5) FP.nd rfl (.inl rfl)) (AA (Al (i:=6) FP.nd rfl (.inl rfl)) BS))))))
  (A8 (Ai (i:=7) FP.nd rfl (.inl rfl) (Aj G_J (hr.mono (by lia)) (by rfl) T.m_J T.F_J.kp T.b_J .nil Af (A0 (pv 0) (A0 (pv 2) (A0 (pv 3) (A0 (pv 4) (A0 (pv 5) (A0 (pv 6) A2))))))))
  (Ae (BP (BR BX Cq Cr Ca (pv 1) (A0 (BB (Ab (pv 2) (Ab (pv 3) (Ab (pv 4) (Ab (pv 5) (Ab (pv 6) (Ab (Aj G_M (hr.mono (by lia)) (by rfl) T.m_M T.F_M.kp T.b_M .nil Af (A0 (pv 0) (A0 (pv 2) (A0 (pv 4) (A0 (pv 7) A2))))) Bm Fi) AK) AK) AK) AK) AK)) A2))))))
  (Ae (Av (pv 1))))),?_⟩
 refine⟨Ak rfl,fun fo hfo=>?_⟩
 have s1:=Aa hfo (.lst [])
 have hf1:(upd H fo (.lst [])) fo=some (.lst []):=A6
 dsimp only[Ag]
 generalize upd H fo (.lst [])=H1 at s1 hf1
 have okm:∀R∈Rs.map R3.r5,R.Ok:=fun R hR=>by
  obtain⟨R0,h0,rfl⟩:=D5.mp hR
  exact ok R0 h0
 have hP:∀HX,A9 H HX->G7 a.c_Program a.c_Deed (CH a) HX (.ref x) (Rs.map R3.r5):=fun HX e=>⟨x,dx,dl,_,xs,rfl,e _ _ hx,e _ _ hdl,JY (ax.mono fun _ _ z=>(z.over e).d5)⟩
 refine⟨_,rfl,.ref x,Rs.map R3.r5,rfl,hP _ s1,okm,by rw[Aq];exact R6,fun mr ms H2 e2 mr1 hms am=>?_⟩
 have nmf:mr≠fo:=fun z=>by rw[z,hf1]at mr1;cases mr1
 have e02:=s1.trans e2
 have ml:(Ee (Rs.map R3.r5)).length<=4*34596:=by
  have:=Ky okm (Pm.mt (Ba (Rs.map R3.r5)))
  have:=N9 (Gz okm (by rw[Aq];exact R6))
  unfold Ee
  lia
 have msl:=am.1
 have mm:=fun d h=>PQ (H:=H) (Rs:=Rs) (Df:=Df) (d:=d) df h
 unfold Fz at q
 generalize Ee (Rs.map R3.r5)=L at am mm ml msl q
 refine⟨mr,rfl,⟨_,A5.of hms⟩,?_⟩
 refine EU (xs:=ms) (fun i σ' H'=>∃(zs:List V) (o2 o3 o4 o5 o6 o7:Option V),σ'=[some (.ref x),some (.ref fo),o2,o3,o4,o5,o6,o7]/\Bt fo H2 H'/\H' fo=some (.lst zs)/\Ar (fun y d=>Hw (wo H' fo) y d (GK Rs Df d)) zs (L.take i)) ⟨[],_,_,_,_,_,_,rfl,fun _ _ _ h=>h,e2 _ _ hf1,.nil⟩ (fun i σ' H' _ pp=>by obtain⟨_,_,_,_,_,_,_,_,b,_⟩:=pp;exact A5.of (b _ _ nmf hms)) (fun i y σ' H' hy pp=>?_) (fun σ' H' pp=>?_)
 rotate_left
 .obtain⟨zs,o2,o3,o4,o5,o6,o7,rfl,b,hz,az⟩:=pp
  rw[msl,DS]at az
  exact⟨_,rfl,q fo zs _ (fun x o hx=>b _ _ (AC hx hfo) (e02 _ _ hx)) hfo hz az⟩
 obtain⟨zs,o2,o3,o4,o5,o6,o7,rfl,b,hz,az⟩:=pp
 obtain⟨d,hd,t,rfl,ht⟩:=am.get' hy
 have li:=(AX.mp hd).1
 obtain⟨R,R',r,r',hR,hr1,hR',hr2,hS,hS',cd,cl,cs⟩:=mm d (Bh hd)
 have e0:A9 H H':=fun x o hx=>b _ _ (AC hx hfo) (e02 _ _ hx)
 have tk2:=b.tk (e2 _ _ hf1)
 have ht':=tk2 _ _ ht
 have azl:=az.1
 rw[Bg]at azl
 have g:=rb R (Bh hR)
 have g':=rb R' (Bh hR')
 refine⟨t,_,rfl,A3.of ht',rfl,_,_,rfl,_,_,rfl,_,_,rfl,_,_,rfl,_,_,rfl,rfl,?_⟩
 dsimp only[Ag]
 refine⟨_,rfl,_,rfl,_,rfl,_,rfl,_,rfl,_,rfl,x,dx,dl,sz,xs,Rs,R,R',r,r',d.1.1,d.1.2.1,d.1.2.2.1,d.1.2.2.2,d.2,Df d.1,rfl,e0 _ _ hx,e0 _ _ hdl,ax.mono fun _ _ z=>z.over e0,hR,hR',g,g',ok R (Bh hR),ok R' (Bh hR'),hr1,hr2,hS.over e0,hS'.over e0,cd,cs,fun bo bs H3 e3 hbo tr=>?_⟩
 dsimp only[Ag]
 have hz3:=e3 _ _ hz
 have e03:=e0.trans e3
 have k1:(Df d.1).s<=R.S.length:=cd.pf.1
 have bl:=NT (R:=R) (R':=R') (D:=Df d.1) (case:=d.2) g.len g'.len cd.m3 (by have:=g.len;lia)
 refine⟨_,rfl,.inl ⟨rfl,_,A5.of hz3⟩,_,rfl,_,rfl,_,rfl,_,rfl,_,rfl,_,rfl,_,rfl,_,rfl,_,rfl,x,dx,dl,sz,xs,Rs,R,R',d.1.1,d.1.2.2.1,bo,bs,_,rfl,e03 _ _ hx,e03 _ _ hdl,ax.mono fun _ _ z=>z.over e03,hR,hR',g.len,g'.len,hbo,tr,bl,NB g g' cd cs,fun v H4 e4 an=>⟨Ak rfl,fun t5 ht5=>?_⟩⟩
 have an:=an fo zs hz3
 rw[←OJ (Df:=Df) (d:=d) hR hR']at an
 have s5:=Aa ht5 (.tup [V.int (d.1.1:Int),V.int (d.1.2.1:Int),V.int (d.1.2.2.1:Int),V.int (d.1.2.2.2:Int),V.int (d.2:Int),V.ref v])
 have hz5:=(e4.trans s5) _ _ hz3
 have nt5:t5≠fo:=fun z=>by rw[z,e4 _ _ hz3]at ht5;cases ht5
 refine⟨fo,_,_,rfl,rfl,hz5,C5 (by lia),?_⟩
 refine⟨zs++[.ref t5],_,_,_,_,_,_,rfl,(b.trans (Bt.same (e3.trans (e4.trans s5)))).trans Bt.put,A6,?_⟩
 rw[OA,CJ hd]
 refine(az.mono fun _ _ z=>z.over (Mu (e3.trans (e4.trans s5)))).snoc ⟨t5,v,rfl,?_,an.over (Mu s5)⟩
 rw[GN nt5]
 exact A6
theorem T3 (T:Tx K mg a):AB P w K mg base AI 105 a.f_3 a.d_3 ["_law_rows_here"] Tc:=by
 have G_U :=@X2 P w K mg base a T
 have G_V :=@SV P w K mg base a T
 refine T.F_3.ok GG (fun vs H Q E h=>?_) (fun cdv A outer s H vs Q E hr h=>?_)
 .obtain⟨_,_,rfl,_⟩:=h;rfl
 obtain⟨l,Rs,rfl,hP,ok,R6,q⟩:=h
 refine⟨_,(A8 (Ai (i:=1) GG.nd rfl (.inl rfl) (B9 A2))
  (A8 (Br PassesOwn.never rfl (CK (Aj G_U (hr.mono (by lia)) (by rfl) T.m_U T.F_U.kp T.b_U .nil Af (A0 (pv 0) A2))) (BY rfl (AA (Al (i:=2) GG.nd rfl (.inl rfl)) (AA (Al (i:=3) GG.nd rfl (.inl rfl)) (AA (Al (i:=4) GG.nd rfl (.inl rfl)) (AA (Al (i:=5) GG.nd rfl (.inl rfl)) BS)))))
  (Ae (Br PassesOwn.never rfl (CK (Aj G_V (hr.mono (by lia)) (by rfl) T.m_V T.F_V.kp T.b_V .nil Af (A0 (pv 0) (A0 (pv 2) (A0 (pv 4) A2))))) (Al (i:=6) GG.nd rfl (.inl rfl))
  (Ae (BP (BR BX Cq Cr Ca (pv 1) (A0 (BB (Ab (pv 2) (Ab (pv 3) (Ab (pv 4) (Ab (pv 5) (Ab (pv 6) Bm AK) AK) AK) AK) AK)) A2)))))))
  (Ae (Av (pv 1))))),?_⟩
 refine⟨Ak rfl,fun fo hfo=>?_⟩
 have s1:=Aa hfo (.lst [])
 have hf1:(upd H fo (.lst [])) fo=some (.lst []):=A6
 dsimp only[Ag]
 generalize upd H fo (.lst [])=H1 at s1 hf1
 refine ⟨_,rfl,l,Rs,rfl,hP.over s1,ok,R6,fun mr H2 e2 mr1 zz=>?_⟩
 obtain⟨ms,hms,am⟩:=zz
 have nmf:mr≠fo:=fun z=>by rw[z,hf1]at mr1;cases mr1
 have e02:=s1.trans e2
 have mm:=fun q h=>P8 (Rs:=Rs) (q:=q) h
 have ml:=N9 (Gz ok R6)
 have msl:=am.1
 unfold Ee at q
 generalize Pm.mt (Ba Rs)=L at am mm ml msl q
 refine⟨mr,rfl,⟨_,A5.of hms⟩,?_⟩
 refine EU (xs:=ms) (fun i σ' H'=>∃(zs:List V) (o2 o3 o4 o5 o6:Option V),σ'=[some (.ref l),some (.ref fo),o2,o3,o4,o5,o6]/\Bt fo H2 H'/\H' fo=some (.lst zs)/\Ar (Eh H') zs ((L.take i).flatMap (Dr Rs))) ⟨[],_,_,_,_,_,rfl,fun _ _ _ h=>h,e2 _ _ hf1,.nil⟩ (fun i σ' H' _ pp=>by obtain⟨_,_,_,_,_,_,_,b,_⟩:=pp;exact A5.of (b _ _ nmf hms)) (fun i y σ' H' hy pp=>?_) (fun σ' H' pp=>?_)
 rotate_left
 .obtain⟨zs,o2,o3,o4,o5,o6,rfl,b,hz,az⟩:=pp
  rw[msl,DS]at az
  exact⟨_,rfl,q fo zs _ (fun x o hx=>b _ _ (AC hx hfo) (e02 _ _ hx)) hz az⟩
 obtain⟨zs,o2,o3,o4,o5,o6,rfl,b,hz,az⟩:=pp
 obtain⟨q4,hq4,t,rfl,ht⟩:=am.get' hy
 have li:=(AX.mp hq4).1
 obtain⟨R,S,hR,hS⟩:=mm q4 (Bh hq4)
 have e0:A9 H H':=fun x o hx=>b _ _ (AC hx hfo) (e02 _ _ hx)
 have tk2:=b.tk (e2 _ _ hf1)
 have ht':=tk2 _ _ ht
 refine⟨t,_,rfl,A3.of ht',rfl,_,_,rfl,_,_,rfl,_,_,rfl,_,_,rfl,rfl,?_⟩
 dsimp only[Ag]
 have d1:=OG (Rs:=Rs) hq4
 have dl:=Ky ok (L.take i)
 have tl:(L.take i).length<=34596:=by rw[Bg];lia
 have azl:=az.1
 rw[d1]
 have e1:Dr Rs q4=(List.range (C0 q4.1 q4.2.2.1 (EL R S))).map fun e=>(q4,e):=by unfold Dr;rw[Ng hR hS]
 have cl4:C0 q4.1 q4.2.2.1 (EL R S)<=4:=by
  have:=(Ic R S).1
  have:=(ok R (Bh hR)).n3
  unfold C0
  split<;>lia
 rw[e1]
 generalize (L.take i).flatMap (Dr Rs)=done at az azl dl
 refine⟨_,rfl,_,rfl,_,rfl,l,Rs,q4.1,q4.2.2.1,EL R S,R,S,rfl,hP.over e0,ok,hR,hS,Ic R S,fun cr H3 e3 cr0 hcr=>?_⟩
 have ncf:cr≠fo:=fun z=>by rw[z,hz]at cr0;cases cr0
 refine⟨cr,rfl,⟨_,A5.of hcr⟩,?_⟩
 refine EU (xs:=(List.range (C0 q4.1 q4.2.2.1 (EL R S))).map fun i:Nat=>V.int (i:Int)) (fun j σ' H4=>∃(zs:List V) (o6:Option V),σ'=[some (.ref l),some (.ref fo),some (.int (q4.1:Int)),some (.int (q4.2.1:Int)),some (.int (q4.2.2.1:Int)),some (.int (q4.2.2.2:Int)),o6]/\Bt fo H3 H4/\H4 fo=some (.lst zs)/\Ar (Eh H4) zs (done++(List.range j).map fun e=>(q4,e))) ⟨zs,_,rfl,fun _ _ _ h=>h,e3 _ _ hz,by rw[List.range_zero,Io,DA];exact az.mono fun _ _ z=>z.over e3⟩ (fun j σ' H4 _ pp=>by obtain⟨_,_,_,b4,_⟩:=pp;exact A5.of (b4 _ _ ncf hcr)) (fun j y σ' H4 hy pp=>?_) (fun σ' H4 pp=>?_)
 .obtain⟨zs2,o6,rfl,b4,hz4,az4⟩:=pp
  have lj:=(AX.mp hy).1
  rw[Aq,CL]at lj
  rw[BG,Jw lj]at hy
  have ey:y = .int (j:Int):=(Cg hy).symm
  subst ey
  have z4l:=az4.1
  rw[Az,Aq,CL]at z4l
  dsimp only[Ag]
  refine⟨_,rfl,.inl ⟨rfl,_,A5.of hz4⟩,_,rfl,_,rfl,_,rfl,_,rfl,_,rfl,Ak rfl,fun t5 ht5=>?_⟩
  have s5:=Aa ht5 (.tup [V.int (q4.1:Int),V.int (q4.2.1:Int),V.int (q4.2.2.1:Int),V.int (q4.2.2.2:Int),V.int (j:Int)])
  have hz5:=s5 _ _ hz4
  refine⟨fo,_,_,rfl,rfl,hz5,C5 (by lia),?_⟩
  have tk6:=TK.upd (o:=.lst (zs2++[V.ref t5])) hz5
  refine⟨zs2++[.ref t5],_,rfl,(b4.trans (Bt.same s5)).trans Bt.put,A6,?_⟩
  rw[FL,Bq,←DR]
  exact(az4.mono fun _ _ z=>(z.over s5).tk tk6).snoc ⟨t5,rfl,tk6 _ _ A6⟩
 obtain⟨zs2,o6',rfl,b4,hz4,az4⟩:=pp
 rw[Aq,CL]at az4
 exact⟨zs2,_,_,_,_,_,rfl,(b.trans (Bt.same e3)).trans b4,hz4,az4⟩
theorem X9 (T:Tx K mg a):AB P w K mg base AI 2 a.f_Y a.d_Y ["_law_found","_law_bonds"] US:=by
 have G_d :=@M8 P w K mg base a T
 refine T.F_Y.ok IR (fun vs H Q E h=>?_) (fun cdv A outer s H vs Q E hr h=>?_)
 .obtain⟨_,_,_,_,_,_,rfl,_⟩:=h;rfl
 obtain⟨r,bl,ys,bs,L,B,rfl,hr1,tL,hbl,tB,ring,B1,q⟩:=h
 refine⟨_,(A8 (Be (PW.pt (Cy (D7 (Cv (B3 Fn (by rfl) T.z_isinstance Fm (A0 (pv 0) (A0 (Fd (v:=.ty "list") (by rfl) T.z_list J4 rfl) A2))))) (DL (AZ (Mc (Jo hr)) (pv 0) (B9 A2) (AR _)))))
  (Ae (Av CS))
  Bj)
  (A8 (Br PassesOwn.never rfl (CK (pv 0)) (Al (i:=2) IR.nd rfl (.inl rfl))
  (A8 (Be (PW.pt (Cy (D7 (Cv (B3 Fn (by rfl) T.z_isinstance Fm (A0 (pv 2) (A0 (Fd (v:=.ty "tuple") (by rfl) T.z_tuple Ew rfl) A2))))) (Cy (AZ Ek (B3 Bp (by rfl) T.z_len Bo (A0 (pv 2) A2)) A1 (AR _)) (DL (AZ Ek (B3 Bp (by rfl) T.z_len Bo (A0 (DZ ["_law_n"] [none] (by rfl) (KS (pv 2)) Wm (fun _ _ _ _ _ _=>⟨(Al (i:=0) XR rfl (.inl rfl)),(by exact(JO (Cv (Aj G_d (hr.mono (by lia)) (by rfl) T.m_d T.F_d.kp T.b_d .nil Af (A0 (pv 0) A2))))),(pv 0)⟩)) A2)) A1 (AR _))))))
  (Ae (Av CS))
  Bj)
  (Ae (Be (AZ (show BF _ _ (Ol K true) from Vp (Jo hr)) (pv 2) (pv 1) (by with_unfolding_all rfl))
  (Ae (Av CS))
  Bj))))
  (A8 (Ai (i:=3) IR.nd rfl (.inl rfl) A1)
  (A8 (Br PassesOwn.never rfl (Ce (by rfl) T.z_range (A0 (B3 Bp (by rfl) T.z_len Bo (A0 (pv 0) A2)) A2)) (Al (i:=4) IR.nd rfl (.inl rfl))
  (A8 (Be (AZ Ek (A7 Ac (A7 AH (pv 0) (Ah DF (pv 4) A1) (fun _ _=>rfl)) A1 (fun _ _=>rfl)) (A7 Ac (A7 AH (pv 0) (pv 4) (fun _ _=>rfl)) A1 (fun _ _=>rfl)) (AR _))
  (Ae (Av CS))
  Bj)
  (Ae (Ai (i:=3) IR.nd rfl (.inl rfl) (Ah B2 (pv 3) (A7 Ac (A7 AH (pv 0) (pv 4) (fun _ _=>rfl)) A1 (fun _ _=>rfl)))))))
  (Ae (Av (ET Ea (pv 3) A1 (AR _)))))))),?_⟩
 have Ll:=ring.le
 have L0:=ring.pos
 have yl:=tL.1
 refine⟨_,rfl,_,_,_,_,_,rfl,rfl,.lst hr1,rfl,_,rfl,AO ?_⟩
 refine⟨_,rfl,Ak rfl,fun l hl=>?_⟩
 have s1:=Aa hl (.lst [])
 refine⟨_,_,.lst (A5.of (s1 _ _ hr1)) (Mh (tL.over s1)),.lst (A5.of A6) .nil,⟨_,rfl⟩,⟨_,rfl⟩,(by rw[C4];cases L<;>rfl),(by rw[Ct];have:=LY L;lia),_,rfl,?_⟩
 refine AG (v:=false) ?_ (AO ?_)
 .cases L with
  |nil=>cases L0
  |cons x L=>rfl
 dsimp only[Dj]
 generalize upd H l (.lst [])=H1 at s1
 refine ED (fun σ' H'=>A9 H H'/\∃o2 o3 o4,σ'=[some (.ref r),some (.ref bl),o2,o3,o4]) (fun σ' H2 pp=>?_) (fun nx=>?_)
 rotate_left
 .refine⟨_,rfl,r,rfl,⟨_,A5.of (s1 _ _ hr1)⟩,?_⟩
  refine EU (xs:=ys) (fun i σ' H'=>A9 H H'/\∃o2,σ'=[some (.ref r),some (.ref bl),o2,none,none]) ⟨s1,_,rfl⟩ (fun i σ' H' _ pp=>A5.of (pp.1 _ _ hr1)) (fun i x σ' H' hx pp=>?_) (fun σ' H' pp=>nx _ _ ⟨pp.1,(let ⟨o,h⟩:=pp.2;⟨o,_,_,h⟩)⟩)
  obtain⟨e,o2,rfl⟩:=pp
  have hi:i<L.length:=by have:=(AX.mp hx).1;lia
  have gL:L[i]?=some L[i]:=AL hi
  obtain⟨t,rfl,ht⟩:=(tL.over e).2 i x _ hx gL
  have mb:=ring.mem _ (Bh gL)
  generalize L[i]=b at ht mb
  dsimp only[Ag]
  refine⟨_,rfl,_,_,_,_,_,rfl,rfl,.tup ht,rfl,_,rfl,AO ?_⟩
  refine⟨_,rfl,t,_,rfl,.inr (A3.of ht),rfl,_,rfl,AG (EA rfl) (AO ?_)⟩
  refine⟨_,rfl,t,rfl,⟨_,A3.of ht⟩,?_⟩
  refine Me (xs:=[V.int b.1,V.int b.2.1,V.int b.2.2]) (fun j zs H2=>H2=H'/\zs.length=j) ⟨rfl,rfl⟩ (Ak rfl) (fun j zs H2 hj p=>⟨by rw[p.1];exact A3.of ht,by lia⟩) (fun j x zs H2 hx p=>?_) (fun zs H2 p r2 hr2=>?_)
  .obtain⟨rfl,zl⟩:=p
   obtain⟨n,rfl⟩:∃n,x=V.int n:=by
    have:=Bh hx
    simp only[Bv,DB,or_false]at this
    rcases this with rfl|rfl|rfl<;>exact⟨_,rfl⟩
   exact⟨_,rfl,_,rfl,rfl,_,rfl,BE ⟨_,rfl,rfl,by rw[Az,zl];rfl⟩⟩
  obtain⟨rfl,zl⟩:=p
  have s3:=Aa hr2 (.lst zs)
  refine⟨r2,_,rfl,.inl (A5.of A6),rfl,_,rfl,AG (EA (congrArg (fun n:Nat=>V.int (n:Int)) zl)) (AO ?_)⟩
  dsimp only[Dj]
  generalize upd H2 r2 (.lst zs)=H3 at s3
  have e3:=e.trans s3
  have inB:Ar (GO K H3) bs (B.map fun b=>[b.1,b.2.1,b.2.2]):=by
   refine⟨by rw[Aq];exact tB.1,fun k v P hv hP=>?_⟩
   rw[BG]at hP
   obtain⟨b',hb',rfl⟩:=Ju.mp hP
   obtain⟨t',e',ht'⟩:=(tB.over e3).2 k v b' hv hb'
   exact⟨t',e',A3.of ht'⟩
  refine⟨_,rfl,_,rfl,bl,bs,[b.1,b.2.1,b.2.2],_,⟨t,rfl,A3.of (s3 _ _ ht)⟩,rfl,A5.of (e3 _ _ hbl),inB,_,rfl,AG (v:=false) ?_ (AO ⟨e3,_,rfl⟩)⟩
  rw[Ax rfl,B6 (D5.mpr ⟨b,mb,rfl⟩)]
  rfl
 obtain⟨e,o2,o3,o4,rfl⟩:=pp
 refine IY ?_
 have hr2:=e _ _ hr1
 have tL2:=tL.over e
 refine⟨_,rfl,r,_,rfl,.inl (A5.of hr2),_,rfl,by lia,by lia,?_⟩
 rw[Em]
 refine CN (lo:=0) (n:=ys.length) (fun i σ' H'=>H'=H2/\∃o4,σ'=[some (.ref r),some (.ref bl),o2,some (.int (((L.take i).map fun b=>b.2.2).sum)),o4]) ⟨rfl,_,rfl⟩ (fun i σ' H' hi pp=>?_) (fun σ' H' pp=>?_)
 rotate_left
 .obtain⟨rfl,o4,rfl⟩:=pp
  rw[EZ (by lia)]
  refine⟨_,rfl,_,_,rfl,rfl,?_⟩
  have:=q _ e
  rw[←B6 ring.neg]at this
  exact this
 obtain⟨rfl,o4,rfl⟩:=pp
 have gd:∀j (hj:j<L.length),∃t,ys[j]?=some (.ref t)/\H' t=some (.tup [.int (L.getD j (0,0,0)).1,.int (L.getD j (0,0,0)).2.1,.int (L.getD j (0,0,0)).2.2]):=fun j hj=>by
  obtain⟨t,a,b⟩:=tL2.get (AL hj)
  refine⟨t,a,?_⟩
  rw[Cp,AL hj]
  exact b
 obtain⟨t1,hy1,ht1⟩:=gd i (by lia)
 obtain⟨t0,at0,b0,ht0,eb⟩:∃(t0:Addr) (_:B8 ys (0+(i:Int)-1)=some (.ref t0)) (b0:Bb),H' t0=some (.tup [.int b0.1,.int b0.2.1,.int b0.2.2])/\b0.2.1=(L.getD i (0,0,0)).1:=by
  by_cases z:i=0
  .subst z
   obtain⟨t,a,b⟩:=gd (L.length-1) (by lia)
   refine⟨t,?_,_,b,ring.bk⟩
   obtain⟨ys',y,rfl,yl'⟩:=F6 (l:=ys) (n:=ys.length-1) (by lia)
   rw[Az,BI]at yl
   rw[DQ (by lia),show L.length-1-ys'.length=0 by lia]at a
   have ey:y = .ref t:=Cg a
   rw[ey]
   exact K2 ys' (.ref t)
  .obtain⟨t,a,b⟩:=gd (i-1) (by lia)
   refine⟨t,?_,_,b,?_⟩
   .rw[show(0+(i:Int)-1)=((i-1:Nat):Int) by lia]
    exact By a
   .have:=ring.ch (i-1) (by lia)
    rwa [show i-1+1=i by lia]at this
 have at1:B8 ys (0+(i:Int))=some (.ref t1):=by rw[En];exact By hy1
 dsimp only[Ag]
 refine⟨_,rfl,_,rfl,_,_,rfl,rfl,r,_,_,_,rfl,rfl,A5.of hr2,at0,t0,_,1,_,rfl,rfl,A3.of ht0,rfl,_,rfl,_,rfl,r,_,_,_,rfl,rfl,A5.of hr2,at1,t1,_,0,_,rfl,rfl,A3.of ht1,rfl,rfl,_,rfl,AG (v:=false) (EA (congrArg V.int eb)) (AO ?_)⟩
 dsimp only[Dj]
 have es:((L.take (i+1)).map fun b=>b.2.2).sum=((L.take i).map fun b=>b.2.2).sum+(L.getD i (0,0,0)).2.2:=by
  rw[CJ (AL (show i<L.length by lia)),Bq,List.sum_append,Cp,AL (show i<L.length by lia)]
  show _+(L[i].2.2+0)=_+L[i].2.2
  rw[Int.add_zero]
 rw[es]
 exact⟨_,rfl,_,rfl,_,rfl,r,_,_,_,rfl,rfl,A5.of hr2,at1,t1,_,2,_,rfl,rfl,A3.of ht1,rfl,_,_,rfl,rfl,rfl,some (.int (0+(i:Int))),rfl⟩
theorem UN (T:Tx K mg a):AB P w K mg base AI 104 a.f_Z a.d_Z ["_law_rows_here","_law_told","_law_lean"] W5:=by
 have G_u :=@Ya P w K mg base a T
 have G_W :=@Xp P w K mg base a T
 have G_b :=@KM P w K mg base a T
 have G_l :=@Ow P w K mg base a T
 have G_k :=@PR P w K mg base a T
 refine T.F_Z.ok F2 (fun vs H Q E h=>?_) (fun cdv A outer s H vs Q E hr h=>?_)
 .obtain⟨_,_,_,_,_,_,_,_,_,_,_,_,_,_,_,rfl,_⟩:=h;rfl
 obtain⟨rl,lt,t,x,y,Rs,M,d,R,R',r,r',D,W,W',rfl,lean,ht,hx,hy,wl,wl',hall,q⟩:=h
 refine⟨_,(A8 (Ep (pv 2) (BY rfl (AA (Al (i:=3) F2.nd rfl (.inl rfl)) (AA (Al (i:=4) F2.nd rfl (.inl rfl)) (AA (Al (i:=5) F2.nd rfl (.inl rfl)) (AA (Al (i:=6) F2.nd rfl (.inl rfl)) (AA (Al (i:=7) F2.nd rfl (.inl rfl)) BS)))))))
  (A8 (Ai (i:=8) F2.nd rfl (.inl rfl) (CM (A0 (pv 3) (A0 (A7 Ac (pv 1) A1 (fun _ _=>rfl)) A2))))
  (A8 (Ai (i:=9) F2.nd rfl (.inl rfl) (CM (A0 (pv 5) (A0 (A7 Ac (pv 1) A1 (fun _ _=>rfl)) A2))))
  (A8 (Be (PW.pt (Cy (D7 (Cv (Aj G_u (hr.mono (by lia)) (by rfl) T.m_u T.F_u.kp T.b_u .nil Af (A0 (pv 8) (A0 (pv 0) A2))))) (Cy (D7 (Cv (Aj G_u (hr.mono (by lia)) (by rfl) T.m_u T.F_u.kp T.b_u .nil Af (A0 (pv 9) (A0 (pv 0) A2))))) (DL (AZ Ek (Aj G_W (hr.mono (by lia)) (by rfl) T.m_W T.F_W.kp T.b_W .nil Af (A0 (pv 0) (A0 (pv 8) (A0 (pv 9) A2)))) (pv 7) (AR _))))))
  (Ae (Av CS))
  Bj)
  (A8 (Ai (i:=10) F2.nd rfl (.inl rfl) (Aj G_l (hr.mono (by lia)) (by rfl) T.m_l T.F_l.kp T.b_l .nil Af (A0 (A7 Ac (A7 AH (Aj G_b (hr.mono (by lia)) (by rfl) T.m_b T.F_b.kp T.b_b .nil Af (A0 (A7 AH (pv 0) (pv 3) (fun _ _=>rfl)) A2)) (pv 4) (fun _ _=>rfl)) A1 (fun _ _=>rfl)) (A0 (Aj G_k (hr.mono (by lia)) (by rfl) T.m_k T.F_k.kp T.b_k .nil Af (A0 (A7 Ac (A7 AH (pv 0) (pv 3) (fun _ _=>rfl)) A1 (fun _ _=>rfl)) (A0 (A7 Ac (pv 8) A1 (fun _ _=>rfl)) A2))) A2))))
  (A8 (Ai (i:=11) F2.nd rfl (.inl rfl) (Aj G_l (hr.mono (by lia)) (by rfl) T.m_l T.F_l.kp T.b_l .nil Af (A0 (A7 Ac (A7 AH (Aj G_b (hr.mono (by lia)) (by rfl) T.m_b T.F_b.kp T.b_b .nil Af (A0 (A7 AH (pv 0) (pv 5) (fun _ _=>rfl)) A2)) (pv 6) (fun _ _=>rfl)) A1 (fun _ _=>rfl)) (A0 (Aj G_k (hr.mono (by lia)) (by rfl) T.m_k T.F_k.kp T.b_k .nil Af (A0 (A7 Ac (A7 AH (pv 0) (pv 5) (fun _ _=>rfl)) A1 (fun _ _=>rfl)) (A0 (A7 Ac (pv 9) A1 (fun _ _=>rfl)) A2))) A2))))
  (Ae (Av (ET (Mc (Jo hr)) (pv 10) (pv 11) (AR _)))))))))),?_⟩
 have lean0:=lean
 obtain⟨⟨xs,hrl,ax⟩,R6,⟨lt',elt,hlt⟩,hR,hr1,hR',hr2,g,g',hS,hS',cd,cl,cs⟩:=lean
 cases elt
 obtain⟨in1,in2,pl,eqs,lts⟩:=(Vd g g' cd wl wl' cs).mp hall
 have ca:Kl D.s d.1.1 d.1.2.2.1 W W' d.2:=(Y8 cl).mpr ⟨eqs,lts⟩
 have m3:=cd.m3
 have l3:=g.len
 have l3':=g'.len
 have nml:=EV R.S
 have nml':=EV R'.S
 refine⟨_,rfl,lt,_,rfl,A3.of hlt,rfl,_,_,rfl,_,_,rfl,_,_,rfl,_,_,rfl,_,_,rfl,rfl,?_⟩
 dsimp only[Ag]
 refine⟨_,rfl,_,rfl,t,_,1,_,rfl,rfl,A3.of ht,rfl,Ak rfl,fun o1 ho1=>?_⟩
 have s1:=Aa ho1 (.tup [V.int (d.1.1:Int),V.ref x])
 have ho11:(upd H o1 (.tup [V.int (d.1.1:Int),V.ref x])) o1=some (.tup [V.int (d.1.1:Int),V.ref x]):=A6
 dsimp only[Ag]
 generalize upd H o1 (.tup [V.int (d.1.1:Int),V.ref x])=H1 at s1 ho11
 refine⟨_,rfl,_,rfl,t,_,2,_,rfl,rfl,A3.of (s1 _ _ ht),rfl,Ak rfl,fun o2 ho2=>?_⟩
 have s2:=Aa ho2 (.tup [V.int (d.1.2.2.1:Int),V.ref y])
 have ho22:(upd H1 o2 (.tup [V.int (d.1.2.2.1:Int),V.ref y])) o2=some (.tup [V.int (d.1.2.2.1:Int),V.ref y]):=A6
 have ho12:=s2 _ _ ho11
 have e2:=s1.trans s2
 dsimp only[Ag]
 generalize upd H1 o2 (.tup [V.int (d.1.2.2.1:Int),V.ref y])=H2 at ho22 ho12 e2
 have hRs:∀{HX:Hp},A9 H HX->D4 M HX rl Rs:=fun{HX} e=>⟨xs,e _ _ hrl,ax.mono fun _ _ z=>z.over e⟩
 change DN _ _ _ [some (.ref rl),some (.ref t),some (.ref lt),some (.int (d.1.1:Int)),some (.int (d.1.2.1:Int)),some (.int (d.1.2.2.1:Int)),some (.int (d.1.2.2.2:Int)),some (.int (d.2:Int)),some (.ref o1),some (.ref o2),none,none] _
 refine⟨_,rfl,_,rfl,o1,x,rl,Rs,M,R,d.1.1,W,rfl,ho12,e2 _ _ hx,hRs e2,by lia,hR,g,wl,in1,fun H3 e3=>⟨_,rfl,AO ?_⟩⟩
 have e03:=e2.trans e3
 refine⟨_,rfl,_,rfl,o2,y,rl,Rs,M,R',d.1.2.2.1,W',rfl,e3 _ _ ho22,e03 _ _ hy,hRs e03,by lia,hR',g',wl',in2,fun H4 e4=>⟨_,rfl,AO ?_⟩⟩
 have e04:=e03.trans e4
 have e24:=e3.trans e4
 refine⟨_,rfl,_,rfl,_,rfl,rl,o1,o2,x,y,Rs,M,R,R',d.1.1,d.1.2.2.1,D.s,W,W',rfl,hRs e04,hR,hR',g,g',cd.pf,e24 _ _ ho12,e24 _ _ ho22,e04 _ _ hx,e04 _ _ hy,wl,wl',fun dd H5 e5 hd=>?_⟩
 have ed:dd=some d.2:=(hd d.2).mpr ca
 subst ed
 refine⟨_,rfl,rfl,_,rfl,AG (v:=false) (EA rfl) (AO ?_)⟩
 dsimp only[Dj]
 have e05:=e04.trans e5
 have e25:=e24.trans e5
 obtain⟨y1,hy1,r4⟩:=ax.get hR
 obtain⟨y2,hy2,r4'⟩:=ax.get hR'
 obtain⟨v1,a1,_,_,_,_,_,_,ev1,hv1,ha1,_⟩:=id r4.1
 obtain⟨v2,b1,_,_,_,_,_,_,ev2,hv2,hb1,_⟩:=id r4'.1
 subst ev1
 subst ev2
 refine⟨_,rfl,_,rfl,rl,_,_,_,rfl,rfl,A5.of (e05 _ _ hrl),By hy1,.ref v1,R.r5,rfl,(r4.1.r5).over e05,by have:=g.m3;show R.m<=100;lia,fun q1 H6 e6 _ tc1=>?_⟩
 obtain⟨as1,tp1,fl1,hq1,at1,htp1⟩:=Ih tc1 hr1
 have e06:=e05.trans e6
 refine⟨_,rfl,q1,_,_,_,rfl,rfl,A5.of hq1,at1,tp1,_,2,_,rfl,rfl,A3.of htp1,rfl,_,rfl,_,rfl,rl,_,_,_,rfl,rfl,A5.of (e06 _ _ hrl),By hy1,v1,_,0,_,rfl,rfl,A3.of (e06 _ _ hv1),rfl,_,rfl,o1,_,1,_,rfl,rfl,A3.of ((e25.trans e6) _ _ ho12),rfl,a1,x,AV R.S,W,rfl,e06 _ _ ha1,e06 _ _ hx,by lia,by lia,g.nd,fun d1 kv1 H7 e7 hd1 ar1=>?_⟩
 refine⟨r.2,d1,D.m,D.z1,D.n1,fun i=>(Cc W W').getD (D.x1 i).toNat 0,kv1,rfl,hS.over (e06.trans e7),by lia,hd1,fun i hi=>NO (first:=1) (U:=Cc W W') (W:=W) (GZ _) rfl (fun j hj=>ID hj) wl ar1 (cd.hx1 i hi),fun p1 H8 e8 hp1=>?_⟩
 have e08:=e06.trans (e7.trans e8)
 have e28:=e25.trans (e6.trans (e7.trans e8))
 dsimp only[Ag]
 change DN _ _ _ [some (.ref rl),some (.ref t),some (.ref lt),some (.int (d.1.1:Int)),some (.int (d.1.2.1:Int)),some (.int (d.1.2.2.1:Int)),some (.int (d.1.2.2.2:Int)),some (.int (d.2:Int)),some (.ref o1),some (.ref o2),some (.ref p1),none] _
 refine⟨_,rfl,_,rfl,rl,_,_,_,rfl,rfl,A5.of (e08 _ _ hrl),By hy2,.ref v2,R'.r5,rfl,(r4'.1.r5).over e08,by have:=g'.m3;show R'.m<=100;lia,fun q2 H9 e9 _ tc2=>?_⟩
 obtain⟨as2,tp2,fl2,hq2,at2,htp2⟩:=Ih tc2 hr2
 have e09:=e08.trans e9
 refine⟨_,rfl,q2,_,_,_,rfl,rfl,A5.of hq2,at2,tp2,_,2,_,rfl,rfl,A3.of htp2,rfl,_,rfl,_,rfl,rl,_,_,_,rfl,rfl,A5.of (e09 _ _ hrl),By hy2,v2,_,0,_,rfl,rfl,A3.of (e09 _ _ hv2),rfl,_,rfl,o2,_,1,_,rfl,rfl,A3.of ((e28.trans e9) _ _ ho22),rfl,b1,y,AV R'.S,W',rfl,e09 _ _ hb1,e09 _ _ hy,by lia,by lia,g'.nd,fun d2 kv2 HA eA hd2 ar2=>?_⟩
 refine⟨r'.2,d2,D.m,D.z2,D.n2,fun i=>(Cc W W').getD (D.x2 i).toNat 0,kv2,rfl,hS'.over (e09.trans eA),by lia,hd2,fun i hi=>NO (first:=1+(R.S.length:Int)) (U:=Cc W W') (W:=W') (by lia) rfl (fun j hj=>by rw[←wl];exact J8) wl' ar2 (cd.hx2 i hi),fun p2 HB eB hp2=>?_⟩
 have e0B:=e09.trans (eA.trans eB)
 have ep:(DO D.m fun i=>(Cc W W').getD (D.x1 i).toNat 0+D.n1 i)=DO D.m fun i=>(Cc W W').getD (D.x2 i).toNat 0+D.n2 i:=Wf.mpr pl
 refine⟨_,rfl,_,rfl,OK (neg:=false) ((e9.trans (eA.trans eB)) _ _ hp1) hp2 ?_⟩
 have:=q _ e0B
 rw[←B6 ep]at this
 exact this
theorem UX (T:Tx K mg a):AB P w K mg base AI 105 a.f_0 a.d_0 ["_law_rows_here","_law_told","_law_lean"] V5:=by
 have G_Z :=@UN P w K mg base a T
 have G_X :=@W4 P w K mg base a T
 have G_Y :=@X9 P w K mg base a T
 refine T.F_0.ok PK (fun vs H Q E h=>?_) (fun cdv A outer s H vs Q E hr h=>?_)
 .obtain⟨_,_,_,_,_,_,_,_,_,_,_,_,rfl,_⟩:=h;rfl
 obtain⟨rl,lt,v,Rs,M,d,R,R',r,r',D,an,rfl,lean,hv,aok,q⟩:=h
 refine⟨_,(A8 (Be (PW.pt (Cy (D7 (Cv (B3 Fn (by rfl) T.z_isinstance Fm (A0 (pv 1) (A0 (Fd (v:=.ty "tuple") (by rfl) T.z_tuple Ew rfl) A2))))) (Cy (AZ Ea (B3 Bp (by rfl) T.z_len Bo (A0 (pv 1) A2)) A1 (AR _)) (DL (D7 (Cv (B3 Fn (by rfl) T.z_isinstance Fm (A0 (A7 Ac (pv 1) A1 (fun _ _=>rfl)) (A0 (Fd (v:=.ty "str") (by rfl) T.z_str Xt rfl) A2)))))))))
  (Ae (Av CS))
  Bj)
  (A8 (Be (AZ Cm (A7 Ac (pv 1) A1 (fun _ _=>rfl)) BD (AR _))
  (Ae (Av (JH (ET Cm (B3 Bp (by rfl) T.z_len Bo (A0 (pv 1) A2)) A1 (AR _)) (MK (Aj G_Z (hr.mono (by lia)) (by rfl) T.m_Z T.F_Z.kp T.b_Z .nil Af (A0 (pv 0) (A0 (pv 1) (A0 (pv 2) A2))))))))
  Bj)
  (A8 (Ai (i:=3) PK.nd rfl (.inl rfl) (Aj G_X (hr.mono (by lia)) (by rfl) T.m_X T.F_X.kp T.b_X .nil Af (A0 (pv 0) (A0 (A7 Ac (pv 2) A1 (fun _ _=>rfl)) (A0 (A7 Ac (pv 2) A1 (fun _ _=>rfl)) (A0 (A7 Ac (pv 2) A1 (fun _ _=>rfl)) (A0 (A7 Ac (pv 2) A1 (fun _ _=>rfl)) (A0 (A7 Ac (pv 2) A1 (fun _ _=>rfl)) A2))))))))
  (Ae (Av (JH (ET Cm (A7 Ac (pv 1) A1 (fun _ _=>rfl)) BD (AR _)) (JH (ET Cm (B3 Bp (by rfl) T.z_len Bo (A0 (pv 1) A2)) A1 (AR _)) (MK (Aj G_Y (hr.mono (by lia)) (by rfl) T.m_Y T.F_Y.kp T.b_Y .nil Af (A0 (A7 Ac (pv 1) A1 (fun _ _=>rfl)) (A0 (pv 3) A2))))))))))),?_⟩
 cases an with
 |
  inr WW=>
  obtain⟨t,x,y,ev,ht,hx,hy⟩:=hv
  cases ev
  obtain⟨wl,wl',hall⟩:=aok
  refine⟨_,rfl,_,_,_,_,_,rfl,rfl,.tup ht,rfl,_,rfl,AO ?_⟩
  refine⟨_,rfl,v,_,rfl,.inr (A3.of ht),_,_,rfl,rfl,_,rfl,AG (v:=false) (by show decide ((3:Int)<2)=false;decide) (AO ?_)⟩
  refine⟨_,rfl,v,_,0,_,rfl,rfl,A3.of ht,rfl,_,_,_,_,_,rfl,rfl,.str _,rfl,_,rfl,AO ?_⟩
  dsimp only[Dj]
  refine⟨_,rfl,v,_,0,_,rfl,rfl,A3.of ht,rfl,rfl,_,rfl,AG (v:=true) (B6 rfl) (BE ?_)⟩
  refine⟨_,rfl,v,_,rfl,.inr (A3.of ht),rfl,_,rfl,AG (v:=true) (B6 rfl) (BE ?_)⟩
  exact⟨_,rfl,_,rfl,_,rfl,rl,lt,v,x,y,Rs,M,d,R,R',r,r',D,WW.1,WW.2,rfl,lean,ht,hx,hy,wl,wl',hall,q⟩
 |
  inl L=>
  obtain⟨t,rr,ys,ev,ht,hrr,tr⟩:=hv
  cases ev
  have lean0:=lean
  obtain⟨hRs,R6,⟨lt',elt,hlt⟩,hR,hr1,hR',hr2,g,g',hS,hS',cd,cl,cs⟩:=lean
  cases elt
  obtain⟨xs,hrl,ax⟩:=id hRs
  obtain⟨y1,hy1,r4⟩:=ax.get hR
  obtain⟨y2,hy2,r4'⟩:=ax.get hR'
  have k1:D.s<=R.S.length:=cd.pf.1
  have bl:=NT (R:=R) (R':=R') (D:=D) (case:=d.2) g.len g'.len cd.m3 (by have:=g.len;lia)
  refine⟨_,rfl,_,_,_,_,_,rfl,rfl,.tup ht,rfl,_,rfl,AO ?_⟩
  refine⟨_,rfl,v,_,rfl,.inr (A3.of ht),_,_,rfl,rfl,_,rfl,AG (v:=false) (by show decide ((2:Int)<2)=false;decide) (AO ?_)⟩
  refine⟨_,rfl,v,_,0,_,rfl,rfl,A3.of ht,rfl,_,_,_,_,_,rfl,rfl,.str _,rfl,_,rfl,AO ?_⟩
  dsimp only[Dj]
  refine⟨_,rfl,v,_,0,_,rfl,rfl,A3.of ht,rfl,rfl,_,rfl,AG (v:=false) (dS (by decide)) (AO ?_)⟩
  dsimp only[Dj]
  refine⟨_,rfl,_,rfl,lt,_,0,_,rfl,rfl,A3.of hlt,rfl,_,rfl,lt,_,1,_,rfl,rfl,A3.of hlt,rfl,_,rfl,lt,_,2,_,rfl,rfl,A3.of hlt,rfl,_,rfl,lt,_,3,_,rfl,rfl,A3.of hlt,rfl,_,rfl,lt,_,4,_,rfl,rfl,A3.of hlt,rfl,rl,Rs,M,R,R',r,r',d.1.1,d.1.2.1,d.1.2.2.1,d.1.2.2.2,d.2,D,rfl,hRs,hR,hR',g,g',g.ok5 r4.1,g'.ok5 r4'.1,hr1,hr2,hS,hS',cd,cs,fun bo bs H1 e1 hbo tr1=>?_⟩
  dsimp only[Ag]
  have ht1:=e1 _ _ ht
  refine⟨_,rfl,v,_,0,_,rfl,rfl,A3.of ht1,rfl,rfl,_,rfl,AG (v:=true) (B6 rfl) (BE ?_)⟩
  refine⟨_,rfl,v,_,rfl,.inr (A3.of ht1),rfl,_,rfl,AG (v:=true) (B6 rfl) (BE ?_)⟩
  exact⟨_,rfl,v,_,1,_,rfl,rfl,A3.of ht1,rfl,_,rfl,rr,bo,ys,bs,L,CV R R' D d.2,rfl,e1 _ _ hrr,tr.over e1,hbo,tr1,aok,bl,fun H2 e2=>q _ (e1.trans e2)⟩
theorem RZ (T:Tx K mg a):AB P w K mg base AI 104 a.f_1 a.d_1 ["_law_rows_here"] WN:=by
 have G_b :=@KM P w K mg base a T
 refine T.F_1.ok OF (fun vs H Q E h=>?_) (fun cdv A outer s H vs Q E hr h=>?_)
 .obtain⟨_,_,_,rfl,_⟩:=h;rfl
 obtain⟨l,Rs,M,rfl,hRs,R0,R6,rb,q⟩:=h
 refine⟨_,(A8 (N3 PassesOwn.never (PW.pt (FS (AZ FR (B3 Bp (by rfl) T.z_len Bo (A0 (pv 0) A2)) A1 (AR _)) (HJ (AZ FR (B3 (V6 rfl) (by rfl) T.z_sum TH (A0 (DZ ["_law_row_here"] [none] (by rfl) (CK (pv 0)) Wj (fun _ _ _ _ _ _=>⟨(Al (i:=0) Xb rfl (.inl rfl)),DP,(B3 (show EC _ _ (V9 K) from Bp) (by rfl) T.z_len Bo (A0 (Aj G_b (hr.mono (by lia)) (by rfl) T.m_b T.F_b.kp T.b_b .nil Af (A0 (pv 0) A2)) A2))⟩)) A2)) A1 (AR _)))))
  (Ae (Ai (i:=0) OF.nd rfl (.inl rfl) (Ds Fk (pv 0) DH (D9 (Dm Dy A1))))))
  (Ae (Av (pv 0)))),?_⟩
 refine M7 Rs.length (fun i σ' H'=>∃(lr:Addr) (n:Nat),σ'=[some (.ref lr)]/\A9 H H'/\(lr=l\/H lr=none)/\D4 M H' lr (Rs.take n)/\1<=n/\n+i=Rs.length) ⟨l,Rs.length,rfl,A9.refl _,.inl rfl,by rw[DS];exact hRs,R0,rfl⟩ (fun i σ' H' hi pp=>?_) (MT.and (MT.test (ME.op (MR.i0 _) (ME.cb MB.len (MA.cons (ME.var _) MA.nil)) (ME.c _))) (MT.test (ME.op (MR.i0 _) (ME.cb (fun vs H Q Q' hq ⟨p,ns,a,b,c⟩=>⟨p,ns,a,b,hq _ _ c⟩) (MA.cons (ME.comp (MI.list (ME.var _))) MA.nil)) (ME.c _))))
 obtain⟨lr,n,rfl,e,nw,⟨xs,hl,ax⟩,n1,ni⟩:=pp
 have xl:=ax.1
 rw[Bg]at xl
 refine⟨_,rfl,lr,_,rfl,.inl (A5.of hl),_,_,rfl,rfl,_,rfl,Cf (fun c1=>?_) (fun c1=>?_)⟩
 rotate_left
 .exact⟨_,rfl,q lr _ n e nw n1 ⟨xs,hl,ax⟩⟩
 have c1:=dT c1
 refine⟨_,rfl,lr,rfl,⟨_,A5.of hl⟩,?_⟩
 refine G5 (xs:=xs) (fun j ys H2=>A9 H' H2/\∃ms:List Int,ys=ms.map V.int/\ms.length=j) ⟨A9.refl _,[],rfl,rfl⟩ (Bc (by lia)) (fun j ys H2 hj pp=>by obtain⟨e2,ms,rfl,ml⟩:=pp;exact⟨A5.of (e2 _ _ hl),by rw[Aq];lia⟩) (fun j v ys H2 hv pp=>?_) (fun ys H2 pp r hr=>?_)
 .obtain⟨e2,ms,rfl,ml⟩:=pp
  obtain⟨R,hR,r4⟩:=ax.get' hv
  have g:=rb R (Jz (Bh hR))
  refine⟨_,rfl,v,R.r5,rfl,(r4.1.r5).over e2,by have:=g.m3;show R.m<=100;lia,fun q1 H3 e3 _ tc=>?_⟩
  obtain⟨t,zs,h1,_⟩:=tc
  refine⟨q1,_,rfl,.inl (A5.of h1),e2.trans e3,ms++[((V.ref t::zs).length:Int)],by rw[Bq];rfl,by rw[Az,ml];rfl⟩
 obtain⟨e2,ms,rfl,ml⟩:=pp
 have s3:=Aa hr (.lst (ms.map V.int))
 have e3:=e.trans (e2.trans s3)
 have hl3:=(e2.trans s3) _ _ hl
 have ax3:=ax.mono fun _ _ z=>z.over (e2.trans s3)
 refine⟨r,_,rfl,A5.of A6,_,_,rfl,rfl,_,rfl,Cf (fun c2=>?_) (fun c2=>?_)⟩
 rotate_left
 .exact⟨_,rfl,q lr _ n e3 nw n1 ⟨xs,hl3,ax3⟩⟩
 generalize upd H2 r (.lst (ms.map V.int))=H3 at e3 hl3 ax3
 refine⟨by lia,?_⟩
 obtain⟨xs',x,rfl,xl'⟩:=F6 (l:=xs) (n:=n-1) (by lia)
 refine⟨_,rfl,_,rfl,_,rfl,lr,_,rfl,A5.of hl3,fun n2 hn2=>?_⟩
 rw[show C2 (xs'++[x]) none (some (-1))=xs' from Gq xs' [x] (Iq _) rfl]
 have s4:=Aa hn2 (.lst xs')
 refine⟨n2,n-1,rfl,e3.trans s4,.inr (e3.free hn2),⟨xs',A6,?_⟩,by lia,by lia⟩
 have:=(ax3.mono fun _ _ z=>z.over s4).take (n-1)
 rw[Nn xl',List.take_take,EY (by lia)]at this
 exact this
theorem SM (T:Tx K mg a):AB P w K mg base AI 2 a.f_2 a.d_2 ["_law_rows_here","_law_left_here"] Wy:=by
 have G_a :=@FO P w K mg base a T
 refine T.F_2.ok Jb (fun vs H Q E h=>?_) (fun cdv A outer s H vs Q E hr h=>?_)
 .obtain⟨_,_,_,_,rfl,_⟩:=h;rfl
 obtain⟨l,lf,Rs,M,rfl,⟨xs,hl,ax⟩,lft,nl,R6,rb,q⟩:=h
 refine⟨_,(A8 (Be (AZ Ek (Aj G_a (hr.mono (by lia)) (by rfl) T.m_a T.F_a.kp T.b_a .nil Af (A0 (pv 1) (A0 A1 A2))) A1 (AR _))
  (Ae (Av (pv 0)))
  Bj)
  (A8 (Ai (i:=2) Jb.nd rfl (.inr rfl) (Aj G_a (hr.mono (by lia)) (by rfl) T.m_a T.F_a.kp T.b_a .nil Af (A0 (pv 1) (A0 (Ah Gf A1 A1) A2))))
  (A8 (Ai (i:=3) Jb.nd rfl (.inl rfl) (B9 A2))
  (A8 (Br PassesOwn.never rfl (CK (pv 0)) (Al (i:=4) Jb.nd rfl (.inl rfl))
  (A8 (JJ (i:=5) ["_law_high","_law_more"] [none,some 2] Jb.nd rfl (.inl rfl) (by rfl) (KS (A7 Ac (pv 4) A1 (fun _ _=>rfl))) Xe (fun _ _ _ _ _ _=>⟨(Al (i:=0) VO rfl (.inl rfl)),DP,(CM (A0 (A7 (show Cn _ (CY K) from Ac) (pv 0) A1 (fun _ _=>rfl)) (A0 (Ah B2 (A7 (show Cn _ (CY K) from Ac) (pv 0) A1 (fun _ _=>rfl)) (Ah Di (pv 1) (Ec KU (by rfl) T.z_int Jc (A0 (ET Cm (A7 (show Cn _ (CY K) from Ac) (pv 0) A1 (fun _ _=>rfl)) BD (AR _)) A2)))) A2)))⟩))
  (Ae (BP (BR BX Cq Cr Ca (pv 3) (A0 (BB (Ab (A7 Ac (pv 4) A1 (fun _ _=>rfl)) (Ab (A7 Ac (pv 4) A1 (fun _ _=>rfl)) (Ab (Ec GH (by rfl) T.z_tuple Ew (A0 (pv 5) A2)) (Ab (A7 Ac (pv 4) A1 (fun _ _=>rfl)) (Ab (A7 Ac (pv 4) A1 (fun _ _=>rfl)) (Ab (A7 Ac (pv 4) A1 (fun _ _=>rfl)) (Ab (A7 Ac (pv 4) A1 (fun _ _=>rfl)) Bm Ed) Ed) Ed) Ed) Fi) Ed) Ed)) A2))))))
  (Ae (Av (pv 3))))))),?_⟩
 refine⟨_,rfl,lf,4,rfl,lft,by decide,by decide,fun d1 H1 b1 l1 d10 d11=>?_⟩
 refine⟨rfl,_,rfl,Cf (fun c=>?_) (fun c=>?_)⟩
 .exact⟨_,rfl,q l _ Rs b1 ⟨xs,b1 _ _ nl hl,ax.mono fun _ _ z=>z.tk (lft.tk b1)⟩ rfl rb⟩
 dsimp only[Dj]
 refine⟨_,rfl,_,_,rfl,rfl,⟨by decide,by decide,by decide⟩,lf,_,rfl,l1,(by show(0:Int)<10 ^ (17:Int).toNat;decide),(by show(10:Int) ^ (17:Int).toNat<18446744073709551616;decide),fun mo H2 b2 l2 m0 m1=>?_⟩
 dsimp only[Ag]
 have b02:=b1.trans b2
 have tk02:=lft.tk b02
 have hl2:=b02 _ _ nl hl
 have ax2:=ax.mono fun _ _ z=>z.tk tk02
 have xl:=ax.1
 refine⟨Ak rfl,fun fo hfo=>?_⟩
 have s3:=Aa hfo (.lst [])
 have hf3:(upd H2 fo (.lst [])) fo=some (.lst []):=A6
 have fo1:∀b o,b≠lf->H b=some o->b≠fo:=fun b o nb hb=>AC (b02 _ _ nb hb) hfo
 have nlf:l≠fo:=AC hl2 hfo
 dsimp only[Ag]
 generalize upd H2 fo (.lst [])=H3 at s3 hf3
 have hl3:=s3 _ _ hl2
 have ax3:=ax2.mono fun _ _ z=>z.over s3
 refine⟨_,rfl,l,rfl,⟨_,A5.of hl3⟩,?_⟩
 refine EU (xs:=xs) (fun i σ' H'=>∃(zs:List V) (o4 o5:Option V),σ'=[some (.ref l),some (.ref lf),some (.int mo),some (.ref fo),o4,o5]/\Bt fo H3 H'/\H' fo=some (.lst zs)/\Ar (Ez M H') zs ((Rs.take i).map (R3.wd mo))) ⟨[],_,_,rfl,fun _ _ _ h=>h,hf3,.nil⟩ (fun i σ' H' _ pp=>by obtain⟨_,_,_,_,b,_⟩:=pp;exact A5.of (b _ _ nlf hl3)) (fun i v σ' H' hv pp=>?_) (fun σ' H' pp=>?_)
 rotate_left
 .obtain⟨zs,o4,o5,rfl,b,hz,az⟩:=pp
  rw[xl,DS]at az
  refine⟨_,rfl,q fo _ (Rs.map (R3.wd mo)) (fun x o nx hx=>b _ _ (fo1 x o nx hx) (s3 _ _ (b02 _ _ nx hx))) ⟨zs,hz,az⟩ (by rw[Aq]) fun R hR=>?_⟩
  obtain⟨R0,h0,rfl⟩:=D5.mp hR
  exact V7 (rb R0 h0)
 obtain⟨zs,o4,o5,rfl,b,hz,az⟩:=pp
 have tk3:=b.tk hf3
 obtain⟨R,hR,r4⟩:=ax3.get' hv
 have li:=(AX.mp hR).1
 have r4':=r4.tk tk3
 obtain⟨⟨r,u1,u2,u3,u4,x,ls,hs,rfl,hr1,hu1,hu2,als,hu3,ahs,hu4,tm⟩,tz⟩:=r4'
 have g:=rb R (Bh hR)
 have azl:=az.1
 rw[Aq,Bg]at azl
 have hsl:=ahs.1
 have gl:=g.len
 dsimp only[Ag]
 refine⟨_,rfl,r,_,2,_,rfl,rfl,A3.of hr1,rfl,u3,rfl,⟨_,A3.of hu3⟩,?_⟩
 refine Me (xs:=hs) (fun j ys H4=>A9 H' H4/\Ar (fun v q=>Dc H4 v (q.hz,q.hn+mo*(if decide (V.str q.hz=V.str "")=true then 1 else 0))) ys (R.S.take j)) ⟨A9.refl _,.nil⟩ (Bc (by lia)) (fun j ys H4 hj p=>⟨A3.of (p.1 _ _ hu3),by rw[p.2.1,Bg];lia⟩) (fun j y ys H4 hy p=>?_) (fun ys H4 p r2 hr2=>?_)
 .obtain⟨e4,ay⟩:=p
  obtain⟨qq,hqq,t,rfl,ht⟩:=ahs.get' hy
  have ht4:=e4 _ _ ht
  refine⟨_,rfl,t,_,0,_,rfl,rfl,A3.of ht4,rfl,_,rfl,t,_,1,_,rfl,rfl,A3.of ht4,rfl,_,rfl,_,rfl,t,_,0,_,rfl,rfl,A3.of ht4,rfl,rfl,.inr ⟨_,rfl,_,_,rfl,rfl,.inr (by split<;>decide),_,_,rfl,rfl,Ak rfl,fun t5 ht5=>?_⟩⟩
  have s5:=Aa ht5 (.tup [V.str qq.hz,V.int (qq.hn+mo*(if decide (V.str qq.hz=V.str "")=true then 1 else 0))])
  refine⟨e4.trans s5,?_⟩
  rw[CJ hqq]
  exact(ay.mono fun _ _ z=>z.tk (A9.tk s5)).snoc ⟨t5,rfl,A6⟩
 obtain⟨e4,ay⟩:=p
 rw[hsl,DS]at ay
 have s5:=Aa hr2 (.lst ys)
 have hr25:(upd H4 r2 (.lst ys)) r2=some (.lst ys):=A6
 have e5:=e4.trans s5
 have ay5:=ay.mono fun _ _ z=>z.tk (A9.tk s5)
 dsimp only[Ag]
 generalize upd H4 r2 (.lst ys)=H5 at hr25 e5 ay5
 have hz5:=e5 _ _ hz
 have g5:=e5 _ _ hr1
 refine⟨_,rfl,.inl ⟨rfl,_,A5.of hz5⟩,_,rfl,r,_,0,_,rfl,rfl,A3.of g5,rfl,_,rfl,r,_,1,_,rfl,rfl,A3.of g5,rfl,_,rfl,r2,_,rfl,.inl ⟨A5.of hr25,fun u6 hu6=>?_⟩⟩
 have s6:=Aa hu6 (.tup ys)
 have hu66:(upd H5 u6 (.tup ys)) u6=some (.tup ys):=A6
 have e6:=e5.trans s6
 have ay6:=ay5.mono fun _ _ z=>z.tk (A9.tk s6)
 generalize upd H5 u6 (.tup ys)=H6 at hu66 e6 ay6
 have g6:=e6 _ _ hr1
 have hz6:=e6 _ _ hz
 refine⟨_,rfl,r,_,3,_,rfl,rfl,A3.of g6,rfl,_,rfl,r,_,4,_,rfl,rfl,A3.of g6,rfl,_,rfl,r,_,5,_,rfl,rfl,A3.of g6,rfl,_,rfl,r,_,6,_,rfl,rfl,A3.of g6,rfl,Ak rfl,fun t7 ht7=>?_⟩
 have s7:=Aa ht7 (.tup [V.ref u1,V.ref u2,V.ref u6,V.str R.z,V.ref R.p,x,V.ref u4])
 have e7:=e6.trans s7
 have hz7:=s7 _ _ hz6
 refine⟨fo,_,_,rfl,rfl,hz7,C5 (by lia),?_⟩
 have tk8:=TK.upd (o:=.lst (zs++[V.ref t7])) hz7
 have tk78:=(A9.tk e7).trans tk8
 have tk68:=(A9.tk s7).trans tk8
 refine⟨zs++[.ref t7],_,_,rfl,(b.trans (Bt.same e7)).trans Bt.put,A6,?_⟩
 rw[CJ hR,Bq]
 refine(az.mono fun _ _ z=>z.tk tk78).snoc ⟨⟨t7,u1,u2,u6,u4,x,ls,ys,rfl,tk8 _ _ A6,?_,tk78 _ _ hu2,?_,tk68 _ _ hu66,?_,tk78 _ _ hu4,tm.tk tk78⟩,fun rr hrr=>?_⟩
 .rw[IF];exact tk78 _ _ hu1
 .exact JY (P:=fun v (q:Lp)=>Dc _ v (q.lz,q.ln)) (f:=fun q:Lp=>({q with hn:=q.hn+mo*(if decide (V.str q.hz=V.str "")=true then 1 else 0)}:Lp)) (als.mono fun _ _ z=>z.tk tk78)
 .exact JY (P:=fun v (q:Lp)=>Dc _ v (q.hz,q.hn)) (f:=fun q:Lp=>({q with hn:=q.hn+mo*(if decide (V.str q.hz=V.str "")=true then 1 else 0)}:Lp)) (ay6.mono fun _ _ z=>z.tk tk68)
 .obtain⟨n,h1,xs9,h2,h3,h4,h5⟩:=(tz rr hrr).tk tk78
  exact⟨n,h1,xs9,h2,h3,h4,fun v hv=>by obtain⟨t,z,k,a1,a2,a3⟩:=h5 v hv;exact⟨t,z,k,a1,a2,VN a3⟩⟩
theorem Uv (T:Tx K mg a):AB P w K mg base AI 106 a.f_w a.d_w ["_law_rows_here","_law_found"] Yg:=by
 have G_3 :=@T3 P w K mg base a T
 have G_d :=@M8 P w K mg base a T
 have G_0 :=@UX P w K mg base a T
 refine T.F_w.ok KC (fun vs H Q E h=>?_) (fun cdv A outer s H vs Q E hr h=>?_)
 .obtain⟨_,_,_,_,_,_,rfl,_⟩:=h;rfl
 obtain⟨rl,f,Rs,M,ys,Df,rfl,hRs,R6,rb,df,hf,ln,q⟩:=h
 refine⟨_,(A8 (Ai (i:=2) KC.nd rfl (.inl rfl) (Aj G_3 (hr.mono (by lia)) (by rfl) T.m_3 T.F_3.kp T.b_3 .nil Af (A0 (pv 0) A2)))
  (A8 (Be (PW.pt (Cy (D7 (Cv (B3 Fn (by rfl) T.z_isinstance Fm (A0 (pv 1) (A0 (Fd (v:=.ty "list") (by rfl) T.z_list J4 rfl) A2))))) (DL (AZ Ek (B3 Bp (by rfl) T.z_len Bo (A0 (pv 1) A2)) (B3 Bp (by rfl) T.z_len Bo (A0 (pv 2) A2)) (AR _)))))
  (Ae (Av CS))
  Bj)
  (A8 (Br PassesOwn.never rfl (XO (by rfl) T.z_zip (A0 (pv 1) (A0 (pv 2) A2))) (BY rfl (AA (Al (i:=3) KC.nd rfl (.inl rfl)) (AA (Al (i:=4) KC.nd rfl (.inl rfl)) BS)))
  (A8 (Be (PW.pt (Cy (D7 (Cv (B3 Fn (by rfl) T.z_isinstance Fm (A0 (pv 3) (A0 (Fd (v:=.ty "tuple") (by rfl) T.z_tuple Ew rfl) A2))))) (Cy (AZ Ek (B3 Bp (by rfl) T.z_len Bo (A0 (pv 3) A2)) A1 (AR _)) (DL (AZ Ek (B3 Bp (by rfl) T.z_len Bo (A0 (DZ ["_law_n"] [none] (by rfl) (KS (Ds Nh (pv 3) DH (D9 A1))) Yj (fun _ _ _ _ _ _=>⟨(Al (i:=0) Sy rfl (.inl rfl)),(by exact(JO (Cv (Aj G_d (hr.mono (by lia)) (by rfl) T.m_d T.F_d.kp T.b_d .nil Af (A0 (pv 0) A2))))),(pv 0)⟩)) A2)) A1 (AR _))))))
  (Ae (Av CS))
  Bj)
  (Ae (Be (PW.pt (Cy (AZ (UQ (Jo hr)) (Ds Nh (pv 3) DH (D9 A1)) (pv 4) (AR _)) (DL (D7 (Cv (Aj G_0 (hr.mono (by lia)) (by rfl) T.m_0 T.F_0.kp T.b_0 .nil Af (A0 (pv 0) (A0 (A7 Ac (pv 3) A1 (fun _ _=>rfl)) (A0 (pv 4) A2)))))))))
  (Ae (Av CS))
  Bj))))
  (Ae (Av CS))))),?_⟩
 obtain⟨xs,hrl,ax⟩:=id hRs
 have okm:∀R∈Rs.map R3.r5,R.Ok:=fun R hR=>by
  obtain⟨R0,h0,rfl⟩:=D5.mp hR
  obtain⟨j,hj⟩:=Ga.mp h0
  obtain⟨y,hy,r4⟩:=ax.get hj
  exact(rb R0 h0).ok5 r4.1
 have hR5:Gs H rl (Rs.map R3.r5):=⟨xs,hrl,JY (ax.mono fun _ _ z=>z.1.r5)⟩
 refine⟨_,rfl,rl,Rs.map R3.r5,rfl,hR5,okm,by rw[Aq];exact R6,fun du ds H1 e1 hdu ad=>?_⟩
 dsimp only[Ag]
 have ll:=ln.1
 have dl:=ad.1
 refine⟨_,rfl,_,_,_,_,_,rfl,rfl,.lst (e1 _ _ hf),rfl,_,rfl,AO ?_⟩
 refine⟨_,rfl,f,_,rfl,.inl (A5.of (e1 _ _ hf)),_,rfl,du,_,rfl,.inl (A5.of hdu),rfl,_,rfl,AG (v:=false) (EA (congrArg (fun n:Nat=>V.int (n:Int)) (by rw[ll,dl]))) (AO ?_)⟩
 dsimp only[Dj]
 unfold Fz at ln
 have mm:=fun d h=>PQ (H:=H) (Rs:=Rs) (Df:=Df) (d:=d) df h
 generalize Ee (Rs.map R3.r5)=L at ad ln mm ll dl
 refine⟨_,rfl,_,rfl,f,du,rfl,⟨_,A5.of (e1 _ _ hf)⟩,⟨_,A5.of hdu⟩,?_⟩
 refine XD (xs:=ys) (ys:=ds) (by lia) (fun i σ' H'=>A9 H1 H'/\∃o3 o4,σ'=[some (.ref rl),some (.ref f),some (.ref du),o3,o4]) ⟨A9.refl _,_,_,rfl⟩ (fun i σ' H' _ pp=>⟨A5.of (pp.1 _ _ (e1 _ _ hf)),A5.of (pp.1 _ _ hdu)⟩) (fun i y z Tt σ' H' hy hz pp hT=>?_) (fun σ' H' pp=>?_)
 rotate_left
 .obtain⟨e,_⟩:=pp
  exact q _ (e1.trans e)
 obtain⟨e,o3,o4,rfl⟩:=pp
 obtain⟨d,hd,t,v,rfl,ht,an⟩:=ln.get' hy
 obtain⟨d',hd',t',rfl,ht'⟩:=ad.get' hz
 rw[hd]at hd'
 cases hd'
 obtain⟨R,R',r,r',hR,hr1,hR',hr2,hS,hS',cd,cl,cs⟩:=mm d (Bh hd)
 have sT:=Aa hT (.tup [V.ref t,V.ref t'])
 have e1T:=e.trans sT
 have e0T:=e1.trans e1T
 refine⟨Tt,_,rfl,A3.of A6,rfl,_,_,rfl,_,_,rfl,rfl,?_⟩
 generalize upd H' Tt (.tup [V.ref t,V.ref t'])=H2 at e1T e0T
 have ht2:=e0T _ _ ht
 have ht'2:=e1T _ _ ht'
 have g:=rb R (Bh hR)
 have g':=rb R' (Bh hR')
 refine⟨_,rfl,_,_,_,_,_,rfl,rfl,.tup ht2,rfl,_,rfl,AO ?_⟩
 refine⟨_,rfl,t,_,rfl,.inr (A3.of ht2),rfl,_,rfl,AG (EA rfl) (AO ?_)⟩
 have c5:∀x:V,C2 [V.int (d.1.1:Int),V.int (d.1.2.1:Int),V.int (d.1.2.2.1:Int),V.int (d.1.2.2.2:Int),V.int (d.2:Int),x] none (some 5)=[(d.1.1:Int),(d.1.2.1:Int),(d.1.2.2.1:Int),(d.1.2.2.2:Int),(d.2:Int)].map V.int:=fun x=>rfl
 refine⟨_,rfl,_,rfl,t,_,rfl,ht2,fun sl H3 e3 hsl=>?_⟩
 rw[c5]at hsl
 refine⟨sl,rfl,⟨_,A3.of hsl⟩,?_⟩
 refine Me (xs:=[(d.1.1:Int),(d.1.2.1:Int),(d.1.2.2.1:Int),(d.1.2.2.2:Int),(d.2:Int)].map V.int) (fun j zs H4=>H4=H3/\zs.length=j) ⟨rfl,rfl⟩ (Ak rfl) (fun j zs H4 hj p=>⟨by rw[p.1];exact A3.of hsl,by lia⟩) (fun j x zs H4 hx p=>?_) (fun zs H4 p r2 hr2'=>?_)
 .obtain⟨rfl,zl⟩:=p
  obtain⟨n,_,rfl⟩:=D5.mp (Bh hx)
  exact⟨_,rfl,_,rfl,rfl,_,rfl,BE ⟨_,rfl,rfl,by rw[Az,zl];rfl⟩⟩
 obtain⟨rfl,zl⟩:=p
 have s4:=Aa hr2' (.lst zs)
 refine⟨r2,_,rfl,.inl (A5.of A6),rfl,_,rfl,AG (EA (congrArg (fun n:Nat=>V.int (n:Int)) zl)) (AO ?_)⟩
 dsimp only[Dj]
 generalize upd H4 r2 (.lst zs)=H5 at s4
 have e25:=e3.trans s4
 refine⟨_,rfl,_,rfl,t,_,rfl,e25 _ _ ht2,fun sl2 H6 e6 hsl2=>?_⟩
 rw[c5]at hsl2
 have e26:=e25.trans e6
 have e06:=e0T.trans e26
 refine⟨_,rfl,OK (neg:=true) (B:=[(d.1.1:Int),(d.1.2.1:Int),(d.1.2.2.1:Int),(d.1.2.2.2:Int),(d.2:Int)]) hsl2 (e26 _ _ ht'2) ⟨_,rfl,AG (v:=false) (by rw[Ax rfl,B6 rfl];rfl) (AO ?_)⟩⟩
 have k1:(Df d.1).s<=R.S.length:=cd.pf.1
 have aok:L5 (CV R R' (Df d.1) d.2) R.S.length R'.S.length (GK Rs Df d):=by
  rw[OJ hR hR']
  have:=WH (n:=1+R.S.length+R'.S.length) (bh:=1+R.S.length) (NB g g' cd cs) (by lia) (by lia)
  rw[show 1+R.S.length-1=R.S.length by lia,show 1+R.S.length+R'.S.length-(1+R.S.length)=R'.S.length by lia]at this
  exact this
 refine⟨_,rfl,_,rfl,t,_,5,_,rfl,rfl,A3.of (e26 _ _ ht2),rfl,_,rfl,rl,t',v,Rs,M,d,R,R',r,r',Df d.1,GK Rs Df d,rfl,⟨hRs.over e06,R6,⟨t',rfl,e26 _ _ ht'2⟩,hR,hr1,hR',hr2,g,g',hS.over e06,hS'.over e06,cd,cl,cs⟩,an.over e06,aok,fun H7 e7=>⟨_,rfl,AO ?_⟩⟩
 exact⟨e1T.trans (e26.trans e7) |> fun z=>z,_,_,rfl⟩
theorem ok_law (T:Tx K mg a):AB P w K mg base AI 110 a.f_4 a.d_4 ["_law_script"] (Mj K):=by
 have G_R :=@Uu P w K mg base a T
 have G_S :=@U2 P w K mg base a T
 have G_1 :=@RZ P w K mg base a T
 have G_2 :=@SM P w K mg base a T
 have G_T :=@XB P w K mg base a T
 have G_n :=@Vn P w K mg base a T
 have G_w :=@Uv P w K mg base a T
 refine T.F_4.ok GT (fun vs H Q E h=>?_) (fun cdv A outer s H vs Q E hr h=>?_)
 .obtain⟨_,_,rfl,_⟩:=h;rfl
 obtain⟨p,ns,rfl,hp,h63,_,q⟩:=h
 refine⟨_,(A8 (Ai (i:=1) GT.nd rfl (.inl rfl) (Aj G_R (hr.mono (by lia)) (by rfl) T.m_R T.F_R.kp T.b_R .nil Af (A0 (pv 0) A2)))
  (A8 (Ai (i:=2) GT.nd rfl (.inl rfl) (Aj G_1 (hr.mono (by lia)) (by rfl) T.m_1 T.F_1.kp T.b_1 .nil Af (A0 (Aj G_S (hr.mono (by lia)) (by rfl) T.m_S T.F_S.kp T.b_S .nil Af (A0 (pv 0) (A0 (pv 1) (A0 (B3 (MU rfl) (by rfl) T.z_min MJ (A0 (A7 Ac (pv 1) A1 (fun _ _=>rfl)) (A0 A1 A2))) A2)))) A2)))
  (A8 (Ai (i:=2) GT.nd rfl (.inl rfl) (Aj G_2 (hr.mono (by lia)) (by rfl) T.m_2 T.F_2.kp T.b_2 .nil Af (A0 (pv 2) (A0 (A7 Ac (pv 1) A1 (fun _ _=>rfl)) A2))))
  (A8 (Ai (i:=3) GT.nd rfl (.inl rfl) (Aj G_T (hr.mono (by lia)) (by rfl) T.m_T T.F_T.kp T.b_T .nil Af (A0 (A7 Ac (pv 1) A1 (fun _ _=>rfl)) (A0 (pv 2) A2))))
  (A8 (Ai (i:=4) GT.nd rfl (.inl rfl) (Aj G_n (hr.mono (by lia)) (by rfl) T.m_n T.F_n.kp T.b_n .nil Af (A0 (pv 3) A2)))
  (A8 (Be (D7 (Cv (Aj G_w (hr.mono (by lia)) (by rfl) T.m_w T.F_w.kp T.b_w .nil Af (A0 (pv 2) (A0 (pv 4) A2)))))
  (Ae (Av CS))
  Bj)
  (A8 (Ai (i:=5) GT.nd rfl (.inl rfl) (Ec O6 (by rfl) T.z_list J4 (A0 (pv 4) A2)))
  (A8 (BP (P7 BX PySem.F.slot_list_clear PySem.F.type_list_clear Vg (pv 4)))
  (A8 (Be (AZ FR (B3 Bp (by rfl) T.z_len Bo (A0 (pv 2) A2)) A1 (AR _))
  (A8 (BP (P7 BX PySem.F.slot_list_pop PySem.F.type_list_pop UE (Bx (pv 3) rfl)))
  (Ae (Av (Aj G_w (hr.mono (by lia)) (by rfl) T.m_w T.F_w.kp T.b_w .nil Af (A0 (Ds Fk (pv 2) DH (D9 (Dm Dy A1))) (A0 (Aj G_n (hr.mono (by lia)) (by rfl) T.m_n T.F_n.kp T.b_n .nil Af (A0 (pv 3) A2)) A2))))))
  Bj)
  (Ae (Av (ET (Mc (Jo hr)) (Aj G_n (hr.mono (by lia)) (by rfl) T.m_n T.F_n.kp T.b_n .nil Af (A0 (pv 3) A2)) (pv 5) (AR _))))))))))))),?_⟩
 refine⟨_,rfl,p,ns,rfl,hp,h63,fun se S H1 e1 hse sok=>?_⟩
 have m1:=sok.m1
 have m4:=sok.m4
 dsimp only[Ag]
 obtain⟨n,hn,n1,n3⟩:∃n:Nat,(if(3:Int)<(S.m:Int) then 3 else(S.m:Int))=(n:Int)/\1<=n/\n<=3:=by
  split
  .exact⟨3,rfl,by decide,by decide⟩
  .exact⟨S.m,rfl,m1,by lia⟩
 refine⟨_,rfl,_,rfl,_,rfl,se,_,1,_,rfl,rfl,A3.of hse.1,rfl,_,_,rfl,?_⟩
 rw[hn]
 refine⟨p,se,ns,S,n,rfl,e1.seq hp,h63,hse,sok,by lia,fun rl H2 Rs e2 rl0 hRs Rl rb=>?_⟩
 refine⟨rl,Rs,S.M,rfl,hRs,by lia,by lia,rb,fun sl H3 k e3 nsl k1 hsl=>?_⟩
 have e23:=e2.trans e3
 have hse3:=hse.over e23
 have lw:=hse3.2.2.2
 have nsw:sl≠S.wl:=fun z=>by
  rcases nsl with rfl|h
  .rw[z]at rl0
   obtain⟨x,hx⟩:=hse.2.2.2
   rw[hx]at rl0
   cases rl0
  .obtain⟨x,hx⟩:=(hse.over e2).2.2.2
   rw[z,hx]at h
   cases h
 dsimp only[Ag]
 have rbk:∀R∈Rs.take k,RB R:=fun R hR=>rb R (Jz hR)
 have tl:(Rs.take k).length<=6/\0<(Rs.take k).length:=by rw[Bg];lia
 refine⟨_,rfl,_,rfl,se,_,6,_,rfl,rfl,A3.of hse3.1,rfl,sl,S.wl,Rs.take k,S.M,rfl,hsl,lw,nsw,tl.1,rbk,fun wl H4 Rw b4 hRw Rwl rbw=>?_⟩
 have hse4:=lw.tk b4 _ _ hse3.1
 dsimp only[Ag]
 generalize hM:S.M=M at hRw
 have mo:∀{z:Str} {m n:Int},M z m->M z n->m=n:=fun{z m n} a b=>by rw[←hM]at a b;exact sok.mo a b
 refine⟨_,rfl,se,_,3,_,rfl,rfl,A3.of hse4,rfl,_,rfl,S.sz,wl,Rw,M,rfl,hRw,by lia,fun R hR=>by have:=(rbw R hR).m3;lia,fun x dx dl xs H5 e5 hx hdl ax=>?_⟩
 have hRw5:=hRw.over e5
 obtain⟨ys,hwl,ay⟩:=id hRw5
 have okR:∀R∈Rw,R.r5.Ok:=fun R hR=>by
  obtain⟨j,hj⟩:=Ga.mp hR
  obtain⟨y,hy,r4⟩:=ay.get hj
  exact(rbw R hR).ok5 r4.1
 obtain⟨Df,df⟩:=NN (M:=M) (fun a b=>mo a b) hRw5 rbw
 dsimp only[Ag]
 refine⟨_,rfl,x,dx,dl,.int S.sz,xs,Rw,Df,rfl,hx,hdl,ax,rbw,okR,by lia,df,fun fl fs H6 e6 fl0 hfl ln=>?_⟩
 dsimp only[Ag]
 refine⟨_,rfl,_,rfl,wl,fl,Rw,M,fs,Df,rfl,hRw5.over e6,by lia,rbw,df.over e6,hfl,ln.over K6,fun H7 e7=>⟨_,rfl,AO ?_⟩⟩
 dsimp only[Dj]
 refine⟨_,rfl,fl,_,rfl,.inl (A5.of (e7 _ _ hfl)),fun kl hkl=>?_⟩
 have s8:=Aa hkl (.lst fs)
 have hk8:(upd H7 kl (.lst fs)) kl=some (.lst fs):=A6
 dsimp only[Ag]
 generalize upd H7 kl (.lst fs)=H8 at s8 hk8
 have e68:=e7.trans s8
 have hfl8:=e68 _ _ hfl
 have ln8:=ln.over (Mu (l:=fl) e68)
 have nkf:kl≠fl:=(AC (e7 _ _ hfl) hkl).symm
 refine⟨_,rfl,.inl ⟨rfl,_,A5.of hfl8⟩,fl,_,rfl,rfl,hfl8,?_⟩
 have k9:A9 H5 (upd H8 fl (.lst [])):=fun b o h=>by
  rw[Am (AC h fl0)]
  exact e68 _ _ (e6 _ _ h)
 have hk9:(upd H8 fl (.lst [])) kl=some (.lst fs):=by rw[Am nkf];exact hk8
 have ln9:Fz (upd H8 fl (.lst [])) fs Rw Df:=by
  have:Fz (wo (upd H8 fl (.lst [])) fl) fs Rw Df:=by rw[OA];exact ln8
  exact this.over K6
 generalize upd H8 fl (.lst [])=H9 at k9 hk9 ln9
 have yl:=ay.1
 have xl:=ax.1
 have hx9:=k9 _ _ hx
 have hdl9:=k9 _ _ hdl
 have hwl9:=k9 _ _ hwl
 have ax9:=ax.mono fun _ _ z=>z.over k9
 have ay9:=ay.mono fun _ _ z=>z.over k9
 refine⟨_,rfl,wl,_,rfl,.inl (A5.of hwl9),_,_,rfl,rfl,_,rfl,Cf (fun c=>?_) (fun c=>?_)⟩
 rotate_left
 ·
  refine⟨_,rfl,x,dx,dl,.int S.sz,xs,Rw,Df,rfl,hx9,hdl9,ax9,rbw,okR,by lia,df.over k9,fun f2 fs2 HA eA f20 hf2 ln2=>?_⟩
  have ln2:=ln2.over K6
  refine⟨_,rfl,VB (.lst (A5.of hf2) (MN ln2)) (.lst (A5.of (eA _ _ hk9)) (MN (ln9.over eA))) (by rw[Ct];have:=Oj (G:=GK Rw Df) (Ee (Rw.map R3.r5));lia) (q _)⟩
 have c:=dT c
 obtain⟨m,hm⟩:∃m,Rw.length=m+1:=⟨Rw.length-1,by lia⟩
 obtain⟨xs',v',rfl,xl'⟩:=F6 (l:=xs) (n:=m) (by lia)
 obtain⟨ys',w',rfl,yl'⟩:=F6 (l:=ys) (n:=m) (by lia)
 have ndw:wl≠dl:=fun z=>by
  rw[z,hdl9]at hwl9
  have e:=HO.lst.inj (Cg hwl9)
  have h0:Rw[0]?=some (Rw[0]'(by lia)):=AL (by lia)
  obtain⟨a1,h1,d,dx',_,_,_,_,_,_,_,ea,hd,_⟩:=ax9.get h0
  obtain⟨a2,h2,⟨r,_,_,_,_,_,_,_,eb,hr,_⟩,_⟩:=ay9.get h0
  rw[e,h2]at h1
  have:=Cg h1
  rw[ea,eb]at this
  cases this
  rw[hr]at hd
  cases hd
 refine⟨_,rfl,x,_,dx,_,_,rfl,hx9,T.cl_Program,T.n_Program_deeds,rfl,.inl ⟨rfl,_,A5.of hdl9⟩,dl,_,v',rfl,rfl,hdl9,by rw[Az,BI,Nat.add_sub_cancel,DQ (Ap _),Fs];rfl,?_⟩
 rw[List.dropLast_concat]
 have nlA:NL H9 (upd H9 dl (.lst xs')):=NL.upd hdl9
 have hdA:(upd H9 dl (.lst xs')) dl=some (.lst xs'):=A6
 have nxd:x≠dl:=fun z=>by rw[z,hdl9]at hx9;cases hx9
 have hxA:=(Am (H:=H9) (o:=.lst xs') nxd).trans hx9
 have hwA:=(Am (H:=H9) (o:=.lst xs') ndw).trans hwl9
 have axA:Ar (Dx (CH a) a.c_Deed (upd H9 dl (.lst xs'))) xs' (Rw.take m):=by
  have:=(ax9.mono fun _ _ z=>z.nl nlA).take m
  rwa [Nn xl']at this
 have ayA:Ar (Ez M (upd H9 dl (.lst xs'))) ys' (Rw.take m):=by
  have:=(ay9.mono fun _ _ z=>z.tk nlA.tk).take m
  rwa [Nn yl']at this
 generalize upd H9 dl (.lst xs')=HA at hdA hxA hwA axA ayA
 have rbm:∀R∈Rw.take m,RB R:=fun R hR=>rbw R (Jz hR)
 have okm:∀R∈Rw.take m,R.r5.Ok:=fun R hR=>okR R (Jz hR)
 have ml:(Rw.take m).length<=6:=by rw[Bg];lia
 refine⟨_,rfl,_,rfl,_,rfl,wl,_,rfl,A5.of hwA,fun l3 hl3=>?_⟩
 rw[show C2 (ys'++[w']) none (some (-1))=ys' from Gq ys' [w'] (Iq _) rfl]
 have s3:=Aa hl3 (.lst ys')
 have hR3:D4 M (upd HA l3 (.lst ys')) l3 (Rw.take m):=⟨ys',A6,ayA.mono fun _ _ z=>z.over s3⟩
 generalize upd HA l3 (.lst ys')=HB at s3 hR3
 obtain⟨Df2,df2⟩:=NN (M:=M) (fun a b=>mo a b) hR3 rbm
 refine⟨_,rfl,x,dx,dl,.int S.sz,xs',Rw.take m,Df2,rfl,s3 _ _ hxA,s3 _ _ hdA,axA.mono fun _ _ z=>z.over s3,rbm,okm,ml,df2,fun f2 fs2 HC eC f20 hf2 ln2=>?_⟩
 exact⟨l3,f2,Rw.take m,M,fs2,Df2,rfl,hR3.over eC,ml,rbm,df2.over eC,hf2,ln2.over K6,fun HD eD=>q _⟩
end
theorem D0 {us:List Value}(h:us.length=1):∃x0,us=[x0]:=by
 rcases us with _|⟨x0,us⟩
 .cases h
 rcases us with _|⟨y,us⟩
 .exact⟨x0,rfl⟩
 .simp only[C9]at h;lia
theorem CW {us:List Value}(h:us.length=2):∃x0 x1,us=[x0,x1]:=by
 rcases us with _|⟨x0,us⟩
 .cases h
 rcases us with _|⟨x1,us⟩
 .cases h
 rcases us with _|⟨y,us⟩
 .exact⟨x0,x1,rfl⟩
 .simp only[C9]at h;lia
theorem D3 {us:List Value}(h:us.length=3):∃x0 x1 x2,us=[x0,x1,x2]:=by
 rcases us with _|⟨x0,us⟩
 .cases h
 rcases us with _|⟨x1,us⟩
 .cases h
 rcases us with _|⟨x2,us⟩
 .cases h
 rcases us with _|⟨y,us⟩
 .exact⟨x0,x1,x2,rfl⟩
 .simp only[C9]at h;lia
theorem Ja {us:List Value}(h:us.length=4):∃x0 x1 x2 x3,us=[x0,x1,x2,x3]:=by
 rcases us with _|⟨x0,us⟩
 .cases h
 rcases us with _|⟨x1,us⟩
 .cases h
 rcases us with _|⟨x2,us⟩
 .cases h
 rcases us with _|⟨x3,us⟩
 .cases h
 rcases us with _|⟨y,us⟩
 .exact⟨x0,x1,x2,x3,rfl⟩
 .simp only[C9]at h;lia
theorem MZ {us:List Value}(h:us.length=6):∃x0 x1 x2 x3 x4 x5,us=[x0,x1,x2,x3,x4,x5]:=by
 rcases us with _|⟨x0,us⟩
 .cases h
 rcases us with _|⟨x1,us⟩
 .cases h
 rcases us with _|⟨x2,us⟩
 .cases h
 rcases us with _|⟨x3,us⟩
 .cases h
 rcases us with _|⟨x4,us⟩
 .cases h
 rcases us with _|⟨x5,us⟩
 .cases h
 rcases us with _|⟨y,us⟩
 .exact⟨x0,x1,x2,x3,x4,x5,rfl⟩
 .simp only[C9]at h;lia
theorem Vl {us:List Value}(h:us.length=8):∃x0 x1 x2 x3 x4 x5 x6 x7,us=[x0,x1,x2,x3,x4,x5,x6,x7]:=by
 rcases us with _|⟨x0,us⟩
 .cases h
 rcases us with _|⟨x1,us⟩
 .cases h
 rcases us with _|⟨x2,us⟩
 .cases h
 rcases us with _|⟨x3,us⟩
 .cases h
 rcases us with _|⟨x4,us⟩
 .cases h
 rcases us with _|⟨x5,us⟩
 .cases h
 rcases us with _|⟨x6,us⟩
 .cases h
 rcases us with _|⟨x7,us⟩
 .cases h
 rcases us with _|⟨y,us⟩
 .exact⟨x0,x1,x2,x3,x4,x5,x6,x7,rfl⟩
 .simp only[C9]at h;lia
theorem VQ:AM "__init__" "Number.__init__" Kt ["self","n"]:=fun _ _ _ _ _ _ _ h=>by obtain⟨_,_,rfl⟩:=CW h;rfl
theorem SB:AM "__init__" "Value.__init__" Lb ["self","name"]:=fun _ _ _ _ _ _ _ h=>by obtain⟨_,_,rfl⟩:=CW h;rfl
theorem S6:AM "__init__" "Cell.__init__" JG ["self","table","spots"]:=fun _ _ _ _ _ _ _ h=>by obtain⟨_,_,_,rfl⟩:=D3 h;rfl
theorem Rk:AM "__init__" "Joined.__init__" KN ["self","sign","left","right"]:=fun _ _ _ _ _ _ _ h=>by obtain⟨_,_,_,_,rfl⟩:=Ja h;rfl
theorem Xa:AM "reads" "Number.reads" Kf ["self"]:=fun _ _ _ _ _ _ _ h=>by obtain⟨_,rfl⟩:=D0 h;rfl
theorem So:AM "reads" "Value.reads" Kc ["self"]:=fun _ _ _ _ _ _ _ h=>by obtain⟨_,rfl⟩:=D0 h;rfl
theorem Uk:AM "reads" "Cell.reads" Ku ["self"]:=fun _ _ _ _ _ _ _ h=>by obtain⟨_,rfl⟩:=D0 h;rfl
theorem Sq:AM "reads" "Joined.reads" K0 ["self"]:=fun _ _ _ _ _ _ _ h=>by obtain⟨_,rfl⟩:=D0 h;rfl
theorem RI:AM "__init__" "Deed.__init__" Km ["self","names","lows","highs","table","spots","term","path"]:=fun _ _ _ _ _ _ _ h=>by obtain⟨_,_,_,_,_,_,_,_,rfl⟩:=Vl h;rfl
theorem Xs:AM "__init__" "Program.__init__" Ld ["self","size","deeds"]:=fun _ _ _ _ _ _ _ h=>by obtain⟨_,_,_,rfl⟩:=D3 h;rfl
theorem QN:AM "shared" "shared" JM ["one","other"]:=fun _ _ _ _ _ _ _ h=>by obtain⟨_,_,rfl⟩:=CW h;rfl
theorem Up:AM "alike_numbers" "alike_numbers" JI ["path","other","most"]:=fun _ _ _ _ _ _ _ h=>by obtain⟨_,_,_,rfl⟩:=D3 h;rfl
theorem YA:AM "settled" "settled" J0 ["count","bonds"]:=fun _ _ _ _ _ _ _ h=>by obtain⟨_,_,rfl⟩:=CW h;rfl
theorem Ti:AM "lowered_in_a_round" "lowered_in_a_round" JL ["bonds","values","lowered_by"]:=fun _ _ _ _ _ _ _ h=>by obtain⟨_,_,_,rfl⟩:=D3 h;rfl
theorem UV:AM "ring_behind" "ring_behind" Lf ["count","bonds","lowered_by","lowered"]:=fun _ _ _ _ _ _ _ h=>by obtain⟨_,_,_,_,rfl⟩:=Ja h;rfl
theorem Xm:AM "touches" "touches" J3 ["deed"]:=fun _ _ _ _ _ _ _ h=>by obtain⟨_,rfl⟩:=D0 h;rfl
theorem Tz:AM "loop_bonds" "loop_bonds" Kx ["deed","first"]:=fun _ _ _ _ _ _ _ h=>by obtain⟨_,_,rfl⟩:=CW h;rfl
theorem UU:AM "like_bonds" "like_bonds" JR ["spots","names","first","others","other_names","other_first"]:=fun _ _ _ _ _ _ _ h=>by obtain⟨_,_,_,_,_,_,rfl⟩:=MZ h;rfl
theorem VZ:AM "unknown_of" "unknown_of" KR ["spot","names","first"]:=fun _ _ _ _ _ _ _ h=>by obtain⟨_,_,_,rfl⟩:=D3 h;rfl
theorem Ry:AM "meets" "meets" KB ["program"]:=fun _ _ _ _ _ _ _ h=>by obtain⟨_,rfl⟩:=D0 h;rfl
theorem SL:AM "all_touches" "all_touches" Kg ["program"]:=fun _ _ _ _ _ _ _ h=>by obtain⟨_,rfl⟩:=D0 h;rfl
theorem V2:AM "cases" "cases" Kq ["program","k","l"]:=fun _ _ _ _ _ _ _ h=>by obtain⟨_,_,_,rfl⟩:=D3 h;rfl
theorem WV:AM "case_bonds" "case_bonds" Kh ["program","k","a","l","b","case"]:=fun _ _ _ _ _ _ _ h=>by obtain⟨_,_,_,_,_,_,rfl⟩:=MZ h;rfl
theorem QV:AM "order_bonds" "order_bonds" Ks ["many","case","behind"]:=fun _ _ _ _ _ _ _ h=>by obtain⟨_,_,_,rfl⟩:=D3 h;rfl
theorem W7:AM "leanings" "leanings" K3 ["program"]:=fun _ _ _ _ _ _ _ h=>by obtain⟨_,rfl⟩:=D0 h;rfl
theorem SR:AM "cases_met" "cases_met" Ka ["program"]:=fun _ _ _ _ _ _ _ h=>by obtain⟨_,rfl⟩:=D0 h;rfl
theorem Vv:AM "answer_of" "answer_of" IT ["program","k","l","bonds"]:=fun _ _ _ _ _ _ _ h=>by obtain⟨_,_,_,_,rfl⟩:=Ja h;rfl
theorem Td:AM "_law_cell" "_law_cell" KA ["_law_script","_law_k"]:=fun _ _ _ _ _ _ _ h=>by obtain⟨_,_,rfl⟩:=CW h;rfl
theorem Wg:AM "_law_whole" "_law_whole" JT ["_law_found"]:=fun _ _ _ _ _ _ _ h=>by obtain⟨_,rfl⟩:=D0 h;rfl
theorem W3:AM "_law_mixed" "_law_mixed" KY ["_law_cell_here","_law_k"]:=fun _ _ _ _ _ _ _ h=>by obtain⟨_,_,rfl⟩:=CW h;rfl
theorem TV:AM "_law_left" "_law_left" JF ["_law_cell_here","_law_k","_law_digits"]:=fun _ _ _ _ _ _ _ h=>by obtain⟨_,_,_,rfl⟩:=D3 h;rfl
theorem TL:AM "_law_digit" "_law_digit" K9 ["_law_left_here","_law_many"]:=fun _ _ _ _ _ _ _ h=>by obtain⟨_,_,rfl⟩:=CW h;rfl
theorem Wa:AM "_law_word" "_law_word" JP ["_law_cell_here","_law_e"]:=fun _ _ _ _ _ _ _ h=>by obtain⟨_,_,rfl⟩:=CW h;rfl
theorem S4:AM "_law_names" "_law_names" Gw ["_law_left_here","_law_cell_here","_law_digits"]:=fun _ _ _ _ _ _ _ h=>by obtain⟨_,_,_,rfl⟩:=D3 h;rfl
theorem RH:AM "_law_cell_of" "_law_cell_of" Kw ["_law_left_here","_law_bases","_law_heads"]:=fun _ _ _ _ _ _ _ h=>by obtain⟨_,_,_,rfl⟩:=D3 h;rfl
theorem Um:AM "_law_leaf" "_law_leaf" KP ["_law_left_here","_law_bases","_law_heads"]:=fun _ _ _ _ _ _ _ h=>by obtain⟨_,_,_,rfl⟩:=D3 h;rfl
theorem Su:AM "_law_term" "_law_term" JV ["_law_left_here","_law_bases","_law_heads"]:=fun _ _ _ _ _ _ _ h=>by obtain⟨_,_,_,rfl⟩:=D3 h;rfl
theorem XT:AM "_law_loop" "_law_loop" HW ["_law_left_here","_law_far","_law_stack","_law_names_here"]:=fun _ _ _ _ _ _ _ h=>by obtain⟨_,_,_,_,rfl⟩:=Ja h;rfl
theorem Rp:AM "_law_row" "_law_row" Hq ["_law_left_here","_law_stack","_law_path","_law_heads"]:=fun _ _ _ _ _ _ _ h=>by obtain⟨_,_,_,_,rfl⟩:=Ja h;rfl
theorem XN:AM "_law_setting" "_law_setting" HP ["_law_script"]:=fun _ _ _ _ _ _ _ h=>by obtain⟨_,rfl⟩:=D0 h;rfl
theorem SJ:AM "_law_rows" "_law_rows" Kp ["_law_script","_law_setting_here","_law_many"]:=fun _ _ _ _ _ _ _ h=>by obtain⟨_,_,_,rfl⟩:=D3 h;rfl
theorem Rh:AM "_law_object" "_law_object" JK ["_law_term_here"]:=fun _ _ _ _ _ _ _ h=>by obtain⟨_,rfl⟩:=D0 h;rfl
theorem Rx:AM "_law_made" "_law_made" Jh ["_law_size","_law_rows_here"]:=fun _ _ _ _ _ _ _ h=>by obtain⟨_,_,rfl⟩:=CW h;rfl
theorem Xo:AM "_law_around" "_law_around" KO ["_law_names_here","_law_values"]:=fun _ _ _ _ _ _ _ h=>by obtain⟨_,_,rfl⟩:=CW h;rfl
theorem QU:AM "_law_stand" "_law_stand" KF ["_law_spots","_law_around_here"]:=fun _ _ _ _ _ _ _ h=>by obtain⟨_,_,rfl⟩:=CW h;rfl
theorem QL:AM "_law_is_turn" "_law_is_turn" Kn ["_law_turn","_law_rows_here"]:=fun _ _ _ _ _ _ _ h=>by obtain⟨_,_,rfl⟩:=CW h;rfl
theorem SG:AM "_law_reads" "_law_reads" Ki ["_law_term_here"]:=fun _ _ _ _ _ _ _ h=>by obtain⟨_,rfl⟩:=D0 h;rfl
theorem Xn:AM "_law_touches" "_law_touches" Kv ["_law_row_here"]:=fun _ _ _ _ _ _ _ h=>by obtain⟨_,rfl⟩:=D0 h;rfl
theorem X3:AM "_law_meets" "_law_meets" KI ["_law_rows_here"]:=fun _ _ _ _ _ _ _ h=>by obtain⟨_,rfl⟩:=D0 h;rfl
theorem Ys:AM "_law_shared" "_law_shared" Lk ["_law_one","_law_other"]:=fun _ _ _ _ _ _ _ h=>by obtain⟨_,_,rfl⟩:=CW h;rfl
theorem WT:AM "_law_cases" "_law_cases" Jp ["_law_rows_here","_law_k","_law_l"]:=fun _ _ _ _ _ _ _ h=>by obtain⟨_,_,_,rfl⟩:=D3 h;rfl
theorem Sb:AM "_law_case_of" "_law_case_of" KZ ["_law_rows_here","_law_one","_law_other"]:=fun _ _ _ _ _ _ _ h=>by obtain⟨_,_,_,rfl⟩:=D3 h;rfl
theorem UD:AM "_law_unknown" "_law_unknown" Ke ["_law_name","_law_names_here","_law_first"]:=fun _ _ _ _ _ _ _ h=>by obtain⟨_,_,_,rfl⟩:=D3 h;rfl
theorem Rc:AM "_law_loop_bonds" "_law_loop_bonds" K1 ["_law_row_here","_law_first"]:=fun _ _ _ _ _ _ _ h=>by obtain⟨_,_,rfl⟩:=CW h;rfl
theorem RQ:AM "_law_case_bonds" "_law_case_bonds" KD ["_law_rows_here","_law_k","_law_a","_law_l","_law_b","_law_case"]:=fun _ _ _ _ _ _ _ h=>by obtain⟨_,_,_,_,_,_,rfl⟩:=MZ h;rfl
theorem QS:AM "_law_round" "_law_round" IL ["_law_found","_law_bonds"]:=fun _ _ _ _ _ _ _ h=>by obtain⟨_,_,rfl⟩:=CW h;rfl
theorem Ul:AM "_law_pair" "_law_pair" K8 ["_law_rows_here","_law_told","_law_lean"]:=fun _ _ _ _ _ _ _ h=>by obtain⟨_,_,_,rfl⟩:=D3 h;rfl
theorem Uq:AM "_law_answer" "_law_answer" Kd ["_law_rows_here","_law_told","_law_lean"]:=fun _ _ _ _ _ _ _ h=>by obtain⟨_,_,_,rfl⟩:=D3 h;rfl
theorem WC:AM "_law_short" "_law_short" II ["_law_rows_here"]:=fun _ _ _ _ _ _ _ h=>by obtain⟨_,rfl⟩:=D0 h;rfl
theorem VA:AM "_law_wide" "_law_wide" IP ["_law_rows_here","_law_left_here"]:=fun _ _ _ _ _ _ _ h=>by obtain⟨_,_,rfl⟩:=CW h;rfl
theorem VL:AM "_law_due" "_law_due" KG ["_law_rows_here"]:=fun _ _ _ _ _ _ _ h=>by obtain⟨_,rfl⟩:=D0 h;rfl
theorem Ss:AM "_law_walked" "_law_walked" Ji ["_law_rows_here","_law_found"]:=fun _ _ _ _ _ _ _ h=>by obtain⟨_,_,rfl⟩:=CW h;rfl
theorem T2:AM "law" "law" L9 ["_law_script"]:=fun _ _ _ _ _ _ _ h=>by obtain⟨_,rfl⟩:=D0 h;rfl
theorem txt_mk {K:YO}{h:Heap}{mg:Str->Option Value}{fa:Addr}(X:K.In h)(G:h.Ns mainGlobals mg)(hfa:mg "law"=some (.ref fa))
  {C_Term:Addr} {C_Number:Addr} {C_Value:Addr} {C_Cell:Addr} {C_Joined:Addr} {C_Deed:Addr} {C_Program:Addr} {f1 f2 f3 f4 f5 f6 f7 f8 f9 f10 f11 f12 f13 f14 f15 f16 f17 f18 f19 f20 f21 f22 f23 f24 f25 f26 f27 f28 f29 f30 f31 f32 f33 f34 f35 f36 f37 f38 f39 f40 f41 f42 f43 f44 f45 f46 f47 f48 f49 f50 f51 f52 f53 f54 f55 f56 f57 f58 f59 f60 f61 f62 f63:Addr} {d1 d2 d3 d4 d5 d6 d7 d8 d9 d10 d11 d12 d13 d14 d15 d16 d17 d18 d19 d20 d21 d22 d23 d24 d25 d26 d27 d28 d29 d30 d31 d32 d33 d34 d35 d36 d37 d38 d39 d40 d41 d42 d43 d44 d45 d46 d47 d48 d49 d50 d51 d52 d53 d54 d55 d56 d57 d58 d59 d60 d61 d62 d63:FuncData}
  (a_Term:ClA K C_Term "Term")
  (a_Number:ClA K C_Number "Number")
  (a_Value:ClA K C_Value "Value")
  (a_Cell:ClA K C_Cell "Cell")
  (a_Joined:ClA K C_Joined "Joined")
  (a_Deed:ClA K C_Deed "Deed")
  (a_Program:ClA K C_Program "Program")
  (h1:Fh K C_Number "__init__" "Number.__init__" Kt f1 d1)
  (h2:Fh K C_Value "__init__" "Value.__init__" Lb f2 d2)
  (h3:Fh K C_Cell "__init__" "Cell.__init__" JG f3 d3)
  (h4:Fh K C_Joined "__init__" "Joined.__init__" KN f4 d4)
  (h5:Fh K C_Number "reads" "Number.reads" Kf f5 d5)
  (h6:Fh K C_Value "reads" "Value.reads" Kc f6 d6)
  (h7:Fh K C_Cell "reads" "Cell.reads" Ku f7 d7)
  (h8:Fh K C_Joined "reads" "Joined.reads" K0 f8 d8)
  (h9:Fh K C_Deed "__init__" "Deed.__init__" Km f9 d9)
  (h10:Fh K C_Program "__init__" "Program.__init__" Ld f10 d10)
  (h11:B4 K "shared" JM f11 d11)
  (h12:B4 K "alike_numbers" JI f12 d12)
  (h13:B4 K "settled" J0 f13 d13)
  (h14:B4 K "lowered_in_a_round" JL f14 d14)
  (h15:B4 K "ring_behind" Lf f15 d15)
  (h16:B4 K "touches" J3 f16 d16)
  (h17:B4 K "loop_bonds" Kx f17 d17)
  (h18:B4 K "like_bonds" JR f18 d18)
  (h19:B4 K "unknown_of" KR f19 d19)
  (h20:B4 K "meets" KB f20 d20)
  (h21:B4 K "all_touches" Kg f21 d21)
  (h22:B4 K "cases" Kq f22 d22)
  (h23:B4 K "case_bonds" Kh f23 d23)
  (h24:B4 K "order_bonds" Ks f24 d24)
  (h25:B4 K "leanings" K3 f25 d25)
  (h26:B4 K "cases_met" Ka f26 d26)
  (h27:B4 K "answer_of" IT f27 d27)
  (h28:B4 K "_law_cell" KA f28 d28)
  (h29:B4 K "_law_whole" JT f29 d29)
  (h30:B4 K "_law_mixed" KY f30 d30)
  (h31:B4 K "_law_left" JF f31 d31)
  (h32:B4 K "_law_digit" K9 f32 d32)
  (h33:B4 K "_law_word" JP f33 d33)
  (h34:B4 K "_law_names" Gw f34 d34)
  (h35:B4 K "_law_cell_of" Kw f35 d35)
  (h36:B4 K "_law_leaf" KP f36 d36)
  (h37:B4 K "_law_term" JV f37 d37)
  (h38:B4 K "_law_loop" HW f38 d38)
  (h39:B4 K "_law_row" Hq f39 d39)
  (h40:B4 K "_law_setting" HP f40 d40)
  (h41:B4 K "_law_rows" Kp f41 d41)
  (h42:B4 K "_law_object" JK f42 d42)
  (h43:B4 K "_law_made" Jh f43 d43)
  (h44:B4 K "_law_around" KO f44 d44)
  (h45:B4 K "_law_stand" KF f45 d45)
  (h46:B4 K "_law_is_turn" Kn f46 d46)
  (h47:B4 K "_law_reads" Ki f47 d47)
  (h48:B4 K "_law_touches" Kv f48 d48)
  (h49:B4 K "_law_meets" KI f49 d49)
  (h50:B4 K "_law_shared" Lk f50 d50)
  (h51:B4 K "_law_cases" Jp f51 d51)
  (h52:B4 K "_law_case_of" KZ f52 d52)
  (h53:B4 K "_law_unknown" Ke f53 d53)
  (h54:B4 K "_law_loop_bonds" K1 f54 d54)
  (h55:B4 K "_law_case_bonds" KD f55 d55)
  (h56:B4 K "_law_round" IL f56 d56)
  (h57:B4 K "_law_pair" K8 f57 d57)
  (h58:B4 K "_law_answer" Kd f58 d58)
  (h59:B4 K "_law_short" II f59 d59)
  (h60:B4 K "_law_wide" IP f60 d60)
  (h61:B4 K "_law_due" KG f61 d61)
  (h62:B4 K "_law_walked" Ji f62 d62)
  (h63:B4 K "law" L9 f63 d63)
  (n_Number_n:PySem.W.findIn K (.ref C_Number) "n"=some none)
  (n_Value_name:PySem.W.findIn K (.ref C_Value) "name"=some none)
  (n_Cell_table:PySem.W.findIn K (.ref C_Cell) "table"=some none)
  (n_Cell_spots:PySem.W.findIn K (.ref C_Cell) "spots"=some none)
  (n_Joined_sign:PySem.W.findIn K (.ref C_Joined) "sign"=some none)
  (n_Joined_left:PySem.W.findIn K (.ref C_Joined) "left"=some none)
  (n_Joined_right:PySem.W.findIn K (.ref C_Joined) "right"=some none)
  (n_Deed_names:PySem.W.findIn K (.ref C_Deed) "names"=some none)
  (n_Deed_lows:PySem.W.findIn K (.ref C_Deed) "lows"=some none)
  (n_Deed_highs:PySem.W.findIn K (.ref C_Deed) "highs"=some none)
  (n_Deed_table:PySem.W.findIn K (.ref C_Deed) "table"=some none)
  (n_Deed_spots:PySem.W.findIn K (.ref C_Deed) "spots"=some none)
  (n_Deed_term:PySem.W.findIn K (.ref C_Deed) "term"=some none)
  (n_Deed_path:PySem.W.findIn K (.ref C_Deed) "path"=some none)
  (n_Program_size:PySem.W.findIn K (.ref C_Program) "size"=some none)
  (n_Program_deeds:PySem.W.findIn K (.ref C_Program) "deeds"=some none)
  (z_bool:PySem.W.nsIn K mainGlobals "bool"=some none)
  (z_enumerate:PySem.W.nsIn K mainGlobals "enumerate"=some none)
  (z_int:PySem.W.nsIn K mainGlobals "int"=some none)
  (z_isinstance:PySem.W.nsIn K mainGlobals "isinstance"=some none)
  (z_len:PySem.W.nsIn K mainGlobals "len"=some none)
  (z_list:PySem.W.nsIn K mainGlobals "list"=some none)
  (z_min:PySem.W.nsIn K mainGlobals "min"=some none)
  (z_range:PySem.W.nsIn K mainGlobals "range"=some none)
  (z_str:PySem.W.nsIn K mainGlobals "str"=some none)
  (z_sum:PySem.W.nsIn K mainGlobals "sum"=some none)
  (z_tuple:PySem.W.nsIn K mainGlobals "tuple"=some none)
  (z_zip:PySem.W.nsIn K mainGlobals "zip"=some none) :
  ∃a:Ad,Tx K mg a/\fa=a.f_4/\(∀(s:Shared) (v:Value),BindsTo s a.d_4 ⟨[v],[]⟩ [("_law_script",v)]):=by
 have e:=hfa.symm.trans (AW X G h63.a)
 cases e
 obtain⟨_,_,_,_,_,_,_,_,_,rfl,_⟩:=h63.F.ex
 exact⟨⟨f1,d1,f2,d2,f3,d3,f4,d4,f5,d5,f6,d6,f7,d7,f8,d8,f9,d9,f10,d10,f11,d11,f12,d12,f13,d13,f14,d14,f15,d15,f16,d16,f17,d17,f18,d18,f19,d19,f20,d20,f21,d21,f22,d22,f23,d23,f24,d24,f25,d25,f26,d26,f27,d27,f28,d28,f29,d29,f30,d30,f31,d31,f32,d32,f33,d33,f34,d34,f35,d35,f36,d36,f37,d37,f38,d38,f39,d39,f40,d40,f41,d41,f42,d42,f43,d43,f44,d44,f45,d45,f46,d46,f47,d47,f48,d48,f49,d49,f50,d50,f51,d51,f52,d52,f53,d53,f54,d54,f55,d55,f56,d56,f57,d57,f58,d58,f59,d59,f60,d60,f61,d61,f62,d62,fa,_,C_Term,C_Number,C_Value,C_Cell,C_Joined,C_Deed,C_Program⟩,⟨h1.F,
  h1.F.binds VQ,
  h2.F,
  h2.F.binds SB,
  h3.F,
  h3.F.binds S6,
  h4.F,
  h4.F.binds Rk,
  h5.F,
  h5.F.binds Xa,
  h6.F,
  h6.F.binds So,
  h7.F,
  h7.F.binds Uk,
  h8.F,
  h8.F.binds Sq,
  h9.F,
  h9.F.binds RI,
  h10.F,
  h10.F.binds Xs,
  h11.F,
  h11.F.binds QN,
  AW X G h11.a,
  h12.F,
  h12.F.binds Up,
  AW X G h12.a,
  h13.F,
  h13.F.binds YA,
  AW X G h13.a,
  h14.F,
  h14.F.binds Ti,
  AW X G h14.a,
  h15.F,
  h15.F.binds UV,
  AW X G h15.a,
  h16.F,
  h16.F.binds Xm,
  AW X G h16.a,
  h17.F,
  h17.F.binds Tz,
  AW X G h17.a,
  h18.F,
  h18.F.binds UU,
  AW X G h18.a,
  h19.F,
  h19.F.binds VZ,
  AW X G h19.a,
  h20.F,
  h20.F.binds Ry,
  AW X G h20.a,
  h21.F,
  h21.F.binds SL,
  AW X G h21.a,
  h22.F,
  h22.F.binds V2,
  AW X G h22.a,
  h23.F,
  h23.F.binds WV,
  AW X G h23.a,
  h24.F,
  h24.F.binds QV,
  AW X G h24.a,
  h25.F,
  h25.F.binds W7,
  AW X G h25.a,
  h26.F,
  h26.F.binds SR,
  AW X G h26.a,
  h27.F,
  h27.F.binds Vv,
  AW X G h27.a,
  h28.F,
  h28.F.binds Td,
  AW X G h28.a,
  h29.F,
  h29.F.binds Wg,
  AW X G h29.a,
  h30.F,
  h30.F.binds W3,
  AW X G h30.a,
  h31.F,
  h31.F.binds TV,
  AW X G h31.a,
  h32.F,
  h32.F.binds TL,
  AW X G h32.a,
  h33.F,
  h33.F.binds Wa,
  AW X G h33.a,
  h34.F,
  h34.F.binds S4,
  AW X G h34.a,
  h35.F,
  h35.F.binds RH,
  AW X G h35.a,
  h36.F,
  h36.F.binds Um,
  AW X G h36.a,
  h37.F,
  h37.F.binds Su,
  AW X G h37.a,
  h38.F,
  h38.F.binds XT,
  AW X G h38.a,
  h39.F,
  h39.F.binds Rp,
  AW X G h39.a,
  h40.F,
  h40.F.binds XN,
  AW X G h40.a,
  h41.F,
  h41.F.binds SJ,
  AW X G h41.a,
  h42.F,
  h42.F.binds Rh,
  AW X G h42.a,
  h43.F,
  h43.F.binds Rx,
  AW X G h43.a,
  h44.F,
  h44.F.binds Xo,
  AW X G h44.a,
  h45.F,
  h45.F.binds QU,
  AW X G h45.a,
  h46.F,
  h46.F.binds QL,
  AW X G h46.a,
  h47.F,
  h47.F.binds SG,
  AW X G h47.a,
  h48.F,
  h48.F.binds Xn,
  AW X G h48.a,
  h49.F,
  h49.F.binds X3,
  AW X G h49.a,
  h50.F,
  h50.F.binds Ys,
  AW X G h50.a,
  h51.F,
  h51.F.binds WT,
  AW X G h51.a,
  h52.F,
  h52.F.binds Sb,
  AW X G h52.a,
  h53.F,
  h53.F.binds UD,
  AW X G h53.a,
  h54.F,
  h54.F.binds Rc,
  AW X G h54.a,
  h55.F,
  h55.F.binds RQ,
  AW X G h55.a,
  h56.F,
  h56.F.binds QS,
  AW X G h56.a,
  h57.F,
  h57.F.binds Ul,
  AW X G h57.a,
  h58.F,
  h58.F.binds Uq,
  AW X G h58.a,
  h59.F,
  h59.F.binds WC,
  AW X G h59.a,
  h60.F,
  h60.F.binds VA,
  AW X G h60.a,
  h61.F,
  h61.F.binds VL,
  AW X G h61.a,
  h62.F,
  h62.F.binds Ss,
  AW X G h62.a,
  h63.F,
  h63.F.binds T2,
  AW X G h63.a,
  ⟨a_Term.pg,a_Term.hd,a_Term.po,a_Term.sa⟩,
  AW X G a_Term.a,
  ⟨a_Number.pg,a_Number.hd,a_Number.po,a_Number.sa⟩,
  AW X G a_Number.a,
  ⟨a_Number.mi,h1.a,h1.i,a_Number.kc⟩,
  ⟨h5.a,h5.i,h5.F.kp⟩,
  n_Number_n,
  ⟨a_Value.pg,a_Value.hd,a_Value.po,a_Value.sa⟩,
  AW X G a_Value.a,
  ⟨a_Value.mi,h2.a,h2.i,a_Value.kc⟩,
  ⟨h6.a,h6.i,h6.F.kp⟩,
  n_Value_name,
  ⟨a_Cell.pg,a_Cell.hd,a_Cell.po,a_Cell.sa⟩,
  AW X G a_Cell.a,
  ⟨a_Cell.mi,h3.a,h3.i,a_Cell.kc⟩,
  ⟨h7.a,h7.i,h7.F.kp⟩,
  n_Cell_table,
  n_Cell_spots,
  ⟨a_Joined.pg,a_Joined.hd,a_Joined.po,a_Joined.sa⟩,
  AW X G a_Joined.a,
  ⟨a_Joined.mi,h4.a,h4.i,a_Joined.kc⟩,
  ⟨h8.a,h8.i,h8.F.kp⟩,
  n_Joined_sign,
  n_Joined_left,
  n_Joined_right,
  ⟨a_Deed.pg,a_Deed.hd,a_Deed.po,a_Deed.sa⟩,
  AW X G a_Deed.a,
  ⟨a_Deed.mi,h9.a,h9.i,a_Deed.kc⟩,
  n_Deed_names,
  n_Deed_lows,
  n_Deed_highs,
  n_Deed_table,
  n_Deed_spots,
  n_Deed_term,
  n_Deed_path,
  ⟨a_Program.pg,a_Program.hd,a_Program.po,a_Program.sa⟩,
  AW X G a_Program.a,
  ⟨a_Program.mi,h10.a,h10.i,a_Program.kc⟩,
  n_Program_size,
  n_Program_deeds,
  F0 X G z_bool,
  F0 X G z_enumerate,
  F0 X G z_int,
  F0 X G z_isinstance,
  F0 X G z_len,
  F0 X G z_list,
  F0 X G z_min,
  F0 X G z_range,
  F0 X G z_str,
  F0 X G z_sum,
  F0 X G z_tuple,
  F0 X G z_zip⟩,rfl,fun s v=>.of_eq rfl⟩
end Fw
open PySem PySem.W PyProof.Rows
namespace PySem.W.Fast
def tw10117684944521550914:=True
def tw10159016000647868517:=True
def tw10182182474053030437:=True
def tw10188672912521891189:=True
def tw10255484307377354516:=True
def tw1026315452642783409:=True
def tw1026811891796167269:=True
def tw10310321729152160797:=True
def tw10369842041065315218:=True
def tw10382276622045332846:=True
def tw10392172215506453274:=True
def tw10395343745294895968:=True
def tw10431067787421666501:=True
def tw10464230277448907508:=True
def tw10516447598953720448:=True
def tw10541256618556248719:=True
def tw10556396636689808576:=True
def tw10586236130044591474:=True
def tw1060516239756800909:=True
def tw10613966207930699896:=True
def tw10661151211668014335:=True
def tw10690054300260268011:=True
def tw10712962156531825321:=True
def tw10741032617179178828:=True
def tw10796125020580337782:=True
def tw10803798501969038098:=True
def tw10844404294459883647:=True
def tw10847059857830436656:=True
def tw10899711063155960715:=True
def tw10909299151933462670:=True
def tw1094295059386677333:=True
def tw10975290294277356916:=True
def tw10986086712892559686:=True
def tw11023871781547024353:=True
def tw1110963085661630697:=True
def tw11170791234977140445:=True
def tw11175153918850529189:=True
def tw11210550644903321667:=True
def tw11229827662611983797:=True
def tw11232867757578618058:=True
def tw11244330429847713783:=True
def tw11259250518373803964:=True
def tw11265888379358912461:=True
def tw11281781194485396038:=True
def tw11311676679594682397:=True
def tw11330555089074856691:=True
def tw11341088851629607409:=True
def tw11346881399628884128:=True
def tw11360925754878286479:=True
def tw11481691415526419495:=True
def tw11518931673104032946:=True
def tw11566519711605472358:=True
def tw11589779583112278299:=True
def tw11733088357791661453:=True
def tw11734115432794954128:=True
def tw11737247831427804712:=True
def tw11758531229872583452:=True
def tw11774611984417639245:=True
def tw11861675633119432106:=True
def tw11865969685008847925:=True
def tw11895244861315766463:=True
def tw11907300673642902538:=True
def tw11992215910597742294:=True
def tw12018866917101600736:=True
def tw12073302182301191027:=True
def tw12075144768388899362:=True
def tw12206909900280878590:=True
def tw12254794619913961061:=True
def tw12264552034150313977:=True
def tw12276003351989432679:=True
def tw12320804633131132053:=True
def tw12384063622542339195:=True
def tw12385141918968339458:=True
def tw12429664908463793402:=True
def tw12457698524925834264:=True
def tw12458716124487113928:=True
def tw12475913744902279391:=True
def tw12514467915101644079:=True
def tw12524954526735140911:=True
def tw12546231390969140546:=True
def tw12570638997115913776:=True
def tw12599666739381265914:=True
def tw12609660544760748873:=True
def tw12621016623801466264:=True
def tw12638222304590082492:=True
def tw12703573025471144305:=True
def tw12752321698885588422:=True
def tw12757504048312617141:=True
def tw12793699452978009710:=True
def tw12804771623084946915:=True
def tw12826377962449579867:=True
def tw1286355294690320201:=True
def tw12908533975274840541:=True
def tw1291910115948475851:=True
def tw12974804361712141222:=True
def tw12977275548174568612:=True
def tw13002211782031846977:=True
def tw13015344528759140270:=True
def tw1309544500973182800:=True
def tw1310242329536724851:=True
def tw13143842595580203102:=True
def tw13168620398683015845:=True
def tw13176133570766037372:=True
def tw13190369081087706160:=True
def tw13307143958656389957:=True
def tw13332077997802760888:=True
def tw13402154786104748507:=True
def tw13439327443185459757:=True
def tw13493907387437586797:=True
def tw13509892569540864899:=True
def tw13526332323025593512:=True
def tw1357935807617565599:=True
def tw13593681579656627935:=True
def tw13606375190110714429:=True
def tw13704860308134414414:=True
def tw13706470169052916330:=True
def tw13747809259377860147:=True
def tw13769340931621377477:=True
def tw13782355696851280561:=True
def tw13937290679796302834:=True
def tw13971231499903511796:=True
def tw14060798871399352219:=True
def tw14069630055941224307:=True
def tw14120442157104007634:=True
def tw14174248780910871233:=True
def tw1418497199033102741:=True
def tw14200924914271588723:=True
def tw14220123457102019805:=True
def tw14256620162696232007:=True
def tw14297831075616808951:=True
def tw14316622418225323097:=True
def tw14418153589736553376:=True
def tw14497480220946736762:=True
def tw14536781375453533821:=True
def tw1460271518839647783:=True
def tw14606858418309406918:=True
def tw14652200501055451884:=True
def tw14654080503688068203:=True
def tw14710101323766782682:=True
def tw14712002851723512797:=True
def tw14739273912245773929:=True
def tw14809546263466129426:=True
def tw14887030134405111982:=True
def tw14912257270513229399:=True
def tw14921009673187508115:=True
def tw15022966862761845570:=True
def tw1513040931075259056:=True
def tw15169584229215840354:=True
def tw15221967750683205464:=True
def tw15241505271946580915:=True
def tw15243804172323677181:=True
def tw15273810577689437854:=True
def tw15345641013201994008:=True
def tw15369869774494519340:=True
def tw15372808192714301779:=True
def tw15376936872498598302:=True
def tw15394970348125800166:=True
def tw15422813496960159391:=True
def tw1546429480208488254:=True
def tw15494111547980162058:=True
def tw15499667924475798492:=True
def tw15529734349505912250:=True
def tw15536642859359803769:=True
def tw15658670675493124261:=True
def tw15705660936246896783:=True
def tw1576512656351026498:=True
def tw15772664396697002228:=True
def tw15792330618901025832:=True
def tw15834210292351310911:=True
def tw15837920881310429397:=True
def tw1585604636984217350:=True
def tw15861814835657223793:=True
def tw15877463903454521294:=True
def tw15886655251075378126:=True
def tw1592064649323790438:=True
def tw15988114170028763962:=True
def tw15996799462311238802:=True
def tw1603480415770150105:=True
def tw16078922124740647842:=True
def tw16235078093429729790:=True
def tw16246882090857377288:=True
def tw16259438720286370150:=True
def tw1629304760263457464:=True
def tw16329345629865026943:=True
def tw16333294990150590272:=True
def tw16387817370900409158:=True
def tw16391873845573839013:=True
def tw16392261195558048813:=True
def tw16473727936011255506:=True
def tw16485031802143482005:=True
def tw16503249380148441026:=True
def tw16532023057135722518:=True
def tw16544127578604225412:=True
def tw16574401275744772419:=True
def tw16618014753017828284:=True
def tw16631140357317321744:=True
def tw16644567667018566578:=True
def tw16704605637682926984:=True
def tw16709158872679909389:=True
def tw1681358381921389328:=True
def tw16907471310242581861:=True
def tw16938820606310910753:=True
def tw169434457520209459:=True
def tw16957375379513501733:=True
def tw1696989249575516819:=True
def tw16971111060187269620:=True
def tw16990682861462455158:=True
def tw16995600313488457514:=True
def tw17002029344941327042:=True
def tw1701472394179099768:=True
def tw17031027703750573504:=True
def tw17126524641075078787:=True
def tw17132432564112181921:=True
def tw17140463861470452031:=True
def tw17165881605852605041:=True
def tw17166925119665249562:=True
def tw17172754941292760251:=True
def tw17272037783633578881:=True
def tw17278809501389983167:=True
def tw17294857578865180388:=True
def tw17330076459054551565:=True
def tw1738655515986504773:=True
def tw17400374812728902594:=True
def tw1753136714125803830:=True
def tw17551209343040751882:=True
def tw17567768023675186241:=True
def tw17570709964295369297:=True
def tw17593462938180437887:=True
def tw17660429191206777788:=True
def tw17692527709092097811:=True
def tw17711298605795251613:=True
def tw17735666209128066539:=True
def tw17744963453397653521:=True
def tw1782164738043116825:=True
def tw17841246831181923106:=True
def tw17855755348637899934:=True
def tw17877795001833851118:=True
def tw17884283944096004116:=True
def tw179084524823304153:=True
def tw1791563314663540127:=True
def tw17969562844363743053:=True
def tw18019251653085746407:=True
def tw18040004653028240330:=True
def tw18058694331904905762:=True
def tw18076625790589118400:=True
def tw18157339463808883841:=True
def tw18158640475985042963:=True
def tw18170665346605781427:=True
def tw18190576797815938179:=True
def tw18232112932428588926:=True
def tw18261307233742141036:=True
def tw18384645585699342890:=True
def tw18391104170793185055:=True
def tw18434369589228828045:=True
def tw1851342248537747343:=True
def tw1920486698197994628:=True
def tw1922438364360221197:=True
def tw2000002233224436499:=True
def tw2004942598829598562:=True
def tw2072155580969677841:=True
def tw2095035013603582742:=True
def tw2167556894705183113:=True
def tw2169813218763455371:=True
def tw2307416050325398910:=True
def tw2341361180838655253:=True
def tw2352987601985010619:=True
def tw2426180281945773245:=True
def tw2433522464335186234:=True
def tw2462592161593075520:=True
def tw2534226749012656586:=True
def tw2580400613678807946:=True
def tw2596446524623143717:=True
def tw2631050776333752573:=True
def tw2655498125206876945:=True
def tw2663236736849215172:=True
def tw2707233441259904924:=True
def tw2720563755572294010:=True
def tw2723417897670434356:=True
def tw272989919152122625:=True
def tw2759393387373540826:=True
def tw2771116198008843049:=True
def tw2849959000803013304:=True
def tw2895910290821300754:=True
def tw291778014306234579:=True
def tw2958166248400893988:=True
def tw2984432745203754540:=True
def tw3005099444174262150:=True
def tw3013488707578857820:=True
def tw3103023852747575616:=True
def tw3141662725004392418:=True
def tw3194906902897913156:=True
def tw3252794910775606354:=True
def tw3318000713081720372:=True
def tw3410316004474501648:=True
def tw3504681581467465815:=True
def tw3507436339754579422:=True
def tw3547902780081113610:=True
def tw3570494686353070753:=True
def tw3584448284795836053:=True
def tw3614241813654296028:=True
def tw3614880893374280867:=True
def tw36198089815282382:=True
def tw361984764709915244:=True
def tw3653529779283961132:=True
def tw3655861152048182887:=True
def tw368039533007430838:=True
def tw3715326515839002624:=True
def tw3757191792859864170:=True
def tw3768217227807224227:=True
def tw3781999159952553934:=True
def tw3785321610386741882:=True
def tw3788792800019215640:=True
def tw3840877438584349630:=True
def tw3876306812534028179:=True
def tw391389008103172320:=True
def tw3974160836465172827:=True
def tw3985631435784337374:=True
def tw4021977137280833359:=True
def tw4050204022273996649:=True
def tw4055913821194151802:=True
def tw4113590596446072141:=True
def tw4114483896937668651:=True
def tw4127265712258432960:=True
def tw415296442898396279:=True
def tw4193734618752072347:=True
def tw4201164314658914096:=True
def tw4225222563569559958:=True
def tw423371608422183238:=True
def tw4296345976854360805:=True
def tw4309662539500347334:=True
def tw4322218929258657790:=True
def tw4329773096823351408:=True
def tw4350439482165805263:=True
def tw4370693898881157613:=True
def tw4401888186951610210:=True
def tw4408401557939652895:=True
def tw4427197805468978323:=True
def tw4458236144697599287:=True
def tw4489796970720865547:=True
def tw4508485512903869498:=True
def tw4528813537949844881:=True
def tw4531154369532567413:=True
def tw4613162061175661354:=True
def tw4636842884706551167:=True
def tw4647046364064161511:=True
def tw4670712394951150446:=True
def tw4676374583061334572:=True
def tw4676514501881780709:=True
def tw4709884539243435437:=True
def tw4743470348978787470:=True
def tw4811459987086088566:=True
def tw4851908489158945983:=True
def tw4876161422542636068:=True
def tw4937117437746977150:=True
def tw5021089901372790814:=True
def tw5022474956336523556:=True
def tw5029231542672887898:=True
def tw5067621308249019876:=True
def tw5092105398378432012:=True
def tw5193263333287031221:=True
def tw5341710004915811056:=True
def tw5351333537554054952:=True
def tw5391911774077171371:=True
def tw540179428822508561:=True
def tw5440632813312584331:=True
def tw5475657293672336:=True
def tw5503076723217277184:=True
def tw5556776584524545280:=True
def tw5652225962213002767:=True
def tw5658182959925601184:=True
def tw5663786085897739702:=True
def tw570142812662420159:=True
def tw572375421507937781:=True
def tw5731219003085402517:=True
def tw5736212102812796841:=True
def tw5774507064414332398:=True
def tw5798863374758785376:=True
def tw5842015310203725298:=True
def tw5865269186284605577:=True
def tw5884753947699903128:=True
def tw5923831954689963116:=True
def tw5963933094168990062:=True
def tw5969888176007297236:=True
def tw6008480367404139098:=True
def tw6051945187546716819:=True
def tw6167563991931031459:=True
def tw61969677155120276:=True
def tw6204900655579214859:=True
def tw6221317288805963699:=True
def tw6225130910635168639:=True
def tw6230647167677947103:=True
def tw6337025082722381160:=True
def tw6439703036079661604:=True
def tw6501480094033082838:=True
def tw6520562186695996432:=True
def tw6546324911641699471:=True
def tw6567335965891731906:=True
def tw6584263721190239130:=True
def tw6598249845800599306:=True
def tw6614328816289607474:=True
def tw6623433696643767934:=True
def tw6694622598967817201:=True
def tw6762137297069293575:=True
def tw6839226426026195763:=True
def tw6874964969532942444:=True
def tw6916899878989471944:=True
def tw6963354667044808277:=True
def tw7009183677179148256:=True
def tw7039303943334475991:=True
def tw704057204959118827:=True
def tw7062858010310231000:=True
def tw7067310067635964643:=True
def tw7076065386798305116:=True
def tw7152293573007882951:=True
def tw7156795087051628576:=True
def tw7194069408330069752:=True
def tw7234973291794191385:=True
def tw7243751980897877242:=True
def tw7259868269572227490:=True
def tw7264746697819254913:=True
def tw7268491615776250086:=True
def tw7291344049523911652:=True
def tw7296358847382408650:=True
def tw7415759839501242365:=True
def tw7435617261316492368:=True
def tw7491518138018853779:=True
def tw7501632458913511156:=True
def tw7557221808295043829:=True
def tw7629185458670640108:=True
def tw7657496476538402947:=True
def tw7657652417400780261:=True
def tw7666158792025028883:=True
def tw7673386260689504743:=True
def tw7673643471091355035:=True
def tw7679710176113951992:=True
def tw7710002977793655603:=True
def tw7728557603785559745:=True
def tw7736217449675802201:=True
def tw7737161161119222689:=True
def tw7742331024160438791:=True
def tw7853791661395566063:=True
def tw7959132726509967901:=True
def tw8011421702657645437:=True
def tw8091031361831522218:=True
def tw8133687994858809160:=True
def tw8163651417378696531:=True
def tw8170352958511710343:=True
def tw8170497816457591673:=True
def tw8172512667188755860:=True
def tw8201738061939663355:=True
def tw820437812351639120:=True
def tw8230395935974255208:=True
def tw8233450080442718795:=True
def tw8243116604516900459:=True
def tw8268205261952887479:=True
def tw8270236124600294444:=True
def tw8275815273474562948:=True
def tw8367531261252574334:=True
def tw8371985348094387678:=True
def tw8419824249770272798:=True
def tw842411061961134529:=True
def tw8503849293656459866:=True
def tw8580687982146069772:=True
def tw8583789014447572683:=True
def tw8673423136301296526:=True
def tw8675804949130708773:=True
def tw8732653348436422771:=True
def tw877794602623224087:=True
def tw8781126546955761712:=True
def tw8810069039261762091:=True
def tw8914281452851628859:=True
def tw8920797816031402774:=True
def tw8929976892129644901:=True
def tw8941772232729724123:=True
def tw895266849278962977:=True
def tw8973675491671239675:=True
def tw8996525370131322441:=True
def tw9038295972844772568:=True
def tw9130121913446359691:=True
def tw9143708193010996479:=True
def tw9159615611318080198:=True
def tw9176007709978540229:=True
def tw9185433564660690411:=True
def tw9203713542294098873:=True
def tw9212267087358530872:=True
def tw9243856665428587452:=True
def tw9248897613189269852:=True
def tw926967918743345985:=True
def tw9302384493474311287:=True
def tw9306066604196548121:=True
def tw938077197557054550:=True
def tw9551430666607253954:=True
def tw9563339161843312090:=True
def tw9662938782324114706:=True
def tw9680702938904208057:=True
def tw9685123992394640732:=True
def tw9689599815655913617:=True
def tw9701106691209269793:=True
def tw9747907676334640094:=True
def tw9757490965685995710:=True
def tw9778129854088342795:=True
def tw9797183146864755809:=True
def tw9807306965110784285:=True
def tw9812504379202450480:=True
def tw981396753350570736:=True
def tw9855943581730751497:=True
def tw9879261740553307694:=True
def tw9881266547234662258:=True
def tw9886376368390628415:=True
def tw9945110561450635027:=True
def tw9976691918720898515:=True
def tw9977183921773482308:=True
def tw999123683409110458:=True
end PySem.W.Fast
set_option maxRecDepth 100000 in
set_option maxHeartbeats 0 in
theorem PySem.Challenge.cw_furrow_k56_whole_leanings_holds : PySem.Challenge.rw_furrow_k56_whole_leanings.Holds := by
 w_on;o_law;k_head;(case hw=>w_witness2)
 k_fill
 refine L2.law_walk (l:=PySem.Challenge.rw_furrow_k56_whole_leanings) (x:="_law_script") 110 (by decide) rfl rfl (fun w h Y=>PySem.W.kIn_of Y) ?F
 case F=>
  intro w mg fa h KX G hmg
  suffices hh:∃a:Fw.Ad,Fw.Tx _ mg a/\fa=a.f_4/\(∀(s:Shared) (v:Value),BindsTo s a.d_4 ⟨[v],[]⟩ [("_law_script",v)]) by
   obtain⟨a,T,e,b⟩:=hh
   subst e
   exact⟨a.d_4,b,fun base _ _=>Fw.ok_law T⟩
  refine' Fw.txt_mk KX G hmg ?a_Term ?a_Number ?a_Value ?a_Cell ?a_Joined ?a_Deed ?a_Program ?h1 ?h2 ?h3 ?h4 ?h5 ?h6 ?h7 ?h8 ?h9 ?h10 ?h11 ?h12 ?h13 ?h14 ?h15 ?h16 ?h17 ?h18 ?h19 ?h20 ?h21 ?h22 ?h23 ?h24 ?h25 ?h26 ?h27 ?h28 ?h29 ?h30 ?h31 ?h32 ?h33 ?h34 ?h35 ?h36 ?h37 ?h38 ?h39 ?h40 ?h41 ?h42 ?h43 ?h44 ?h45 ?h46 ?h47 ?h48 ?h49 ?h50 ?h51 ?h52 ?h53 ?h54 ?h55 ?h56 ?h57 ?h58 ?h59 ?h60 ?h61 ?h62 ?h63 ?n_Number_n ?n_Value_name ?n_Cell_table ?n_Cell_spots ?n_Joined_sign ?n_Joined_left ?n_Joined_right ?n_Deed_names ?n_Deed_lows ?n_Deed_highs ?n_Deed_table ?n_Deed_spots ?n_Deed_term ?n_Deed_path ?n_Program_size ?n_Program_deeds ?z_bool ?z_enumerate ?z_int ?z_isinstance ?z_len ?z_list ?z_min ?z_range ?z_str ?z_sum ?z_tuple ?z_zip
  any_goals first|refine'⟨?_,L2.fun_mk ?_ ?_ ?_⟩|refine'⟨?_,?_,L2.fun_mk ?_ ?_ ?_⟩|refine' Fw.ClA.mk ?_ ?_ ?_ ?_ ?_ ?_ ?_
  any_goals first|k_is|kit_is|exact rfl|kernel_rfl|decide
#print axioms PySem.Challenge.cw_furrow_k56_whole_leanings_holds
