import PyProof.Rows.All
import Wide.All
import OpenK.AllK
import Wide.FinOn
import Lean
import PyProof.EqAt
import PyProof.EqKinds
import PyProof.TupleCall
import PyProof.ListMulRoad
import PySem.Challenge.RW_furrow_k61_what_fits
set_option Elab.async false
set_option linter.all false
set_option maxRecDepth 100000
noncomputable section
def Ak:=@Nat.le_refl
def Al:=@List.length_map
def An:=@PySem.wpAny_bind
def Ap:=@List.length_append
def Ar:=@List.length_take
def Au:=@List.length_singleton
def Ay:=@List.getElem?_eq_some_iff
def AH:=@List.getElem?_eq_getElem
def AQ:=@if_neg
def AW:=@if_pos
def AZ:=@PySem.wpAny_pure
def B5:=@List.length_cons
def B8:=@List.map_append
def Bc:=@PySem.Heap.lt_size
def Be:=@PySem.Heap.get?_push_of_some
def Bf:=@List.mem_of_getElem?
def Bh:=@List.size_toArray
def Bw:=@List.mem_cons
def BO:=@Nat.ne_of_lt
def BP:=@Nat.zero_le
def BQ:=@List.getElem?_append_right
def BV:=@Int.emod_nonneg
def BW:=@Int.emod_lt_of_pos
def C1:=@List.map_cons
def C2:=@List.getElem?_append_left
def C3:=@List.getElem?_map
def C4:=@List.mem_map
def C5:=@PySem.W.mg_of
def Cb:=@List.mem_cons_self
def Cc:=@List.getD_eq_getElem?_getD
def Ck:=@List.length_drop
def Ct:=@Nat.lt_of_lt_of_le
def Cu:=@Bool.false_ne_true
def Cv:=@decide_eq_false
def Cw:=@decide_eq_true
def Cy:=@PySem.Heap.get?_push_size
def Cz:=@List.mem_cons_of_mem
def CA:=@List.mem_append
def CM:=@List.mem_append_right
def CN:=@List.length_replicate
def CO:=@List.mem_singleton
def CV:=@List.append_assoc
def D9:=@PySem.call_meets
def Dj:=@List.take_of_length_le
def Dx:=@Option.some.inj
def Dy:=@List.getElem?_take_of_lt
def Dz:=@PySem.F.plainAttrs_list
def DJ:=@Nat.sub_self
def DR:=@PySem.W.mg_none_of
def E4:=@Nat.lt_irrefl
def E5:=@Int.natCast_nonneg
def Ey:=@Nat.le_trans
def Ez:=@Nat.le_of_lt
def EA:=@List.append_nil
def ER:=@List.mem_range
def ES:=@PySem.W.kia_one
def ET:=@Bool.and_eq_true
def EU:=@List.head?_eq_getElem?
def EV:=@PySem.F.slot_list_append
def EW:=@PySem.F.type_list_append
def EY:=@PySem.wpAny_mono
def Fl:=@List.mem_append_left
def Fm:=@Nat.le_succ
def FH:=@Nat.ne_of_gt
def FI:=@List.lookup_cons
def FJ:=@List.mem_iff_getElem
def FK:=@List.drop_zero
def FL:=@List.getElem?_drop
def FM:=@Nat.lt_or_ge
def Ga:=@Nat.le_of_eq
def Gb:=@Nat.lt_succ_self
def Gc:=@Int.toNat_natCast
def Gd:=@List.map_nil
def Ge:=@List.getElem_mem
def Gf:=@Nat.min_eq_left
def Gg:=@Nat.le_add_right
def Gh:=@List.drop_eq_getElem_cons
def Gi:=@List.take_take
def Gj:=@List.take_append_drop
def Gk:=@List.take_append_of_le_length
def Gm:=@PySem.wpAny_field
def Ha:=@PyProof.Rows.callWith_type1
def Hb:=@Bool.eq_iff_iff
def Hc:=@List.replicate_succ
def Hd:=@List.nil_append
def He:=@List.not_mem_nil
def Hf:=@List.getElem?_cons_succ
def Hg:=@List.getLast?_eq_getElem?
def Hh:=@List.countP_append
def Hi:=@PySem.wpAny_truthy_bool
def Hj:=@PySem.wpAny_passesOwn
def Hk:=@PySem.wpAny_holding
def Hl:=@PySem.typeIs_int
def Hm:=@of_decide_eq_true
def IR:=@PySem.Heap.size_push
def IS:=@List.nodup_cons
def IT:=@List.length_range
def IU:=@List.map_map
def IV:=@List.pairwise_iff_getElem
def IW:=@List.map_take
def IX:=@beq_iff_eq
def IY:=@if_false
def K1:=@PySem.mem_of_lookup
def K2:=@List.any_cons
def K3:=@List.flatten_cons
def K4:=@List.all_eq_true
def K5:=@List.countP_cons
def K6:=@List.mem_replicate
def K7:=@Nat.succ_pos
def K8:=@PySem.wpAny_pyIter_tuple
def K9:=@PySem.wpAny_Call_Name_kw
def Ka:=@PySem.wpAny_newObj_type
def Kb:=@PySem.wpAny_seqItems
def Kc:=@PySem.wpAny_setField_rec
def LP:=@List.mem_filter
def LQ:=@PyProof.Rows.slot_tuple_getitem
def LR:=@Nat.succ_le_succ
def LS:=@Bool.and_false
def LU:=@List.range_succ
def LV:=@List.map_congr_left
def LW:=@List.mem_of_mem_drop
def LX:=@List.mem_of_mem_take
def LY:=@Nat.eq_zero_or_pos
def LZ:=@List.eq_nil_of_length_eq_zero
def M0:=@Nat.not_succ_le_zero
def M1:=@Bool.or_true
def M3:=@Nat.mul_le_mul
def M4:=@Int.zero_add
def M5:=@beq_eq_false_iff_ne
def M6:=@PySem.wpAny_execs_nil
def M7:=@PySem.wpAny_pyIter_list
def M8:=@PySem.sizeLine_eq
def M9:=@PySem.codeAny_mono
def Ma:=@PySem.wpAny_call_entry
def Mb:=@PySem.wpAny_pyIter_enum
def OO:=@List.filterMap_cons
def OP:=@Array.length_toList
def OQ:=@List.of_mem_zip
def OR:=@PySem.F.slot_tuple_add
def OS:=@PySem.F.entry_tuple_add
def OT:=@PySem.F.args_tuple_add_2
def OU:=@PySem.Heap.get?_update_other
def OV:=@List.length_reverse
def OW:=@List.forIn_cons
def OX:=@List.any_eq_true
def OY:=@List.drop_eq_nil_of_le
def OZ:=@List.dropLast_concat_getLast
def P0:=@PySem.Heap.get?_push_cases
def P2:=@List.mem_iff_getElem?
def P3:=@List.take_left'
def P4:=@List.pairwise_map
def P5:=@List.nodup_range
def P6:=@Nat.lt_or_gt_of_ne
def P7:=@List.take_length
def P8:=@PySem.noFill_tuple_add
def P9:=@PySem.wpAny_binaryOp_repeat_ref
namespace L2
open PySem PySem.Spec PyProof.Rows
abbrev CB:=Sum Int Str
def Mn:CB->Value->Bool
 |.inl k,v=>Value.isInt k v
 |.inr x,v=>Value.isStrOf x v
def Qp (w:World):CB->Int
 |.inl k=>hashInt k
 |.inr x=>hashStr w x
theorem Fi:∀{k:CB} {v:Value},Mn k v=true->(∃i t,k=Sum.inl i/\v=Value.int i t)\/(∃x t,k=Sum.inr x/\v=Value.str x t)
 |
  .inl i,v,h=>by
  obtain⟨t,e⟩:=Value.isInt_shape (k:=i) (v:=v) h
  exact .inl ⟨i,t,rfl,e⟩
 |
  .inr x,v,h=>by
  obtain⟨t,e⟩:=Value.isStrOf_shape (x:=x) (v:=v) h
  exact .inr ⟨x,t,rfl,e⟩
theorem Ry (a b:Int):decide ((Sum.inl a:CB)=Sum.inl b)=(a==b):=by
 by_cases e:a=b
 .subst e;simp
 .have h:¬(Sum.inl a:CB)=Sum.inl b:=fun q=>e (Sum.inl.inj q)
  rw[Cv h]
  exact(M5.mpr e).symm
theorem RE (a b:Str):decide ((Sum.inr a:CB)=Sum.inr b)=decide (a=b):=by
 by_cases e:a=b
 .subst e;simp
 .have h:¬(Sum.inr a:CB)=Sum.inr b:=fun q=>e (Sum.inr.inj q)
  rw[Cv h,Cv e]
theorem PK (a:Int)(b:Str):decide ((Sum.inl a:CB)=Sum.inr b)=false:=Cv (fun q=>nomatch q)
theorem UP (a:Str)(b:Int):decide ((Sum.inr a:CB)=Sum.inl b)=false:=Cv (fun q=>nomatch q)
def Nh (prog:Program)(w:World):PySem.KeyKind prog w CB where
 is:=Mn
 hash:=Qp w
 inj:=fun v a b ha hb=>by
  rcases Fi ha with⟨i,t,rfl,rfl⟩|⟨x,t,rfl,rfl⟩
  .rcases Fi hb with⟨j,u,rfl,e⟩|⟨y,u,rfl,e⟩
   .injection e with e1 _;rw[e1]
   .exact nomatch e
  .rcases Fi hb with⟨j,u,rfl,e⟩|⟨y,u,rfl,e⟩
   .exact nomatch e
   .injection e with e1 _;rw[e1]
 byValue:=fun k v h=>by
  rcases Fi h with⟨i,t,rfl,rfl⟩|⟨x,t,rfl,rfl⟩<;>rfl
 pyHash:=fun hv h=>by
  rcases Fi hv with⟨i,t,rfl,rfl⟩|⟨x,t,rfl,rfl⟩
  .exact wpAny_pyHash_int h
  .exact wpAny_pyHash_str h
 eqBool:=fun hu hv h=>by
  rcases Fi hu with⟨i,t,rfl,rfl⟩|⟨x,t,rfl,rfl⟩
  .rcases Fi hv with⟨j,u,rfl,rfl⟩|⟨y,u,rfl,rfl⟩
   .rw[Ry]at h;exact wpAny_eqBool_int h
   .rw[PK]at h;exact SeqAt.EqAt.int_str i t y u _ _ _ _ h
  .rcases Fi hv with⟨j,u,rfl,rfl⟩|⟨y,u,rfl,rfl⟩
   .rw[UP]at h;exact SeqAt.EqAt.str_int x t j u _ _ _ _ h
   .rw[RE]at h;exact wpAny_eqBool_str h
 «strs» := fun k x t v h=>by
  rcases Fi h with⟨i,u,rfl,e⟩|⟨y,u,rfl,e⟩
  .exact nomatch e
  .injection e with e1 _
   subst e1
   cases v<;>rfl
inductive V where
 |non|bl (b:Bool)|int (i:Int)|str (x:Str)|byt (b:Array UInt8)|flt (b:UInt64)|ref (a:Addr)|ty (n:String)
 deriving DecidableEq
def AM:V->Value->Prop
 |.non,u=>u=Value.none
 |.bl b,u=>u=Value.bool b
 |.int i,u=>∃t,u=Value.int i t
 |.str x,u=>∃t,u=Value.str x t
 |.byt b,u=>∃t,u=Value.bytes b t
 |.flt b,u=>∃t,u=Value.float b t
 |.ref a,u=>u=Value.ref a
 |.ty n,u=>u=Value.type n
abbrev Aq:List V->List Value->Prop:=Paired AM
theorem Aq.length {xs:List V}{us:List Value}(r:Aq xs us):xs.length=us.length:=Paired.length r
theorem Aq.get:∀{xs:List V} {us:List Value} {i:Nat} {x:V},Aq xs us->xs[i]?=some x->∃u,us[i]?=some u/\AM x u
 |_,_,_,_,.nil,e=>by simp at e
 |_,_,0,_,.cons r _,e=>by simp at e;subst e;exact⟨_,rfl,r⟩
 |
  _,_,i+1,x,.cons _ t,e=>by
  obtain⟨u,h1,h2⟩:=Aq.get (i:=i) (x:=x) t (by simpa using e)
  exact⟨u,by simpa using h1,h2⟩
theorem Aq.append:∀{xs ys:List V} {us ws:List Value},Aq xs us->Aq ys ws->Aq (xs++ys) (us++ws)
 |_,_,_,_,.nil,s=>s
 |_,_,_,_,.cons r t,s=>.cons r (Aq.append t s)
theorem Aq.take:∀{xs:List V} {us:List Value} (n:Nat),Aq xs us->Aq (xs.take n) (us.take n)
 |_,_,0,_=>.nil
 |_,_,_+1,.nil=>.nil
 |_,_,n+1,.cons r t=>.cons r (Aq.take n t)
theorem Aq.drop:∀{xs:List V} {us:List Value} (n:Nat),Aq xs us->Aq (xs.drop n) (us.drop n)
 |_,_,0,r=>r
 |_,_,_+1,.nil=>.nil
 |_,_,n+1,.cons _ t=>Aq.drop n t
theorem Aq.none_of:∀{xs:List V} {us:List Value} {i:Nat},Aq xs us->xs[i]?=none->us[i]?=none:=fun{xs us i} r e=>by
 have h1:=r.length
 have h2:xs.length<=i:=List.getElem?_eq_none_iff.mp e
 exact List.getElem?_eq_none_iff.mpr (by omega)
def G3:Option V->Option Value->Prop
 |some v,some u=>AM v u
 |none,none=>True
 |_,_=>False
def KV {κ:Type}:List (κ×V)->List (κ×Value)->Prop:=Paired fun(p:κ×V) (q:κ×Value)=>p.1=q.1/\AM p.2 q.2
def kV:CB->V
 |.inl i=>.int i
 |.inr x=>.str x
inductive HO where
 |lst (xs:List V)
 |tup (xs:List V)
 |dK (kvs:List (CB×V))|dT (kvs:List (List CB×V))
 |set (S:Int->Bool) (n:Nat)
 |ins (C dx:Addr) (fs:List (Str×V))
 |own (x:Addr)
 |xd (fs:List (Str×V))
 |met (f x:Addr)
 |rng (lo hi:Int)
 |frz (o:Obj) (u:HO)
 |tbl (ps:Array Value)
 |ext (φ:Heap->Prop)
abbrev Hp:=Addr->Option HO
def upd (H:Hp)(a:Addr)(o:HO):Hp:=fun b=>if b=a then some o else H b
theorem A5 {H:Hp}{a:Addr}{o:HO}:upd H a o a=some o:=by unfold upd;rw[AW rfl]
theorem Aw {H:Hp}{a b:Addr}{o:HO}(h:b≠a):upd H a o b=H b:=by unfold upd;rw[AQ h]
theorem Th {H:Hp}{a b:Addr}{o u:HO}(h:H a=some o)(h':H b=some u)(d:o≠u):a≠b:=by
 intro e;subst e;rw[h]at h';exact d (Dx h')
theorem BA {H:Hp}{a b:Addr}{o:HO}(h:H a=some o)(h':H b=none):a≠b:=by
 intro e;subst e;rw[h]at h';cases h'
section
variable (P:Program)(w:World)
def DY (h:Heap)(a:Addr)(its:Array Value):Prop := ∃o,h.get? a=some o/\o.cls = .type "tuple"/\(∃n,o.data = .seq its n)/\o.dict=none
theorem DY.tup {h:Heap}{a:Addr}{its:Array Value}(x:DY h a its):IsTup h a its:=let ⟨o,e,c,d,_⟩:=x;⟨o,e,c,d⟩
theorem DY.new (h:Heap)(its:Array Value):DY (h.push {cls:=.type "tuple",data:=.seq its}) h.objs.size its:=⟨_,Cy _ rfl,rfl,⟨_,rfl⟩,rfl⟩
def CF (H:Hp)(h:Heap)(a:Addr):HO->Prop
 |.lst xs=>xs.length<=sizeLine/\∃(its:List Value) (n:Nat),Aq xs its/\h.get? a=some {cls:=.type "list",data:=.seq its.toArray n}
 |.tup xs=>xs.length<=sizeLine/\∃its:List Value,Aq xs its/\DY h a its.toArray
 |.dK kvs=>kvs.length<=sizeLine/\(a==sysModules)=false/\∃vs,KV kvs vs/\h.DictOf (Nh P w) a vs
 |.dT kvs=>kvs.length<=sizeLine/\(a==sysModules)=false/\∃xs:List (List CB×Addr×Value),
  Paired (fun(p:List CB×V) (q:List CB×Addr×Value)=>p.1=q.1/\H q.2.1=some (.tup (p.1.map kV))/\AM p.2 q.2.2) kvs xs/\
  ∃o es ep,h.get? a=some o/\o.ExactDict/\o.data = .dict es ep/\es.toList=xs.map (entryOfKey (tupleKind (Nh P w)))/\(xs.map (·.1)).Nodup
 |.set S n=>h.SetOf (intKind P w) a S n
 |.ins C dx fs=>H dx=some (.own a)/\fs.length<=1000/\dx≠a/\h.get? a=some (PySem.W.instObj C dx)/\
  ∃mA,h.Ns1 dx mA/\(∀f,G3 (fs.lookup f) (mA f))/\PySem.Within mA (fs.map (·.1))
 |.own _=>∃o,h.get? a=some o
 |.xd fs=>∃mA,h.Ns1 a mA/\∀f,G3 (fs.lookup f) (mA f)
 |.rng lo hi=>∃t u v,h.get? a=some {cls:=.type "range",data:=.fields #[.int lo t,.int hi u,.int 1 v]}
 |.frz o u=>h.get? a=some o/\CF H h a u
 |.tbl ps=>h.get? a=some {cls:=.none,data:=.fields ps}
 |.met f x=>h.get? a=some (PySem.W.methodObj (.ref f) (.ref x))
 |.ext φ=>φ h/\(∃o,h.get? a=some o)/\∀h1 h2:Heap,φ h1->(∀o,h1.get? a=some o->h2.get? a=some o)->φ h2
def Ca (H:Hp)(h:Heap):Prop := ∀a o,H a=some o->CF P w H h a o
end
section
variable {P:Program}{w:World}{H H':Hp}{h h':Heap}{a:Addr}{o:HO}
theorem CF.lt (x:CF P w H h a o):a<h.objs.size:=by
 cases o with
 |lst xs=>obtain⟨_,_,_,_,e⟩:=x;exact Bc e
 |tup xs=>obtain⟨_,_,_,p⟩:=x;exact p.tup.lt
 |dK kvs=>obtain⟨_,_,_,_,o,_,_,e,_⟩:=x;exact Bc e
 |dT kvs=>obtain⟨_,_,_,_,o,_,_,e,_⟩:=x;exact Bc e
 |set S n=>obtain⟨o,_,_,_,e,_⟩:=x;exact Bc e
 |ins C dx fs=>obtain⟨_,_,_,e,_⟩:=x;exact Bc e
 |own y=>obtain⟨_,e⟩:=x;exact Bc e
 |xd fs=>obtain⟨_,⟨_,_,_,e,_⟩,_⟩:=x;exact Bc e
 |rng lo hi=>obtain⟨_,_,_,e⟩:=x;exact Bc e
 |frz ob u=>obtain⟨e,_⟩:=x;exact Bc e
 |tbl ps=>exact Bc (show h.get? a=some _ from x)
 |met f y=>exact Bc (show h.get? a=some _ from x)
 |ext φ=>obtain⟨_,⟨_,e⟩,_⟩:=x;exact Bc e
theorem Paired.mapP {α β:Type}{F G:α->β->Prop}:∀{l₁:List α} {l₂:List β},Paired F l₁ l₂->(∀a b,F a b->G a b)->Paired G l₁ l₂
 |_,_,.nil,_=>.nil
 |_,_,.cons r t,f=>.cons (f _ _ r) (Paired.mapP t f)
theorem CF.stay (x:CF P w H h a o)(k:∀b u,(b=a\/H b=some (.own a))->h.get? b=some u->h'.get? b=some u)
  (ho:∀b,H b=some (.own a)->H' b=some (.own a)) (ht:∀b xs,H b=some (.tup xs)->H' b=some (.tup xs)):CF P w H' h' a o:=by
 induction o with
 |lst xs=>obtain⟨z,its,n,r,e⟩:=x;exact⟨z,its,n,r,k _ _ (.inl rfl) e⟩
 |tup xs=>obtain⟨z,its,r,ob,e,c⟩:=x;exact⟨z,its,r,ob,k _ _ (.inl rfl) e,c⟩
 |dK kvs=>obtain⟨z,y,vs,r,ob,es,ep,e,c⟩:=x;exact⟨z,y,vs,r,ob,es,ep,k _ _ (.inl rfl) e,c⟩
 |
  dT kvs=>
  obtain⟨z,y,xs,r,ob,es,ep,e,c⟩:=x
  exact⟨z,y,xs,Paired.mapP r fun p q z=>⟨z.1,ht _ _ z.2.1,z.2.2⟩,ob,es,ep,k _ _ (.inl rfl) e,c⟩
 |set S n=>obtain⟨ob,es,ep,t,e,c⟩:=x;exact⟨ob,es,ep,t,k _ _ (.inl rfl) e,c⟩
 |
  ins C dx fs=>
  obtain⟨d,z,ne,e,mA,⟨od,es,ep,e2,c⟩,r⟩:=x
  exact⟨ho _ d,z,ne,k _ _ (.inl rfl) e,mA,⟨od,es,ep,k _ _ (.inr d) e2,c⟩,r⟩
 |own y=>obtain⟨ob,e⟩:=x;exact⟨ob,k _ _ (.inl rfl) e⟩
 |xd fs=>obtain⟨mA,⟨od,es,ep,e,c⟩,r⟩:=x;exact⟨mA,⟨od,es,ep,k _ _ (.inl rfl) e,c⟩,r⟩
 |rng lo hi=>obtain⟨t,u,v,e⟩:=x;exact⟨t,u,v,k _ _ (.inl rfl) e⟩
 |frz ob u ih=>obtain⟨e,q⟩:=x;exact⟨k _ _ (.inl rfl) e,ih q⟩
 |
  tbl ps=>
  have e:h.get? a=some {cls:=.none,data:=.fields ps}:=x
  show h'.get? a=some {cls:=.none,data:=.fields ps}
  exact k a _ (.inl rfl) e
 |
  met f y=>
  have e:h.get? a=some (PySem.W.methodObj (.ref f) (.ref y)):=x
  show h'.get? a=some (PySem.W.methodObj (.ref f) (.ref y))
  exact k a _ (.inl rfl) e
 |ext φ=>obtain⟨p,⟨o,e⟩,st⟩:=x;exact⟨st _ _ p fun o q=>k _ _ (.inl rfl) q,⟨o,k _ _ (.inl rfl) e⟩,st⟩
theorem Ca.lt (x:Ca P w H h)(e:H a=some o):a<h.objs.size:=(x a o e).lt
theorem Ca.fresh (x:Ca P w H h)(e:h.objs.size<=a):H a=none:=by
 cases q:H a with
 |none=>rfl
 |some u=>exact absurd (Ct (x.lt q) e) (E4 _)
theorem Ca.kept (x:Ca P w H h)(k:∀b u,h.get? b=some u->h'.get? b=some u):Ca P w H h':=fun a o e=>
 (x a o e).stay (fun b u _ q=>k b u q) (fun _ q=>q) fun _ _ q=>q
theorem Ca.laid (x:Ca P w H h)(k:∀b u,h.get? b=some u->h'.get? b=some u)(hp:h.objs.size<=a)(new:CF P w (upd H a o) h' a o):Ca P w (upd H a o) h':=fun b u e=>by
 have hn:=x.fresh hp
 by_cases hb:b=a
 .subst hb;rw[A5]at e;cases e;exact new
 .rw[Aw hb]at e
  exact(x b u e).stay (fun c v _ q=>k c v q) (fun c q=>by rw[Aw (BA q hn)];exact q) fun c xs q=>by rw[Aw (BA q hn)];exact q
end
def Rd (H:Hp)(a:Addr)(u:HO):Prop:=H a=some u\/∃o,H a=some (.frz o u)
theorem Rd.ok {P:Program}{w:World}{H:Hp}{h:Heap}{a:Addr}{u:HO}(r:Rd H a u)(x:Ca P w H h):CF P w H h a u:=by
 rcases r with r|⟨o,r⟩
 .exact x a u r
 .obtain⟨_,q⟩:=x a _ r
  exact q
def JR:Option HO->Prop
 |some (.lst _)=>True
 |some (.dK _)=>True
 |some (.dT _)=>True
 |some (.set _ _)=>True
 |some (.ins _ _ _)=>True
 |some (.ext _)=>True
 |_=>False
section
variable {P:Program}{w:World}{H:Hp}{h h':Heap}{x e:Addr}{o':HO}
theorem Ca.write (ok:Ca P w H h)(mu:JR (H x))(he:e=x\/H e=some (.own x))(k:∀b u,b≠e->h.get? b=some u->h'.get? b=some u)(heo:∃u,h'.get? e=some u)
  (new:CF P w (upd H x o') h' x o'):Ca P w (upd H x o') h':=fun b u q=>by
 have nown:∀c y,H c=some (.own y)->c≠x:=fun c y r z=>by subst z;rw[r]at mu;exact mu
 have ntup:∀c xs,H c=some (.tup xs)->c≠x:=fun c xs r z=>by subst z;rw[r]at mu;exact mu
 by_cases hb:b=x
 .subst hb;rw[A5]at q;cases q;exact new
 .rw[Aw hb]at q
  by_cases hbe:b=e
  .have q':H b=some (.own x):=by
    rcases he with z|z
    .exact absurd (hbe.trans z) hb
    .rw[hbe];exact z
   rw[q]at q';cases q'
   obtain⟨v,hv⟩:=heo
   exact⟨v,by rw[hbe];exact hv⟩
  .refine(ok b u q).stay (fun c v hc r=>k c v ?_ r) (fun c r=>by rw[Aw (nown c b r)];exact r) fun c xs r=>by rw[Aw (ntup c xs r)];exact r
   rcases hc with rfl|hc
   .exact hbe
   .rintro rfl
    rcases he with z|z
    .exact nown c b hc z
    .rw[hc]at z;cases z;exact hb rfl
end
structure Un (fs ex:List Addr)(H H':Hp)(h h':Heap):Prop where
 keep:∀b o,h.get? b=some o->H b=none->b∉fs->b∉ex->h'.get? b=some o
 slot:∀b o,h.get? b=some o->H b=none->b∈fs->b∉ex->∃sl,h'.get? b=some {o with slots:=sl}
 free:∀b o,h.get? b=some o->H b=none->b∉ex->H' b=none
 there:∀b o,h.get? b=some o->b∉ex->∃o',h'.get? b=some o'
 tups:∀b xs,H b=some (.tup xs)->H' b=some (.tup xs)
 frzs:∀b o u,H b=some (.frz o u)->H' b=some (.frz o u)
 tbls:∀b ps,H b=some (.tbl ps)->∃more,H' b=some (.tbl (ps++more))
section
variable {fs fs' ex ex':List Addr}{H H1 H2:Hp}{h h1 h2 h':Heap}{a x e:Addr}{o:HO}
theorem Un.any (u:Un fs ex H H1 h h1){b:Addr}{ob:Obj}(q:h.get? b=some ob)(n:H b=none)(hx:b∉ex):∃sl,h1.get? b=some {ob with slots:=sl}:=by
 by_cases hb:b∈fs
 .exact u.slot b ob q n hb hx
 .exact⟨ob.slots,u.keep b ob q n hb hx⟩
theorem Un.kept (k:∀b u,h.get? b=some u->h'.get? b=some u):Un fs ex H H h h':=
 ⟨fun b ob q _ _ _=>k b ob q,fun b ob q _ _ _=>⟨ob.slots,k b ob q⟩,fun _ _ _ n _=>n,fun b ob q _=>⟨ob,k b ob q⟩,fun _ _ q=>q,fun _ _ _ q=>q,fun _ ps q=>⟨#[],by rw[q];simp⟩⟩
theorem Un.refl:Un fs ex H H h h:=Un.kept fun _ _ q=>q
theorem Un.laid (k:∀b u,h.get? b=some u->h'.get? b=some u)(hp:h.objs.size<=a)(hn:H a=none):Un fs ex H (upd H a o) h h' where
 keep:=fun b u q _ _ _=>k b u q
 slot:=fun b u q _ _ _=>⟨u.slots,k b u q⟩
 free:=fun b u q n _=>by rw[Aw (BO (Ct (Bc q) hp))];exact n
 there:=fun b u q _=>⟨u,k b u q⟩
 tups:=fun b xs q=>by rw[Aw (BA q hn)];exact q
 frzs:=fun b u xs q=>by rw[Aw (BA q hn)];exact q
 tbls:=fun b ps q=>⟨#[],by rw[Aw (BA q hn),q];simp⟩
theorem Un.write (mu:JR (H x))(he:e=x\/H e=some (.own x))(k:∀b u,b≠e->h.get? b=some u->h'.get? b=some u)(heo:∃u,h'.get? e=some u):Un fs ex H (upd H x o) h h':=by
 have hx:∀b,H b=none->b≠x:=fun b n z=>by subst z;rw[n]at mu;exact mu
 have hb:∀b,H b=none->b≠e:=fun b n z=>by
  subst z
  rcases he with r|r
  .exact hx b n r
  .rw[n]at r;cases r
 have hm:∀b u,H b=some u->¬JR (some u)->b≠x:=fun b u q nm z=>by subst z;rw[q]at mu;exact nm mu
 refine⟨fun b u q n _ _=>k b u (hb b n) q,fun b u q n _ _=>⟨u.slots,k b u (hb b n) q⟩,fun b u q n _=>by rw[Aw (hx b n)];exact n,fun b u q _=>?_,
  fun b xs q=>by rw[Aw (hm b _ q fun z=>z)];exact q,fun b u xs q=>by rw[Aw (hm b _ q fun z=>z)];exact q,fun b ps q=>⟨#[],by rw[Aw (hm b _ q fun z=>z),q];simp⟩⟩
 by_cases hbe:b=e
 .subst hbe;exact heo
 .exact⟨u,k b u hbe q⟩
end
def JG (h:Heap)(H:Hp):List Addr:=(List.range h.objs.size).filter fun a=>(H a).isSome
def F2 (h:Heap)(H:Hp):Heap:=PySem.W.hideAll h (JG h H)
theorem T1 (h:Heap)(H:Hp):(F2 h H).objs.size=h.objs.size:=PySem.W.hideAll_size _ _
theorem RD {h:Heap}{H:Hp}{b:Addr}{o:Obj}(e:h.get? b=some o)(n:H b=none):(F2 h H).get? b=some o:=
 PySem.W.hideAll_get _ e fun hm=>by
  have q:(H b).isSome=true:=(LP.mp hm).2
  rw[n]at q;simp at q
theorem Q7 {h:Heap}{H:Hp}{b:Addr}{o:Obj}(e:(F2 h H).get? b=some o):h.get? b=some o/\H b=none:=by
 have e':h.get? b=some o:=PySem.W.of_hideAll (JG h H) e
 refine⟨e',?_⟩
 cases q:H b with
 |none=>rfl
 |
  some x=>
  have hm:b∈JG h H:=LP.mpr ⟨ER.mpr (Bc e'),by simp[q]⟩
  have z:(F2 h H).get? b=none:=PySem.W.hideAll_none (JG h H) hm
  rw[z]at e;cases e
structure Mod (K:PySem.W.Frag)(mg:Str->Option Value)(base:Heap):Prop where
 kin:K.In base
 glob:base.Ns mainGlobals mg
 blt:∃mb,base.Ns builtinsNs mb/\∀x:Str,x≠"__name__"->mb x=bootBuiltins x
 nolimit:base.NoLimit
structure Cx where
 prog:Program
 w:World
 K:PySem.W.Frag
 mg:Str->Option Value
 base:Heap
 A:Around
 N:List Str
 s₀:Shared
 H₀:Hp
 env:Env
 outer:List Env
 stack:List Env
 ex:List Addr
 fn:Str->Bool
 calm:Bool
 pn:List (Addr×Obj)
 xe:Value->Shared->Prop
def DX (l:List Env):List Addr:=l.filterMap (·.frame)
abbrev Cx.fs (X:Cx):List Addr:=DX X.outer
def JP (sc:Scope)(x:Str):Prop:=sc.names.lookup x=some .local\/sc.names.lookup x=some .cell\/sc.names.lookup x=some .free
def GB (sc:Scope)(x:Str):Prop:=sc.names.lookup x=some .local\/sc.names.lookup x=some .cell
def Ru (env:Env)(h:Heap)(m:Str->Option Value)(x:Str)(u:Value):Prop:=
 (env.kindOf x=some .local/\m x=some u)\/((env.kindOf x=some .cell\/env.kindOf x=some .free)/\∃c,env.cells.lookup x=some c/\h.IsCell c (some u))
structure Cx.Ok (X:Cx):Prop where
 mod:Mod X.K X.mg X.base
 kind:X.env.scope.kind = .function
 glob:X.env.globals=mainGlobals
 blt:X.env.builtins=builtinsNs
 above:X.s₀.heap.objs.size<=X.env.locals
 inj:∀x y c,X.env.cells.lookup x=some c->X.env.cells.lookup y=some c->x=y
 has:∀x,(X.env.kindOf x=some .cell\/X.env.kindOf x=some .free)->∃c,X.env.cells.lookup x=some c
 cab:∀x c,X.fn x=true->X.env.cells.lookup x=some c->X.s₀.heap.objs.size<=c
 hd:X.calm=true->X.A.handled=none
 frames:X.A.frames=some X.stack
 stk:X.stack=X.outer\/(X.stack=X.env::X.outer/\X.env.frame=some X.env.locals)
 exf:∀b∈X.ex,b≠X.env.locals/\∀x c,X.env.cells.lookup x=some c->c≠b
 bs:∀b o,X.base.get? b=some o->X.s₀.heap.get? b=some o/\X.H₀ b=none
 bsz:X.base.objs.size<=X.s₀.heap.objs.size
 noex:∀b o,X.base.get? b=some o->b∉X.ex
 exfs:∀b∈X.ex,b∉X.fs
 funs:X.s₀.heap.FunFrames X.base X.outer
 frf:∀b∈X.fs,X.H₀ b=none
structure A6 (X:Cx)(pins:List (Addr×Obj))(σ:List (Option V))(H:Hp)(s:Shared):Prop where
 ok:X.Ok
 os:s.os=X.s₀.os
 bare:AllBare s.gens
 base:Un X.fs X.ex X.H₀ H X.s₀.heap s.heap
 loc:∃m,s.heap.Ns X.env.locals m/\∀(i:Nat) (x:Str) (v:V),X.N[i]?=some x->σ[i]?=some (some v)->JP X.env.scope x->∃u,AM v u/\Ru X.env s.heap m x u
 cell:∀x c,X.env.cells.lookup x=some c->∃v,s.heap.IsCell c v
 free:H X.env.locals=none
 freeC:∀x c,X.env.cells.lookup x=some c->H c=none
 pin:∀p∈X.pn++pins,s.heap.get? p.1=some p.2/\H p.1=none/\p.1≠X.env.locals/\p.1∉X.fs/\∀v,p.2.data≠.cell v
 hok:Ca X.prog X.w H s.heap
 len:σ.length=X.N.length
section
variable {X:Cx}{pins:List (Addr×Obj)}{σ:List (Option V)}{H H':Hp}{s:Shared}{h':Heap}
theorem Cx.Ok.nofr (ok:X.Ok){b:Addr}{o:Obj}(e:X.base.get? b=some o):b∉X.fs:=fun hb=>by
 have:=(ok.funs.mem hb).1
 rw[e]at this;cases this
theorem A6.bs (I:A6 X pins σ H s):∀b o,X.base.get? b=some o->s.heap.get? b=some o/\H b=none:=fun b o e=>
 ⟨I.base.keep b o (I.ok.bs b o e).1 (I.ok.bs b o e).2 (I.ok.nofr e) (I.ok.noex b o e),I.base.free b o (I.ok.bs b o e).1 (I.ok.bs b o e).2 (I.ok.noex b o e)⟩
theorem A6.bk (I:A6 X pins σ H s):∀b o,X.base.get? b=some o->s.heap.get? b=some o:=fun b o e=>(I.bs b o e).1
theorem A6.mod (I:A6 X pins σ H s):Mod X.K X.mg X.base:=I.ok.mod
theorem A6.kIn (I:A6 X pins σ H s):X.K.In s.heap:=I.ok.mod.kin.keeps I.bk
theorem A6.lt (I:A6 X pins σ H s):X.env.locals<s.heap.objs.size:=let ⟨_,hn,_⟩:=I.loc;hn.lt
theorem A6.sz (I:A6 X pins σ H s):X.s₀.heap.objs.size<=s.heap.objs.size:=Ey I.ok.above (Ez I.lt)
theorem A6.nofs (I:A6 X pins σ H s){a:Addr}(h:s.heap.objs.size<=a):a∉X.fs:=fun hb=>by
 obtain⟨_,o,ho,_⟩:=I.ok.funs.mem hb
 exact absurd (Ct (Bc ho) (Ey I.sz h)) (E4 _)
theorem A6.cne (I:A6 X pins σ H s):∀x c,X.env.cells.lookup x=some c->c≠X.env.locals:=fun x c e z=>by
 obtain⟨v,o,ho,hd⟩:=I.cell x c e
 obtain⟨m,⟨o',es,ep,ho',hd',_⟩,_⟩:=I.loc
 rw[z,ho']at ho;cases ho;rw[hd']at hd;cases hd
theorem A6.funs (I:A6 X pins σ H s):s.heap.FunFrames X.base X.outer:=by
 have all:∀(l:List Env),(∀b∈DX l,b∈X.fs)->X.s₀.heap.FunFrames X.base l->s.heap.FunFrames X.base l:=by
  intro l
  induction l with
  |nil=>intro _ _;trivial
  |
   cons env r ih=>
   intro hs hl
   obtain⟨hk,⟨L,o,hf,hn,ho,hd⟩,hr⟩:=hl
   have hL:L∈X.fs:=hs L (by unfold DX;rw[OO,hf];exact Cb)
   obtain⟨sl,e⟩:=I.base.slot L o ho (I.ok.frf L hL) hL fun z=>I.ok.exfs L z hL
   exact⟨hk,⟨L,_,hf,hn,e,hd⟩,ih (fun b hb=>hs b (by unfold DX;rw[OO,hf];exact Cz _ hb)) hr⟩
 exact all X.outer (fun _ hb=>hb) I.ok.funs
theorem A6.stack (I:A6 X pins σ H s):s.heap.FunFrames X.base X.stack:=by
 rcases I.ok.stk with e|⟨e,hf⟩
 .rw[e];exact I.funs
 .rw[e]
  obtain⟨m,hn,_⟩:=I.loc
  refine .cons (by rw[I.ok.kind];decide) hf hn ?_ I.funs
  exact Heap.get?_none_of_le (Ey I.ok.bsz I.ok.above)
theorem A6.stkSub (I:A6 X pins σ H s):∀b∈DX X.stack,b∈X.env.locals::X.fs:=fun b hb=>by
 rcases I.ok.stk with e|⟨e,hf⟩
 .rw[e]at hb;exact Cz _ hb
 .rw[e]at hb
  unfold DX at hb
  rw[OO,hf]at hb
  exact hb
theorem A6.stkFree (I:A6 X pins σ H s):∀b∈DX X.stack,H b=none:=fun b hb=>by
 rcases Bw.mp (I.stkSub b hb) with e|hb
 .rw[e];exact I.free
 .obtain⟨_,o,ho,_⟩:=I.ok.funs.mem hb
  exact I.base.free b o ho (I.ok.frf b hb) fun z=>I.ok.exfs b z hb
theorem A6.step {g':Array GenState}{t':Nat}{d':Drawn}{ch:List Addr}(I:A6 X pins σ H s)
  (hch:∀b∈ch,(b∈X.ex\/X.s₀.heap.objs.size<=b)/\b≠X.env.locals/\(∀x c,X.env.cells.lookup x=some c->c≠b)/\∀p∈X.pn++pins,p.1≠b)
  (keep:∀b o,b≠X.env.locals->b∉X.fs->b∉ch->s.heap.get? b=some o->H b=none->h'.get? b=some o)
  (slot:∀b o,b≠X.env.locals->b∈X.fs->b∉ch->s.heap.get? b=some o->H b=none->∃sl,h'.get? b=some {o with slots:=sl}) (free:∀b o,b∉ch->s.heap.get? b=some o->H b=none->H' b=none)
  (there:∀b o,b∉ch->s.heap.get? b=some o->∃o',h'.get? b=some o')
  (tups:∀b xs,H b=some (.tup xs)->H' b=some (.tup xs)) (frzs:∀b o u,H b=some (.frz o u)->H' b=some (.frz o u)) (tbls:∀b ps,H b=some (.tbl ps)->∃more,H' b=some (.tbl (ps++more)))
  (ns:∀m,s.heap.Ns X.env.locals m->h'.Ns X.env.locals m) (hok:Ca X.prog X.w H' h') (hg:AllBare g') :
  A6 X pins σ H' {s with heap:=h',gens:=g',drawn:=d',toks:=t'}:=by
 have neL:∀b o,X.s₀.heap.get? b=some o->b≠X.env.locals:=fun b o e=>BO (Ct (Bc e) I.ok.above)
 have neC:∀b o,X.s₀.heap.get? b=some o->b∉X.ex->b∉ch:=fun b o e hx hb=>by
  rcases(hch b hb).1 with z|z
  .exact hx z
  .exact absurd (Ct (Bc e) z) (E4 _)
 have cellK:∀x c,X.env.cells.lookup x=some c->∀v,s.heap.IsCell c v->h'.IsCell c v:=fun x c e v ⟨o,ho,hd⟩=>by
  have nch:c∉ch:=fun z=>(hch c z).2.2.1 x c e rfl
  by_cases hc:c∈X.fs
  .obtain⟨sl,q⟩:=slot c o (I.cne x c e) hc nch ho (I.freeC x c e)
   exact⟨_,q,hd⟩
  .exact⟨o,keep c o (I.cne x c e) hc nch ho (I.freeC x c e),hd⟩
 refine⟨I.ok,I.os,hg,⟨fun b o e n hb hx=>?_,fun b o e n hb hx=>?_,fun b o e n hx=>?_,fun b o e hx=>?_,fun b xs e=>tups b xs (I.base.tups b xs e),fun b o xs e=>frzs b o xs (I.base.frzs b o xs e),fun b ps e=>?_⟩,?_,fun x c e=>?_,?_,fun x c e=>?_,fun p hp=>?_,hok,I.len⟩
 .exact keep b o (neL b o e) hb (neC b o e hx) (I.base.keep b o e n hb hx) (I.base.free b o e n hx)
 .obtain⟨sl,e1⟩:=I.base.slot b o e n hb hx
  obtain⟨sl',e2⟩:=slot b _ (neL b o e) hb (neC b o e hx) e1 (I.base.free b o e n hx)
  exact⟨sl',e2⟩
 .obtain⟨o',e1⟩:=I.base.there b o e hx
  exact free b o' (neC b o e hx) e1 (I.base.free b o e n hx)
 .obtain⟨o',e1⟩:=I.base.there b o e hx
  exact there b o' (neC b o e hx) e1
 .obtain⟨m1,e1⟩:=I.base.tbls b ps e
  obtain⟨m2,e2⟩:=tbls b _ e1
  exact⟨m1++m2,by rw[e2,Array.append_assoc]⟩
 .obtain⟨m,hn,hl⟩:=I.loc
  refine⟨m,ns m hn,fun i x v e1 e2 e3=>?_⟩
  obtain⟨u,r,l⟩:=hl i x v e1 e2 e3
  refine⟨u,r,?_⟩
  rcases l with l|⟨k,c,e,z⟩
  .exact .inl l
  .exact .inr ⟨k,c,e,cellK x c e _ z⟩
 .obtain⟨v,z⟩:=I.cell x c e
  exact⟨v,cellK x c e v z⟩
 .obtain⟨m,⟨o,_,_,ho,_⟩,_⟩:=I.loc
  exact free _ o (fun z=>(hch _ z).2.1 rfl) ho I.free
 .obtain⟨v,o,ho,hd⟩:=I.cell x c e
  exact free c o (fun z=>(hch c z).2.2.1 x c e rfl) ho (I.freeC x c e)
 .obtain⟨e,n,ne,nf,d⟩:=I.pin p hp
  have nch:p.1∉ch:=fun z=>(hch p.1 z).2.2.2 p hp rfl
  exact⟨keep p.1 p.2 ne nf nch e n,free p.1 p.2 nch e n,ne,nf,d⟩
theorem A6.un {t':Nat}(I:A6 X pins σ H s)(u:Un X.fs [] H H' s.heap h')(hok:Ca X.prog X.w H' h'):A6 X pins σ H' {s with heap:=h',toks:=t'}:=by
 obtain⟨m,⟨o,es,ep,ho,r⟩,_⟩:=id I.loc
 obtain⟨sl,hL⟩:=u.any ho I.free (by simp)
 exact I.step (g':=s.gens) (d':=s.drawn) (ch:=[]) (fun _ z=>nomatch z) (fun b o _ hb _ e n=>u.keep b o e n hb (by simp)) (fun b o _ hb _ e n=>u.slot b o e n hb (by simp)) (fun b o _ e n=>u.free b o e n (by simp)) (fun b o _ e=>u.there b o e (by simp)) u.tups u.frzs u.tbls (fun m' hm=>by
  obtain⟨o',es',ep',ho',r'⟩:=hm
  rw[ho]at ho';cases ho'
  exact⟨_,es',ep',hL,r'⟩) hok I.bare
theorem A6.call {g':Array GenState}{t':Nat}{d':Drawn}{ch:List Addr}(I:A6 X pins σ H s)(u:Un (DX X.stack) ch H H' s.heap h')(hok:Ca X.prog X.w H' h')(hg:AllBare g')
  (hch:∀b∈ch,(b∈X.ex\/X.s₀.heap.objs.size<=b)/\b≠X.env.locals/\(∀x c,X.env.cells.lookup x=some c->c≠b)/\∀p∈X.pn++pins,p.1≠b) :
  A6 X pins σ H' {s with heap:=h',gens:=g',drawn:=d',toks:=t'}:=by
 obtain⟨m,⟨o,es,ep,ho,r⟩,_⟩:=id I.loc
 obtain⟨sl,hL⟩:=u.any ho I.free fun z=>(hch _ z).2.1 rfl
 exact I.step (ch:=ch) hch (fun b o hL hb hc e n=>u.keep b o e n (fun z=>(Bw.mp (I.stkSub b z)).elim hL hb) hc) (fun b o _ _ hc e n=>u.any e n hc) (fun b o hc e n=>u.free b o e n hc) (fun b o hc e=>u.there b o e hc) u.tups u.frzs u.tbls (fun m' hm=>by
  obtain⟨o',es',ep',ho',r'⟩:=hm
  rw[ho]at ho';cases ho'
  exact⟨_,es',ep',hL,r'⟩) hok hg
theorem A6.turned {t':Nat}{it:Addr}(I:A6 X pins σ H s)(k:∀b o,b≠it->s.heap.get? b=some o->h'.get? b=some o)(hn:H it=none)(hL:it≠X.env.locals)
  (h1:it∈X.ex\/X.s₀.heap.objs.size<=it) (h2:∀x c,X.env.cells.lookup x=some c->c≠it) (h3:∀p∈X.pn++pins,p.1≠it):A6 X pins σ H {s with heap:=h',toks:=t'}:=by
 have nit:∀b u,H b=some u->b≠it:=fun b u e z=>by rw[z,hn]at e;cases e
 refine I.step (g':=s.gens) (d':=s.drawn) (ch:=[it]) (fun b hb=>?_) (fun b o _ _ hc e _=>k b o (fun z=>hc (by simp[z])) e) (fun b o _ _ hc e _=>⟨o.slots,k b o (fun z=>hc (by simp[z])) e⟩) (fun _ _ _ _ n=>n)
  (fun b o hc e=>⟨o,k b o (fun z=>hc (by simp[z])) e⟩) (fun _ _ e=>e) (fun _ _ _ e=>e) (fun b ps e=>⟨#[],by rw[e];simp⟩) (fun m hm=>?_) (fun b u e=>?_) I.bare
 .have e:b=it:=by simpa using hb
  subst e
  exact⟨h1,hL,h2,h3⟩
 .obtain⟨o,es,ep,ho,r⟩:=hm
  exact⟨o,es,ep,k _ o (Ne.symm hL) ho,r⟩
 .refine(I.hok b u e).stay (fun c v hc q=>k c v ?_ q) (fun _ q=>q) fun _ _ q=>q
  rcases hc with z|z
  .rw[z];exact nit b u e
  .exact nit c _ z
theorem A6.tok (I:A6 X pins σ H s)(t:Nat):A6 X pins σ H {s with toks:=t}:=I.un (h':=s.heap) (t':=t) Un.refl I.hok
theorem A6.kept {t':Nat}(I:A6 X pins σ H s)(k:∀b u,s.heap.get? b=some u->h'.get? b=some u):A6 X pins σ H {s with heap:=h',toks:=t'}:=I.un (Un.kept k) (I.hok.kept k)
theorem A6.laid {a:Addr}{o:HO}{t':Nat}(I:A6 X pins σ H s)(k:∀b u,s.heap.get? b=some u->h'.get? b=some u)(hp:s.heap.objs.size<=a)(new:CF X.prog X.w (upd H a o) h' a o) :
 A6 X pins σ (upd H a o) {s with heap:=h',toks:=t'}:=I.un (Un.laid k hp (I.hok.fresh hp)) (I.hok.laid k hp new)
theorem A6.write {x e:Addr}{o:HO}{t':Nat}(I:A6 X pins σ H s)(mu:JR (H x))(he:e=x\/H e=some (.own x))(k:∀b u,b≠e->s.heap.get? b=some u->h'.get? b=some u)(heo:∃u,h'.get? e=some u)
 (new:CF X.prog X.w (upd H x o) h' x o):A6 X pins σ (upd H x o) {s with heap:=h',toks:=t'}:=I.un (Un.write mu he k heo) (I.hok.write mu he k heo new)
theorem A6.weak {σ':List (Option V)}(I:A6 X pins σ H s)(hl:σ'.length=σ.length)(w:∀(i:Nat) v,σ'[i]?=some (some v)->σ[i]?=some (some v)):A6 X pins σ' H s:=
 ⟨I.ok,I.os,I.bare,I.base,let ⟨m,hn,hl'⟩:=I.loc;⟨m,hn,fun i x v e1 e2 e3=>hl' i x v e1 (w i v e2) e3⟩,I.cell,I.free,I.freeC,I.pin,I.hok,hl.trans I.len⟩
theorem A6.pins_of {pins':List (Addr×Obj)}(I:A6 X pins σ H s)(h:∀p∈pins',s.heap.get? p.1=some p.2/\H p.1=none/\p.1≠X.env.locals/\p.1∉X.fs/\∀v,p.2.data≠.cell v):A6 X pins' σ H s:=
 ⟨I.ok,I.os,I.bare,I.base,I.loc,I.cell,I.free,I.freeC,fun p hp=>(CA.mp hp).elim (fun z=>I.pin p (Fl _ z)) (h p),I.hok,I.len⟩
theorem NW {N:List Str}(hN:N.Nodup){i j:Nat}{x:Str}(a:N[i]?=some x)(b:N[j]?=some x):i=j:=by
 obtain⟨h1,e1⟩:=Ay.mp a
 obtain⟨h2,e2⟩:=Ay.mp b
 exact(List.getElem_inj hN).mp (e1.trans e2.symm)
theorem UC {M:Model}{A:Around}{E:Value->Shared->Prop}{i:Nat}{x:Str}{v:V}{u:Value}{Q:Unit->Shared->Prop}(I:A6 X pins σ H s)(hN:X.N.Nodup)(hi:X.N[i]?=some x)(hx:GB X.env.scope x)(r:AM v u)
  (h:∀s',A6 X pins (σ.set i (some v)) H s'->(∃a,Heap.SameBut a s.heap s'.heap/\(a=X.env.locals\/X.env.cells.lookup x=some a))->Q () s') (hf:X.fn x=true\/X.env.scope.names.lookup x=some .local:=by first|exact .inl rfl|exact .inr rfl|assumption):wpAny M A (storeName X.env x u) Q E s:=by
 obtain⟨m,hn,hl⟩:=id I.loc
 have hcls:(X.env.scope.kind == .class||(X.env.scope.kind == .module&&X.env.locals != X.env.globals))=false:=by rw[I.ok.kind];rfl
 have hiσ:i<σ.length:=by rw[I.len];exact(Ay.mp hi).1
 have cne:=I.cne
 have tracked:∀{a:Addr} {h':Heap},(∃o,s.heap.get? a=some o/\H a=none)->Heap.SameBut a s.heap h'->Ca X.prog X.w H h':=fun{a h'} ha hs b ob e=>by
  obtain⟨_,_,hfree⟩:=ha
  refine(I.hok b ob e).stay (fun c w' hc q=>(hs.2 c ?_).trans q) (fun _ q=>q) fun _ _ q=>q
  rintro rfl
  rcases hc with rfl|hc
  .rw[hfree]at e;cases e
  .rw[hfree]at hc;cases hc
 rcases hx with hk|hk
 .refine wpAny_storeName_local hk hn (fun h' hn' hs=>?_) hcls
  obtain⟨oL,_,_,hoL,_⟩:=id hn
  refine h _ ⟨I.ok,I.os,I.bare,⟨fun b o e n hb hx=>?_,fun b o e n hb hx=>?_,I.base.free,fun b o e hx=>?_,I.base.tups,I.base.frzs,I.base.tbls⟩,⟨_,hn',fun j y v' e1 e2 e3=>?_⟩,fun y c e=>?_,I.free,I.freeC,fun p hp=>?_,tracked ⟨oL,hoL,I.free⟩ hs,by simpa using I.len⟩ ⟨_,hs,.inl rfl⟩
  .exact(hs.2 b (BO (Ct (Bc e) I.ok.above))).trans (I.base.keep b o e n hb hx)
  .obtain⟨sl,e1⟩:=I.base.slot b o e n hb hx
   exact⟨sl,(hs.2 b (BO (Ct (Bc e) I.ok.above))).trans e1⟩
  .obtain⟨o',e1⟩:=I.base.there b o e hx
   exact⟨o',(hs.2 b (BO (Ct (Bc e) I.ok.above))).trans e1⟩
  .by_cases hj:j=i
   .subst hj
    rw[hi]at e1;cases e1
    rw[List.getElem?_set_self hiσ]at e2
    cases e2
    exact⟨u,r,.inl ⟨hk,by simp⟩⟩
   .rw[List.getElem?_set_ne (Ne.symm hj)]at e2
    obtain⟨u',r',q⟩:=hl j y v' e1 e2 e3
    refine⟨u',r',?_⟩
    rcases q with⟨k,e⟩|⟨k,c,e,z⟩
    .refine .inl ⟨k,?_⟩
     have:y≠x:=fun e=>hj (NW hN e1 (e▸hi))
     simp[this,e]
    .exact .inr ⟨k,c,e,z.sameBut hs (cne y c e)⟩
  .obtain⟨w',z⟩:=I.cell y c e
   exact⟨w',z.sameBut hs (cne y c e)⟩
  .obtain⟨e,n,ne,nf,d⟩:=I.pin p hp
   exact⟨(hs.2 p.1 ne).trans e,n,ne,nf,d⟩
 .have hfn:X.fn x=true:=by
   rcases hf with z|z
   .exact z
   .rw[z]at hk;cases hk
  obtain⟨c,hc⟩:=I.ok.has x (.inl hk)
  obtain⟨w',z⟩:=I.cell x c hc
  refine wpAny_storeName_cell I.ok.kind hk hc z (fun h' hc' hs=>?_)
  obtain⟨oc,hoc,hocd⟩:=id z
  refine h {s with heap:=h'} ⟨I.ok,I.os,I.bare,⟨fun b o e n hb hx=>?_,fun b o e n hb hx=>?_,I.base.free,fun b o e hx=>?_,I.base.tups,I.base.frzs,I.base.tbls⟩,⟨m,hn.sameBut hs (Ne.symm (cne x c hc)),fun j y v' e1 e2 e3=>?_⟩,fun y c' e=>?_,I.free,I.freeC,fun p hp=>?_,tracked ⟨oc,hoc,I.freeC x c hc⟩ hs,by simpa using I.len⟩ ⟨c,hs,.inr hc⟩
  .exact(hs.2 b (BO (Ct (Bc e) (I.ok.cab x c hfn hc)))).trans (I.base.keep b o e n hb hx)
  .obtain⟨sl,e1⟩:=I.base.slot b o e n hb hx
   exact⟨sl,(hs.2 b (BO (Ct (Bc e) (I.ok.cab x c hfn hc)))).trans e1⟩
  .obtain⟨o',e1⟩:=I.base.there b o e hx
   exact⟨o',(hs.2 b (BO (Ct (Bc e) (I.ok.cab x c hfn hc)))).trans e1⟩
  .by_cases hj:j=i
   .subst hj
    rw[hi]at e1;cases e1
    rw[List.getElem?_set_self hiσ]at e2
    cases e2
    exact⟨u,r,.inr ⟨.inl hk,c,hc,hc'⟩⟩
   .rw[List.getElem?_set_ne (Ne.symm hj)]at e2
    obtain⟨u',r',q⟩:=hl j y v' e1 e2 e3
    refine⟨u',r',?_⟩
    rcases q with q|⟨k,c',e,z'⟩
    .exact .inl q
    .refine .inr ⟨k,c',e,z'.sameBut hs ?_⟩
     rintro rfl
     exact hj (NW hN e1 (I.ok.inj _ _ _ e hc▸hi))
  .by_cases hcc:c'=c
   .subst hcc;exact⟨_,hc'⟩
   .obtain⟨w2,z2⟩:=I.cell y c' e
    exact⟨w2,z2.sameBut hs hcc⟩
  .obtain⟨e,n,ne,nf,d⟩:=I.pin p hp
   refine⟨(hs.2 p.1 ?_).trans e,n,ne,nf,d⟩
   intro q
   rw[q,hoc]at e
   have q':oc=p.2:=Dx e
   exact d w' (by rw[←q'];exact hocd)
theorem KD {M:Model}{A:Around}{E:Value->Shared->Prop}{i:Nat}{x:Str}{v:V}{u:Value}{Q:Unit->Shared->Prop}(I:A6 X pins σ H s)(hN:X.N.Nodup)(hi:X.N[i]?=some x)(hx:GB X.env.scope x)(r:AM v u)
  (h:∀s',A6 X pins (σ.set i (some v)) H s'->Q () s') (hf:X.fn x=true\/X.env.scope.names.lookup x=some .local:=by first|exact .inl rfl|exact .inr rfl|assumption):wpAny M A (storeName X.env x u) Q E s:=
 UC I hN hi hx r (fun s' I' _=>h s' I') hf
theorem A6.call' {s':Shared}{ch:List Addr}(I:A6 X pins σ H s)(ho:s'.os=s.os)(u:Un (DX X.stack) ch H H' s.heap s'.heap)(hok:Ca X.prog X.w H' s'.heap)(hg:AllBare s'.gens)
  (hch:∀b∈ch,(b∈X.ex\/X.s₀.heap.objs.size<=b)/\b≠X.env.locals/\(∀x c,X.env.cells.lookup x=some c->c≠b)/\∀p∈X.pn++pins,p.1≠b):A6 X pins σ H' s':=by
 obtain⟨h',g',d',t',o'⟩:=s'
 have e:o'=s.os:=ho
 subst e
 exact I.call (g':=g') (t':=t') (d':=d') u hok hg hch
end
abbrev XK:=Value->Option Addr->Hp->Prop
abbrev St:=List (Option V)
abbrev VK:=V->Hp->Prop
abbrev TE:=St->Hp->VK->Prop
abbrev TT:=St->Hp->(Bool->Hp->Prop)->Prop
abbrev TA:=St->Hp->(List V->Hp->Prop)->Prop
structure DH where
 nx:St->Hp->Prop
 rt:VK
 bk:St->Hp->Prop:=fun _ _=>False
 ct:St->Hp->Prop:=fun _ _=>False
abbrev TS:=DH->St->Hp->Prop
def EP (X:Cx)(pins:List (Addr×Obj))(σ:St)(Q:VK)(u:Value)(s':Shared):Prop := ∃v H',A6 X pins σ H' s'/\AM v u/\Q v H'
def TP (X:Cx)(pins:List (Addr×Obj))(σ:St)(Q:Bool->Hp->Prop)(b:Bool)(s':Shared):Prop := ∃H',A6 X pins σ H' s'/\Q b H'
def AP (X:Cx)(pins:List (Addr×Obj))(σ:St)(Q:List V->Hp->Prop)(us:List Value)(s':Shared):Prop := ∃vs H',A6 X pins σ H' s'/\Aq vs us/\Q vs H'
def SP (X:Cx)(pins:List (Addr×Obj))(D:DH)(f:Flow)(s':Shared):Prop:=
 match f with
 |.next=>∃σ' H',A6 X pins σ' H' s'/\D.nx σ' H'
 |.brk=>∃σ' H',A6 X pins σ' H' s'/\D.bk σ' H'
 |.cont=>∃σ' H',A6 X pins σ' H' s'/\D.ct σ' H'
 |.ret u=>∃v σ' H',A6 X pins σ' H' s'/\AM v u/\D.rt v H'
def PE (X:Cx)(e:Expr)(t:TE):Prop:=
 ∀(pins:List (Addr×Obj)) (s:Shared) (σ:St) (H:Hp) (Q:VK),A6 X pins σ H s->t σ H Q->wpAny (model X.prog X.w) X.A (eval e X.env) (EP X pins σ Q) X.xe s
def PT (X:Cx)(e:Expr)(t:TT):Prop:=
 ∀(pins:List (Addr×Obj)) (s:Shared) (σ:St) (H:Hp) (Q:Bool->Hp->Prop),A6 X pins σ H s->t σ H Q->wpAny (model X.prog X.w) X.A (isTrue e X.env (eval e X.env)) (TP X pins σ Q) X.xe s
def PW (X:Cx)(e:Expr)(t:TT):Prop:=
 ∀(whole:Sem Value) (pins:List (Addr×Obj)) (s:Shared) (σ:St) (H:Hp) (Q:Bool->Hp->Prop),A6 X pins σ H s->t σ H Q->wpAny (model X.prog X.w) X.A (isTrue e X.env whole) (TP X pins σ Q) X.xe s
theorem PW.pt {X:Cx}{e:Expr}{t:TT}(h:PW X e t):PT X e t:=h _
def PA (X:Cx)(es:List Expr)(t:TA):Prop:=
 ∀(pos:Pos) (pins:List (Addr×Obj)) (s:Shared) (σ:St) (H:Hp) (Q:List V->Hp->Prop),A6 X pins σ H s->t σ H Q->wpAny (model X.prog X.w) X.A (spliced (backTo pos (starEach es X.env))) (AP X pins σ Q) X.xe s
def PS (X:Cx)(st:Stmt)(t:TS):Prop:=
 ∀(pins:List (Addr×Obj)) (s:Shared) (σ:St) (H:Hp) (D:DH),A6 X pins σ H s->t D σ H->wpAny (model X.prog X.w) X.A (exec st X.env) (SP X pins D) X.xe s
def E3 (X:Cx)(st:List Stmt)(t:TS):Prop:=
 ∀(pins:List (Addr×Obj)) (s:Shared) (σ:St) (H:Hp) (D:DH),A6 X pins σ H s->t D σ H->wpAny (model X.prog X.w) X.A (execs st X.env) (SP X pins D) X.xe s
theorem AC {α:Type}{t:Sem α}{Q Q':α->Shared->Prop}{M:Model}{A:Around}{E:Value->Shared->Prop}{s:Shared}(h:wpAny M A t Q E s)(hQ:∀a s,Q a s->Q' a s):wpAny M A t Q' E s:=EY h hQ fun _ _ x=>x
section
variable {X:Cx}
def Fk (i:Nat):TE:=fun σ H Q=>∃v,σ[i]?=some (some v)/\Q v H
def tC (v:V):TE:=fun _ H Q=>Q v H
theorem PJ {i:Nat}{x:Str}{pos:Pos}(hN:X.N[i]?=some x)(hv:JP X.env.scope x)(hd:(x==("__debug__":Str))=false:=by decide)(hcd:(x==("__classdict__":Str))=false:=by decide):PE X (.Name x pos) (Fk i):=by
 intro pins s σ H Q I h
 obtain⟨v,e,h⟩:=h
 obtain⟨m,hn,hl⟩:=I.loc
 obtain⟨u,r,l⟩:=hl i x v hN e hv
 have fin:EP X pins σ Q u s:=⟨v,H,I,r,h⟩
 rcases l with⟨hk,hm⟩|⟨hk,c,hc,hcell⟩
 .exact wpAny_Name (wpAny_loadName_local I.ok.kind hk hn hm fin) hd
 .rcases hk with hk|hk
  .exact wpAny_Name (wpAny_loadName_cell I.ok.kind hk hc hcell fin) hd
  .exact wpAny_Name (wpAny_loadName_free I.ok.kind hk hc hcell fin hcd) hd
theorem A1 {i j pos}:PE X (.Constant (.int i) j pos) (tC (.int i)):=fun _ _ _ H _ I h=>wpAny_Constant_int ⟨.int i,H,I.tok _,⟨_,rfl⟩,h⟩
theorem CD {b j pos}:PE X (.Constant (.bool b) j pos) (tC (.bl b)):=fun _ _ _ H _ I h=>Constant_bool ⟨.bl b,H,I,rfl,h⟩
theorem KS {j pos}:PE X (.Constant .none j pos) (tC .non):=fun _ _ _ H _ I h=>Constant_none ⟨.non,H,I,rfl,h⟩
theorem BL {x j pos}:PE X (.Constant (.str x) j pos) (tC (.str x)):=fun _ _ _ H _ I h=>Calls.Constant_str ⟨.str x,H,I.tok _,⟨_,rfl⟩,h⟩
def Gl (X:Cx)(x:Str):Prop:=X.env.kindOf x=some .globalImplicit
theorem Lo {E:Value->Shared->Prop}{pins:List (Addr×Obj)}{s:Shared}{σ:St}{H:Hp}{x:Str}{u:Value}{pos:Pos}{Q:Value->Shared->Prop}(I:A6 X pins σ H s)(hg:Gl X x)(hm:X.mg x=some u)(h:Q u s)
  (hd:(x==("__debug__":Str))=false:=by decide):wpAny (model X.prog X.w) X.A (eval (.Name x pos) X.env) Q E s:=
 Calls.Name_function_global I.ok.kind hg (Calls.loadGlobal_global (by rw[I.ok.glob];exact I.mod.glob.keeps I.bk) hm h) hd
theorem Fg {E:Value->Shared->Prop}{pins:List (Addr×Obj)}{s:Shared}{σ:St}{H:Hp}{x:Str}{u:Value}{pos:Pos}{Q:Value->Shared->Prop}(I:A6 X pins σ H s)(hg:Gl X x)(hm:X.mg x=none)(hv:bootBuiltins x=some u)(h:Q u s)
  (hn:x≠"__name__":=by decide) (hd:(x==("__debug__":Str))=false:=by decide):wpAny (model X.prog X.w) X.A (eval (.Name x pos) X.env) Q E s:=by
 obtain⟨mb,h1,h2⟩:=I.mod.blt
 exact Calls.Name_function_global I.ok.kind hg (Calls.loadGlobal_builtin (by rw[I.ok.glob];exact I.mod.glob.keeps I.bk) hm (by rw[I.ok.blt];exact h1.keeps I.bk) ((h2 x hn).trans hv) h) hd
theorem Nd {x:Str}{v:V}{u:Value}{pos:Pos}(hg:Gl X x)(hm:X.mg x=some u)(r:AM v u)(hd:(x==("__debug__":Str))=false:=by decide):PE X (.Name x pos) (tC v):=
 fun _ _ _ H _ I h=>Lo I hg hm ⟨v,H,I,r,h⟩ hd
theorem Us {x:Str}{v:V}{u:Value}{pos:Pos}(hg:Gl X x)(hm:X.mg x=none)(hv:bootBuiltins x=some u)(r:AM v u)(hn:x≠"__name__":=by decide)(hd:(x==("__debug__":Str))=false:=by decide):PE X (.Name x pos) (tC v):=
 fun _ _ _ H _ I h=>Fg I hg hm hv ⟨v,H,I,r,h⟩ hn hd
variable {a b:Expr}{ta tb:TE}{pos:Pos}
def tB (t:TE):TT:=fun σ H Q=>t σ H fun x H1=>∃c,x = .bl c/\Q c H1
theorem Ep {e:Expr}{t:TE}(h:PE X e t)(he:∀whole,isTrue e X.env whole=(do let v ←whole;standAt e.pos;holding [v] (truthy v)):=by intro _;rfl):PT X e (tB t):=by
 intro pins s σ H Q I hw
 refine isTrue_plain (AC (h pins s σ H _ I hw) fun v s1 ⟨x,H1,I1,r1,q1⟩=>?_) (he _)
 obtain⟨d,rfl,q⟩:=q1
 cases r1
 exact Hi ⟨H1,I1,q⟩
variable {tA tB':TT}{rest:List Expr}
def Mr (t u:TT):TT:=fun σ H Q=>t σ H fun c H1=>if c=true then u σ H1 Q else Q false H1
def TL (t u:TT):TT:=fun σ H Q=>t σ H fun c H1=>if c=true then Q true H1 else u σ H1 Q
def S1 (t:TT):TT:=fun σ H Q=>t σ H fun c H1=>Q (!c) H1
theorem EK (ha:PT X a tA):PW X (.BoolOp .And [a] pos) tA:=by
 intro wh pins s σ H Q I h
 refine isTrue_and (AC (ha pins s σ H Q I h) fun c s1 e=>?_)
 cases c with
 |true=>exact isTrue_and_nil e
 |false=>exact e
theorem Hv (ha:PT X a tA):PW X (.BoolOp .Or [a] pos) tA:=by
 intro wh pins s σ H Q I h
 refine isTrue_or (AC (ha pins s σ H Q I h) fun c s1 e=>?_)
 cases c with
 |false=>exact isTrue_or_nil e
 |true=>exact e
theorem Ei (ha:PT X a tA)(hb:PW X (.BoolOp .And (b::rest) pos) tB'):PW X (.BoolOp .And (a::b::rest) pos) (Mr tA tB'):=by
 intro wh pins s σ H Q I h
 refine isTrue_and (AC (ha pins s σ H _ I h) fun c s1 ⟨H1,I1,q1⟩=>?_)
 cases c with
 |true=>exact hb wh pins s1 σ H1 Q I1 q1
 |false=>exact⟨H1,I1,q1⟩
theorem GX (ha:PT X a tA)(hb:PW X (.BoolOp .Or (b::rest) pos) tB'):PW X (.BoolOp .Or (a::b::rest) pos) (TL tA tB'):=by
 intro wh pins s σ H Q I h
 refine isTrue_or (AC (ha pins s σ H _ I h) fun c s1 ⟨H1,I1,q1⟩=>?_)
 cases c with
 |true=>exact⟨H1,I1,q1⟩
 |false=>exact hb wh pins s1 σ H1 Q I1 q1
theorem GN (ha:PT X a tA):PT X (.UnaryOp .Not a pos) (S1 tA):=by
 intro pins s σ H Q I h
 exact isTrue_not (ha pins s σ H (fun c H1=>Q (!c) H1) I h)
def QI (ta tb:TE):TE:=fun σ H Q=>ta σ H fun x H1=>∃c,x = .bl c/\if c=true then tb σ H1 Q else Q (.bl false) H1
def Sy (ta tb:TE):TE:=fun σ H Q=>ta σ H fun x H1=>∃c,x = .bl c/\if c=true then Q (.bl true) H1 else tb σ H1 Q
def PU (ta:TE):TE:=fun σ H Q=>ta σ H fun x H1=>∃c,x = .bl c/\Q (.bl (!c)) H1
theorem F1 {op}{t:TE}(h:PE X a t):PE X (.BoolOp op [a] pos) t:=fun pins s σ H Q I hw=>BoolOp_one (h pins s σ H Q I hw)
theorem GV (ha:PE X a ta)(hb:PE X (.BoolOp .And (b::rest) pos) tb):PE X (.BoolOp .And (a::b::rest) pos) (QI ta tb):=by
 intro pins s σ H Q I h
 refine BoolOp_and (AC (ha pins s σ H _ I h) fun v s1 ⟨x,H1,I1,r1,q1⟩=>?_)
 obtain⟨c,rfl,q1⟩:=q1
 cases r1
 refine Hi ?_
 cases c with
 |true=>exact hb pins s1 σ H1 Q I1 q1
 |false=>exact⟨.bl false,H1,I1,rfl,q1⟩
theorem Lw (ha:PE X a ta)(hb:PE X (.BoolOp .Or (b::rest) pos) tb):PE X (.BoolOp .Or (a::b::rest) pos) (Sy ta tb):=by
 intro pins s σ H Q I h
 refine BoolOp_or (AC (ha pins s σ H _ I h) fun v s1 ⟨x,H1,I1,r1,q1⟩=>?_)
 obtain⟨c,rfl,q1⟩:=q1
 cases r1
 refine Hi ?_
 cases c with
 |false=>exact hb pins s1 σ H1 Q I1 q1
 |true=>exact⟨.bl true,H1,I1,rfl,q1⟩
theorem KY (ha:PE X a ta):PE X (.UnaryOp .Not a pos) (PU ta):=by
 intro pins s σ H Q I h
 refine UnaryOp_ (AC (ha pins s σ H _ I h) fun v s1 ⟨x,H1,I1,r1,q1⟩=>?_)
 obtain⟨c,rfl,q1⟩:=q1
 cases r1
 exact not_of (Hi ⟨.bl (!c),H1,I1,rfl,q1⟩)
end
def A4 (K:PySem.W.Frag)(H:Hp)(a:Addr)(xs:List V):Prop:=
 Rd H a (.lst xs)\/
  ∃(o:Obj) (its:Array Value) (n:Nat),K.lookup a=some o/\o.cls = .type "list"/\o.dict=none/\o.data = .seq its n/\its.size<=sizeLine/\Aq xs its.toList
def A9 (K:PySem.W.Frag)(H:Hp)(a:Addr)(xs:List V):Prop:=
 Rd H a (.tup xs)\/
  ∃(o:Obj) (its:Array Value) (n:Nat),K.lookup a=some o/\o.cls = .type "tuple"/\o.data = .seq its n/\its.size<=sizeLine/\Aq xs its.toList
def PL:Value->Option V
 |.none=>some .non
 |.bool b=>some (.bl b)
 |.int i _=>some (.int i)
 |.str x _=>some (.str x)
 |.bytes b _=>some (.byt b)
 |.float b _=>some (.flt b)
 |.ref a=>some (.ref a)
 |.type n=>some (.ty n)
 |_=>none
theorem AM.abs {x:V}{u:Value}(r:AM x u):PL u=some x:=by
 cases x with
 |non=>cases r;rfl
 |bl _=>cases r;rfl
 |int _=>obtain⟨t,rfl⟩:=r;rfl
 |str _=>obtain⟨t,rfl⟩:=r;rfl
 |byt _=>obtain⟨t,rfl⟩:=r;rfl
 |flt _=>obtain⟨t,rfl⟩:=r;rfl
 |ref _=>cases r;rfl
 |ty _=>cases r;rfl
theorem AM.inj {x y:V}{u:Value}(r:AM x u)(q:AM y u):x=y:=Dx (r.abs.symm.trans q.abs)
theorem Aq.inj:∀{xs ys:List V} {us:List Value},Aq xs us->Aq ys us->xs=ys
 |_,_,_,.nil,.nil=>rfl
 |_,_,_,.cons r t,.cons r' t'=>by rw[r.inj r',Aq.inj t t']
section
variable {X:Cx}{pins:List (Addr×Obj)}{σ:St}{H:Hp}{s:Shared}{a:Addr}{xs ys:List V}
theorem A4.of {K:PySem.W.Frag}(h:H a=some (.lst xs)):A4 K H a xs:=.inl (.inl h)
theorem A9.of {K:PySem.W.Frag}(h:H a=some (.tup xs)):A9 K H a xs:=.inl (.inl h)
theorem A6.list (I:A6 X pins σ H s)(h:A4 X.K H a xs):∃its:List Value,Aq xs its/\PlainL s.heap a its.toArray/\xs.length<=sizeLine:=by
 rcases h with h|⟨o,its,n,hk,hc,hd,hs,hz,r⟩
 .obtain⟨z,its,n,r,e⟩:=h.ok I.hok
  exact⟨its,r,⟨_,n,e,rfl,rfl,rfl⟩,z⟩
 .refine⟨its.toList,r,⟨o,n,I.kIn a o hk,hc,hd,by simpa using hs⟩,?_⟩
  have e:=r.length
  simp only[OP]at e
  omega
theorem A6.tuple (I:A6 X pins σ H s)(h:A9 X.K H a xs):∃its:List Value,Aq xs its/\IsTup s.heap a its.toArray/\xs.length<=sizeLine:=by
 rcases h with h|⟨o,its,n,hk,hc,hs,hz,r⟩
 .obtain⟨z,its,r,p⟩:=h.ok I.hok
  exact⟨its,r,p.tup,z⟩
 .refine⟨its.toList,r,⟨o,I.kIn a o hk,hc,n,by simpa using hs⟩,?_⟩
  have e:=r.length
  simp only[OP]at e
  omega
theorem A6.list_inj (I:A6 X pins σ H s)(h:A4 X.K H a xs)(h':A4 X.K H a ys):xs=ys:=by
 obtain⟨its,r,⟨o,n,e,_,_,d⟩,_⟩:=I.list h
 obtain⟨its',r',⟨o',n',e',_,_,d'⟩,_⟩:=I.list h'
 rw[e]at e';cases e'
 rw[d]at d'
 injection d' with d1 _
 have:its=its':=by simpa using congrArg Array.toList d1
 subst this
 exact r.inj r'
theorem A6.tuple_inj (I:A6 X pins σ H s)(h:A9 X.K H a xs)(h':A9 X.K H a ys):xs=ys:=by
 obtain⟨its,r,⟨o,e,_,n,d⟩,_⟩:=I.tuple h
 obtain⟨its',r',⟨o',e',_,n',d'⟩,_⟩:=I.tuple h'
 rw[e]at e';cases e'
 rw[d]at d'
 injection d' with d1 _
 have:its=its':=by simpa using congrArg Array.toList d1
 subst this
 exact r.inj r'
end
abbrev Cx.wish (X:Cx)(E:Value->Shared->Prop):Cx:={X with xe:=E}
abbrev Cx.nox (X:Cx):Cx:=X.wish fun _ _=>False
theorem Cx.Ok.wish {X:Cx}(ok:X.Ok)(E:Value->Shared->Prop):(X.wish E).Ok:=
 ⟨ok.mod,ok.kind,ok.glob,ok.blt,ok.above,ok.inj,ok.has,ok.cab,ok.hd,ok.frames,ok.stk,ok.exf,ok.bs,ok.bsz,ok.noex,ok.exfs,ok.funs,ok.frf⟩
theorem Cx.Ok.unwish {X:Cx}{E:Value->Shared->Prop}(ok:(X.wish E).Ok):X.Ok:=
 ⟨ok.mod,ok.kind,ok.glob,ok.blt,ok.above,ok.inj,ok.has,ok.cab,ok.hd,ok.frames,ok.stk,ok.exf,ok.bs,ok.bsz,ok.noex,ok.exfs,ok.funs,ok.frf⟩
section
variable {X:Cx}{pins:List (Addr×Obj)}{σ:St}{H:Hp}{s:Shared}{E:Value->Shared->Prop}
theorem A6.wish (I:A6 X pins σ H s)(E:Value->Shared->Prop):A6 (X.wish E) pins σ H s:=⟨I.ok.wish E,I.os,I.bare,I.base,I.loc,I.cell,I.free,I.freeC,I.pin,I.hok,I.len⟩
theorem A6.unwish (I:A6 (X.wish E) pins σ H s):A6 X pins σ H s:=⟨I.ok.unwish,I.os,I.bare,I.base,I.loc,I.cell,I.free,I.freeC,I.pin,I.hok,I.len⟩
theorem SP.unwish {D:DH}{f:Flow}{s':Shared}(h:SP (X.wish E) pins D f s'):SP X pins D f s':=by
 cases f with
 |next=>obtain⟨σ',H',I,q⟩:=h;exact⟨σ',H',I.unwish,q⟩
 |brk=>obtain⟨σ',H',I,q⟩:=h;exact⟨σ',H',I.unwish,q⟩
 |cont=>obtain⟨σ',H',I,q⟩:=h;exact⟨σ',H',I.unwish,q⟩
 |ret u=>obtain⟨v,σ',H',I,r,q⟩:=h;exact⟨v,σ',H',I.unwish,r,q⟩
theorem E3.nox {st:List Stmt}{t:TS}(h:E3 X.nox st t):E3 X st t:=fun pins s σ H D I hw=>
 EY (h pins s σ H D (I.wish _) hw) (fun _ _ q=>q.unwish) fun _ _ z=>False.elim z
end
section
variable {X:Cx}{st:Stmt}{rest:List Stmt}{t u:TS}{e:Expr}{te:TE}{pos:Pos}
def RI:TS:=fun D σ H=>D.nx σ H
def Jj (t u:TS):TS:=fun D σ H=>t {D with nx:=u D} σ H
theorem Bb:E3 X [] RI:=fun _ _ σ H _ I h=>M6 ⟨σ,H,I,h⟩
theorem A8 (h1:PS X st t)(h2:E3 X rest u):E3 X (st::rest) (Jj t u):=by
 intro pins s σ H D I h
 refine wpAny_execs_cons (AC (h1 pins s σ H {D with nx:=u D} I h) fun f s1 q=>?_)
 cases f with
 |
  next=>
  obtain⟨σ',H',I',q⟩:=q
  exact h2 pins s1 σ' H' D I' q
 |ret v=>exact q
 |brk=>exact q
 |cont=>exact q
theorem Aj (h1:PS X st t):E3 X [st] t:=by
 intro pins s σ H D I h
 refine wpAny_execs_cons (AC (h1 pins s σ H D I h) fun f s1 q=>?_)
 cases f with
 |next=>exact M6 q
 |ret v=>exact q
 |brk=>exact q
 |cont=>exact q
def US:TS:=fun D σ H=>D.bk σ H
theorem Qy:PS X (.Break pos) US:=fun _ _ σ H _ I h=>wpAny_Break ⟨σ,H,I,h⟩
theorem A6.quiet {pins:List (Addr×Obj)}{σ:St}{H:Hp}{s:Shared}(I:A6 X pins σ H s):interactive X.env=false:=by simp[interactive,I.ok.kind]
def Qf (te:TE):TS:=fun D σ H=>te σ H fun _ H1=>D.nx σ H1
theorem DF (he:PE X e te)(hs:swapsWith e none pos.line X.env=pure false:=by rfl):PS X (.Expr e pos) (Qf te):=by
 intro pins s σ H D I h
 exact wpAny_Expr_any (AC (he pins s σ H _ I h) fun v s1 ⟨x,H1,I1,r1,q1⟩=>⟨σ,H1,I1,q1⟩) I.quiet hs
def Nm (te:TE):TS:=fun D σ H=>te σ H D.rt
theorem AX (he:PE X e te):PS X (.Return (some e) pos) (Nm te):=by
 intro pins s σ H D I h
 exact wpAny_Return_some (AC (he pins s σ H _ I h) fun v s1 ⟨x,H1,I1,r1,q1⟩=>⟨x,σ,H1,I1,r1,q1⟩)
def HQ (c:TT)(t u:TS):TS:=fun D σ H=>c σ H fun b H1=>if b=true then t D σ H1 else u D σ H1
theorem AY {c:Expr}{a b:List Stmt}{tc:TT}(hc:PT X c tc)(ha:E3 X a t)(hb:E3 X b u):PS X (.If c a b pos) (HQ tc t u):=by
 intro pins s σ H D I h
 refine wpAny_If (AC (hc pins s σ H _ I h) fun d s1 ⟨H1,I1,q1⟩=>?_)
 cases d with
 |true=>exact ha pins s1 σ H1 D I1 q1
 |false=>exact hb pins s1 σ H1 D I1 q1
end
abbrev TG:=V->St->Hp->(St->Hp->Prop)->Prop
abbrev F8:=List V->St->Hp->(St->Hp->Prop)->Prop
def PG (X:Cx)(target:Expr)(t:TG):Prop:=
 ∀(pins:List (Addr×Obj)) (s:Shared) (σ:St) (H:Hp) (v:V) (u:Value) (Q:St->Hp->Prop),A6 X pins σ H s->AM v u->t v σ H Q->
  wpAny (model X.prog X.w) X.A (assign target X.env u) (fun _ s'=>∃σ' H',A6 X pins σ' H' s'/\Q σ' H') X.xe s
def Hz (X:Cx)(ts:List Expr)(t:F8):Prop:=
 ∀(pins:List (Addr×Obj)) (s:Shared) (σ:St) (H:Hp) (vs:List V) (us:List Value) (Q:St->Hp->Prop),A6 X pins σ H s->Aq vs us->t vs σ H Q->
  wpAny (model X.prog X.w) X.A (assignInOrder ((assignEach ts X.env).map (·.2)) us) (fun _ s'=>∃σ' H',A6 X pins σ' H' s'/\Q σ' H') X.xe s
section
variable {X:Cx}{pos:Pos}
def Ag (i:Nat):TG:=fun v σ H Q=>Q (σ.set i (some v)) H
theorem Ao {i:Nat}{x:Str}(hN:X.N.Nodup)(hi:X.N[i]?=some x)(hx:GB X.env.scope x)(hf:X.fn x=true\/X.env.scope.names.lookup x=some .local:=by first|exact .inl rfl|exact .inr rfl|assumption):PG X (.Name x pos) (Ag i):=by
 intro pins s σ H v u Q I r h
 exact wpAny_assign_Name (KD I hN hi hx r (fun s' I'=>⟨_,H,I',h⟩) hf)
def Pz:F8:=fun vs σ H Q=>vs=[]/\Q σ H
def SQ (t:TG)(u:F8):F8:=fun vs σ H Q=>∃v r,vs=v::r/\t v σ H fun σ' H'=>u r σ' H' Q
theorem Cr:Hz X [] Pz:=by
 intro pins s σ H vs us Q I r h
 obtain⟨e,h⟩:=h
 subst e
 cases r
 exact assignInOrder_nil ⟨σ,H,I,h⟩
theorem Av {e:Expr}{es:List Expr}{t:TG}{u:F8}(h1:PG X e t)(h2:Hz X es u)
  (hs:(assignEach (e::es) X.env).map (·.2)=assign e X.env::(assignEach es X.env).map (·.2):=by rfl):Hz X (e::es) (SQ t u):=by
 intro pins s σ H vs us Q I r h
 obtain⟨v,vr,e1,h⟩:=h
 subst e1
 cases r with
 |
  cons r rr=>
  rw[hs]
  refine assignInOrder_cons (AC (h1 pins s σ H _ _ _ I r h) fun _ s1 ⟨σ1,H1,I1,q1⟩=>?_)
  exact h2 pins s1 σ1 H1 _ _ Q I1 rr q1
def Jw (K:PySem.W.Frag)(n:Nat)(t:F8):TG:=fun v σ H Q=>∃a xs,v = .ref a/\A9 K H a xs/\xs.length=n/\t xs σ H Q
theorem Du {es:List Expr}{k:Nat}{t:F8}{n:Nat}(hc:X.calm=true)(h:Hz X es t)
  (hn:(assignEach es X.env).length=n:=by rfl) (hst:(assignEach es X.env).findIdx? (·.1)=none:=by rfl):PG X (.Tuple es k pos) (Jw X.K n t):=by
 intro pins s σ H v u Q I r hw
 obtain⟨a,xs,e1,hq,hl,hw⟩:=hw
 subst e1
 cases r
 obtain⟨its,rv,ht,hz⟩:=I.tuple hq
 refine assign_Tuple_tuple (I.ok.hd hc) ht (by simp[hn,←hl,rv.length]) hst fun h' hx=>?_
 have I1:A6 X pins σ H {s with heap:=h'}:=I.kept (t':=s.toks) fun b o e=>hx b o (BO (Bc e)) e
 exact h pins _ σ H xs _ Q I1 (by simpa using rv) hw
def Ih (te:TE)(g:TG):TS:=fun D σ H=>te σ H fun x H1=>g x σ H1 D.nx
theorem DK {tg e:Expr}{te:TE}{g:TG}(he:PE X e te)(hg:PG X tg g)(hs:swapsWithSole [tg] e pos.line X.env=pure false:=by rfl)(hw:swappedStores [tg] e X.env=pure none:=by rfl)
  (h1:(assignEach [tg] X.env).map (·.2)=[assign tg X.env]:=by rfl):PS X (.Assign [tg] e pos) (Ih te g):=by
 intro pins s σ H D I h
 refine wpAny_Assign_stores (AC (he pins s σ H _ I h) fun v s1 ⟨x,H1,I1,r1,q1⟩=>?_) hs hw
 rw[h1]
 exact AC (hg pins s1 σ H1 x v _ I1 r1 q1) fun _ s2 q=>q
theorem Ai {i:Nat}{x:Str}{e:Expr}{te:TE}{pos':Pos}(hN:X.N.Nodup)(hi:X.N[i]?=some x)(hx:GB X.env.scope x)(he:PE X e te)(hs:swapsWith e (some (.Name x pos')) pos.line X.env=pure false:=by rfl)(hf:X.fn x=true\/X.env.scope.names.lookup x=some .local:=by first|exact .inl rfl|exact .inr rfl|assumption) :
  PS X (.Assign [.Name x pos'] e pos) (Ih te (Ag i)):=by
 intro pins s σ H D I h
 refine wpAny_Assign_Name (AC (he pins s σ H _ I h) fun v s1 ⟨y,H1,I1,r1,q1⟩=>?_) hs
 exact KD I1 hN hi hx r1 (fun s2 I2=>⟨_,H1,I2,q1⟩) hf
end
section
variable {X:Cx}{pos:Pos}
def LF (c:TT)(tb:TS):TS:=fun D σ H=>∃W:Nat->St->Hp->Prop,(∃m,W m σ H)/\∀m σ H,W m σ H->
 c σ H fun b H1=>if b=true then ∃N:St->Hp->Prop,(∀σ' H',N σ' H'->∃m',m'<m/\W m' σ' H')/\tb {D with nx:=N,ct:=N,bk:=D.nx} σ H1 else D.nx σ H1
theorem Hu {c:Expr}{body:List Stmt}{tc:TT}{tb:TS}(hp:PassesOwn (model X.prog X.w) X.A X.env X.xe)(hc:PT X c tc)(hb:E3 X body tb):PS X (.While c body [] pos) (LF tc tb):=by
 intro pins s σ H D I h
 obtain⟨W,⟨m0,w0⟩,turn⟩:=h
 refine wpAny_While (codeAny_whileLoop (fun n s'=>∃σ' H',A6 X pins σ' H' s'/\W n σ' H') ?_ m0 ⟨σ,H,I,w0⟩)
 rintro n s1 ⟨σ1,H1,I1,w1⟩
 refine Hj hp (AC (hc pins s1 σ1 H1 _ I1 (turn n σ1 H1 w1)) fun b s2 ⟨H2,I2,q2⟩=>?_)
 cases b with
 |
  true=>
  obtain⟨N,hN,q2⟩:=q2
  rw[AW rfl]
  refine Hj hp (AC (hb pins s2 σ1 H2 _ I2 q2) fun f s3 q3=>?_)
  cases f with
  |
   next=>
   obtain⟨σ3,H3,I3,n3⟩:=q3
   obtain⟨m',hm,w3⟩:=hN σ3 H3 n3
   exact⟨m',hm,σ3,H3,I3,w3⟩
  |
   cont=>
   obtain⟨σ3,H3,I3,n3⟩:=q3
   obtain⟨m',hm,w3⟩:=hN σ3 H3 n3
   exact⟨m',hm,σ3,H3,I3,w3⟩
  |brk=>exact q3
  |ret v=>exact q3
 |
  false=>
  rw[AQ Cu]
  exact M6 ⟨σ1,H2,I2,q2⟩
end
structure It where
 go:Nat->Hp->Prop
 yld:Nat->Hp->V->Hp->Prop
 stop:Nat->Hp->Prop
def Eh (X:Cx)(pins:List (Addr×Obj))(H:Hp)(b:Addr):Prop:=
 H b=none/\b≠X.env.locals/\b∉X.fs/\(b∈X.ex\/X.s₀.heap.objs.size<=b)/\(∀x c,X.env.cells.lookup x=some c->c≠b)/\∀p∈X.pn++pins,p.1≠b
theorem A6.fpOk {X:Cx}{pins:List (Addr×Obj)}{σ:St}{H H':Hp}{s:Shared}{b:Addr}(I:A6 X pins σ H s)(hb:s.heap.objs.size<=b)(hn:H' b=none):Eh X pins H' b:=by
 refine⟨hn,FH (Ct I.lt hb),I.nofs hb,.inr (Ey I.sz hb),fun x c e z=>?_,fun p hp z=>?_⟩
 .obtain⟨v,q⟩:=I.cell x c e
  exact absurd (Ct q.lt (by rw[z];exact hb)) (E4 _)
 .exact absurd (Ct (Bc (I.pin p hp).1) (by rw[z];exact hb)) (E4 _)
structure FW (P:Program)(w:World)(K:PySem.W.Frag)(tg:Expr)(J:It)(fp:List Addr)(it:Addr)(tn:Nat->Heap->Prop):Prop where
 mem:it∈fp
 obj:∀i h,tn i h->∀b∈fp,∃o,h.get? b=some o/\∀v,o.data≠.cell v
 keep:∀i h h',tn i h->(∀b∈fp,∀o,h.get? b=some o->h'.get? b=some o)->tn i h'
 item:∀(X:Cx),X.prog=P->X.w=w->X.K=K->X.calm=true->∀(i:Nat) (pins:List (Addr×Obj)) (s:Shared) (σ:St) (H:Hp) (E:Value->Shared->Prop),A6 X pins σ H s->(∀b∈fp,Eh X pins H b)->tn i s.heap->J.go i H->
  wpAny (model P w) X.A (pyNext (.ref it)) (fun r s1=>∃u,r=some u/\
   wpAny (model P w) X.A (letOwnedTupleGo tg (.ref it) u) (fun _ s2=>∃x H',A6 X pins σ H' s2/\AM x u/\J.yld i H x H'/\tn (i+1) s2.heap/\∀b∈fp,H' b=none) E s1) E s
 done:∀(X:Cx),X.prog=P->X.w=w->X.K=K->X.calm=true->∀(i:Nat) (pins:List (Addr×Obj)) (s:Shared) (σ:St) (H:Hp) (E:Value->Shared->Prop),A6 X pins σ H s->(∀b∈fp,Eh X pins H b)->tn i s.heap->J.stop i H->
  wpAny (model P w) X.A (pyNext (.ref it)) (fun r s1=>r=none/\A6 X pins σ H s1) E s
 self:∀(A:Around) (i:Nat) (s:Shared) (Q:Value->Shared->Prop) (E:Value->Shared->Prop),tn i s.heap->Q (.ref it) s->wpAny (model P w) A (pyIter (.ref it)) Q E s
abbrev TI:=St->Hp->(It->Hp->Prop)->Prop
def OE (X:Cx)(pins:List (Addr×Obj))(σ:St)(tg:Expr)(R:It->Hp->Prop)(itv:Value)(s2:Shared):Prop:=
 ∃(it:Addr) (fp:List Addr) (tn:Nat->Heap->Prop) (J:It) (H':Hp),itv = .ref it/\A6 X pins σ H' s2/\FW X.prog X.w X.K tg J fp it tn/\tn 0 s2.heap/\(∀b∈fp,Eh X pins H' b)/\R J H'
def PI (X:Cx)(tg iter:Expr)(wi:TI):Prop:=
 ∀(pins:List (Addr×Obj)) (s:Shared) (σ:St) (H:Hp) (R:It->Hp->Prop),A6 X pins σ H s->wi σ H R->
  wpAny (model X.prog X.w) X.A (eval iter X.env) (fun v s1=>wpAny (model X.prog X.w) X.A (pyIter v) (OE X pins σ tg R) X.xe s1) X.xe s
theorem Lx {M:Model}{A:Around}{E:Value->Shared->Prop}{s:Shared}{tg:Expr}{it:Addr}{u:Value}{o:Obj}{n:String}{vs:Array Value}{Q:Unit->Shared->Prop}(ho:s.heap.get? it=some o)(hc:o.cls = .type n)(hd:o.data = .fields vs)
  (hn:["enumerate","zip","dict_itemiterator","dict_reverseitemiterator","odict_iterator","itertools.zip_longest","itertools.pairwise"].contains n=false) (hQ:Q () s):wpAny M A (letOwnedTupleGo tg (.ref it) u) Q E s:=by
 unfold letOwnedTupleGo
 cases tg<;>first
  |exact AZ hQ
  |(cases u<;>first
   |exact AZ hQ
   |(
    refine An (wpAny_load ho ?_)
    rw[hc,hd]
    show wpAny M A (if(["enumerate","zip","dict_itemiterator","dict_reverseitemiterator","odict_iterator","itertools.zip_longest","itertools.pairwise"].contains n&&vs[0]?==some (rawInt _))=true then _ else _) Q E s
    rw[AQ (by intro h;rw[hn,Bool.false_and]at h;cases h)]
    exact AZ hQ))
def G2 (K:PySem.W.Frag)(a:Addr):It:=
 ⟨fun i H=>∃xs x,A4 K H a xs/\xs[i]?=some x,fun i H x H'=>H'=H/\∀xs,A4 K H a xs->xs[i]?=some x,fun i H=>∃xs,A4 K H a xs/\xs.length<=i⟩
def Gw (K:PySem.W.Frag)(a:Addr):It:=
 ⟨fun i H=>∃xs x,A9 K H a xs/\xs[i]?=some x,fun i H x H'=>H'=H/\∀xs,A9 K H a xs->xs[i]?=some x,fun i H=>∃xs,A9 K H a xs/\xs.length<=i⟩
def FV (lo:Int)(n:Nat):It:=⟨fun i _=>i<n,fun i H x H'=>H'=H/\x = .int (lo+i),fun i _=>n<=i⟩
theorem UZ {P:Program}{w:World}{K:PySem.W.Frag}{tg:Expr}(a it:Addr):FW P w K tg (G2 K a) [it] it (fun i h=>h.IsListIter it a i) where
 mem:=by simp
 obj:=fun i h st b hb=>by
  have e:b=it:=by simpa using hb
  subst e
  obtain⟨o,e,c,d⟩:=st
  exact⟨o,e,fun v z=>by rw[d]at z;cases z⟩
 keep:=fun i h h' st k=>st.at fun o e=>k it (by simp) o e
 item:=by
  intro X hP hw hK hc i pins s σ H E I hf st hg
  subst hP hw hK
  obtain⟨xs,x,hq,hx⟩:=hg
  obtain⟨its,rv,p,hz⟩:=I.list hq
  obtain⟨u,hu,ru⟩:=rv.get hx
  obtain⟨f0,f1,f2,f3,f4,f5⟩:=hf it (by simp)
  refine wpAny_pyNext_list_item st p.isList (x:=u) (by simpa using hu) fun h' st' sb=>?_
  have I1:A6 X pins σ H {s with heap:=h'}:=I.turned (t':=s.toks) (fun b o hb e=>(sb.2 b hb).trans e) f0 f1 f3 f4 f5
  obtain⟨o,e,c,d⟩:=id st'
  exact⟨u,rfl,Lx (s:={s with heap:=h'}) e c d (by decide) ⟨x,H,I1,ru,⟨rfl,fun ys hy=>by rw[I.list_inj hy hq];exact hx⟩,st',fun b hb=>(hf b hb).1⟩⟩
 done:=by
  intro X hP hw hK hc i pins s σ H E I hf st hg
  subst hP hw hK
  obtain⟨xs,hq,hx⟩:=hg
  obtain⟨its,rv,p,hz⟩:=I.list hq
  obtain⟨f0,f1,f2,f3,f4,f5⟩:=hf it (by simp)
  have hl:=rv.length
  exact wpAny_pyNext_list_end (I.ok.hd hc) st p.isList (by simp;omega) fun h' eb=>⟨rfl,I.turned (t':=s.toks) (fun b o hb e=>eb b o hb e) f0 f1 f3 f4 f5⟩
 self:=fun _ _ _ _ _ st h=>wpAny_pyIter_listiter st h
theorem Ra {P:Program}{w:World}{K:PySem.W.Frag}{tg:Expr}(a it:Addr):FW P w K tg (Gw K a) [it] it (fun i h=>h.IsTupleIter it a i) where
 mem:=by simp
 obj:=fun i h st b hb=>by
  have e:b=it:=by simpa using hb
  subst e
  obtain⟨o,e,c,d⟩:=st
  exact⟨o,e,fun v z=>by rw[d]at z;cases z⟩
 keep:=fun i h h' st k=>st.at fun o e=>k it (by simp) o e
 item:=by
  intro X hP hw hK hc i pins s σ H E I hf st hg
  subst hP hw hK
  obtain⟨xs,x,hq,hx⟩:=hg
  obtain⟨its,rv,p,hz⟩:=I.tuple hq
  obtain⟨u,hu,ru⟩:=rv.get hx
  obtain⟨f0,f1,f2,f3,f4,f5⟩:=hf it (by simp)
  refine wpAny_pyNext_tuple_item st (show s.heap.IsTuple a its.toArray from p) (x:=u) (by simpa using hu) fun h' st' sb=>?_
  have I1:A6 X pins σ H {s with heap:=h'}:=I.turned (t':=s.toks) (fun b o hb e=>(sb.2 b hb).trans e) f0 f1 f3 f4 f5
  obtain⟨o,e,c,d⟩:=id st'
  exact⟨u,rfl,Lx (s:={s with heap:=h'}) e c d (by decide) ⟨x,H,I1,ru,⟨rfl,fun ys hy=>by rw[I.tuple_inj hy hq];exact hx⟩,st',fun b hb=>(hf b hb).1⟩⟩
 done:=by
  intro X hP hw hK hc i pins s σ H E I hf st hg
  subst hP hw hK
  obtain⟨xs,hq,hx⟩:=hg
  obtain⟨its,rv,p,hz⟩:=I.tuple hq
  obtain⟨f0,f1,f2,f3,f4,f5⟩:=hf it (by simp)
  have hl:=rv.length
  exact wpAny_pyNext_tuple_end (I.ok.hd hc) st (show s.heap.IsTuple a its.toArray from p) (by simp;omega) fun h' eb=>⟨rfl,I.turned (t':=s.toks) (fun b o hb e=>eb b o hb e) f0 f1 f3 f4 f5⟩
 self:=fun _ _ _ _ _ st h=>wpAny_pyIter_tupleiter st h
theorem Uj {P:Program}{w:World}{K:PySem.W.Frag}{tg:Expr}(it:Addr)(lo:Int)(n:Nat):FW P w K tg (FV lo n) [it] it (fun i h=>IsRangeIter h it (lo+(i:Nat)*1) ((n:Int)-(i:Nat)) 1) where
 mem:=by simp
 obj:=fun i h st b hb=>by
  have e:b=it:=by simpa using hb
  subst e
  exact⟨_,st,fun v z=>by
   have z':Data.fields _=Data.cell v:=z
   cases z'⟩
 keep:=fun i h h' st k=>k it (by simp) _ st
 item:=by
  intro X hP hw hK hc i pins s σ H E I hf st hg
  subst hP hw hK
  obtain⟨f0,f1,f2,f3,f4,f5⟩:=hf it (by simp)
  have W:=Walks.range (prog:=X.prog) (w:=X.w) (I.ok.hd hc) it lo 1 n
  refine W.item i s _ _ hg st fun v h' tk hv st' kk=>?_
  obtain⟨t,rfl⟩:=hv
  have I1:A6 X pins σ H {s with heap:=h',toks:=tk}:=I.turned (fun b o hb e=>kk b o (by simpa using hb) e) f0 f1 f3 f4 f5
  refine⟨_,rfl,Lx (s:={s with heap:=h',toks:=tk}) (n:="range_iterator") st' rfl rfl (by decide) ⟨.int (lo+i),H,I1,⟨t,?_⟩,⟨rfl,rfl⟩,st',fun b hb=>(hf b hb).1⟩⟩
  rw[Int.mul_one]
 done:=by
  intro X hP hw hK hc i pins s σ H E I hf st hg
  subst hP hw hK
  obtain⟨f0,f1,f2,f3,f4,f5⟩:=hf it (by simp)
  exact wpAny_pyNext_range_end (I.ok.hd hc) st (by have:n<=i:=hg;omega) fun h' eb=>⟨rfl,I.turned (t':=s.toks) (fun b o hb e=>eb b o hb e) f0 f1 f3 f4 f5⟩
 self:=fun _ _ _ _ _ st h=>wpAny_pyIter_rangeiter st h
section
variable {X:Cx}{tg:Expr}
def SI (K:PySem.W.Frag)(tl:TE):TI:=fun σ H R=>tl σ H fun x H1=>∃a,x = .ref a/\(∃xs,A4 K H1 a xs)/\R (G2 K a) H1
def S2 (K:PySem.W.Frag)(tl:TE):TI:=fun σ H R=>tl σ H fun x H1=>∃a,x = .ref a/\(∃xs,A9 K H1 a xs)/\R (Gw K a) H1
theorem Eg {l:Expr}{tl:TE}(hl:PE X l tl):PI X tg l (SI X.K tl):=by
 intro pins s σ H R I h
 refine AC (hl pins s σ H _ I h) fun v s1 ⟨x,H1,I1,r1,q1⟩=>?_
 obtain⟨a,e,⟨xs,hq⟩,q⟩:=q1
 subst e
 cases r1
 obtain⟨its,rv,p,hz⟩:=I1.list hq
 refine M7 p.isList ?_
 refine⟨s1.heap.objs.size,[s1.heap.objs.size],_,_,H1,rfl,I1.kept (t':=s1.toks) fun b o e=>Be _ e,UZ a _,⟨_,Cy _ rfl,rfl,rfl⟩,fun b hb=>?_,q⟩
 have e:b=s1.heap.objs.size:=by simpa using hb
 subst e
 exact I1.fpOk (Ak _) (I1.hok.fresh (Ak _))
theorem Nu {l:Expr}{tl:TE}(hl:PE X l tl):PI X tg l (S2 X.K tl):=by
 intro pins s σ H R I h
 refine AC (hl pins s σ H _ I h) fun v s1 ⟨x,H1,I1,r1,q1⟩=>?_
 obtain⟨a,e,⟨xs,hq⟩,q⟩:=q1
 subst e
 cases r1
 obtain⟨its,rv,p,hz⟩:=I1.tuple hq
 refine K8 (show s1.heap.IsTuple a its.toArray from p) ?_
 refine⟨s1.heap.objs.size,[s1.heap.objs.size],_,_,H1,rfl,I1.kept (t':=s1.toks) fun b o e=>Be _ e,Ra a _,⟨_,Cy _ rfl,rfl,rfl⟩,fun b hb=>?_,q⟩
 have e:b=s1.heap.objs.size:=by simpa using hb
 subst e
 exact I1.fpOk (Ak _) (I1.hok.fresh (Ak _))
theorem Px {pins:List (Addr×Obj)}{σ:St}{H:Hp}{s:Shared}{R:It->Hp->Prop}{E:Value->Shared->Prop}{lo hi:Int}{t u v:Tok}{tk:Nat}(I:A6 X pins σ H s)(h1 : -(2 ^ 62)<=lo)(h2:lo<2 ^ 62)(h3 : -(2 ^ 62)<=hi)(h4:hi<2 ^ 62)
  (q:R (FV lo (hi-lo).toNat) H):wpAny (model X.prog X.w) X.A (pyIter (.ref s.heap.objs.size)) (OE X pins σ tg R) E {s with heap:=s.heap.push {cls:=.type "range",data:=.fields #[.int lo t,.int hi u,.int 1 v]},toks:=tk}:=by
 refine wpAny_pyIter_range (IsRange.new ..) (small_one h1 h2 h3 h4) ?_
 have I1:A6 X pins σ H {s with heap:=s.heap.push {cls:=.type "range",data:=.fields #[.int lo t,.int hi u,.int 1 v]},toks:=tk}:=I.kept fun b o e=>Be _ e
 refine⟨(s.heap.push {cls:=.type "range",data:=.fields #[.int lo t,.int hi u,.int 1 v]}).objs.size,[(s.heap.push {cls:=.type "range",data:=.fields #[.int lo t,.int hi u,.int 1 v]}).objs.size],_,_,H,rfl,
  I1.kept (t':=tk) fun b o e=>Be _ e,Uj _ lo (hi-lo).toNat,?_,fun b hb=>?_,q⟩
 .have e1:lo+((0:Nat):Int)*1=lo:=by simp
  have e2:(((hi-lo).toNat:Nat):Int)-((0:Nat):Int)=Builtin.Range.rangeSize lo hi 1:=by rw[rangeSize_one];split<;>omega
  show IsRangeIter _ _ (lo+((0:Nat):Int)*1) ((((hi-lo).toNat:Nat):Int)-((0:Nat):Int)) 1
  rw[e1,e2]
  exact Cy _ rfl
 .have e:b=(s.heap.push {cls:=.type "range",data:=.fields #[.int lo t,.int hi u,.int 1 v]}).objs.size:=by simpa using hb
  subst e
  exact I1.fpOk (Ak _) (I1.hok.fresh (Ak _))
def QG (ta:TA):TI:=fun σ H R=>ta σ H fun vs H1=>∃j:Int,vs=[.int j]/\-(2 ^ 62)<=j/\j<2 ^ 62/\R (FV 0 j.toNat) H1
theorem Jx {a:Expr}{ta:TA}{p pos:Pos}(hg:Gl X "range")(hm:X.mg "range"=none)(ha:PA X [a] ta)(hs:starEach [a] X.env=[(false,eval a X.env)]:=by rfl):PI X tg (.Call (.Name "range" p) [a] [] pos) (QG ta):=by
 intro pins s σ H R I h
 refine Call_ (Fg I hg hm boot_range (Ha (AC (ha pos pins s σ H _ I h) fun us s1 ⟨vs,H1,I1,r1,q1⟩=>?_) hs rfl))
 obtain⟨j,e,q1,q2,q⟩:=q1
 subst e
 cases r1 with
 |
  cons r rr=>
  cases rr
  obtain⟨t,rfl⟩:=r
  exact call_range_1 (Px I1 (by omega) (by omega) q1 q2 (by simpa using q))
def U4 (wi:TI)(g:TG)(tb:TS):TS:=fun D σ H=>wi σ H fun J H1=>∃W:Nat->Nat->St->Hp->Prop,(∃m,W 0 m σ H1)/\∀i m σ H,W i m σ H->
 (J.stop i H/\D.nx σ H)\/(J.go i H/\∃N:St->Hp->Prop,(∀σ' H',N σ' H'->∃m',m'<m/\W (i+1) m' σ' H')/\∀x H',J.yld i H x H'->g x σ H' fun σ2 H2=>tb {D with nx:=N,ct:=N,bk:=D.nx} σ2 H2)
def Gn (fp:List Addr)(h:Heap):List (Addr×Obj):=fp.filterMap fun b=>(h.get? b).map fun o=>(b,o)
theorem Iq {fp:List Addr}{h:Heap}{b:Addr}{o:Obj}(hb:b∈fp)(e:h.get? b=some o):(b,o)∈Gn fp h:=List.mem_filterMap.mpr ⟨b,hb,by rw[e];rfl⟩
theorem TN {fp:List Addr}{h:Heap}{p:Addr×Obj}(hp:p∈Gn fp h):p.1∈fp/\h.get? p.1=some p.2:=by
 obtain⟨b,hb,e⟩:=List.mem_filterMap.mp hp
 cases q:h.get? b with
 |none=>rw[q]at e;cases e
 |
  some o=>
  rw[q]at e
  have e':(b,o)=p:=Dx e
  subst e'
  exact⟨hb,q⟩
theorem A6.pinned {pins:List (Addr×Obj)}{σ:St}{H:Hp}{s:Shared}{fp:List Addr}(I:A6 X pins σ H s)(hf:∀b∈fp,Eh X pins H b)(ho:∀b∈fp,∃o,s.heap.get? b=some o/\∀v,o.data≠.cell v):A6 X (pins++Gn fp s.heap) σ H s:=
 I.pins_of fun p hp=>(CA.mp hp).elim (fun z=>I.pin p (CM _ z)) fun z=>by
  obtain⟨hb,e⟩:=TN z
  obtain⟨f0,f1,f2,_⟩:=hf p.1 hb
  obtain⟨o,e',d⟩:=ho p.1 hb
  rw[e]at e';cases e'
  exact⟨e,f0,f1,f2,d⟩
theorem A6.unpinned {pins pl:List (Addr×Obj)}{σ:St}{H:Hp}{s:Shared}(I:A6 X (pins++pl) σ H s):A6 X pins σ H s:=I.pins_of fun p hp=>I.pin p (CM _ (Fl _ hp))
theorem F3 {iter:Expr}{body:List Stmt}{wi:TI}{g:TG}{tb:TS}{pos:Pos}(hp:PassesOwn (model X.prog X.w) X.A X.env X.xe)(hc:X.calm=true)(hi:PI X tg iter wi)(hg:PG X tg g)(hb:E3 X body tb)
  (hs:∀x,foldedSetIterable iter X.env x=pure x:=by intro _;rfl):PS X (.For tg iter body [] pos) (U4 wi g tb):=by
 intro pins s σ H D I h
 refine wpAny_For (AC (hi pins s σ H _ I h) fun v s1 h1=>AC h1 fun itv s2 h2=>?_) hs
 obtain⟨it,fp,tn,J,H2,e,I2,T,st2,f2,W,⟨m0,w0⟩,turn⟩:=h2
 subst e
 have stat:∀{H':Hp},(∀b∈fp,H' b=none)->∀b∈fp,Eh X pins H' b:=fun hn b hb=>⟨hn b hb,(f2 b hb).2⟩
 refine codeAny_forLoop_any (fun n s'=>∃i σ' H',A6 X pins σ' H' s'/\tn i s'.heap/\(∀b∈fp,H' b=none)/\W i n σ' H') ?_ m0 ⟨0,σ,H2,I2,st2,fun b hb=>(f2 b hb).1,w0⟩
 rintro n s3 ⟨i,σ3,H3,I3,st3,fr3,w3⟩
 rcases turn i n σ3 H3 w3 with⟨stop,qn⟩|⟨go,N,hN,step⟩
 .refine Hj hp (AC (T.done X rfl rfl rfl hc i pins s3 σ3 H3 X.xe I3 (stat fr3) st3 stop) fun r s4 ⟨hr,I4⟩=>?_)
  subst hr
  exact M6 ⟨σ3,H3,I4,qn⟩
 .refine Hj hp (AC (T.item X rfl rfl rfl hc i pins s3 σ3 H3 X.xe I3 (stat fr3) st3 go) fun r s4 ⟨u,hr,h4⟩=>?_)
  subst hr
  refine Hj hp (AC h4 fun _ s5 ⟨x,H5,I5,r5,y5,st5,fr5⟩=>?_)
  have I5':=I5.pinned (stat fr5) (T.obj _ _ st5)
  refine Hj hp (AC (hg _ s5 σ3 H5 x u _ I5' r5 (step x H5 y5)) fun _ s6 ⟨σ6,H6,I6,q6⟩=>?_)
  refine Hj hp (AC (hb _ s6 σ6 H6 _ I6 q6) fun f s7 q7=>?_)
  have again:∀{σ7:St} {H7:Hp},A6 X (pins++Gn fp s5.heap) σ7 H7 s7->N σ7 H7->∃m,m<n/\∃i σ' H',A6 X pins σ' H' s7/\tn i s7.heap/\(∀b∈fp,H' b=none)/\W i m σ' H':=fun{σ7 H7} I7 n7=>by
   obtain⟨m',hm,w7⟩:=hN σ7 H7 n7
   refine⟨m',hm,i+1,σ7,H7,I7.unpinned,T.keep _ _ _ st5 fun b hb o e=>(I7.pin (b,o) (CM _ (CM _ (Iq hb e)))).1,fun b hb=>?_,w7⟩
   obtain⟨o,e,d⟩:=T.obj _ _ st5 b hb
   exact(I7.pin (b,o) (CM _ (CM _ (Iq hb e)))).2.1
  cases f with
  |next=>obtain⟨σ7,H7,I7,n7⟩:=q7;exact again I7 n7
  |cont=>obtain⟨σ7,H7,I7,n7⟩:=q7;exact again I7 n7
  |brk=>obtain⟨σ7,H7,I7,q7⟩:=q7;exact⟨σ7,H7,I7.unpinned,q7⟩
  |ret v=>obtain⟨x7,σ7,H7,I7,r7,q7⟩:=q7;exact⟨x7,σ7,H7,I7.unpinned,r7,q7⟩
end
theorem Lm {K:PySem.W.Frag}{a:Addr}{xs:List V}{g:TG}{tb:TS}{D:DH}{σ:St}{H:Hp}(Pv:Nat->St->Hp->Prop)(h0:Pv 0 σ H)(hl:∀i σ H,i<=xs.length->Pv i σ H->A4 K H a xs)
  (hs:∀i x σ H,xs[i]?=some x->Pv i σ H->g x σ H fun σ2 H2=>tb {D with nx:=Pv (i+1),ct:=Pv (i+1),bk:=D.nx} σ2 H2) (hd:∀σ H,Pv xs.length σ H->D.nx σ H) :
  ∃W:Nat->Nat->St->Hp->Prop,(∃m,W 0 m σ H)/\∀i m σ H,W i m σ H->
   ((G2 K a).stop i H/\D.nx σ H)\/((G2 K a).go i H/\∃N:St->Hp->Prop,(∀σ' H',N σ' H'->∃m',m'<m/\W (i+1) m' σ' H')/\∀x H',(G2 K a).yld i H x H'->g x σ H' fun σ2 H2=>tb {D with nx:=N,ct:=N,bk:=D.nx} σ2 H2):=by
 refine⟨fun i m σ H=>m=xs.length-i/\i<=xs.length/\Pv i σ H,⟨xs.length,by simp,BP _,h0⟩,?_⟩
 rintro i m σ H ⟨rfl,hi,p⟩
 have q:=hl i σ H hi p
 by_cases hlt:i<xs.length
 .refine .inr ⟨⟨xs,xs[i],q,by simp[hlt]⟩,Pv (i+1),fun σ' H' p'=>⟨xs.length-(i+1),by omega,rfl,hlt,p'⟩,fun x H' y=>?_⟩
  obtain⟨e,y⟩:=y
  subst e
  exact hs i x σ _ (y xs q) p
 .have e:i=xs.length:=by omega
  subst e
  exact .inl ⟨⟨xs,q,Ak _⟩,hd σ H p⟩
theorem Sd {K:PySem.W.Frag}{a:Addr}{xs:List V}{g:TG}{tb:TS}{D:DH}{σ:St}{H:Hp}(Pv:Nat->St->Hp->Prop)(h0:Pv 0 σ H)(hl:∀i σ H,i<=xs.length->Pv i σ H->A9 K H a xs)
  (hs:∀i x σ H,xs[i]?=some x->Pv i σ H->g x σ H fun σ2 H2=>tb {D with nx:=Pv (i+1),ct:=Pv (i+1),bk:=D.nx} σ2 H2) (hd:∀σ H,Pv xs.length σ H->D.nx σ H) :
  ∃W:Nat->Nat->St->Hp->Prop,(∃m,W 0 m σ H)/\∀i m σ H,W i m σ H->
   ((Gw K a).stop i H/\D.nx σ H)\/((Gw K a).go i H/\∃N:St->Hp->Prop,(∀σ' H',N σ' H'->∃m',m'<m/\W (i+1) m' σ' H')/\∀x H',(Gw K a).yld i H x H'->g x σ H' fun σ2 H2=>tb {D with nx:=N,ct:=N,bk:=D.nx} σ2 H2):=by
 refine⟨fun i m σ H=>m=xs.length-i/\i<=xs.length/\Pv i σ H,⟨xs.length,by simp,BP _,h0⟩,?_⟩
 rintro i m σ H ⟨rfl,hi,p⟩
 have q:=hl i σ H hi p
 by_cases hlt:i<xs.length
 .refine .inr ⟨⟨xs,xs[i],q,by simp[hlt]⟩,Pv (i+1),fun σ' H' p'=>⟨xs.length-(i+1),by omega,rfl,hlt,p'⟩,fun x H' y=>?_⟩
  obtain⟨e,y⟩:=y
  subst e
  exact hs i x σ _ (y xs q) p
 .have e:i=xs.length:=by omega
  subst e
  exact .inl ⟨⟨xs,q,Ak _⟩,hd σ H p⟩
theorem R9 {lo:Int}{n:Nat}{g:TG}{tb:TS}{D:DH}{σ:St}{H:Hp}(Pv:Nat->St->Hp->Prop)(h0:Pv 0 σ H)
  (hs:∀i σ H,i<n->Pv i σ H->g (.int (lo+i)) σ H fun σ2 H2=>tb {D with nx:=Pv (i+1),ct:=Pv (i+1),bk:=D.nx} σ2 H2) (hd:∀σ H,Pv n σ H->D.nx σ H) :
  ∃W:Nat->Nat->St->Hp->Prop,(∃m,W 0 m σ H)/\∀i m σ H,W i m σ H->
   ((FV lo n).stop i H/\D.nx σ H)\/((FV lo n).go i H/\∃N:St->Hp->Prop,(∀σ' H',N σ' H'->∃m',m'<m/\W (i+1) m' σ' H')/\∀x H',(FV lo n).yld i H x H'->g x σ H' fun σ2 H2=>tb {D with nx:=N,ct:=N,bk:=D.nx} σ2 H2):=by
 refine⟨fun i m σ H=>m=n-i/\i<=n/\Pv i σ H,⟨n,by simp,BP _,h0⟩,?_⟩
 rintro i m σ H ⟨rfl,hi,p⟩
 by_cases hlt:i<n
 .refine .inr ⟨hlt,Pv (i+1),fun σ' H' p'=>⟨n-(i+1),by omega,rfl,hlt,p'⟩,fun x H' y=>?_⟩
  obtain⟨e,y⟩:=y
  subst e y
  exact hs i σ _ hlt p
 .have e:i=n:=by omega
  subst e
  exact .inl ⟨Ak _,hd σ H p⟩
abbrev R2:=V->V->Hp->VK->Prop
def BE (X:Cx)(f:Value->Value->Sem Value)(r:R2):Prop:=
 ∀(pins:List (Addr×Obj)) (s:Shared) (σ:St) (H:Hp) (x y:V) (v u:Value) (Q:VK),A6 X pins σ H s->AM x v->AM y u->r x y H Q->
  wpAny (model X.prog X.w) X.A (f v u) (EP X pins σ Q) X.xe s
def LJ (X:Cx)(f:Value->Sem Value)(r:V->Hp->VK->Prop):Prop:=
 ∀(pins:List (Addr×Obj)) (s:Shared) (σ:St) (H:Hp) (x:V) (v:Value) (Q:VK),A6 X pins σ H s->AM x v->r x H Q->
  wpAny (model X.prog X.w) X.A (f v) (EP X pins σ Q) X.xe s
def Dh (X:Cx)(f:Value)(r:List V->Hp->VK->Prop):Prop:=
 ∀(pins:List (Addr×Obj)) (s:Shared) (σ:St) (H:Hp) (xs:List V) (us:List Value) (Q:VK),A6 X pins σ H s->Aq xs us->r xs H Q->
  wpAny (model X.prog X.w) X.A (call f us) (EP X pins σ Q) X.xe s
def Ft (r:R2)(ta tb:TE):TE:=fun σ H Q=>ta σ H fun x H1=>tb σ H1 fun y H2=>r x y H2 Q
def Pd (r:V->Hp->VK->Prop)(ta:TE):TE:=fun σ H Q=>ta σ H fun x H1=>r x H1 Q
def rI (C:Int->Int->Prop)(g:Int->Int->V):R2:=fun x y H Q=>∃i j,x = .int i/\y = .int j/\C i j/\Q (g i j) H
def Fc (g:Int->Int->V):R2:=fun x y H Q=>∃i j,x = .int i/\y = .int j/\Q (g i j) H
def rU (g:Int->V):V->Hp->VK->Prop:=fun x H Q=>∃i,x = .int i/\Q (g i) H
section
variable {X:Cx}{a b c:Expr}{ta tb tc:TE}{pos:Pos}
theorem LH (ha:PE X a ta)(hb:PE X b tb){pins:List (Addr×Obj)}{s:Shared}{σ:St}{H:Hp}{R:V->V->Hp->Prop}(I:A6 X pins σ H s)
  (h:ta σ H fun x H1=>tb σ H1 fun y H2=>R x y H2) {Q:Value->Shared->Prop} {f:Value->Value->Sem Value}
  (hf:∀v u s2 x y H2,A6 X pins σ H2 s2->AM x v->AM y u->R x y H2->wpAny (model X.prog X.w) X.A (f v u) Q X.xe s2) :
  wpAny (model X.prog X.w) X.A (eval a X.env) (fun v s₁=>wpAny (model X.prog X.w) X.A (eval b X.env) (fun u s₂=>wpAny (model X.prog X.w) X.A (f v u) Q X.xe s₂) X.xe s₁) X.xe s:=by
 refine AC (ha pins s σ H _ I h) fun v s1 ⟨x,H1,I1,r1,q1⟩=>?_
 refine AC (hb pins s1 σ H1 _ I1 q1) fun u s2 ⟨y,H2,I2,r2,q2⟩=>?_
 exact hf v u s2 x y H2 I2 r1 r2 q2
theorem A3 {op:Operator}{r:R2}(ho:BE X (binaryOp op) r)(ha:PE X a ta)(hb:PE X b tb):PE X (.BinOp a op b pos) (Ft r ta tb):=by
 intro pins s σ H Q I h
 exact wpAny_BinOp (LH ha hb I h fun v u s2 x y H2 I2 rx ry q=>ho pins s2 σ H2 x y v u Q I2 rx ry q)
theorem Hr {op:UnaryOp}{r:V->Hp->VK->Prop}(ho:LJ X (unaryOp op) r)(ha:PE X a ta):PE X (.UnaryOp op a pos) (Pd r ta):=by
 intro pins s σ H Q I h
 exact UnaryOp_ (AC (ha pins s σ H _ I h) fun v s1 ⟨x,H1,I1,r1,q1⟩=>ho pins s1 σ H1 x v Q I1 r1 q1)
theorem JC {f:Value->Value->Sem Value}{C:Int->Int->Prop}{g:Int->Int->Int}
  (rule:∀(i j:Int) (t u:Tok) (s:Shared) (Q:Value->Shared->Prop) (E:Value->Shared->Prop),C i j->Q (.int (g i j) s.toks) {s with toks:=s.toks+1}->wpAny (model X.prog X.w) X.A (f (.int i t) (.int j u)) Q E s) :
  BE X f (rI C fun i j=>.int (g i j)):=by
 intro pins s σ H x y v u Q I rx ry h
 obtain⟨i,j,rfl,rfl,hc,q⟩:=h
 obtain⟨t,rfl⟩:=rx
 obtain⟨t',rfl⟩:=ry
 exact rule i j t t' s _ _ hc ⟨.int (g i j),H,I.tok _,⟨_,rfl⟩,q⟩
theorem Md {f:Value->Value->Sem Value}{g:Int->Int->Int}
  (rule:∀(i j:Int) (t u:Tok) (s:Shared) (Q:Value->Shared->Prop) (E:Value->Shared->Prop),Q (.int (g i j) s.toks) {s with toks:=s.toks+1}->wpAny (model X.prog X.w) X.A (f (.int i t) (.int j u)) Q E s) :
  BE X f (Fc fun i j=>.int (g i j)):=by
 intro pins s σ H x y v u Q I rx ry h
 obtain⟨i,j,rfl,rfl,q⟩:=h
 obtain⟨t,rfl⟩:=rx
 obtain⟨t',rfl⟩:=ry
 exact rule i j t t' s _ _ ⟨.int (g i j),H,I.tok _,⟨_,rfl⟩,q⟩
theorem KA {f:Value->Value->Sem Value}{g:Int->Int->Bool}
  (rule:∀(i j:Int) (t u:Tok) (s:Shared) (Q:Value->Shared->Prop) (E:Value->Shared->Prop),Q (.bool (g i j)) s->wpAny (model X.prog X.w) X.A (f (.int i t) (.int j u)) Q E s) :
  BE X f (Fc fun i j=>.bl (g i j)):=by
 intro pins s σ H x y v u Q I rx ry h
 obtain⟨i,j,rfl,rfl,q⟩:=h
 obtain⟨t,rfl⟩:=rx
 obtain⟨t',rfl⟩:=ry
 exact rule i j t t' s _ _ ⟨.bl (g i j),H,I,rfl,q⟩
def Sa (i j:Int):Prop:=0<j/\j<1073741824
def QP (i j:Int):Prop:=0<=j/\j<=1000000/\i.natAbs<2 ^ 64
def L8 (i j:Int):Prop:=(-(2 ^ 64)<i/\i<2 ^ 64)\/(-(2 ^ 64)<j/\j<2 ^ 64)
theorem L8.ok {i j:Int}(h:L8 i j):IntMulOk i j:=by
 rcases h with⟨h1,h2⟩|⟨h1,h2⟩
 .exact .of_left (intBits_le_64 h1 h2)
 .exact .of_right (intBits_le_64 h1 h2)
theorem AB:BE X (binaryOp .Add) (Fc fun i j=>.int (i+j)):=Md fun _ _ _ _ _ _ _ q=>add_int q
theorem BZ:BE X (binaryOp .Sub) (Fc fun i j=>.int (i-j)):=Md fun _ _ _ _ _ _ _ q=>sub_int q
theorem Cn:BE X (binaryOp .Mult) (rI L8 fun i j=>.int (i*j)):=JC fun _ _ _ _ _ _ _ hc q=>mul_int q hc.ok
theorem Dp:BE X (binaryOp .FloorDiv) (rI Sa fun i j=>.int (i/j)):=JC fun i j _ _ _ _ _ hc q=>by
 have h1:(0:Int)<j:=hc.1
 have h2:j<1073741824:=hc.2
 exact floordiv_int (by omega) (by rw[Int.fdiv_eq_ediv_of_nonneg i (by omega)];exact q) (.inl (PyProof.noPylong_small (by omega)))
theorem B7:BE X (binaryOp .Mod) (rI (fun _ j=>0<j) fun i j=>.int (i%j)):=JC fun i j _ _ _ _ _ hc q=>by
 have h1:(0:Int)<j:=hc
 exact mod_int' (by omega) (by rw[Int.fmod_eq_emod_of_nonneg i (by omega)];exact q)
theorem FT:BE X (binaryOp .Pow) (rI QP fun i j=>.int (i ^ j.toNat)):=JC fun _ _ _ _ _ _ _ hc q=>pow_int_small hc.1 hc.2.1 hc.2.2 q
theorem Pm {f:Value->Sem Value}{g:Int->Int}
  (rule:∀(i:Int) (t:Tok) (s:Shared) (Q:Value->Shared->Prop) (E:Value->Shared->Prop),Q (.int (g i) s.toks) {s with toks:=s.toks+1}->wpAny (model X.prog X.w) X.A (f (.int i t)) Q E s) :
  LJ X f (rU fun i=>.int (g i)):=by
 intro pins s σ H x v Q I rx h
 obtain⟨i,rfl,q⟩:=h
 obtain⟨t,rfl⟩:=rx
 exact rule i t s _ _ ⟨.int (g i),H,I.tok _,⟨_,rfl⟩,q⟩
theorem Ie:LJ X (unaryOp .USub) (rU fun i=>.int (-i)):=Pm fun _ _ _ _ _ q=>neg_int q
end
def ML:V->V->Bool
 |.non,.non=>true|.non,.int _=>true|.int _,.non=>true|.non,.bl _=>true|.bl _,.non=>true|.non,.str _=>true|.str _,.non=>true
 |.int _,.int _=>true|.bl _,.bl _=>true|.str _,.str _=>true|.byt _,.byt _=>true
 |.int _,.str _=>true|.str _,.int _=>true|.bl _,.str _=>true|.str _,.bl _=>true
 |_,_=>false
def SX:R2:=fun x y H Q=>ML x y=true/\Q (.bl (decide (x=y))) H
def Uu:R2:=fun x y H Q=>ML x y=true/\Q (.bl (!decide (x=y))) H
theorem N0 {i j:Int}:decide (V.int i=V.int j)=(i==j):=by
 rw[Hb]
 simp
theorem Ow {i j:Bool}:decide (V.bl i=V.bl j)=(i==j):=by
 rw[Hb]
 simp
theorem MZ {i j:Str}:decide (V.str i=V.str j)=(i==j):=by
 rw[Hb]
 simp
theorem On {i j:Array UInt8}:decide (V.byt i=V.byt j)=(i.toList==j.toList):=by
 rw[Hb]
 cases i
 cases j
 simp
section
variable {X:Cx}{a b c:Expr}{ta tb tc:TE}{pos:Pos}
theorem BC {pins:List (Addr×Obj)}{σ:St}{H:Hp}{s:Shared}{Q:VK}{k k':Bool}(I:A6 X pins σ H s)(q:Q (.bl k) H)(e:k=k'):EP X pins σ Q (.bool k') s:=by
 subst e
 exact⟨.bl k,H,I,rfl,q⟩
theorem Bn:BE X (compareOp .Eq) SX:=by
 intro pins s σ H x y v u Q I rx ry h
 obtain⟨hs,q⟩:=h
 cases x with
 |
  non=>
  cases rx
  cases y with
  |non=>cases ry;exact PySem.EqNone.eq_none_none (BC I q (by simp))
  |bl j=>cases ry;exact PySem.EqNone.eq_none_bool (BC I q (by simp))
  |int j=>obtain⟨t',rfl⟩:=ry;exact PySem.EqNone.eq_none_int (BC I q (by simp))
  |str j=>obtain⟨t',rfl⟩:=ry;exact PySem.EqNone.eq_none_str (BC I q (by simp))
  |_=>exact absurd (show false=true from hs) Cu
 |
  bl i=>
  cases rx
  cases y with
  |non=>cases ry;exact PySem.EqNone.eq_bool_none (BC I q (by simp))
  |bl j=>cases ry;exact eq_bool (BC I q Ow)
  |str j=>obtain⟨t',rfl⟩:=ry;exact PySem.EqMixed.eq_bool_str (BC I q (by simp))
  |_=>exact absurd (show false=true from hs) Cu
 |
  int i=>
  obtain⟨t,rfl⟩:=rx
  cases y with
  |non=>cases ry;exact PySem.EqNone.eq_int_none (BC I q (by simp))
  |int j=>obtain⟨t',rfl⟩:=ry;exact eq_int (BC I q N0)
  |str j=>obtain⟨t',rfl⟩:=ry;exact PySem.EqMixed.eq_int_str (BC I q (by simp))
  |_=>exact absurd (show false=true from hs) Cu
 |
  str i=>
  obtain⟨t,rfl⟩:=rx
  cases y with
  |non=>cases ry;exact PySem.EqNone.eq_str_none (BC I q (by simp))
  |bl j=>cases ry;exact PySem.EqMixed.eq_str_bool (BC I q (by simp))
  |int j=>obtain⟨t',rfl⟩:=ry;exact PySem.EqMixed.eq_str_int (BC I q (by simp))
  |str j=>obtain⟨t',rfl⟩:=ry;exact eq_str (BC I q MZ)
  |_=>exact absurd (show false=true from hs) Cu
 |
  byt i=>
  obtain⟨t,rfl⟩:=rx
  cases y with
  |byt j=>obtain⟨t',rfl⟩:=ry;exact PySem.W.eq_bytes (BC I q On)
  |_=>exact absurd (show false=true from hs) Cu
 |_=>cases y<;>exact absurd (show false=true from hs) Cu
theorem N7:BE X (compareOp .NotEq) Uu:=by
 intro pins s σ H x y v u Q I rx ry h
 obtain⟨hs,q⟩:=h
 cases x with
 |
  non=>
  cases rx
  cases y with
  |non=>cases ry;exact PySem.EqNone.ne_none_none (BC I q (by simp))
  |bl j=>cases ry;exact PySem.EqNone.ne_none_bool (BC I q (by simp))
  |int j=>obtain⟨t',rfl⟩:=ry;exact PySem.EqNone.ne_none_int (BC I q (by simp))
  |str j=>obtain⟨t',rfl⟩:=ry;exact PySem.EqNone.ne_none_str (BC I q (by simp))
  |_=>exact absurd (show false=true from hs) Cu
 |
  bl i=>
  cases rx
  cases y with
  |non=>cases ry;exact PySem.EqNone.ne_bool_none (BC I q (by simp))
  |bl j=>cases ry;exact ne_bool (BC I q (congrArg not Ow))
  |str j=>obtain⟨t',rfl⟩:=ry;exact PySem.EqMixed.ne_bool_str (BC I q (by simp))
  |_=>exact absurd (show false=true from hs) Cu
 |
  int i=>
  obtain⟨t,rfl⟩:=rx
  cases y with
  |non=>cases ry;exact PySem.EqNone.ne_int_none (BC I q (by simp))
  |int j=>obtain⟨t',rfl⟩:=ry;exact ne_int (BC I q (congrArg not N0))
  |str j=>obtain⟨t',rfl⟩:=ry;exact PySem.EqMixed.ne_int_str (BC I q (by simp))
  |_=>exact absurd (show false=true from hs) Cu
 |
  str i=>
  obtain⟨t,rfl⟩:=rx
  cases y with
  |non=>cases ry;exact PySem.EqNone.ne_str_none (BC I q (by simp))
  |bl j=>cases ry;exact PySem.EqMixed.ne_str_bool (BC I q (by simp))
  |int j=>obtain⟨t',rfl⟩:=ry;exact PySem.EqMixed.ne_str_int (BC I q (by simp))
  |str j=>obtain⟨t',rfl⟩:=ry;exact ne_str (BC I q (congrArg not MZ))
  |_=>exact absurd (show false=true from hs) Cu
 |
  byt i=>
  obtain⟨t,rfl⟩:=rx
  cases y with
  |byt j=>obtain⟨t',rfl⟩:=ry;exact PySem.W.ne_bytes (BC I q (congrArg not On))
  |_=>exact absurd (show false=true from hs) Cu
 |_=>cases y<;>exact absurd (show false=true from hs) Cu
theorem Em:BE X (compareOp .Lt) (Fc fun i j=>.bl (decide (i<j))):=KA fun _ _ _ _ _ _ _ q=>lt_int q
theorem CW:BE X (compareOp .Gt) (Fc fun i j=>.bl (decide (j<i))):=KA fun _ _ _ _ _ _ _ q=>gt_int q
theorem Sn:BE X (compareOp .GtE) (Fc fun i j=>.bl (decide (j<=i))):=KA fun _ _ _ _ _ _ _ q=>ge_int q
theorem Q6:BE X (compareOp .IsNot) (fun x y H Q=>y = .non/\Q (.bl (!decide (x = .non))) H):=by
 intro pins s σ H x y v u Q I rx ry h
 obtain⟨rfl,q⟩:=h
 cases ry
 refine isnot_none_gen (BC I q ?_)
 cases x<;>first
  |(cases rx;rfl)
  |(obtain⟨t,rfl⟩:=rx;rfl)
theorem Am (b:Expr){op:CmpOp}(h:op≠.In:=by decide)(h2:op≠.NotIn:=by decide):behindInMarks op b=false:=by
 have e1:(op==CmpOp.In)=false:=by cases op<;>first|rfl|exact absurd rfl h
 have e2:(op==CmpOp.NotIn)=false:=by cases op<;>first|rfl|exact absurd rfl h2
 cases b<;>simp[behindInMarks,e1,e2]
theorem Cm {op:CmpOp}{r:R2}(ho:BE X (compareOp op) r)(ha:PE X a ta)(hb:PE X b tb)(hm:behindInMarks op b=false):PE X (.Compare a [op] [b] pos) (Ft r ta tb):=by
 intro pins s σ H Q I h
 exact wpAny_Compare1 (LH ha hb I h fun v u s2 x y H2 I2 rx ry q=>ho pins s2 σ H2 x y v u Q I2 rx ry q) hm
def Mx (t:TE):TT:=fun σ H Q=>t σ H fun x H'=>∃k,x = .bl k/\Q k H'
theorem AA {op:CmpOp}{r:R2}(ho:BE X (compareOp op) r)(ha:PE X a ta)(hb:PE X b tb)(hm:behindInMarks op b=false):PT X (.Compare a [op] [b] pos) (Mx (Ft r ta tb)):=by
 intro pins s σ H Q I h
 refine wpAny_isTrue_Compare1 (AC (ha pins s σ H _ I h) fun v s1 ⟨x,H1,I1,r1,q1⟩=>AC (hb pins s1 σ H1 _ I1 q1) fun u s2 ⟨y,H2,I2,r2,q2⟩=>
  AC (ho pins s2 σ H2 x y v u _ I2 r1 r2 q2) fun c s3 ⟨z,H3,I3,r3,k,e,q3⟩=>?_) hm
 subst e
 cases r3
 exact Hi ⟨H3,I3,q3⟩
theorem J9:(sizeLine:Nat)<2 ^ 63:=by rw[M8];decide
theorem Mg:BE X (binaryOp .Add) (fun x y H Q=>∃i j,x = .str i/\y = .str j/\i.length+j.length<=sizeLine/\Q (.str (i++j)) H):=by
 intro pins s σ H x y v u Q I rx ry h
 obtain⟨i,j,rfl,rfl,hz,q⟩:=h
 obtain⟨t,rfl⟩:=rx
 obtain⟨t',rfl⟩:=ry
 exact add_str (fun t' tk=>⟨.str (i++j),H,I.tok _,⟨_,rfl⟩,q⟩) hz
theorem Eb {x:V}{us:List Value}(r:Aq [x] us):∃u,us=[u]/\AM x u:=by
 cases r with
 |cons r1 r2=>cases r2;exact⟨_,rfl,r1⟩
theorem NX {x y:V}{us:List Value}(r:Aq [x,y] us):∃u w',us=[u,w']/\AM x u/\AM y w':=by
 cases r with
 |
  cons r1 r2=>
  cases r2 with
  |cons r3 r4=>cases r4;exact⟨_,_,rfl,r1,r3⟩
theorem QB:Dh X (.builtin "abs") (fun xs H Q=>∃i,xs=[.int i]/\Q (.int (if i<0 then -i else i)) H):=by
 intro pins s σ H xs us Q I r h
 obtain⟨i,rfl,q⟩:=h
 obtain⟨u,rfl,t,rfl⟩:=Eb r
 exact call_abs_int fun u tk=>⟨.int (if i<0 then -i else i),H,I.tok _,⟨_,rfl⟩,q⟩
theorem S5 (hc:X.calm=true):Dh X (.builtin "max") (fun xs H Q=>∃i j,xs=[.int i,.int j]/\Q (.int (if j>i then j else i)) H):=by
 intro pins s σ H xs us Q I r h
 obtain⟨i,j,rfl,q⟩:=h
 obtain⟨u,w',rfl,⟨t,rfl⟩,⟨t',rfl⟩⟩:=NX r
 refine max_two_ints (I.ok.hd hc) fun h' tk k=>⟨_,H,I.kept k,?_,q⟩
 by_cases hj:j>i
 .rw[AW hj,AW hj];exact⟨_,rfl⟩
 .rw[AQ hj,AQ hj];exact⟨_,rfl⟩
theorem N3 (hc:X.calm=true):Dh X (.builtin "min") (fun xs H Q=>∃i j,xs=[.int i,.int j]/\Q (.int (if j<i then j else i)) H):=by
 intro pins s σ H xs us Q I r h
 obtain⟨i,j,rfl,q⟩:=h
 obtain⟨u,w',rfl,⟨t,rfl⟩,⟨t',rfl⟩⟩:=NX r
 refine min_two_ints (I.ok.hd hc) fun h' tk k=>⟨_,H,I.kept k,?_,q⟩
 by_cases hj:j<i
 .rw[AW hj,AW hj];exact⟨_,rfl⟩
 .rw[AQ hj,AQ hj];exact⟨_,rfl⟩
theorem EJ:Dh X (.type "int") (fun xs H Q=>(∃i,xs=[.int i]/\Q (.int i) H)\/∃k,xs=[.bl k]/\Q (.int (if k then 1 else 0)) H):=by
 intro pins s σ H xs us Q I r h
 rcases h with⟨i,rfl,q⟩|⟨k,rfl,q⟩
 .obtain⟨u,rfl,t,rfl⟩:=Eb r
  exact call_int_int ⟨.int i,H,I,⟨_,rfl⟩,q⟩
 .obtain⟨u,rfl,r1⟩:=Eb r
  cases r1
  exact call_int_bool ⟨.int (if k then 1 else 0),H,I.tok _,⟨_,rfl⟩,q⟩
end
structure GQ (h:Heap)(x dx C:Addr)(mA:Str->Option Value):Prop where
 obj:h.get? x=some (PySem.W.instObj C dx)
 ns:h.Ns1 dx mA
 ne:dx≠x
theorem T8 {h:Heap}{dx:Addr}{mA:Str->Option Value}(n:h.Ns1 dx mA):∃od,h.get? dx=some od/\∀name,PySem.W.lookIn name od=some (mA name):=by
 obtain⟨o,es,ep,ho,hd,hk,_,hm⟩:=n
 refine⟨o,ho,fun name=>?_⟩
 have e:=hm name
 unfold nsFind findBy at e
 rw[←Array.find?_toList]at e
 unfold PySem.W.lookIn
 rw[hd]
 dsimp only
 split
 .rename_i y q
  rw[q]at e
  exact congrArg some e
 .rename_i q
  rw[q]at e
  have a:es.toList.any (·.refKey)=false:=by
   rw[List.any_eq_false]
   intro y hy
   obtain⟨z,t,hkey⟩:=hk y (Array.mem_toList_iff.mp hy)
   simp[DictEntry.refKey,hkey]
  have a':¬es.toList.any (·.refKey)=true:=by rw[a];exact Cu
  rw[AQ a']
  exact congrArg some e
theorem GQ.look {h:Heap}{x dx C:Addr}{mA:Str->Option Value}(I:GQ h x dx C mA):∃od,PySem.W.InstAt h x (PySem.W.instObj C dx) C (some od)/\∀name,PySem.W.lookIn name od=some (mA name):=
 let ⟨od,ho,hl⟩:=T8 I.ns
 ⟨od,⟨I.obj,rfl,rfl,ho⟩,hl⟩
section
variable {prog:Program}{w:World}{A:Around}{E:Value->Shared->Prop}{s:Shared}{K:PySem.W.Frag}{x dx C f:Addr}{mA:Str->Option Value}{name:Str}{v:Value}
theorem Pf {expr:Bool}{Q:Value->Shared->Prop}(X:K.In s.heap)(I:GQ s.heap x dx C mA)(hg:PySem.W.plainGet K C name=true)(hh:PySem.W.hasDictIn K C=true)
  (ha:PySem.W.findIn K (.ref C) name=some none) (hv:mA name=some v) (hv':PySem.W.handedIn v=true) (h:Q v {s with toks:=s.toks+1}) :
  wpAny (model prog w) A (getAttr (.ref x) name expr) Q E s:=by
 obtain⟨od,J,hl⟩:=I.look
 exact PySem.W.get_value X J (PySem.W.plainGet_of hg).1 (PySem.W.findObj_own hh ha rfl (by rw[hl,hv])) hv' h
theorem Rc {ns:List Str}{Q:Unit->Shared->Prop}(X:K.In s.heap)(I:GQ s.heap x dx C mA)
  (hs:PySem.W.findIn K (.ref C) "__setattr__"=some (some (.builtin "object.__setattr__"))) (hp:PySem.W.plainOver K C=true) (ht:PySem.W.takerIn K C name=some none) (hh:PySem.W.hasDictIn K C=true)
  (hw:PySem.Within mA ns) (hsz:ns.length<=sizeLine)
  (h:∀h',GQ h' x dx C (fun y=>if y=name then some v else mA y)->Heap.SameBut dx s.heap h'->Q () {s with heap:=h',toks:=s.toks+2}) :
  wpAny (model prog w) A (setAttr (.ref x) name v) Q E s:=by
 obtain⟨od,J,hl⟩:=I.look
 refine PySem.W.set_plain X J hs (PySem.W.osa_open (s:={s with toks:=s.toks+1}) (r:=none) X J hp ht fun b=>?_)
 obtain⟨cd,hc,hd'⟩:=PySem.W.any_some hh
 have hx:s.heap.get? x=some ⟨.ref C,some dx,.plain,#[]⟩:=I.obj
 refine An (AZ (An (An (wpAny_loadPart hx (An (PySem.W.Looks.here (s:={s with toks:=s.toks+1}) (PySem.W.looks_clsIn X hc) ?_))))))
 rw[hd']
 refine AZ (a:=some dx) (An (AZ (An ?_)))
 refine wpAny_nsSet1 (s:={s with toks:=s.toks+1}) I.ns fun h' hn2 hs2=>?_
 obtain⟨oD,esD,epD,hoD,hdD,hcD⟩:=hn2.count (PySem.Within.cons name v hw)
 refine An (wpAny_lookBehind hoD (by rw[hdD];exact pastItsLine_dict (Ey hcD (by rw[B5];omega))) ?_)
 exact AZ (h _ ⟨(hs2.2 _ (Ne.symm I.ne)).trans I.obj,hn2,I.ne⟩ hs2)
theorem Pk {R:Result->Shared->Prop}{vs:List Value}{kw:List (Str×Value)}(X:K.In s.heap)(hm:PySem.W.makesIn K C=true)
  (hi:PySem.W.findIn K (.ref C) "__init__"=some (some (.ref f))) (hf:PySem.W.typeIn K (.ref f)=some (.type "function"))
  (h:codeAny (model prog w) (A.under (.builtin "type.__call__" ⟨.ref C::vs,kw⟩)) (.call (.ref f) ⟨.ref (s.heap.objs.size+1)::vs,kw⟩) (PySem.W.InitBack (s.heap.objs.size+1) R)
   {s with heap:=(s.heap.push PySem.W.emptyDict).push (PySem.W.instObj C s.heap.objs.size)}) :
  codeAny (model prog w) A (.call (.ref C) ⟨vs,kw⟩) R s:=by
 obtain⟨hh,g,d,t,os⟩:=s
 exact PySem.W.make_core (PySem.W.makes_of X hm) (PySem.W.looks_findIn X hi) (fun self=>PySem.W.bind_fn X self hf) (.inl rfl) h
end
def Dm (f:Str)(v:V):List (Str×V)->List (Str×V)
 |[]=>[(f,v)]
 |(g,x)::r=>if g=f then(g,v)::r else(g,x)::Dm f v r
theorem NN (f g:Str)(v:V):∀fs:List (Str×V),(Dm f v fs).lookup g=if g=f then some v else fs.lookup g
 |
  []=>by
  show List.lookup g [(f,v)]=_
  by_cases h:g=f
  .have hb:(g==f)=true:=IX.mpr h
   simp only[List.lookup,hb,AW h]
  .have hb:(g==f)=false:=M5.mpr h
   simp only[List.lookup,hb,AQ h]
 |
  (k,x)::r=>by
  have ih:=NN f g v r
  rw[show Dm f v ((k,x)::r)=(if k=f then(k,v)::r else(k,x)::Dm f v r) from rfl]
  by_cases hk:k=f
  .rw[AW hk]
   by_cases h:g=k
   .have hb:(g==k)=true:=IX.mpr h
    simp only[List.lookup,hb,AW (h.trans hk)]
   .have hb:(g==k)=false:=M5.mpr h
    simp only[List.lookup,hb,AQ (fun e:g=f=>h (e.trans hk.symm))]
  .rw[AQ hk]
   by_cases h:g=k
   .have hb:(g==k)=true:=IX.mpr h
    simp only[List.lookup,hb,AQ (fun e:g=f=>hk (h.symm.trans e))]
   .have hb:(g==k)=false:=M5.mpr h
    simp only[List.lookup,hb]
    exact ih
theorem KG (f:Str)(v:V):∀fs:List (Str×V),f∈(Dm f v fs).map (·.1)/\∀g,g∈fs.map (·.1)->g∈(Dm f v fs).map (·.1)
 |[]=>⟨by simp[Dm],fun g h=>by simp at h⟩
 |
  (k,x)::r=>by
  obtain⟨i1,i2⟩:=KG f v r
  rw[show Dm f v ((k,x)::r)=(if k=f then(k,v)::r else(k,x)::Dm f v r) from rfl]
  by_cases hk:k=f
  .rw[AW hk]
   subst hk
   exact⟨by simp,fun g h=>by simpa using h⟩
  .rw[AQ hk]
   refine⟨?_,fun g h=>?_⟩
   .rw[C1]
    exact Cz _ i1
   .rw[C1]at h ⊢
    rcases Bw.mp h with e|e
    .exact Bw.mpr (.inl e)
    .exact Cz _ (i2 g e)
theorem NJ (f:Str)(v:V):∀fs:List (Str×V),(Dm f v fs).length<=fs.length+1
 |[]=>by simp[Dm]
 |
  (k,x)::r=>by
  have ih:=NJ f v r
  rw[show Dm f v ((k,x)::r)=(if k=f then(k,v)::r else(k,x)::Dm f v r) from rfl]
  by_cases hk:k=f
  .rw[AW hk,B5,B5];omega
  .rw[AQ hk,B5,B5];omega
theorem G3.some_of {v:V}{o:Option Value}(r:G3 (some v) o):∃u,o=some u/\AM v u:=by
 cases o with
 |none=>exact(show False from r).elim
 |some u=>exact⟨u,rfl,r⟩
theorem Rh {v:V}{u:Value}(r:AM v u):PySem.W.handedIn u=true:=by
 cases v with
 |non=>cases (show u=Value.none from r);rfl
 |bl b=>cases (show u=Value.bool b from r);rfl
 |int i=>obtain⟨t,e⟩:=(show ∃t,u=Value.int i t from r);cases e;rfl
 |str x=>obtain⟨t,e⟩:=(show ∃t,u=Value.str x t from r);cases e;rfl
 |byt b=>obtain⟨t,e⟩:=(show ∃t,u=Value.bytes b t from r);cases e;rfl
 |flt b=>obtain⟨t,e⟩:=(show ∃t,u=Value.float b t from r);cases e;rfl
 |ref a=>cases (show u=Value.ref a from r);rfl
 |ty n=>cases (show u=Value.type n from r);rfl
section
variable {P:Program}{w:World}{H H':Hp}{h h':Heap}{a C dx:Addr}{fs fs':List (Str×V)}
theorem Lc (hok:Ca P w H h)(e:H a=some (.ins C dx fs)):∃mA,GQ h a dx C mA/\(∀f,G3 (fs.lookup f) (mA f))/\PySem.Within mA (fs.map (·.1))/\fs.length<=1000/\H dx=some (.own a):=by
 obtain⟨d,z,ne,ob,mA,n,r,q⟩:=(show CF P w H h a (.ins C dx fs) from hok a _ e)
 exact⟨mA,⟨ob,n,ne⟩,r,q,z,d⟩
end
structure EN (K:PySem.W.Frag)(C:Addr):Prop where
 pg:PySem.W.plainGet K C Str.empty=true
 hd:PySem.W.hasDictIn K C=true
 po:PySem.W.plainOver K C=true
 sa:PySem.W.findIn K (.ref C) "__setattr__"=some (some (.builtin "object.__setattr__"))
theorem EN.get {K:PySem.W.Frag}{C:Addr}(c:EN K C)(f:Str):PySem.W.plainGet K C f=true:=c.pg
def Dr (K:PySem.W.Frag)(C:Addr)(f:Str):Prop:=PySem.W.findIn K (.ref C) f=some none
theorem Dr.taker {K:PySem.W.Frag}{C:Addr}{f:Str}(n:Dr K C f):PySem.W.takerIn K C f=some none:=by
 unfold PySem.W.takerIn
 rw[show PySem.W.findIn K (.ref C) f=some none from n]
 rfl
section
variable {X:Cx}{pins:List (Addr×Obj)}{σ:St}{H:Hp}{s:Shared}{a C dx:Addr}{fs:List (Str×V)}{f:Str}{v:V}{A:Around}{E:Value->Shared->Prop}
theorem QS {b:Bool}{Q:Value->Shared->Prop}(I:A6 X pins σ H s)(e:H a=some (.ins C dx fs))(c:EN X.K C)(n:Dr X.K C f)(l:fs.lookup f=some v)
  (h:∀u s',A6 X pins σ H s'->AM v u->Q u s'):wpAny (model X.prog X.w) A (getAttr (.ref a) f b) Q E s:=by
 obtain⟨mA,O,r,_,_,_⟩:=Lc I.hok e
 obtain⟨u,hu,ru⟩:=G3.some_of (v:=v) (o:=mA f) (by rw[←l];exact r f)
 exact Pf I.kIn O (c.get f) c.hd n hu (Rh ru) (h u _ (I.tok _) ru)
theorem Po {y:V}{u:Value}{Q:Unit->Shared->Prop}(I:A6 X pins σ H s)(e:H a=some (.ins C dx fs))(c:EN X.K C)(n:Dr X.K C f)(hl:fs.length<1000)(ry:AM y u)
  (h:∀s',A6 X pins σ (upd H a (.ins C dx (Dm f y fs))) s'->Q () s'):wpAny (model X.prog X.w) A (setAttr (.ref a) f u) Q E s:=by
 obtain⟨mA,O,r,wi,_,ho⟩:=Lc I.hok e
 have hz:(fs.map (·.1)).length<=sizeLine:=by rw[Al,M8];omega
 refine Rc I.kIn O c.sa c.po n.taker c.hd wi hz fun h' O' sb=>h _ ?_
 have hd:∃o,h'.get? dx=some o:=let ⟨o,_,_,e',_⟩:=O'.ns;⟨o,e'⟩
 refine I.write (x:=a) (e:=dx) (by rw[e];exact True.intro) (.inr ho) (fun b q hb z=>(sb.2 b hb).trans z) hd ?_
 refine⟨by rw[Aw O.ne];exact ho,?_,O.ne,O'.obj,_,O'.ns,fun g=>?_,fun g hg=>?_⟩
 .have:=NJ f y fs;omega
 .show G3 ((Dm f y fs).lookup g) (if g=f then some u else mA g)
  rw[NN]
  by_cases q:g=f
  .rw[AW q,AW q];exact ry
  .rw[AQ q,AQ q];exact r g
 .by_cases q:g=f
  .rw[q];exact(KG f y fs).1
  .refine(KG f y fs).2 g (wi g fun z=>hg ?_)
   show(if g=f then some u else mA g)=none
   rw[AQ q];exact z
theorem A6.made (I:A6 X pins σ H s):A6 X pins σ (upd (upd H s.heap.objs.size (.own (s.heap.objs.size+1))) (s.heap.objs.size+1) (.ins C s.heap.objs.size []))
  {s with heap:=(s.heap.push PySem.W.emptyDict).push (PySem.W.instObj C s.heap.objs.size)}:=by
 have e1:(s.heap.push PySem.W.emptyDict).get? s.heap.objs.size=some PySem.W.emptyDict:=Cy s.heap rfl
 have e2:((s.heap.push PySem.W.emptyDict).push (PySem.W.instObj C s.heap.objs.size)).get? (s.heap.objs.size+1)=some (PySem.W.instObj C s.heap.objs.size):=by
  have:=Cy (s.heap.push PySem.W.emptyDict) (o:=PySem.W.instObj C s.heap.objs.size) rfl
  rwa [IR]at this
 have e3:(s.heap.push PySem.W.emptyDict).Ns s.heap.objs.size (fun _=>none):=⟨PySem.W.emptyDict,#[],_,e1,rfl,(fun e he=>absurd he (by simp)),fun _=>rfl⟩
 have I1:=I.laid (a:=s.heap.objs.size) (o:=.own (s.heap.objs.size+1)) (h':=s.heap.push PySem.W.emptyDict) (t':=s.toks) (fun b u q=>Be _ q) (Ak _) ⟨_,e1⟩
 refine I1.laid (a:=s.heap.objs.size+1) (o:=.ins C s.heap.objs.size []) (t':=s.toks) (fun b u q=>Be _ q) (Ga (IR _ _)) ?_
 have ne:s.heap.objs.size≠s.heap.objs.size+1:=BO (Gb _)
 refine⟨by rw[Aw ne,A5],BP _,ne,e2,fun _=>none,(Heap.Ns1.of_empty e3).at fun o q=>Be _ q,fun _=>True.intro,fun y hy=>absurd rfl hy⟩
theorem SV {prog:Program}{w:World}{env:Env}{e:Expr}{f:Str}{pos:Pos}{s:Shared}{Q:Value->Shared->Prop}(hb:attributeBase e f env (eval e env)=eval e env)
  (h:wpAny (model prog w) A (eval e env) (fun o s₁=>wpAny (model prog w) A (getAttr o f true) Q E s₁) E s):wpAny (model prog w) A (eval (.Attribute e f pos) env) Q E s:=
 Attribute_any_ h (by rw[arm_eval_Attribute,hb])
end
def OD (K:PySem.W.Frag)(ta:TE)(f:Str):TE:=fun σ H Q=>ta σ H fun x H1=>∃a C dx fs v,x = .ref a/\H1 a=some (.ins C dx fs)/\EN K C/\Dr K C f/\fs.lookup f=some v/\Q v H1
def PZ (K:PySem.W.Frag)(ta tv:TE)(f:Str):TS:=fun D σ H=>tv σ H fun y H1=>ta σ H1 fun x H2=>∃a C dx fs,x = .ref a/\H2 a=some (.ins C dx fs)/\EN K C/\Dr K C f/\fs.length<1000/\
 D.nx σ (upd H2 a (.ins C dx (Dm f y fs)))
section
variable {X:Cx}{o e value:Expr}{f:Str}{pos pos' tpos:Pos}{ta tv:TE}
theorem La (he:PE X e ta)(hb:attributeBase e f X.env (eval e X.env)=eval e X.env):PE X (.Attribute e f pos) (OD X.K ta f):=by
 intro pins s σ H Q I h
 refine SV hb (AC (he pins s σ H _ I h) fun u s1 ⟨x,H1,I1,rx,a,C,dx,fs,v,ex,ea,c,n,l,q⟩=>?_)
 subst ex
 obtain rfl:u=Value.ref a:=rx
 exact QS I1 ea c n l fun u' s2 I2 ru=>⟨v,H1,I2,ru,q⟩
theorem EB (ha:PE X o ta)(hv:PE X value tv)(hs:swapsWith value (some (.Attribute o f pos')) pos.line X.env=pure false):PS X (.Assign [.Attribute o f pos'] value pos) (PZ X.K ta tv f):=by
 intro pins s σ H D I h
 refine plainObj_wpAny_Assign_Attribute (AC (hv pins s σ H _ I h) fun u s1 ⟨y,H1,I1,ry,q⟩=>AC (ha pins s1 σ H1 _ I1 q) fun ov s2 ⟨x,H2,I2,rx,a,C,dx,fs,ex,ea,c,n,l,q2⟩=>?_) hs
 subst ex
 obtain rfl:ov=Value.ref a:=rx
 exact Po I2 ea c n l ry fun s3 I3=>⟨σ,_,I3,q2⟩
end
section
variable {X:Cx}{pins:List (Addr×Obj)}{σ:St}{H:Hp}{s:Shared}{A:Around}{E:Value->Shared->Prop}{Q:Value->Shared->Prop}{c:Value}{b:Bool}
inductive DZ (K:PySem.W.Frag)(H:Hp):V->Value->Prop where
 |non:DZ K H .non (.type "NoneType")
 |bl (x:Bool):DZ K H (.bl x) (.type "bool")
 |int (i:Int):DZ K H (.int i) (.type "int")
 |str (x:Str):DZ K H (.str x) (.type "str")
 |flt (x:UInt64):DZ K H (.flt x) (.type "float")
 |lst {a:Addr} {xs:List V} (e:H a=some (.lst xs)):DZ K H (.ref a) (.type "list")
 |frz {a:Addr} {o:Obj} {xs:List V} (e:H a=some (.frz o (.lst xs))):DZ K H (.ref a) (.type "list")
 |tup {a:Addr} {xs:List V} (e:H a=some (.tup xs)):DZ K H (.ref a) (.type "tuple")
 |dK {a:Addr} {kvs:List (CB×V)} (e:H a=some (.dK kvs)):DZ K H (.ref a) (.type "dict")
 |dT {a:Addr} {kvs:List (List CB×V)} (e:H a=some (.dT kvs)):DZ K H (.ref a) (.type "dict")
 |ins {a C dx:Addr} {fs:List (Str×V)} (e:H a=some (.ins C dx fs)) (cl:EN K C) (ha:PySem.W.findIn K (.ref C) "__class__"=some (some (.builtin "object.__class__")))
  (hn:PySem.W.specialIn K (.builtin "object.__class__") "__get__"=some (some (.builtin "getset_descriptor.__get__"))) (htk:PySem.W.takesIn K (.builtin "object.__class__")=some true)
  (hm:PySem.W.mroIn K C (.type "object")=some true):DZ K H (.ref a) (.ref C)
theorem SS {x:V}{u t:Value}(I:A6 X pins σ H s)(rx:AM x u)(ty:DZ X.K H x t)(e:PySem.W.kitOne X.K t c=some b)(h:∀tk,Q (.bool b) {s with toks:=tk}) :
  wpAny (model X.prog X.w) A (call (.builtin "isinstance") [u,c]) Q E s:=by
 cases ty with
 |non=>cases (show u=Value.none from rx);exact ES PySem.W.kitx_none I.kIn True.intro e (fun z=>nomatch z) h
 |bl y=>cases (show u=Value.bool y from rx);exact ES PySem.W.kitx_bool I.kIn True.intro e (fun z=>nomatch z) h
 |int i=>obtain⟨t,q⟩:=(show ∃t,u=Value.int i t from rx);cases q;exact ES PySem.W.kitx_int I.kIn True.intro e (fun z=>nomatch z) h
 |str y=>obtain⟨t,q⟩:=(show ∃t,u=Value.str y t from rx);cases q;exact ES PySem.W.kitx_str I.kIn True.intro e (fun z=>nomatch z) h
 |flt y=>obtain⟨t,q⟩:=(show ∃t,u=Value.float y t from rx);cases q;exact ES PySem.W.kitx_float I.kIn True.intro e (fun z=>nomatch z) h
 |
  @lst a xs ea=>
  cases (show u=Value.ref a from rx)
  obtain⟨_,_,n,_,h1⟩:=(show CF X.prog X.w H s.heap a (.lst xs) from I.hok a _ ea)
  exact ES PySem.W.kitx_list I.kIn ⟨_,h1,rfl⟩ e (fun z=>nomatch z) h
 |
  @frz a ob xs ea=>
  cases (show u=Value.ref a from rx)
  obtain⟨_,_,_,n,_,h1⟩:=(show CF X.prog X.w H s.heap a (.frz ob (.lst xs)) from I.hok a _ ea)
  exact ES PySem.W.kitx_list I.kIn ⟨_,h1,rfl⟩ e (fun z=>nomatch z) h
 |
  @tup a xs ea=>
  cases (show u=Value.ref a from rx)
  obtain⟨_,_,_,p⟩:=(show CF X.prog X.w H s.heap a (.tup xs) from I.hok a _ ea)
  obtain⟨o,h1,h2,_⟩:=p
  exact ES PySem.W.kitx_tuple I.kIn ⟨o,h1,h2⟩ e (fun z=>nomatch z) h
 |
  @dK a kvs ea=>
  cases (show u=Value.ref a from rx)
  obtain⟨_,_,vs,_,p⟩:=(show CF X.prog X.w H s.heap a (.dK kvs) from I.hok a _ ea)
  obtain⟨o,es,ep,h1,h2,_⟩:=p
  exact ES PySem.W.kitx_dict I.kIn ⟨o,h1,h2.1⟩ e (fun z=>nomatch z) h
 |
  @dT a kvs ea=>
  cases (show u=Value.ref a from rx)
  obtain⟨_,_,xs,_,o,es,ep,h1,h2,_⟩:=(show CF X.prog X.w H s.heap a (.dT kvs) from I.hok a _ ea)
  exact ES PySem.W.kitx_dict I.kIn ⟨o,h1,h2.1⟩ e (fun z=>nomatch z) h
 |
  @ins a C dx fs ea cl ha hn htk hm=>
  cases (show u=Value.ref a from rx)
  obtain⟨mA,O,_⟩:=Lc I.hok ea
  obtain⟨od,J,_⟩:=O.look
  exact ES (PySem.W.kitx_own (cl.get _) cl.hd ha hn htk hm) I.kIn J e (fun z=>nomatch z) h
end
structure CC (k:Nat)(A:Around):Prop where
 hd:A.handled=none
 dp:A.depth+3*k+5<recursionLimit
 un:A.units+16*k+200<cLine
 gd:A.guards=some []
theorem CC.mono {j k:Nat}{A:Around}(r:CC k A)(h:j<=k):CC j A:=⟨r.hd,by have:=r.dp;omega,by have:=r.un;omega,r.gd⟩
theorem CC.deeper {k:Nat}{A:Around}(r:CC (k+1) A)(env:Env):CC k (A.deeper env):=
 ⟨r.hd,by have:=r.dp;show A.depth+1+3*k+5<_;omega,by have:=r.un;show A.units+3+16*k+200<_;omega,r.gd⟩
theorem V0 {A:Around}{C:Addr}{us:List Value}{kw:List (Str×Value)}:(A.under (.builtin "type.__call__" ⟨.ref C::us,kw⟩)).depth=A.depth+1:=by
 first|rfl|simp[Around.under,Code.weight,Code.isCreation,Code.isGuard,Code.isCaller,Code.frames,Code.isFrame,guardIds]
theorem Q4 {A:Around}{C:Addr}{us:List Value}{kw:List (Str×Value)}:(A.under (.builtin "type.__call__" ⟨.ref C::us,kw⟩)).units=A.units+1:=by
 first|rfl|simp[Around.under,Code.cUnits,Code.frames,Code.isFrame]
theorem Pt {A:Around}{C:Addr}{us:List Value}{kw:List (Str×Value)}:(A.under (.builtin "type.__call__" ⟨.ref C::us,kw⟩)).guards=A.guards:=by
 have:Code.guards (.builtin "type.__call__" ⟨.ref C::us,kw⟩)=[]:=by first|rfl|simp[Code.guards,Code.isGuard,guardIds]
 show pushGuards (Code.guards (.builtin "type.__call__" ⟨.ref C::us,kw⟩)) A.guards=A.guards
 rw[this]
 cases A.guards<;>rfl
theorem CC.make {k:Nat}{A:Around}(r:CC (k+1) A)(C:Addr)(us:List Value)(kw:List (Str×Value)):CC k (A.under (.builtin "type.__call__" ⟨.ref C::us,kw⟩)):=
 ⟨r.hd,by have:=r.dp;rw[V0];omega,by have:=r.un;rw[Q4];omega,by rw[Pt];exact r.gd⟩
theorem CC.depth {k:Nat}{A:Around}(r:CC k A):A.depth<recursionLimit:=by have:=r.dp;omega
def IE:TA:=fun _ H Q=>Q [] H
def GS (ta:TE)(tr:TA):TA:=fun σ H Q=>ta σ H fun x H1=>tr σ H1 fun xs H2=>Q (x::xs) H2
section
variable {X:Cx}{e:Expr}{es:List Expr}{te:TE}{t:TA}{pos:Pos}
theorem A2:PA X [] IE:=fun _ _ _ _ H Q I h=>Calls.spliced_nil ⟨[],H,I,.nil,h⟩
theorem A0 (ha:PE X e te)(hr:PA X es t)(hs:starEach (e::es) X.env=(false,eval e X.env)::starEach es X.env:=by rfl):PA X (e::es) (GS te t):=by
 intro pos pins s σ H Q I h
 rw[hs]
 show wpAny _ _ (spliced ((false,eval e X.env)::backTo pos (starEach es X.env))) _ _ s
 refine Calls.spliced_cons (AC (ha pins s σ H _ I h) fun u s1 ⟨x,H1,I1,r1,q1⟩=>?_)
 exact AC (hr pos pins s1 σ H1 _ I1 q1) fun us s2 ⟨xs,H2,I2,r2,q2⟩=>⟨x::xs,H2,I2,.cons r1 r2,q2⟩
def Jq (t:TA):TE:=fun σ H Q=>t σ H fun xs H1=>xs.length<=sizeLine/\∀p,H1 p=none->Q (.ref p) (upd H1 p (.tup xs))
def Oj (t:TA):TE:=fun σ H Q=>t σ H fun xs H1=>xs.length<=sizeLine/\∀p,H1 p=none->Q (.ref p) (upd H1 p (.lst xs))
theorem AN {x1}(h:PA X es t):PE X (.Tuple es x1 pos) (Jq t):=by
 intro pins s σ H Q I hq
 refine wpAny_Tuple_spliced (AC (h pos pins s σ H _ I hq) fun us s1 ⟨xs,H1,I1,r,z,q⟩=>⟨by rw[←r.length];exact z,?_⟩)
 have hf:H1 s1.heap.objs.size=none:=I1.hok.fresh (Ak _)
 refine⟨.ref s1.heap.objs.size,upd H1 s1.heap.objs.size (.tup xs),I1.laid (t':=s1.toks) (fun b u e=>Be _ e) (Ak _) ?_,rfl,q _ hf⟩
 exact⟨z,us,r,⟨_,Cy _ rfl,rfl,⟨_,rfl⟩,rfl⟩⟩
theorem BU (h:PA X es t):PE X (.List es pos) (Oj t):=by
 intro pins s σ H Q I hq
 refine wpAny_List_spliced (AC (h pos pins s σ H _ I hq) fun us s1 ⟨xs,H1,I1,r,z,q⟩=>⟨by rw[←r.length];exact z,?_⟩)
 have hf:H1 s1.heap.objs.size=none:=I1.hok.fresh (Ak _)
 refine⟨.ref s1.heap.objs.size,upd H1 s1.heap.objs.size (.lst xs),I1.laid (t':=s1.toks) (fun b u e=>Be _ e) (Ak _) ?_,rfl,q _ hf⟩
 exact⟨z,us,0,r,Cy _ rfl⟩
end
abbrev Sp:=List V->Hp->VK->XK->Prop
abbrev Ed:=List Env->Hp->Shared->XK->Value->Shared->Prop
structure G6 (P:Program)(w:World)(K:PySem.W.Frag)(mg:Str->Option Value)(base:Heap)(A:Around)(outer:List Env)(s:Shared)(H:Hp):Prop where
 frames:A.frames=some outer
 mod:Mod K mg base
 bs:∀b o,base.get? b=some o->s.heap.get? b=some o/\H b=none
 bsz:base.objs.size<=s.heap.objs.size
 funs:s.heap.FunFrames base outer
 frf:∀b∈DX outer,H b=none
 hok:Ca P w H s.heap
 bare:AllBare s.gens
def CE (outer:List Env)(P:Program)(w:World)(H:Hp)(s:Shared)(Q:VK)(u:Value)(s':Shared):Prop:=
 ∃v H',s'.os=s.os/\AllBare s'.gens/\Un (DX outer) [] H H' s.heap s'.heap/\Ca P w H' s'.heap/\AM v u/\Q v H'
def CR (CX:Ed)(outer:List Env)(P:Program)(w:World)(H:Hp)(s:Shared)(Q:VK)(E:XK)(r:Result)(s':Shared):Prop:=
 match r with
 |.ok (.ret u)=>CE outer P w H s Q u s'
 |.ok _=>False
 |.error e=>CX outer H s E e s'
structure Bz (P:Program)(w:World)(K:PySem.W.Frag)(mg:Str->Option Value)(base:Heap)(CX:Ed)(k:Nat)(f:Addr)(fd:FuncData)(ps:List Str)(sp:Sp):Prop where
 len:∀vs H Q E,sp vs H Q E->vs.length=ps.length
 run:∀(A:Around) (outer:List Env) (s:Shared) (H:Hp) (args:Args) (us:List Value) (vs:List V) (Q:VK) (E:XK),CC k A->G6 P w K mg base A outer s H->BindsTo s fd args (ps.zip us)->Aq vs us->sp vs H Q E->
  codeAny (model P w) A (.call (.ref f) args) (CR CX outer P w H s Q E) s
theorem G6.make {P:Program}{w:World}{K:PySem.W.Frag}{mg:Str->Option Value}{base:Heap}{A:Around}{outer:List Env}{s:Shared}{H:Hp}(e:G6 P w K mg base A outer s H)(C:Addr)(us:List Value)(kw:List (Str×Value)) :
 G6 P w K mg base (A.under (.builtin "type.__call__" ⟨.ref C::us,kw⟩)) outer s H:=⟨by first|exact e.frames|(simpa[Around.under,Code.envs,Code.isFrame,pushEnvs] using e.frames),e.mod,e.bs,e.bsz,e.funs,e.frf,e.hok,e.bare⟩
section
variable {X:Cx}{pins:List (Addr×Obj)}{σ:St}{H:Hp}{s s':Shared}
theorem A6.env0 (I:A6 X pins σ H s):G6 X.prog X.w X.K X.mg X.base X.A X.stack s H:=
 ⟨I.ok.frames,I.ok.mod,I.bs,Ey I.ok.bsz I.sz,I.stack,I.stkFree,I.hok,I.bare⟩
theorem A6.after {Q:VK}{u:Value}(I:A6 X pins σ H s)(h:CE X.stack X.prog X.w H s Q u s'):EP X pins σ Q u s':=by
 obtain⟨v,H',os,bare,un,hok,r,q⟩:=h
 obtain⟨hh,g,d,t,os'⟩:=s'
 obtain rfl:os'=s.os:=os
 exact⟨v,H',I.call (h':=hh) (g':=g) (d':=d) (t':=t) (ch:=[]) un hok bare (fun b z=>absurd z (by simp)),r,q⟩
end
def QA (sp:Sp)(dvs:List V)(E:XK)(t:TA):TE:=fun σ H Q=>t σ H fun vs H1=>sp (vs++dvs) H1 Q E
def SK (C:Addr)(sp:Sp)(dvs:List V)(E:XK)(t:TA):TE:=fun σ H Q=>t σ H fun vs H1=>∀x dx,H1 x=none->H1 dx=none->dx≠x->
 sp (.ref x::(vs++dvs)) (upd (upd H1 dx (.own x)) x (.ins C dx [])) (fun v H2=>v = .non/\Q (.ref x) H2) E
def BK (K:PySem.W.Frag)(fd:FuncData)(ps:List Str)(ds:List Value):Prop:=
 ∀(s:Shared) (us:List Value),K.In s.heap->(us++ds).length=ps.length->BindsTo s fd ⟨us,[]⟩ (ps.zip (us++ds))
theorem BK.all {K:PySem.W.Frag}{fd:FuncData}{ps:List Str}(h:∀us:List Value,us.length=ps.length->bindArgs fd ⟨us,[]⟩=pure (ps.zip us)):BK K fd ps []:=fun s us _ hl=>by
 rw[EA]at hl ⊢
 exact .of_eq (h us hl)
def IQ (CX:Ed)(X:Cx)(E:XK):Prop := ∀(pins:List (Addr×Obj)) (σ:St) (H:Hp) (s:Shared) (e:Value) (s':Shared),A6 X pins σ H s->CX X.stack H s E e s'->X.xe e s'
section
variable {X:Cx}{CX:Ed}{k:Nat}{f C:Addr}{fd:FuncData}{ps:List Str}{sp:Sp}{dvs:List V}{ds:List Value}{E:XK}{x m:Str}{p pos apos:Pos}{e o:Expr}{es:List Expr}{ta:TE}{t:TA}
theorem PQ {pins:List (Addr×Obj)}{σ:St}{H:Hp}{s:Shared}{Q:VK}{us:List Value}{vs:List V}(F:Bz X.prog X.w X.K X.mg X.base CX k f fd ps sp)(hr:CC k X.A)(hb:BK X.K fd ps ds)(hd:Aq dvs ds)(hx:IQ CX X E)
  (I:A6 X pins σ H s) (r:Aq vs us) (h:sp (vs++dvs) H Q E):wpAny (model X.prog X.w) X.A (call (.ref f) us) (EP X pins σ Q) X.xe s:=by
 have r2:Aq (vs++dvs) (us++ds):=r.append hd
 have hl:(us++ds).length=ps.length:=by rw[←r2.length];exact F.len _ _ _ _ h
 refine wpAny_call (M9 (F.run X.A X.stack s H ⟨us,[]⟩ (us++ds) (vs++dvs) Q E hr I.env0 (hb s us I.kIn hl) r2 h) fun r s' hq=>?_)
 cases r with
 |error e=>exact hx pins σ H s e s' I hq
 |
  ok fl=>
  cases fl with
  |ret u=>exact I.after hq
  |next=>exact False.elim hq
  |brk=>exact False.elim hq
  |cont=>exact False.elim hq
theorem AJ (F:Bz X.prog X.w X.K X.mg X.base CX k f fd ps sp)(hr:CC k X.A)(hg:Gl X x)(hm:X.mg x=some (.ref f))(hk:PySem.W.keepIn X.K (.ref f)=true)(hb:BK X.K fd ps ds)(hd:Aq dvs ds)(hx:IQ CX X E)
  (ha:PA X (e::es) t) (hdb:(x==("__debug__":Str))=false:=by decide) (he:starEach (e::es) X.env=(false,eval e X.env)::starEach es X.env:=by rfl) (hpl:(backTo pos (starEach es X.env)).any (·.1)=false:=by rfl) :
  PE X (.Call (.Name x p) (e::es) [] pos) (QA sp dvs E t):=by
 intro pins s σ H Q I h
 refine K9 (Lo I hg hm ?_ hdb)
 refine PySem.W.callWith_K (h₀:=X.base) I.ok.mod.kin hk (AC (ha pos pins s σ H _ I h) fun us s1 ⟨vs,H1,I1,r,q⟩=>⟨I1.kIn,?_⟩) he hpl
 exact PQ F hr hb hd hx I1 r q
structure Mk (K:PySem.W.Frag)(C f:Addr):Prop where
 makes:PySem.W.makesIn K C=true
 init:PySem.W.findIn K (.ref C) "__init__"=some (some (.ref f))
 fn:PySem.W.isFn K (.ref f)=true
 kp:PySem.W.keepIn K (.ref C)=true
theorem Qr {pins:List (Addr×Obj)}{σ:St}{H:Hp}{s:Shared}{Q:VK}{us:List Value}{vs:List V}(M:Mk X.K C f)(F:Bz X.prog X.w X.K X.mg X.base CX k f fd ps sp)(hr:CC (k+1) X.A)(hb:BK X.K fd ps ds)(hd:Aq dvs ds)
  (hx:IQ CX X E) (I:A6 X pins σ H s) (r:Aq vs us)
  (h:∀x dx,H x=none->H dx=none->dx≠x->sp (.ref x::(vs++dvs)) (upd (upd H dx (.own x)) x (.ins C dx [])) (fun v H2=>v = .non/\Q (.ref x) H2) E) :
  wpAny (model X.prog X.w) X.A (call (.ref C) us) (EP X pins σ Q) X.xe s:=by
 have hq:=h (s.heap.objs.size+1) s.heap.objs.size (I.hok.fresh (Fm _)) (I.hok.fresh (Ak _)) (BO (Gb _))
 have I2:=A6.made (C:=C) I
 have r2:Aq (V.ref (s.heap.objs.size+1)::(vs++dvs)) (Value.ref (s.heap.objs.size+1)::(us++ds)):=.cons rfl (r.append hd)
 have hl:(Value.ref (s.heap.objs.size+1)::us++ds).length=ps.length:=by
  have e:=r2.length
  rw[F.len _ _ _ _ hq]at e
  exact e.symm
 refine wpAny_call (Pk (f:=f) I.kIn M.makes M.init (IX.mp M.fn) (M9 (F.run _ X.stack _ _ ⟨Value.ref (s.heap.objs.size+1)::us,[]⟩ (Value.ref (s.heap.objs.size+1)::(us++ds)) _ _ E (hr.make C us [])
  (I2.env0.make C us []) (hb _ (Value.ref (s.heap.objs.size+1)::us) I2.kIn hl) r2 hq) fun r s' hq'=>?_))
 cases r with
 |error e=>exact hx pins σ _ _ e s' I2 hq'
 |
  ok fl=>
  cases fl with
  |
   ret u=>
   obtain⟨v,H',I3,rv,ev,q3⟩:=I2.after hq'
   subst ev
   exact⟨rv,⟨V.ref (s.heap.objs.size+1),H',I3,rfl,q3⟩⟩
  |next=>exact False.elim hq'
  |brk=>exact False.elim hq'
  |cont=>exact False.elim hq'
theorem GO (M:Mk X.K C f)(F:Bz X.prog X.w X.K X.mg X.base CX k f fd ps sp)(hr:CC (k+1) X.A)(hg:Gl X x)(hm:X.mg x=some (.ref C))(hb:BK X.K fd ps ds)(hd:Aq dvs ds)(hx:IQ CX X E)
  (ha:PA X (e::es) t) (hdb:(x==("__debug__":Str))=false:=by decide) (he:starEach (e::es) X.env=(false,eval e X.env)::starEach es X.env:=by rfl) (hpl:(backTo pos (starEach es X.env)).any (·.1)=false:=by rfl) :
  PE X (.Call (.Name x p) (e::es) [] pos) (SK C sp dvs E t):=by
 intro pins s σ H Q I h
 refine K9 (Lo I hg hm ?_ hdb)
 refine PySem.W.callWith_K (h₀:=X.base) I.ok.mod.kin M.kp (AC (ha pos pins s σ H _ I h) fun us s1 ⟨vs,H1,I1,r,q⟩=>⟨I1.kIn,?_⟩) he hpl
 exact Qr M F hr hb hd hx I1 r q
end
section
variable {X:Cx}{CX:Ed}{k:Nat}{f C:Addr}{fd:FuncData}{ps ks:List Str}{sp:Sp}{E:XK}{x m:Str}{p pos apos kpos:Pos}{e o:Expr}{es:List Expr}{kws:List Keyword}{te ta:TE}{t tk:TA}{nm:Option Str}
variable {g:List Value->List Value->List Value}{gV:List V->List V->List V}
end
structure BY (N P:List Str)(sc:Scope):Prop where
 kind:sc.kind = .function
 co:sc.isCoroutine=false
 gen:sc.isGenerator=false
 nd:N.Nodup
 pre:N.take P.length=P
 par:∀x∈P,sc.names.lookup x=some .local\/sc.names.lookup x=some .cell
 nofree:∀y∈sc.names,y.2≠.free
theorem OK {kindOf:Str->Option NameKind}{x:Str}:∀{binds:List (Str×Value)} {m:Str->Option Value},(∀v,(x,v)∉binds)->bindL kindOf binds m x=m x
 |[],_,_=>rfl
 |
  (n,v)::r,m,h=>by
  unfold bindL
  rw[OK fun w hw=>h w (Cz _ hw)]
  split
  .have:x≠n:=by rintro rfl;exact h v Cb
   simp[this]
  .rfl
theorem Ny {kindOf:Str->Option NameKind}{x:Str}:∀{binds:List (Str×Value)} {m:Str->Option Value},(∀v,(x,v)∉binds)->bindC kindOf binds m x=m x
 |[],_,_=>rfl
 |
  (n,v)::r,m,h=>by
  unfold bindC
  rw[Ny fun w hw=>h w (Cz _ hw)]
  split
  .rfl
  .have:x≠n:=by rintro rfl;exact h v Cb
   simp[this]
theorem MN {kindOf:Str->Option NameKind}{x:Str}{v:Value}:∀{P:List Str} {vs:List Value} {i:Nat} {m:Str->Option Value},P.Nodup->P[i]?=some x->vs[i]?=some v->kindOf x=some .local->
  bindL kindOf (P.zip vs) m x=some v
 |[],_,_,_,_,h,_,_=>by simp at h
 |_::_,[],_,_,_,_,h,_=>by simp at h
 |
  p::P,w::vs,0,m,nd,h1,h2,hk=>by
  simp at h1 h2;subst h1;subst h2
  show bindL kindOf ((p,w)::P.zip vs) m p=_
  unfold bindL
  rw[OK fun v hv=>(IS.mp nd).1 (OQ hv).1,AW hk]
  simp
 |
  p::P,w::vs,i+1,m,nd,h1,h2,hk=>by
  show bindL kindOf ((p,w)::P.zip vs) m x=_
  unfold bindL
  exact MN (i:=i) (IS.mp nd).2 (by simpa using h1) (by simpa using h2) hk
theorem NI {kindOf:Str->Option NameKind}{x:Str}{v:Value}:∀{P:List Str} {vs:List Value} {i:Nat} {m:Str->Option Value},P.Nodup->P[i]?=some x->vs[i]?=some v->kindOf x≠some .local->
  bindC kindOf (P.zip vs) m x=some v
 |[],_,_,_,_,h,_,_=>by simp at h
 |_::_,[],_,_,_,_,h,_=>by simp at h
 |
  p::P,w::vs,0,m,nd,h1,h2,hk=>by
  simp at h1 h2;subst h1;subst h2
  show bindC kindOf ((p,w)::P.zip vs) m p=_
  unfold bindC
  rw[Ny fun v hv=>(IS.mp nd).1 (OQ hv).1,AQ hk]
  simp
 |
  p::P,w::vs,i+1,m,nd,h1,h2,hk=>by
  show bindC kindOf ((p,w)::P.zip vs) m x=_
  unfold bindC
  exact NI (i:=i) (IS.mp nd).2 (by simpa using h1) (by simpa using h2) hk
def FA (N:List Str)(vs:List V):St:=vs.map some++List.replicate (N.length-vs.length) none
def Gy (CX:Ed)(P:Program)(w:World)(K:PySem.W.Frag)(mg:Str->Option Value)(base:Heap)(N:List Str)(qual:Str)(scope:Scope)(f:Addr)(cd:Value)(A:Around)(outer:List Env)(s:Shared)(H:Hp)(E:XK):Cx where
 prog:=P
 w:=w
 K:=K
 mg:=mg
 base:=base
 A:=A.deeper (envOfC qual scope s.heap.objs.size f cd)
 N:=N
 s₀:=s
 H₀:=H
 env:=envOfC qual scope s.heap.objs.size f cd
 outer:=outer
 stack:=envOfC qual scope s.heap.objs.size f cd::outer
 ex:=[]
 calm:=true
 fn:=fun _=>true
 pn:=[]
 xe:=fun e s'=>wpAny (model P w) (A.deeper (envOfC qual scope s.heap.objs.size f cd)) (leaving (envOfC qual scope s.heap.objs.size f cd) e) (fun _ s''=>CX outer H s E e s'') (fun e' s''=>CX outer H s E e' s'') s'
theorem N9 {sc:Scope}{n:Nat}{x:Str}(h:sc.names.lookup x=some .cell):∃c,(cellsFrom n sc.names []).lookup x=some c:=by
 have q:=PySem.W.cellsFrom_some sc.names n [] (.inl h)
 exact Option.isSome_iff_exists.mp q
theorem Q2 {CX:Ed}{P:Program}{w:World}{K:PySem.W.Frag}{mg:Str->Option Value}{base:Heap}{N ps:List Str}{qual:Str}{scope:Scope}{f:Addr}{cd:Value}{A:Around}{outer:List Env}{s s1:Shared}{H:Hp}{E:XK}{us:List Value}{vs:List V}
  (S:BY N ps scope) (hd:A.handled=none) (e0:G6 P w K mg base A outer s H) (hl:vs.length=ps.length) (r:Aq vs us)
  (x:InCallC s s.heap.objs.size (bindL (envOfC qual scope s.heap.objs.size f cd).kindOf (ps.zip us) fun _=>none) (cellsFrom (s.heap.objs.size+1) scope.names []) (bindC (envOfC qual scope s.heap.objs.size f cd).kindOf (ps.zip us) fun _=>none) s1) :
  A6 (Gy CX P w K mg base N qual scope f cd A outer s H E) [] (FA N vs) H s1:=by
 have hpl:ps.length<=N.length:=by have:=congrArg List.length S.pre;rw[Ar]at this;omega
 obtain⟨h1,tk,rfl,hk⟩:=x.done
 have noA:∀b:Addr,b∉(Gy CX P w K mg base N qual scope f cd A outer s H E).ex:=fun b z=>absurd (show b∈([]:List Addr) from z) (by simp)
 refine⟨⟨e0.mod,S.kind,rfl,rfl,Ak _,fun y z c h1 h2=>?_,fun y hy=>?_,fun y c _ h=>?_,fun _=>hd,Around.frames_deeper e0.frames,.inr ⟨rfl,rfl⟩,fun b z=>absurd z (noA b),e0.bs,e0.bsz,fun b _ _=>noA b,fun b z=>absurd z (noA b),e0.funs,e0.frf⟩,
  rfl,e0.bare,Un.kept hk,⟨_,x.toInCall.ns,fun i y v h1 h2 h3=>?_⟩,fun y c h=>⟨_,x.cell y c h⟩,e0.hok.fresh (Ak _),fun y c h=>?_,fun p hp=>absurd (show p∈([]:List (Addr×Obj)) from hp) (by simp),e0.hok.kept hk,?_⟩
 .exact name_of_addr x.apart (K1 h1) (K1 h2)
 .have hy:scope.names.lookup y=some .cell\/scope.names.lookup y=some .free:=hy
  rcases hy with hy|hy
  .exact N9 hy
  .exact absurd rfl (S.nofree _ (K1 hy))
 .exact Ez (x.above y c (K1 h))
 .have hi:i<vs.length:=by
   unfold FA at h2
   by_cases hi:i<vs.length
   .exact hi
   .rw[BQ (by simpa using hi)]at h2
    rw[List.getElem?_replicate]at h2
    split at h2<;>cases h2
  have ha:vs[i]?=some v:=by
   unfold FA at h2
   rw[C2 (by simpa using hi),C3]at h2
   cases e:vs[i]? with
   |none=>rw[e]at h2;cases h2
   |some a=>rw[e]at h2;cases h2;rfl
  obtain⟨u,hu,rv⟩:=r.get ha
  have hp:ps[i]?=some y:=by
   rw[←S.pre,Dy (by omega)];exact h1
  have ndP:ps.Nodup:=by rw[←S.pre];exact S.nd.sublist (List.take_sublist _ _)
  refine⟨u,rv,?_⟩
  rcases S.par y (Bf hp) with k|k
  .exact .inl ⟨k,MN ndP hp hu k⟩
  .obtain⟨c,e⟩:=N9 (n:=s.heap.objs.size+1) k
   refine .inr ⟨.inl k,c,e,?_⟩
   have q:=x.cell y c e
   rw[NI ndP hp hu (by show scope.names.lookup y≠_;rw[k];decide)]at q
   exact q
 .exact e0.hok.fresh (Ez (x.above y c (K1 h)))
 .unfold FA
  show _=N.length
  rw[Ap,Al,CN]
  omega
theorem Uo {CX:Ed}{P:Program}{w:World}{K:PySem.W.Frag}{mg:Str->Option Value}{base:Heap}{k:Nat}{f:Addr}{name qual:Str}{params:Arguments}{body:List Stmt}{scope:Scope}{dV kV doc pm cdv ct oc:Value}{an od:Option Addr}
  {osl:Array (Option Value)} {N ps:List Str} {sp:Sp} (lk:K.lookup f=some ⟨oc,od,.func (PySem.W.fnOf name qual params body scope dV kV doc pm an cdv ct),osl⟩) (hcd:PySem.W.codeIn K cdv qual=true) (S:BY N ps scope)
  (len:∀vs H Q E,sp vs H Q E->vs.length=ps.length)
  (hbody:∀(A:Around) (outer:List Env) (s:Shared) (H:Hp) (vs:List V) (Q:VK) (E:XK),CC k (A.deeper (envOfC qual scope s.heap.objs.size f cdv))->sp vs H Q E->
   ∃t,E3 (Gy CX P w K mg base N qual scope f cdv A outer s H E) body t/\t {nx:=fun _ H'=>Q .non H',rt:=Q} (FA N vs) H) :
  Bz P w K mg base CX (k+1) f (PySem.W.fnOf name qual params body scope dV kV doc pm an cdv ct) ps sp:=by
 refine⟨len,fun A outer s H args us vs Q E hr e0 hb r hsp=>?_⟩
 have hl:=len _ _ _ _ hsp
 have KX:K.In s.heap:=e0.mod.kin.keeps fun b o e=>(e0.bs b o e).1
 have lim:s.heap.NoLimit:=e0.mod.nolimit.keeps fun b o e=>(e0.bs b o e).1
 have hkind:∀y∈ps.zip us,scope.names.lookup y.1=some .local\/(scope.names.lookup y.1=some .cell/\((cellsFrom (s.heap.objs.size+1) scope.names []).lookup y.1).isSome=true):=fun⟨n,v⟩ hy=>by
  rcases S.par n (OQ hy).1 with q|q
  .exact .inl q
  .exact .inr ⟨q,PySem.W.cellsFrom_some _ _ _ (.inl q)⟩
 refine codeAny_call_function hr.depth (KX _ _ lk) rfl S.co S.gen rfl (PySem.W.codeRec_of KX hcd) (hb _ _ _ _ ?_)
 refine wpAny_newFunctionEnv_cells S.kind hkind fun env he s1 x=>?_
 subst he
 refine⟨lim.keeps x.toInCall.keep,codeAny_func ?_⟩
 obtain⟨t,ht,hq⟩:=hbody A outer s H vs Q E (hr.deeper _) hsp
 have I:A6 (Gy CX P w K mg base N qual scope f cdv A outer s H E) [] (FA N vs) H s1:=Q2 S hr.hd e0 hl r x
 refine EY (ht [] s1 (FA N vs) H _ I hq) (fun fl s' hs=>?_) fun e s' hs=>hs
 have fin:∀{σ':St} {H':Hp} {v:V} {u:Value},A6 (Gy CX P w K mg base N qual scope f cdv A outer s H E) [] σ' H' s'->AM v u->Q v H'->CE outer P w H s Q u s':=
  fun{σ' H' v u} J rv q=>⟨v,H',J.os,J.bare,J.base,J.hok,rv,q⟩
 cases fl with
 |
  ret u=>
  obtain⟨v,σ',H',J,rv,q⟩:=hs
  exact fin J rv q
 |
  next=>
  obtain⟨σ',H',J,q⟩:=hs
  exact fin (v:=V.non) (u:=Value.none) J rfl q
 |
  brk=>
  obtain⟨_,_,_,q⟩:=hs
  exact False.elim q
 |
  cont=>
  obtain⟨_,_,_,q⟩:=hs
  exact False.elim q
section
variable {X:Cx}{x:Str}{p pos:Pos}{e:Expr}{es:List Expr}{t:TA}{id T:String}{r:List V->Hp->VK->Prop}
def Kx (r:List V->Hp->VK->Prop)(t:TA):TE:=fun σ H Q=>t σ H fun vs H1=>r vs H1 Q
theorem AE (hc:Dh X (.builtin id) r)(hg:Gl X x)(hm:X.mg x=none)(hv:bootBuiltins x=some (.builtin id))(ha:PA X (e::es) t)(hn:x≠"__name__":=by decide)(hdb:(x==("__debug__":Str))=false:=by decide)
  (he:starEach (e::es) X.env=(false,eval e X.env)::starEach es X.env:=by rfl) (hpl:(backTo pos (starEach es X.env)).any (·.1)=false:=by rfl):PE X (.Call (.Name x p) (e::es) [] pos) (Kx r t):=by
 intro pins s σ H Q I h
 refine K9 (Fg I hg hm hv ?_ hn hdb)
 exact PyProof.Rows.callWith_builtin1 (AC (ha pos pins s σ H _ I h) fun us s1 ⟨vs,H1,I1,r1,q1⟩=>hc pins s1 σ H1 vs us Q I1 r1 q1) he hpl
theorem Dg (hc:Dh X (.type T) r)(hg:Gl X x)(hm:X.mg x=none)(hv:bootBuiltins x=some (.type T))(ha:PA X (e::es) t)(hn:x≠"__name__":=by decide)(hdb:(x==("__debug__":Str))=false:=by decide)
  (he:starEach (e::es) X.env=(false,eval e X.env)::starEach es X.env:=by rfl) (hpl:(backTo pos (starEach es X.env)).any (·.1)=false:=by rfl):PE X (.Call (.Name x p) (e::es) [] pos) (Kx r t):=by
 intro pins s σ H Q I h
 refine K9 (Fg I hg hm hv ?_ hn hdb)
 exact Ha (AC (ha pos pins s σ H _ I h) fun us s1 ⟨vs,H1,I1,r1,q1⟩=>hc pins s1 σ H1 vs us Q I1 r1 q1) he hpl
end
end L2
namespace HT
open PySem PyProof.Rows
section
open PySem.SeqAt
open PySem.AutoSeq1 (wpAny_loadPart')
open PySem.MeetsSeq PySem.MeetsSeq2 PySem.MeetsSeq3
end
section
variable {prog:Program}{w:World}{A:Around}{E:Value->Shared->Prop}{s:Shared}
theorem cat_tup {t b:Addr}{vs ws:List Value}{Q:Value->Shared->Prop}(ht:IsTup s.heap t vs.toArray)(hb:IsTup s.heap b ws.toArray)(hv:vs≠[])
  (h1:ws=[]->Q (.ref t) s) (h2:ws≠[]->Q (.ref s.heap.objs.size) {s with heap:=s.heap.push {cls:=.type "tuple",data:=.seq (vs++ws).toArray}})
  (hsz:vs.length+ws.length<=sizeLine):wpAny (model prog w) A (binaryOp .Add (.ref t) (.ref b)) Q E s:=by
 obtain⟨⟨cls,dd,data,sl⟩,ho,hc,n,hd⟩:=id ht
 obtain⟨⟨cls2,dd2,data2,sl2⟩,ho2,hc2,n2,hd2⟩:=id hb
 simp only at hc hd hc2 hd2
 subst hc hd hc2 hd2
 have e:vs.toArray++ws.toArray=(vs++ws).toArray:=by simp
 by_cases hw:ws=[]
 .exact concat_meets ⟨_,ho,rfl⟩ ⟨_,ho2,rfl⟩ P8 seq_tuple_add OR OS (OT _ _)
   (tuple_addW1 t b vs.toArray ws.toArray n n2 dd dd2 sl sl2 (by simpa using hv) (by simp[hw])) ⟨ho,ho2,h1 hw⟩
 .refine concat_meets ⟨_,ho,rfl⟩ ⟨_,ho2,rfl⟩ P8 seq_tuple_add OR OS (OT _ _)
   (tuple_addW2 t b vs.toArray ws.toArray n n2 dd dd2 sl sl2 (by simpa using hv) (by simpa using hw) (by rw[Bh,Bh];exact hsz)) ⟨ho,ho2,?_⟩
  rw[e]
  exact h2 hw
def sIx (n d:Nat):Option Int->Nat
 |none=>d
 |some v=>if v<0 then(v+(n:Int)).toNat else min v.toNat n
theorem sIx_none (n d:Nat):sIx n d none=d:=rfl
theorem sIx_nat (n d k:Nat):sIx n d (some (k:Int))=min k n:=by
 show(if(k:Int)<0 then((k:Int)+(n:Int)).toNat else min (k:Int).toNat n)=min k n
 rw[AQ (by omega),Gc]
theorem RY (n d:Nat)(hd:d<=n)(o:Option Int):sIx n d o<=n:=by
 cases o with
 |none=>exact hd
 |
  some v=>
  show(if v<0 then(v+(n:Int)).toNat else min v.toNat n)<=n
  by_cases hv:v<0
  .rw[AW hv];omega
  .rw[AQ hv];exact Nat.min_le_right _ _
theorem Mp (v:Int)(n d:Nat):(if v<0 then max (v+(n:Int)) 0 else min v (n:Int))=((sIx n d (some v):Nat):Int):=by
 show(if v<0 then max (v+(n:Int)) 0 else min v (n:Int))=(((if v<0 then(v+(n:Int)).toNat else min v.toNat n):Nat):Int)
 by_cases hv:v<0
 .simp only[AW hv];omega
 .simp only[AQ hv];omega
theorem QH (lo hi:Option Int)(n:Nat):Builtin.Slice.sliceAdjust lo hi 1 (n:Int)=(((sIx n 0 lo:Nat):Int),((sIx n n hi:Nat):Int)):=by
 have h1:¬((1:Int)<0):=by omega
 unfold Builtin.Slice.sliceAdjust
 simp only[h1,IY]
 refine Prod.ext ?_ ?_
 .cases lo with
  |none=>rfl
  |some v=>exact Mp v n 0
 .cases hi with
  |none=>rfl
  |some v=>exact Mp v n n
theorem RQ (i j:Nat):Builtin.Slice.slicePlaces (i:Int) (j:Int) 1=j-i:=by
 unfold Builtin.Slice.slicePlaces
 have h1:(1:Int)>0:=by omega
 simp only[h1,if_true,Int.ediv_one]
 split<;>omega
theorem MP {v:Value}{o:Option Int}{Q:Option Int->Shared->Prop}(p:IsPart v o)(h:Q o s):wpAny (model prog w) A (Builtin.Slice.slicePartIndex v) Q E s:=by
 cases p with
 |none=>exact slicePart_none h
 |int i t=>exact slicePart_int h
theorem Nl {sl:Addr}{vl vu:Value}{lo hi:Option Int}{n:Nat}{Q:Int×Int×Nat->Shared->Prop}(hs:s.heap.IsSliceOf sl vl vu .none)(pl:IsPart vl lo)(pu:IsPart vu hi)
  (h:Q (((sIx n 0 lo:Nat):Int),1,sIx n n hi-sIx n 0 lo) s):wpAny (model prog w) A (Builtin.Slice.sliceApplied (.ref sl) (pure (n:Int))) Q E s:=by
 obtain⟨os,hos,hcs,hds⟩:=id hs
 unfold Builtin.Slice.sliceApplied Builtin.Slice.sliceFields
 refine An (An (Gm hos hds (x:=vl) rfl (An (Gm hos hds (x:=vu) rfl (An (Gm hos hds (x:=.none) rfl (AZ ?_)))))))
 refine An (slicePart_none ?_)
 show wpAny _ _ (if((1:Int)==0)=true then _ else _) _ _ s
 rw[AQ (by decide)]
 refine An (MP pl (An (MP pu (An (AZ ?_)))))
 show wpAny _ _ (match Builtin.Slice.sliceAdjust lo hi 1 (n:Int) with|(lo,hi)=>pure (lo,(1:Int),Builtin.Slice.slicePlaces lo hi 1)) _ _ s
 rw[QH lo hi n]
 show wpAny _ _ (pure (((sIx n 0 lo:Nat):Int),(1:Int),Builtin.Slice.slicePlaces ((sIx n 0 lo:Nat):Int) ((sIx n n hi:Nat):Int) 1)) _ _ s
 rw[RQ]
 exact AZ h
theorem TF (xs:Array Value)(i k:Nat):((List.range k).filterMap fun(m:Nat)=>xs[((i:Int)+(m:Int)*1).toNat]?).toArray=((xs.toList.drop i).take k).toArray:=by
 have e:(fun(m:Nat)=>xs[((i:Int)+(m:Int)*1).toNat]?)=fun m=>xs[i+m]?:=by
  funext m
  have:((i:Int)+(m:Int)*1).toNat=i+m:=by omega
  rw[this]
 rw[e]
 have:=pick_run xs i k
 rw[List.filterMap_map]at this
 have e2:((fun x=>xs[x]?)∘fun x=>i+x)=fun m=>xs[i+m]?:=rfl
 rw[e2]at this
 rw[this]
theorem getItem_tuple_cut {t sl:Addr}{items:Array Value}{vl vu:Value}{lo hi:Option Int}{Q:Value->Shared->Prop}(ht:IsTup s.heap t items)(hs:s.heap.IsSliceOf sl vl vu .none)(pl:IsPart vl lo)(pu:IsPart vu hi)
  (hw:¬(sIx items.size 0 lo=0/\sIx items.size items.size hi=items.size))
  (h:Q (.ref s.heap.objs.size) {s with heap:=s.heap.push {cls:=.type "tuple",data:=.seq ((items.toList.drop (sIx items.size 0 lo)).take (sIx items.size items.size hi-sIx items.size 0 lo)).toArray}})
  (hsz:items.size<=sizeLine):wpAny (model prog w) A (getItem (.ref t) (.ref sl)) Q E s:=by
 have htake:sizeOk (.seq ((items.toList.drop (sIx items.size 0 lo)).take (sIx items.size items.size hi-sIx items.size 0 lo)).toArray):=by
  show((items.toList.drop (sIx items.size 0 lo)).take (sIx items.size items.size hi-sIx items.size 0 lo)).toArray.size<=sizeLine
  rw[Bh,Ar,Ck,OP]
  omega
 have hj:sIx items.size items.size hi<=items.size:=RY _ _ (Ak _) hi
 obtain⟨os,hos,hcs,hds⟩:=id hs
 have hTs:s.TypeIs (.ref sl) "slice":=⟨os,hos,hcs⟩
 unfold getItem
 try with_reducible refine Hk ?_
 first|refine An (AZ ?_)|skip
 refine An (wpAny_sequenceKey ht.typeIs (by decide) ?_)
 refine An (wpAny_callSpecial?_slot (name:=Str.ofString "__getitem__") ht.typeIs LQ
  (Ma LQ ht.typeIs entry_tuple_getitem ?_ (args_tuple_getitem _ _)))
 show wpAny _ _ (Builtin.Tuple.tupleItemsOf (.ref t)>>=_) _ _ s
 refine An (tupleItemsOf_ ht ?_)
 refine An (wpAny_typeOf hTs ?_)
 rw[AW (by decide)]
 refine An (Nl hs pl pu ?_)
 have hno:¬((((sIx items.size 0 lo:Nat):Int)==0&&(1:Int)==1&&(sIx items.size items.size hi-sIx items.size 0 lo)==items.size)=true):=by
  intro q
  rw[ET,ET]at q
  have q1:((sIx items.size 0 lo:Nat):Int)=0:=eq_of_beq q.1.1
  have q2:sIx items.size items.size hi-sIx items.size 0 lo=items.size:=eq_of_beq q.2
  exact hw ⟨by omega,by omega⟩
 show wpAny _ _ (if(((sIx items.size 0 lo:Nat):Int)==0&&(1:Int)==1&&(sIx items.size items.size hi-sIx items.size 0 lo)==items.size)=true then _ else _) _ _ s
 rw[AQ hno,TF]
 first
  |exact An (m:=Builtin.Tuple.tupleExact _) (Ka (AZ ⟨_,rfl,AZ h⟩) htake)
  |exact An (m:=Builtin.Tuple.tupleExact _) (Ka (An (AZ (AZ ⟨_,rfl,AZ h⟩))) htake)
  |exact An (An (m:=Builtin.Tuple.tupleExact _) (Ka (AZ (AZ ⟨_,rfl,AZ h⟩)) htake))
  |exact An (An (m:=Builtin.Tuple.tupleExact _) (Ka (AZ ⟨_,rfl,AZ h⟩) htake))
end
end HT
namespace L2
open PySem PySem.Spec PyProof.Rows
abbrev TO:=St->Hp->(Option Int->Hp->Prop)->Prop
def PO (X:Cx)(e:Option Expr)(t:TO):Prop:=
 ∀(pins:List (Addr×Obj)) (s:Shared) (σ:St) (H:Hp) (Q:Option Int->Hp->Prop),A6 X pins σ H s->t σ H Q->
  wpAny (model X.prog X.w) X.A (evalPart e X.env) (fun u s'=>∃o H',A6 X pins σ H' s'/\IsPart u o/\Q o H') X.xe s
def KH:TO:=fun _ H Q=>Q none H
def Ke (t:TE):TO:=fun σ H Q=>t σ H fun x H1=>∃i,x = .int i/\Q (some i) H1
section
variable {X:Cx}{e:Expr}{te:TE}{lo hi:Option Expr}{tl th:TO}{pos p2:Pos}
theorem Bv:PO X none KH:=by
 intro pins s σ H Q I h
 rw[evalPart_none]
 exact AZ ⟨none,H,I,.none,h⟩
theorem Bq (h:PE X e te):PO X (some e) (Ke te):=by
 intro pins s σ H Q I hw
 rw[evalPart_some]
 refine AC (h pins s σ H _ I hw) fun u s1 ⟨x,H1,I1,r1,q1⟩=>?_
 obtain⟨i,rfl,q⟩:=q1
 obtain⟨t,rfl⟩:=r1
 exact⟨some i,H1,I1,.int i t,q⟩
def J6 (X:Cx)(r:V->Option Int->Option Int->Hp->VK->Prop):Prop:=
 ∀(pins:List (Addr×Obj)) (s:Shared) (σ:St) (H:Hp) (x:V) (v vl vu:Value) (lo hi:Option Int) (sl:Addr) (Q:VK),A6 X pins σ H s->AM x v->s.heap.IsSliceOf sl vl vu .none->IsPart vl lo->IsPart vu hi->r x lo hi H Q->
  ∃T id,typeLookup (.type T) "__getitem__"=pure (some (.builtin id))/\s.TypeIs v T/\wpAny (model X.prog X.w) X.A (getItem v (.ref sl)) (EP X pins σ Q) X.xe s
def Lh (r:V->Option Int->Option Int->Hp->VK->Prop)(te:TE)(tl th:TO):TE:=fun σ H Q=>te σ H fun x H1=>tl σ H1 fun l H2=>th σ H2 fun u H3=>r x l u H3 Q
theorem Bt {r:V->Option Int->Option Int->Hp->VK->Prop}(hr:J6 X r)(he:PE X e te)(hl:PO X lo tl)(hu:PO X hi th):PE X (.Subscript e (.Slice lo hi none p2) pos) (Lh r te tl th):=by
 intro pins s σ H Q I h
 refine Subscript_ (AC (he pins s σ H _ I h) fun v s1 ⟨x,H1,I1,r1,q1⟩=>?_)
 refine wpAny_Slice (AC (hl pins s1 σ H1 _ I1 q1) fun vl s2 ⟨l,H2,I2,pl,q2⟩=>AC (hu pins s2 σ H2 _ I2 q2) fun vu s3 ⟨u,H3,I3,pu,q3⟩=>?_)
 rw[evalPart_none]
 refine AZ ?_
 have I4:A6 X pins σ H3 {s3 with heap:=s3.heap.push {cls:=.type "slice",data:=.fields #[vl,vu,.none]}}:=I3.kept (t':=s3.toks) fun b ob q=>Be _ q
 obtain⟨T,id,hT,ht,hg⟩:=hr pins {s3 with heap:=s3.heap.push {cls:=.type "slice",data:=.fields #[vl,vu,.none]}} σ H3 x v vl vu l u s3.heap.objs.size Q I4 r1 (Heap.IsSliceOf.new ..) pl pu q3
 show wpAny (model X.prog X.w) X.A (subscriptTail e (.Slice lo hi none p2) v (.ref s3.heap.objs.size)) (EP X pins σ Q) X.xe {s3 with heap:=s3.heap.push {cls:=.type "slice",data:=.fields #[vl,vu,.none]}}
 exact tail_any (ops:=[.ref s3.heap.objs.size,v]) ht hT hg (by with_unfolding_all rfl)
def AL (xs:List V)(lo hi:Option Int):List V:=(xs.drop (HT.sIx xs.length 0 lo)).take (HT.sIx xs.length xs.length hi-HT.sIx xs.length 0 lo)
theorem Od (xs:List V)(lo hi:Option Int):(AL xs lo hi).length<=xs.length:=by
 unfold AL
 rw[Ar,Ck]
 omega
def QE (K:PySem.W.Frag):V->Option Int->Option Int->Hp->VK->Prop:=fun x lo hi H Q=>∃a xs,x = .ref a/\A9 K H a xs/\
 ¬(HT.sIx xs.length 0 lo=0/\HT.sIx xs.length xs.length hi=xs.length)/\∀p,H p=none->Q (.ref p) (upd H p (.tup (AL xs lo hi)))
theorem Tp:J6 X (QE X.K):=by
 intro pins s σ H x v vl vu lo hi sl Q I rx hs pl pu h
 obtain⟨a,xs,rfl,hx,hw,q⟩:=h
 cases rx
 obtain⟨its,r,ht,hz⟩:=I.tuple hx
 have hlen:its.toArray.size=xs.length:=by rw[Bh];exact r.length.symm
 refine⟨"tuple",_,PyProof.Rows.slot_tuple_getitem.lookup,ht.typeIs,?_⟩
 refine HT.getItem_tuple_cut ht hs pl pu (by rw[hlen];exact hw) ?_ (by rw[hlen];exact hz)
 rw[hlen]
 refine⟨.ref s.heap.objs.size,_,I.laid (t':=s.toks) (o:=.tup (AL xs lo hi)) (fun b ob q=>Be _ q) (Ak _) ?_,rfl,q _ (I.hok.fresh (Ak _))⟩
 exact⟨Ey (Od xs lo hi) hz,_,(r.drop (HT.sIx xs.length 0 lo)).take (HT.sIx xs.length xs.length hi-HT.sIx xs.length 0 lo),DY.new _ _⟩
def RK (K:PySem.W.Frag):R2:=fun x y H Q=>∃a b xs ys,x = .ref a/\y = .ref b/\A9 K H a xs/\A9 K H b ys/\xs≠[]/\xs.length+ys.length<=sizeLine/\
 (ys=[]->Q (.ref a) H)/\(ys≠[]->∀p,H p=none->Q (.ref p) (upd H p (.tup (xs++ys))))
theorem Aq.nil_iff {xs:List V}{us:List Value}(r:Aq xs us):us=[]↔xs=[]:=by
 cases r with
 |nil=>simp
 |cons _ _=>simp
theorem U7:BE X (binaryOp .Add) (RK X.K):=by
 intro pins s σ H x y v u Q I rx ry h
 obtain⟨a,b,xs,ys,rfl,rfl,ha,hb,hx,hz,q1,q2⟩:=h
 cases rx
 cases ry
 obtain⟨its,r1,p1,_⟩:=I.tuple ha
 obtain⟨its2,r2,p2,_⟩:=I.tuple hb
 refine HT.cat_tup p1 p2 (fun z=>hx (r1.nil_iff.mp z)) (fun z=>⟨.ref a,H,I,rfl,q1 (r2.nil_iff.mp z)⟩) (fun z=>?_) (by rw[←r1.length,←r2.length];exact hz)
 refine⟨.ref s.heap.objs.size,_,I.laid (t':=s.toks) (o:=.tup (xs++ys)) (fun b ob q=>Be _ q) (Ak _) ?_,rfl,q2 (fun w=>z (r2.nil_iff.mpr w)) _ (I.hok.fresh (Ak _))⟩
 exact⟨by rw[Ap];exact hz,_,r1.append r2,DY.new _ _⟩
end
def Fn (n:Nat)(i:Int):Option Nat:=if 0<=i then(if i<n then some i.toNat else none) else if -(n:Int)<=i then some (i+n).toNat else none
def C6 {α:Type}(xs:List α)(i:Int):Option α:=(Fn xs.length i).bind fun j=>xs[j]?
theorem Qg {n:Nat}{i:Int}{j:Nat}(h:Fn n i=some j):seqIndex? i n=some j/\j<n/\-(n:Int)<=i/\i<n:=by
 unfold Fn at h
 by_cases h0:0<=i
 .rw[AW h0]at h
  by_cases h1:i<n
  .rw[AW h1]at h
   have e:i.toNat=j:=Dx h
   exact⟨by rw[seqIndex_of h0 h1,e],by omega,by omega,h1⟩
  .rw[AQ h1]at h;cases h
 .rw[AQ h0]at h
  by_cases h1 : -(n:Int)<=i
  .rw[AW h1]at h
   have e:(i+n).toNat=j:=Dx h
   exact⟨by rw[seqIndex_neg (by omega) h1,e],by omega,h1,by omega⟩
  .rw[AQ h1]at h;cases h
theorem Ld {α:Type}{xs:List α}{i:Int}{v:α}(h:C6 xs i=some v):∃j,seqIndex? i xs.length=some j/\xs[j]?=some v/\j<xs.length/\-(xs.length:Int)<=i/\i<xs.length:=by
 unfold C6 at h
 cases e:Fn xs.length i with
 |none=>rw[e]at h;cases h
 |
  some j=>
  rw[e]at h
  obtain⟨h1,h2,h3,h4⟩:=Qg e
  exact⟨j,h1,h,h2,h3,h4⟩
theorem Bx {α:Type}{xs:List α}{j:Nat}{v:α}(h:xs[j]?=some v):C6 xs (j:Int)=some v:=by
 have hj:j<xs.length:=(Ay.mp h).1
 have e:Fn xs.length (j:Int)=some j:=by
  unfold Fn
  rw[AW (by omega),AW (by omega)];simp
 unfold C6;rw[e];exact h
theorem LD {α:Type}(xs:List α)(v:α):C6 (xs++[v]) (-1)=some v:=by
 have hl:(xs++[v]).length=xs.length+1:=by simp
 have e:Fn (xs++[v]).length (-1)=some xs.length:=by
  unfold Fn
  rw[hl,AQ (by decide),AW (by omega)]
  congr 1
  omega
 unfold C6
 rw[e]
 show(xs++[v])[xs.length]?=some v
 simp
def UL (b:Expr):Prop := ∀o i,subscripted b false o i=operate [o,i] (getItem o i)
def CS (X:Cx)(r:R2):Prop:=
 ∀(value slice:Expr) (pins:List (Addr×Obj)) (s:Shared) (σ:St) (H:Hp) (x y:V) (v u:Value) (Q:VK),A6 X pins σ H s->AM x v->AM y u->r x y H Q->
  subscripted slice false v u=operate [v,u] (getItem v u)->wpAny (model X.prog X.w) X.A (subscriptTail value slice v u) (EP X pins σ Q) X.xe s
def Nc (X:Cx)(id:String)(r:V->List V->Hp->VK->Prop):Prop:=
 ∀(pins:List (Addr×Obj)) (s:Shared) (σ:St) (H:Hp) (x:V) (xs:List V) (v:Value) (us:List Value) (Q:VK),A6 X pins σ H s->AM x v->Aq xs us->r x xs H Q->
  wpAny (model X.prog X.w) X.A (call (.builtin id) (v::us)) (EP X pins σ Q) X.xe s
section
variable {X:Cx}{a b:Expr}{ta tb:TE}{pos:Pos}
theorem Ah {r:R2}(hr:CS X r)(ha:PE X a ta)(hb:PE X b tb)(hs:UL b):PE X (.Subscript a b pos) (Ft r ta tb):=by
 intro pins s σ H Q I h
 exact Subscript_ (LH ha hb I h fun v u s2 x y H2 I2 rx ry q=>hr a b pins s2 σ H2 x y v u Q I2 rx ry q (hs _ _))
def Iv (K:PySem.W.Frag):R2:=fun x y H Q=>∃p xs i v,x = .ref p/\y = .int i/\A4 K H p xs/\C6 xs i=some v/\Q v H
def DM (K:PySem.W.Frag):R2:=fun x y H Q=>∃p xs i v,x = .ref p/\y = .int i/\A9 K H p xs/\C6 xs i=some v/\Q v H
def Rx:R2:=fun x y H Q=>∃z i c,x = .str z/\y = .int i/\z.length<=sizeLine/\C6 z.cps.toList i=some c/\Q (.str ⟨#[c]⟩) H
theorem Bg:CS X (Iv X.K):=by
 intro value slice pins s σ H x y v u Q I rx ry h hs
 obtain⟨p,xs,i,z,rfl,rfl,hq,he,q⟩:=h
 cases rx
 obtain⟨t,rfl⟩:=ry
 obtain⟨its,r,pl,hz⟩:=I.list hq
 obtain⟨j,h1,h2,h3,h4,h5⟩:=Ld he
 obtain⟨w,ew,rw'⟩:=r.get h2
 have hl:=r.length
 have hn:=J9
 have fin:EP X pins σ Q w s:=⟨z,H,I,rw',q⟩
 by_cases h0:0<=i
 .have hj:i.toNat=j:=by
   rw[seqIndex_of h0 h5]at h1
   exact Dx h1
  exact item_listR pl.isList h0 (by omega) (by rw[hj];simpa using ew) fin hs
 .have hj:(i+(its.toArray.size:Int)).toNat=j:=by
   rw[seqIndex_neg (by omega) h4]at h1
   rw[Bh,←hl]
   exact Dx h1
  exact subscriptTail_builtinR (x:=w) pl.isList.typeIs slot_list_getitem.lookup
   (wpAny_getItem_list_neg (Q:=fun r s'=>r=w/\EP X pins σ Q r s') pl.isList (by omega) (by rw[Bh]<;>omega) (by omega) (by rw[hj];simpa using ew) ⟨rfl,fin⟩) hs
theorem AG:CS X (DM X.K):=by
 intro value slice pins s σ H x y v u Q I rx ry h hs
 obtain⟨p,xs,i,z,rfl,rfl,hq,he,q⟩:=h
 cases rx
 obtain⟨t,rfl⟩:=ry
 obtain⟨its,r,pl,hz⟩:=I.tuple hq
 obtain⟨j,h1,h2,h3,h4,h5⟩:=Ld he
 obtain⟨w,ew,rw'⟩:=r.get h2
 have hl:=r.length
 have hn:=J9
 have fin:EP X pins σ Q w s:=⟨z,H,I,rw',q⟩
 exact subscriptTail_builtinR (x:=w) pl.typeIs slot_tuple_getitem.lookup
  (getItem_tuple (j:=j) (Q:=fun r s'=>r=w/\EP X pins σ Q r s') pl (by omega) (by omega) (by rw[Bh,←hl];exact h1) (by simpa using ew) ⟨rfl,fin⟩) hs
theorem O7:CS X Rx:=by
 intro value slice pins s σ H x y v u Q I rx ry h hs
 obtain⟨z,i,c,rfl,rfl,hz,he,q⟩:=h
 obtain⟨t,rfl⟩:=rx
 obtain⟨t',rfl⟩:=ry
 obtain⟨j,h1,h2,h3,h4,h5⟩:=Ld he
 have hl:z.cps.toList.length=z.length:=by simp[Str.length]
 rw[hl]at h1 h4 h5
 have hn:=J9
 exact tail_any (typeIs_str s z t) slot_str_getitem.lookup (getItem_str (c:=c) (by
  have e1:decide (i < -(2 ^ 63:Int))=false:=Cv (by omega)
  have e2:decide (i≥2 ^ 63)=false:=Cv (by omega)
  rw[e1,e2,Bool.or_false]) (by rw[h1];simpa using h2) ⟨.str ⟨#[c]⟩,H,I.tok _,⟨_,rfl⟩,q⟩) hs
theorem Pq (lo hi:Option Int)(n:Nat):(sliceBounds lo hi none n).1=((HT.sIx n 0 lo:Nat):Int)/\(sliceBounds lo hi none n).2.1=((HT.sIx n n hi:Nat):Int)/\(sliceBounds lo hi none n).2.2=1:=by
 refine⟨?_,?_,rfl⟩
 .cases lo with
  |none=>simp[sliceBounds,HT.sIx]
  |
   some i=>
   simp only[sliceBounds,HT.sIx,Option.getD_none,show(1:Int)>0 by decide,if_true]
   by_cases h:i<0
   .simp only[h,if_true]<;>omega
   .simp only[h,IY]<;>omega
 .cases hi with
  |none=>simp[sliceBounds,HT.sIx]
  |
   some i=>
   simp only[sliceBounds,HT.sIx,Option.getD_none,show(1:Int)>0 by decide,if_true]
   by_cases h:i<0
   .simp only[h,if_true]<;>omega
   .simp only[h,IY]<;>omega
theorem Pp (its:List Value)(lo hi:Option Int):slicePick its.toArray lo hi none=((its.drop (HT.sIx its.length 0 lo)).take (HT.sIx its.length its.length hi-HT.sIx its.length 0 lo)).toArray:=by
 obtain⟨h1,h2,h3⟩:=Pq lo hi its.toArray.size
 unfold slicePick
 rw[h1,h2,h3]
 simp only[sliceRange_one,pick_run,Bh]<;>rfl
def UB (K:PySem.W.Frag):V->Option Int->Option Int->Hp->VK->Prop:=fun x lo hi H Q=>∃a xs,x = .ref a/\A4 K H a xs/\∀p,H p=none->Q (.ref p) (upd H p (.lst (AL xs lo hi)))
theorem CT:J6 X (UB X.K):=by
 intro pins s σ H x v vl vu lo hi sl Q I rx hs pl pu h
 obtain⟨a,xs,rfl,hx,q⟩:=h
 cases rx
 obtain⟨its,r,ht,hz⟩:=I.list hx
 have hlen:=r.length
 refine⟨"list",_,slot_list_getitem.lookup,ht.isList.typeIs,?_⟩
 refine wpAny_getItem_list_slice ht.isList hs pl pu .none (by simp) ?_ (by rw[Bh]<;>omega)
 rw[Pp,←hlen]
 refine⟨.ref s.heap.objs.size,_,I.laid (t':=s.toks) (o:=.lst (AL xs lo hi)) (fun b ob q=>Be _ q) (Ak _) ?_,rfl,q _ (I.hok.fresh (Ak _))⟩
 exact⟨Ey (Od xs lo hi) hz,_,0,(r.drop (HT.sIx xs.length 0 lo)).take (HT.sIx xs.length xs.length hi-HT.sIx xs.length 0 lo),Cy _ rfl⟩
def E6:V->Bool
 |.non=>true
 |.bl _=>true
 |.int _=>true
 |.str _=>true
 |_=>false
def DP:V->V->Bool
 |.non,.non=>true
 |.bl a,.bl b=>a==b
 |.bl a,.int b=>(if a then 1 else 0)==b
 |.int a,.bl b=>a==(if b then 1 else 0)
 |.int a,.int b=>a==b
 |.str a,.str b=>a==b
 |_,_=>false
theorem Lr {A:Around}{s:Shared}{y x:V}{u v:Value}(ry:AM y u)(rx:AM x v)(fy:E6 y=true)(fx:E6 x=true):SeqAt.EqAt A s u v (DP y x):=by
 cases y with
 |
  non=>
  cases ry
  cases x with
  |non=>cases rx;exact SeqAt.EqAt.same _
  |bl b=>cases rx;exact SeqAt.EqAt.none_bool b
  |int b=>obtain⟨t,rfl⟩:=rx;exact SeqAt.EqAt.none_int b t
  |str b=>obtain⟨t,rfl⟩:=rx;exact SeqAt.EqAt.none_str b t
  |_=>exact absurd (show false=true from fx) Cu
 |
  bl a=>
  cases ry
  cases x with
  |non=>cases rx;exact SeqAt.EqAt.bool_none a
  |bl b=>cases rx;exact SeqAt.EqAt.bool_bool a b
  |int b=>obtain⟨t,rfl⟩:=rx;exact SeqAt.EqAt.bool_int a b t
  |str b=>obtain⟨t,rfl⟩:=rx;exact SeqAt.EqAt.bool_str a b t
  |_=>exact absurd (show false=true from fx) Cu
 |
  int a=>
  obtain⟨t',rfl⟩:=ry
  cases x with
  |non=>cases rx;exact SeqAt.EqAt.int_none a t'
  |bl b=>cases rx;exact SeqAt.EqAt.int_bool a t' b
  |int b=>obtain⟨t,rfl⟩:=rx;exact SeqAt.EqAt.int_int a t' b t
  |str b=>obtain⟨t,rfl⟩:=rx;exact SeqAt.EqAt.int_str a t' b t
  |_=>exact absurd (show false=true from fx) Cu
 |
  str a=>
  obtain⟨t',rfl⟩:=ry
  cases x with
  |non=>cases rx;exact SeqAt.EqAt.str_none a t'
  |bl b=>cases rx;exact SeqAt.EqAt.str_bool a t' b
  |int b=>obtain⟨t,rfl⟩:=rx;exact SeqAt.EqAt.str_int a t' b t
  |str b=>obtain⟨t,rfl⟩:=rx;exact SeqAt.EqAt.str_str a t' b t
  |_=>exact absurd (show false=true from fx) Cu
 |_=>exact absurd (show false=true from fy) Cu
def F0 (x:V)(u:Value):Bool:=match u with
 |.none=>DP .non x
 |.bool b=>DP (.bl b) x
 |.int i _=>DP (.int i) x
 |.str z _=>DP (.str z) x
 |_=>false
theorem MG {x y:V}{u:Value}(r:AM y u)(f:E6 y=true):F0 x u=DP y x:=by
 cases y with
 |non=>cases r;rfl
 |bl b=>cases r;rfl
 |int i=>obtain⟨t,rfl⟩:=r;rfl
 |str z=>obtain⟨t,rfl⟩:=r;rfl
 |_=>exact absurd (show false=true from f) Cu
theorem LC {x:V}:∀{xs:List V} {us:List Value},Aq xs us->xs.all E6=true->us.any (F0 x)=xs.any fun y=>DP y x
 |_,_,.nil,_=>rfl
 |
  y::xs,u::us,.cons r t,f=>by
  rw[List.all_cons,ET]at f
  rw[K2,K2,MG r f.1,LC t f.2]
theorem Kk {A:Around}{s:Shared}{x:V}{v:Value}(rx:AM x v)(fx:E6 x=true):∀{xs:List V} {us:List Value},Aq xs us->xs.all E6=true->∀u∈us,SeqAt.EqAt A s u v (F0 x u)
 |_,_,.nil,_=>fun u hu=>by cases hu
 |
  y::xs,u::us,.cons r t,f=>fun u' hu=>by
  rw[List.all_cons,ET]at f
  rcases Bw.mp hu with rfl|hu
  .rw[MG r f.1];exact Lr r rx f.1 fx
  .exact Kk rx fx t f.2 u' hu
def Jk (x:V)(xs:List V):Bool:=xs.any fun y=>DP y x
def MQ (K:PySem.W.Frag)(neg:Bool):R2:=fun x y H Q=>∃p xs,y = .ref p/\(A4 K H p xs\/A9 K H p xs)/\E6 x=true/\xs.all E6=true/\Q (.bl (if neg then !Jk x xs else Jk x xs)) H
theorem Ql:BE X (compareOp .In) (MQ X.K false):=by
 intro pins s σ H x y v u Q I rx ry h
 obtain⟨p,xs,rfl,hq,fx,fs,q⟩:=h
 cases ry
 rcases hq with hq|hq
 .obtain⟨its,r,pl,hz⟩:=I.list hq
  refine SeqAt.in_listAt (F0 x) pl.isList (fun w hw=>Kk rx fx r fs w (by simpa using hw)) ⟨.bl _,H,I,rfl,?_⟩
  rw[show its.toArray.any (F0 x)=its.any (F0 x) by simp,LC r fs]
  exact q
 .obtain⟨its,r,pl,hz⟩:=I.tuple hq
  refine SeqAt.in_tupleAt (F0 x) pl (fun w hw=>Kk rx fx r fs w (by simpa using hw)) ⟨.bl _,H,I,rfl,?_⟩
  rw[show its.toArray.any (F0 x)=its.any (F0 x) by simp,LC r fs]
  exact q
theorem AS:Dh X (.builtin "len") (fun xs H Q=>∃p ys,xs=[.ref p]/\(A4 X.K H p ys\/A9 X.K H p ys)/\Q (.int ys.length) H):=by
 intro pins s σ H xs us Q I r h
 obtain⟨p,ys,rfl,hq,q⟩:=h
 obtain⟨u,rfl,rx⟩:=Eb r
 cases rx
 have hn:=J9
 rcases hq with hq|hq
 .obtain⟨its,r',pl,hz⟩:=I.list hq
  have hlen:=r'.length
  exact Calls.call_len_list pl.isList (by simp only[Bh]<;>omega) ⟨.int ys.length,H,I.tok _,⟨s.toks+1,by rw[Bh,hlen]⟩,q⟩
 .obtain⟨its,r',pl,hz⟩:=I.tuple hq
  have hlen:=r'.length
  exact len_tuple pl (by simp only[Bh]<;>omega) ⟨.int ys.length,H,I.tok _,⟨s.toks+1,by rw[Bh,hlen]⟩,q⟩
theorem MD:Dh X (.type "list") (fun xs H Q=>∃p ys,xs=[.ref p]/\(A4 X.K H p ys\/A9 X.K H p ys)/\∀l,H l=none->Q (.ref l) (upd H l (.lst ys))):=by
 intro pins s σ H xs us Q I r h
 obtain⟨p,ys,rfl,hq,q⟩:=h
 obtain⟨u,rfl,rx⟩:=Eb r
 cases rx
 have fin:∀(its:List Value),Aq ys its->ys.length<=sizeLine->∀(h':Heap) (c':Nat),(∀b o',s.heap.get? b=some o'->h'.get? b=some o')->
   h'.get? s.heap.objs.size=some {cls:=.type "list",dict:=none,data:=.seq its.toArray c',slots := #[]}->EP X pins σ Q (.ref s.heap.objs.size) {s with heap:=h'}:=fun its r' hz h' c' kp e=>
  ⟨.ref s.heap.objs.size,_,I.laid (t':=s.toks) kp (Ak _) (show CF X.prog X.w _ h' _ (.lst ys) from⟨hz,its,c',r',e⟩),rfl,q _ (I.hok.fresh (Ak _))⟩
 rcases hq with hq|hq
 .obtain⟨its,r',pl,hz⟩:=I.list hq
  have hlen:=r'.length
  obtain⟨o,ho,hc,n,hd⟩:=pl.isList
  exact call_list_seq p (.inl rfl) ho hc hd (fun h' c' kp e=>fin its r' hz h' c' kp e) (by simp only[Bh]<;>omega)
 .obtain⟨its,r',pl,hz⟩:=I.tuple hq
  have hlen:=r'.length
  obtain⟨o,ho,hc,n,hd⟩:=pl
  exact call_list_seq p (.inr rfl) ho hc hd (fun h' c' kp e=>fin its r' hz h' c' kp e) (by simp only[Bh]<;>omega)
theorem HP:Dh X (.type "tuple") (fun xs H Q=>∃p ys,xs=[.ref p]/\((A4 X.K H p ys/\∀l,H l=none->Q (.ref l) (upd H l (.tup ys)))\/(A9 X.K H p ys/\Q (.ref p) H))):=by
 intro pins s σ H xs us Q I r h
 obtain⟨p,ys,rfl,h⟩:=h
 obtain⟨u,rfl,rx⟩:=Eb r
 cases rx
 rcases h with⟨hq,q⟩|⟨hq,q⟩
 .obtain⟨its,r',pl,hz⟩:=I.list hq
  have hlen:=r'.length
  refine call_tuple_list pl.isList (fun h' kp=>?_) (by simp only[Bh]<;>omega)
  have I1:A6 X pins σ H {s with heap:=h'}:=I.kept (t':=s.toks) kp
  have I2:A6 X pins σ (upd H h'.objs.size (.tup ys)) {s with heap:=h'.push {cls:=.type "tuple",data:=.seq its.toArray}}:=
   I1.laid (t':=s.toks) (fun b o e=>Be _ e) (Ak _) (show CF X.prog X.w _ _ _ (.tup ys) from⟨hz,its,r',DY.new _ _⟩)
  exact⟨.ref h'.objs.size,_,I2,rfl,q _ (I1.hok.fresh (Ak _))⟩
 .obtain⟨its,r',pl,hz⟩:=I.tuple hq
  exact call_tuple_same pl ⟨.ref p,H,I,rfl,q⟩
def Kv (K:PySem.W.Frag)(T:String)(x:V)(H:Hp):Prop:=match x with
 |.str _=>T="str"
 |.int _=>T="int"
 |.ref p=>(T="list"/\∃xs,A4 K H p xs)\/(T="tuple"/\∃o,K.lookup p=some o/\o.cls = .type "tuple"/\o.dict=none)\/
  (T="dict"/\((∃kvs,H p=some (.dK kvs))\/∃kvs,H p=some (.dT kvs)))\/(T="set"/\∃S n,H p=some (.set S n))
 |_=>False
theorem NM {pins:List (Addr×Obj)}{σ:St}{H:Hp}{s:Shared}{T:String}{x:V}{v:Value}(I:A6 X pins σ H s)(r:AM x v)(ty:Kv X.K T x H) :
  s.TypeIs v T/\∀a,v = .ref a->∃ob,s.heap.get? a=some ob/\ob.dict=none:=by
 cases x with
 |
  str z=>
  obtain⟨t,rfl⟩:=r
  cases (show T="str" from ty)
  exact⟨typeIs_str s z t,fun _ e=>nomatch e⟩
 |
  int i=>
  obtain⟨t,rfl⟩:=r
  cases (show T="int" from ty)
  exact⟨Hl s i t,fun _ e=>nomatch e⟩
 |
  ref p=>
  cases r
  rcases ty with⟨rfl,xs,hq⟩|⟨rfl,o,hk,hc,hd⟩|⟨rfl,hk⟩|⟨rfl,S,n,hk⟩
  .obtain⟨its,_,pl,_⟩:=I.list hq
   refine⟨pl.isList.typeIs,fun a e=>?_⟩
   cases e
   obtain⟨o,n,e,c,hd,_⟩:=pl
   exact⟨o,e,hd⟩
  .refine⟨⟨o,I.kIn p o hk,hc⟩,fun a e=>?_⟩
   cases e
   exact⟨o,I.kIn _ o hk,hd⟩
  .have z:∃o,s.heap.get? p=some o/\o.ExactDict:=by
    rcases hk with⟨kvs,hk⟩|⟨kvs,hk⟩
    .obtain⟨_,_,_,_,o,_,_,e,ex,_⟩:=I.hok p _ hk
     exact⟨o,e,ex⟩
    .obtain⟨_,_,_,_,o,_,_,e,ex,_⟩:=I.hok p _ hk
     exact⟨o,e,ex⟩
   obtain⟨o,e,ex⟩:=z
   refine⟨⟨o,e,ex.1⟩,fun a e2=>?_⟩
   cases e2
   exact⟨o,e,ex.2.1⟩
  .obtain⟨o,_,_,_,e,ex,_⟩:=I.hok p _ hk
   refine⟨⟨o,e,ex.1⟩,fun a e2=>?_⟩
   cases e2
   exact⟨o,e,ex.2.1⟩
 |_=>exact False.elim ty
def TM (K:PySem.W.Frag)(T:String)(r:V->List V->Hp->VK->Prop)(to:TE):TE:=fun σ H Q=>to σ H fun x H1=>Kv K T x H1/\r x [] H1 Q
def PH (K:PySem.W.Frag)(T:String)(r:V->List V->Hp->VK->Prop)(to:TE)(t:TA):TE:=fun σ H Q=>to σ H fun x H1=>Kv K T x H1/\t σ H1 fun xs H2=>r x xs H2 Q
variable {o e:Expr}{es:List Expr}{to:TE}{t:TA}{name:Str}{apos cpos:Pos}{T id:String}{r:V->List V->Hp->VK->Prop}
theorem NF (pa:PlainAttrs T)(slot:Slot T name id)(hty:typeOf (.builtin id)=pure (.type "method_descriptor"))(hm:Nc X id r)(ho:PE X o to)
  (hbase:attributeBase o name X.env (eval o X.env)=eval o X.env:=by rfl) (hline:(apos.endLine==cpos.line)=true:=by rfl):PE X (.Call (.Attribute o name apos) [] [] cpos) (TM X.K T r to):=by
 intro pins s σ H Q I h
 refine wpAny_Call_method0_late hbase hline (AC (ho pins s σ H _ I h) fun v s1 ⟨x,H1,I1,r1,ty,q1⟩=>?_)
 obtain⟨h1,h2⟩:=NM I1 r1 ty
 exact⟨T,id,pa,slot,hty,h1,h2,Calls.callWith_builtin rfl (PySem.evalArgs_none (hm pins s1 σ H1 x [] v [] Q I1 r1 .nil q1))⟩
theorem DI (pa:PlainAttrs T)(slot:Slot T name id)(hty:typeOf (.builtin id)=pure (.type "method_descriptor"))(hm:Nc X id r)(ho:PE X o to)(ha:PA X (e::es) t)
  (hbase:attributeBase o name X.env (eval o X.env)=eval o X.env:=by rfl)
  (hfew:((backTo cpos (starEach (e::es) X.env)).all (fun x=>!x.1)&&(backToKw cpos (keywordEach [] X.env)).all (fun x=>x.1.isSome)
   && decide ((e::es).length+([]:List Keyword).length+(if([]:List Keyword).isEmpty then 0 else 1)<30))=true:=by rfl)
  (hline:(apos.endLine==cpos.line)=true:=by rfl) (hs:starEach (e::es) X.env=(false,eval e X.env)::starEach es X.env:=by rfl) (hplain:(backTo cpos (starEach es X.env)).any (·.1)=false:=by rfl) :
  PE X (.Call (.Attribute o name apos) (e::es) [] cpos) (PH X.K T r to t):=by
 intro pins s σ H Q I h
 refine wpAny_Call_method_late hbase hfew hline rfl (AC (ho pins s σ H _ I h) fun v s1 ⟨x,H1,I1,r1,ty,q1⟩=>?_)
 obtain⟨h1,h2⟩:=NM I1 r1 ty
 refine⟨T,id,pa,slot,hty,h1,h2,?_⟩
 have hA:=ha cpos pins s1 σ H1 _ I1 q1
 rw[hs]at hA ⊢
 refine Calls.callWith_builtin (by show(false||(backTo cpos (starEach es X.env)).any (·.1))=false;rw[hplain]<;>rfl) (Calls.evalArgs_plain ?_)
 exact AC hA fun us s2 ⟨vs,H2,I2,r2,q2⟩=>hm pins s2 σ H2 x vs v us Q I2 r1 r2 q2
end
def IH (X:Cx)(id:String)(r:V->List V->Hp->VK->Prop):Prop:=
 ∀(pins:List (Addr×Obj)) (s:Shared) (σ:St) (H:Hp) (x:V) (xs:List V) (v:Value) (us:List Value) (Q:VK),A6 X pins σ H s->AM x v->Aq xs us->r x xs H Q->
  wpAny (model X.prog X.w) X.A (call (.builtin id) (v::us)) (EP X pins σ Q) X.xe s
theorem Aq.one:∀{x:V} {us:List Value},Aq [x] us->∃u,us=[u]/\AM x u
 |_,_,.cons r .nil=>⟨_,rfl,r⟩
theorem Aq.two:∀{x y:V} {us:List Value},Aq [x,y] us->∃u v,us=[u,v]/\AM x u/\AM y v
 |_,_,_,.cons r (.cons q .nil)=>⟨_,_,rfl,r,q⟩
theorem Aq.zero:∀{us:List Value},Aq [] us->us=[]
 |_,.nil=>rfl
theorem Aq.eraseIdx:∀{xs:List V} {us:List Value} (i:Nat),Aq xs us->Aq (xs.eraseIdx i) (us.eraseIdx i)
 |_,_,_,.nil=>.nil
 |_,_,0,.cons _ t=>t
 |_,_,i+1,.cons r t=>.cons r (Aq.eraseIdx i t)
theorem Aq.reverse {xs:List V}{us:List Value}(h:Aq xs us):Aq xs.reverse us.reverse:=by
 induction h with
 |nil=>exact .nil
 |cons r t ih=>rw[List.reverse_cons,List.reverse_cons];exact Aq.append ih (.cons r .nil)
theorem Aq.rep {xs:List V}{us:List Value}(h:Aq xs us):∀k:Nat,Aq (List.replicate k xs).flatten (List.replicate k us).flatten
 |0=>.nil
 |
  k+1=>by
  rw[Hc,Hc,K3,K3]
  exact Aq.append h (Aq.rep h k)
theorem MI {α:Type}:∀(l:List α) (i:Nat),(l.eraseIdx i).length<=l.length
 |[],_=>Ak _
 |_::_,0=>Fm _
 |_::r,i+1=>LR (MI r i)
theorem Oo (its:List Value):∀(k:Nat) (acc:List Value),
  List.foldl (fun x1 x2=>x1++x2) acc.toArray (List.replicate k its.toArray)=(acc++(List.replicate k its).flatten).toArray
 |0,acc=>by simp
 |
  k+1,acc=>by
  have e:acc.toArray++its.toArray=(acc++its).toArray:=by simp
  have e2:(acc++its)++(List.replicate k its).flatten=acc++(List.replicate (k+1) its).flatten:=by
   rw[Hc,K3,CV]
  rw[←e2,←Oo its k (acc++its),←e,Hc,List.foldl_cons]
section
variable {X:Cx}{pins:List (Addr×Obj)}{σ:St}{H:Hp}{s:Shared}{l b:Addr}{xs ys zs:List V}
theorem A6.lset {its its':List Value}{n:Nat}{f:Array Value->Array Value}{t':Nat}(I:A6 X pins σ H s)(hH:H l=some (.lst xs))
  (e:s.heap.get? l=some {cls:=.type "list",data:=.seq its.toArray n}) (hf:f its.toArray=its'.toArray) (hv:Aq ys its') (hz:ys.length<=sizeLine) :
  A6 X pins σ (upd H l (.lst ys)) {s with heap:=s.heap.update l (Obj.mapSeq f),toks:=t'}:=by
 have q:=PySem.IsL.update e f
 rw[hf]at q
 refine I.write (x:=l) (e:=l) (by rw[hH];exact trivial) (.inl rfl) (fun b' u hb hu=>(OU s.heap (Obj.mapSeq f) (Ne.symm hb)).trans hu) ⟨_,q⟩ ?_
 exact⟨hz,its',_,hv,q⟩
theorem A6.lnew {its:List Value}{t':Nat}(I:A6 X pins σ H s)(hv:Aq ys its)(hz:ys.length<=sizeLine) :
  A6 X pins σ (upd H s.heap.objs.size (.lst ys)) {s with heap:=s.heap.push {cls:=.type "list",data:=.seq its.toArray},toks:=t'}:=
 I.laid (fun _ _ q=>Be _ q) (Ak _) ⟨hz,its,0,hv,Cy _ rfl⟩
theorem A6.fresh (I:A6 X pins σ H s):H s.heap.objs.size=none:=I.hok.fresh (Ak _)
theorem A6.lstM (I:A6 X pins σ H s)(hH:H l=some (.lst xs)):xs.length<=sizeLine/\∃(its:List Value) (n:Nat),Aq xs its/\xs.length=its.length/\s.heap.get? l=some {cls:=.type "list",data:=.seq its.toArray n}:=by
 obtain⟨z,its,n,r,e⟩:=I.hok l _ hH
 exact⟨z,its,n,r,r.length,e⟩
theorem Mj {n:Nat}(h:n<=sizeLine):Builtin.List.listTooLong n=false:=by
 unfold Builtin.List.listTooLong
 exact Cv (by omega)
end
section
variable {X:Cx}
def QR:V->List V->Hp->VK->Prop:=fun x vs H Q=>∃l xs y,x = .ref l/\vs=[y]/\H l=some (.lst xs)/\xs.length<sizeLine/\Q .non (upd H l (.lst (xs++[y])))
theorem Et:IH X "list.append" QR:=by
 intro pins s σ H x vs v us Q I rx rv h
 obtain⟨l,xs,y,rfl,rfl,hH,hz,q⟩:=h
 cases rx
 obtain⟨u,rfl,ru⟩:=rv.one
 obtain⟨z,its,n,r,hl,e⟩:=I.lstM hH
 refine D9 F.slot_list_append ⟨_,e,rfl⟩ F.entry_list_append (F.args_list_append_2 _ _) (PySem.list_append l its.toArray n u (by rw[Bh];omega)) ⟨e,?_⟩
 refine⟨.non,_,I.lset (its':=its++[u]) hH e (by simp) (r.append (.cons ru .nil)) ?_,rfl,q⟩
 rw[Ap,Au]
 omega
def Ua:V->List V->Hp->VK->Prop:=fun x vs H Q=>∃l b xs zs,x = .ref l/\vs=[.ref b]/\H l=some (.lst xs)/\H b=some (.lst zs)/\xs.length+zs.length<=sizeLine/\Q .non (upd H l (.lst (xs++zs)))
theorem TJ:IH X "list.extend" Ua:=by
 intro pins s σ H x vs v us Q I rx rv h
 obtain⟨l,b,xs,zs,rfl,rfl,hH,hB,hz,q⟩:=h
 cases rx
 obtain⟨u,rfl,ru⟩:=rv.one
 cases ru
 obtain⟨z,its,n,r,hl,e⟩:=I.lstM hH
 obtain⟨z2,its2,n2,r2,hl2,e2⟩:=I.lstM hB
 have hsz:its.toArray.size+its2.toArray.size<=sizeLine:=by rw[Bh,Bh];omega
 have hlong:¬(!its.toArray.isEmpty&&Builtin.List.listTooLong (its.toArray.size+its2.toArray.size))=true:=by
  rw[Mj hsz,LS]
  exact Cu
 refine D9 F.slot_list_extend ⟨_,e,rfl⟩ F.entry_list_extend (F.args_list_extend_2 _ _)
  (AutoSeq1.list_extend_list_list_0 l its.toArray n b its2.toArray n2 hlong (by rw[Bh];omega) (by omega)) ⟨e,e2,?_⟩
 refine⟨.non,_,I.lset (its':=its++its2) hH e (by simp) (r.append r2) ?_,rfl,q⟩
 rw[Ap]
 omega
def RP:V->List V->Hp->VK->Prop:=fun x vs H Q=>∃l xs i k y,x = .ref l/\vs=[.int i]/\H l=some (.lst xs)/\-(2 ^ 63)<=i/\i<2 ^ 63/\seqIndex? i xs.length=some k/\xs[k]?=some y/\Q y (upd H l (.lst (xs.eraseIdx k)))
theorem Mu:IH X "list.pop" RP:=by
 intro pins s σ H x vs v us Q I rx rv h
 obtain⟨l,xs,i,k,y,rfl,rfl,hH,h1,h2,hk,hy,q⟩:=h
 cases rx
 obtain⟨u,rfl,ru⟩:=rv.one
 obtain⟨t,rfl⟩:=ru
 obtain⟨z,its,n,r,hl,e⟩:=I.lstM hH
 obtain⟨w,hw,rw'⟩:=r.get hy
 refine D9 F.slot_list_pop ⟨_,e,rfl⟩ F.entry_list_pop (F.args_list_pop_2 _ _)
  (MeetsSeq.list_pop_at l its.toArray n i t k w (fitsIndex_both h1 h2) (by rw[Bh,←hl];exact hk) (by rw[←Array.getElem?_toList];exact hw) (by rw[Bh];omega)) ⟨e,?_⟩
 refine⟨y,_,I.lset (its':=its.eraseIdx k) hH e ?_ (r.eraseIdx k) ?_,rw',q⟩
 .show its.toArray.eraseIdxIfInBounds k=(its.eraseIdx k).toArray
  rw[List.eraseIdxIfInBounds_toArray]
 .have:=MI xs k
  omega
def RZ:V->List V->Hp->VK->Prop:=fun x vs H Q=>∃l xs,x = .ref l/\vs=[]/\H l=some (.lst xs)/\Q .non (upd H l (.lst xs.reverse))
theorem Mz:IH X "list.reverse" RZ:=by
 intro pins s σ H x vs v us Q I rx rv h
 obtain⟨l,xs,rfl,rfl,hH,q⟩:=h
 cases rx
 have hus:=rv.zero
 subst hus
 obtain⟨z,its,n,r,hl,e⟩:=I.lstM hH
 refine D9 F.slot_list_reverse ⟨_,e,rfl⟩ F.entry_list_reverse (F.args_list_reverse_1 _) (AutoSeq1.list_reverse_list_0 l its.toArray n (by rw[Bh];omega)) ⟨e,?_⟩
 refine⟨.non,_,I.lset (its':=its.reverse) hH e (by simp) r.reverse ?_,rfl,q⟩
 rw[OV]
 omega
def RW:R2:=fun x y H Q=>∃l b xs zs,x = .ref l/\y = .ref b/\H l=some (.lst xs)/\H b=some (.lst zs)/\xs.length+zs.length<=sizeLine/\∀p,H p=none->Q (.ref p) (upd H p (.lst (xs++zs)))
theorem CH:BE X (binaryOp .Add) RW:=by
 intro pins s σ H x y v u Q I rx ry h
 obtain⟨l,b,xs,zs,rfl,rfl,hH,hB,hz,q⟩:=h
 cases rx
 cases ry
 obtain⟨z,its,n,r,hl,e⟩:=I.lstM hH
 obtain⟨z2,its2,n2,r2,hl2,e2⟩:=I.lstM hB
 refine PySem.P.add_list e e2 ?_ (by rw[Bh,Bh];omega)
 have ea:its.toArray++its2.toArray=(its++its2).toArray:=by simp
 rw[ea]
 exact⟨.ref _,_,I.lnew (t':=s.toks) (r.append r2) (by rw[Ap];omega),rfl,q _ I.fresh⟩
def RC:R2:=fun x y H Q=>∃l k xs,x = .ref l/\y = .int k/\H l=some (.lst xs)/\-(2 ^ 63)<=k/\k<2 ^ 63/\xs.length*k.toNat<=sizeLine/\
 ∀p,H p=none->Q (.ref p) (upd H p (.lst (List.replicate k.toNat xs).flatten))
theorem TY {α:Type}(xs:List α)(k:Nat):(List.replicate k xs).flatten.length=k*xs.length:=by
 induction k with
 |zero=>simp
 |succ k ih=>rw[Hc,K3,Ap,ih,Nat.succ_mul,Nat.add_comm]
theorem Re:BE X (binaryOp .Mult) RC:=by
 intro pins s σ H x y v u Q I rx ry h
 obtain⟨l,k,xs,rfl,rfl,hH,h1,h2,hz,q⟩:=h
 cases rx
 obtain⟨t,rfl⟩:=ry
 obtain⟨z,its,n,r,hl,e⟩:=I.lstM hH
 have hlen:its.toArray.size*k.toNat<=sizeLine:=by rw[Bh,←hl];exact hz
 have hcap:¬its.toArray.size*k.toNat>(2 ^ 63-1)/8:=by
  have:(sizeLine:Nat)<=(2 ^ 63-1)/8:=by decide
  omega
 have hfit:¬(!Builtin.List.listFitsIndex k)=true:=by
  rw[fitsIndex_both h1 h2]
  exact Cu
 have hlong:¬Builtin.List.listTooLong (its.toArray.size*k.toNat)=true:=by
  rw[Mj hlen]
  exact Cu
 have hnew:List.foldl (fun x1 x2=>x1++x2) #[] (List.replicate (if its.toArray.isEmpty=true then 0 else k.toNat) its.toArray)=(List.replicate k.toNat its).flatten.toArray:=by
  have f0:∀m:Nat,List.foldl (fun x1 x2=>x1++x2) #[] (List.replicate m its.toArray)=(List.replicate m its).flatten.toArray:=fun m=>by
   have:=Oo its m []
   rw[Hd]at this
   exact this
  rw[f0]
  cases its with
  |nil=>simp
  |cons a r'=>rw[AQ (by simp)]
 refine P9 (T:="list") (U:="int") (by decide) ⟨_,e,rfl⟩ (fun s'=>Hl s' k t) noFill_list_mul F.fills_int_mul F.slot_int_rmul repeat_list F.slot_int_index.lookup
  (D9 F.slot_int_rmul (Hl s k t) F.entry_int_rmul (F.args_int_rmul_2 _ _) (int___rmul___int_list k t l its.toArray n)
   ⟨e,rfl,⟨_,e,rfl⟩,D9 F.slot_list_mul ⟨_,e,rfl⟩ F.entry_list_mul (F.args_list_mul_2 _ _) (AutoListH.list___mul___list_int_3 l its.toArray n k t hfit hcap hlong) ⟨e,?_⟩⟩)
 rw[hnew]
 exact⟨.ref _,_,I.lnew (t':=s.toks) (r.rep k.toNat) (by rw[TY,Nat.mul_comm];exact hz),rfl,q _ I.fresh⟩
end
section
variable {prog:Program}{w:World}{A:Around}{E:Value->Shared->Prop}{s:Shared}
set_option maxRecDepth 100000 in
end
section
variable {X:Cx}
end
section
variable {κ:Type}[DecidableEq κ]
end
section
variable {P:Program}{w:World}{H:Hp}{h:Heap}{a:Addr}
end
section
variable {X:Cx}{pins:List (Addr×Obj)}{σ:St}{H:Hp}{s:Shared}{a:Addr}{y v:V}{u r:Value}{o:Option V}{A:Around}{E:Value->Shared->Prop}
end
section
variable {X:Cx}{pins:List (Addr×Obj)}{σ:St}{H:Hp}{s:Shared}{a:Addr}{kvs:List (CB×V)}{k:CB}{u:Value}{A:Around}{E:Value->Shared->Prop}
end
section
variable {X:Cx}{o i e value:Expr}{pos pos' tpos:Pos}{td ty tv:TE}
end
section
variable {X:Cx}{pos:Pos}
end
section
variable {X:Cx}{pins:List (Addr×Obj)}{σ:St}{H:Hp}{s:Shared}{a:Addr}{y d:V}{u r:Value}{o:Option V}{A:Around}{E:Value->Shared->Prop}
end
section
variable {X:Cx}{o e f:Expr}{apos cpos:Pos}{td ty tx:TE}
end
section
variable {X:Cx}{pins:List (Addr×Obj)}{σ:St}{H:Hp}{s:Shared}{a:Addr}{kvs:List (CB×V)}{A:Around}{E:Value->Shared->Prop}
end
section
variable {X:Cx}{pins:List (Addr×Obj)}{σ:St}{H:Hp}{s:Shared}{a:Addr}{y:V}{u:Value}{A:Around}{E:Value->Shared->Prop}
end
end L2
namespace Att
open PySem PySem.W PySem.Calls PyProof.Rows
theorem Pj {P:Params}{h:Heap}:∀(ns:List Int) (vs:List Value),WellAll P h vs (ns.map WData.int)->IntsAre vs ns:=by
 intro ns
 induction ns with
 |
  nil=>
  intro vs w
  rw[Gd]at w
  cases w
  exact .nil
 |
  cons n ns ih=>
  intro vs w
  rw[C1]at w
  cases w with
  |
   cons a b=>
   cases a
   exact .cons _ _ (ih _ b)
theorem RU {l:OpenLaw}{n:Nat}(hn:l.most=some n){P:Params}{h:Heap}{args:List WData}{vals:List Value}
  (hpre:l.row.toRowW.claim.pre args=true) (hwl:WellAll P h vals args) :
  ∃a vs ns,vals=[Value.ref a]/\args=[WData.list (ns.map WData.int)]/\h.get? a=some {cls:=.type "list",data:=.seq vs.toArray}/\IntsAre vs ns/\ns.length<=n:=by
 have hsh:WShape.hasAll [] args [.list .int]=true:=(pre_splitW hpre).1
 have hc:l.pre.holds [] {args:=args}=true:=(pre_splitW hpre).2
 obtain⟨d,r,rfl,h1,h2⟩:=hasAllW_cons hsh
 obtain rfl:=hasAllW_nil h2
 obtain⟨xs,rfl,h3⟩:=hasW_list h1
 obtain⟨ns,rfl⟩:=items_int h3
 have hlen:ns.length<=n:=by
  unfold OpenLaw.pre at hc
  have h4:(WTm.not (.lt (.lit (.int (n:Int))) (.len (.arg 0)))).holds [] {args:=[.list (ns.map .int)]}=true:=by
   have h4:=(holds_andW hc).1
   rw[hn]at h4
   exact h4
  have h5:=condW_of h4 (w_not (w_lt w_lit (w_len_list (w_arg rfl))))
  rw[Al]at h5
  refine Nat.le_of_not_lt fun q=>?_
  have q':(n:Int)<((ns.length:Nat):Int):=by omega
  first
   |(rw[Cw q']at h5;exact absurd h5 (by decide))
   |(simp at h5;omega)
 cases hwl with
 |
  cons w1 w2=>
  cases w2
  cases w1 with
  |list ho hall=>exact⟨_,_,ns,rfl,rfl,ho,Pj ns _ hall,hlen⟩
theorem Qn (l:OpenLaw)(args:List WData):l.row.toRowW.claim.post args (.bool true) args=true:=
 postW_of (r:=l.row.toRowW) (X:=(true==true))
  (show WShape.has [] (.bool true) .bool=true by first|rfl|decide|simp[WShape.has,WShape.arms,WShape.armsAll])
  (show(WTm.eq .res (.lit (.bool true))).value [] {args:=args,res:=some (.bool true),after:=args}=some (.bool (true==true)) from w_eq_bool (w_res rfl) w_lit) rfl
theorem attach_call {l:OpenLaw}{n:Nat}{q:Program}{loose:List Str}{XP:(Str->Option Value)->Heap->Prop}{YP:World->Heap->Prop}{d:DefRec}
  (hn:l.most=some n) (hdf:d.params.defaults=[])
  (call:∀(w:World) (s₀ s₁:Shared) (mg mb:Str->Option Value) (fa:Addr) (o:Obj) (pm cd doc:Value) (a:Addr) (vs:List Value) (ns:List Int),
   Ground q loose [] XP w s₀ mg mb s₁.heap->YP w s₁.heap->
   s₁.heap.get? fa=some o->o.data = .func (docDef d.name d.params d.body d.scope pm cd doc)->s₁.heap.CodeRec cd d.name->mg d.name=some (.ref fa)->
   s₁.heap.get? a=some {cls:=.type "list",data:=.seq vs.toArray}->IntsAre vs ns->ns.length<=n->s₁.gens = #[]->
   codeAny (model l.prog w) callerA (.call (.ref fa) ⟨[.ref a],[]⟩) (fun r s'=>r = .ok (.ret (.bool true))/\OldK s₁.heap s'.heap/\s'.os=s₁.os/\AllBare s'.gens) s₁) :
  WalkO q loose XP YP l.row.toRowW d [] (fun f vs=>PySem.call f vs):=by
 intro w s₀ s₁ mg mb G Y fa o pm cd doc dV kV ho hd hcd hD hmg hg args vals as hpre hlay hrd hwl hlo
 obtain rfl:dV = .none:=Dflts.none hD hdf
 obtain rfl:kV = .none:=Dflts.noKw hD
 obtain⟨a,vs,ns,rfl,rfl,hobj,hints,hlen⟩:=RU hn hpre hwl
 refine enter_call (M9 (call w s₀ s₁ mg mb fa o pm cd doc a vs ns G Y ho (fd_plain hd) hcd hmg hobj hints hlen hg) fun r s' hq=>?_)
 obtain⟨rfl,h2,h3,h4⟩:=hq
 exact⟨.inl ⟨.bool true,.bool true,[],rfl,fun _=>rfl,.bool true,Qn l _,fun _=>⟨List.Pairwise.nil,fun _ hm=>(nomatch hm)⟩⟩,h2,h3,h4⟩
section
variable {prog:Program}{w:World}{A:Around}{E:Value->Shared->Prop}{s:Shared}{K:Frag}
end
end Att
namespace L2
open PySem PySem.Spec PyProof.Rows
theorem Mq:∀{vs:List Value} {ns:List Int},IntsAre vs ns->Aq (ns.map V.int) vs
 |_,_,.nil=>.nil
 |_,_,.cons n t h=>.cons ⟨t,rfl⟩ (Mq h)
def JI (H:Hp):Prop := ∀b,H b=none\/∃o xs,H b=some (.frz o (.lst xs))
theorem UR {P:Program}{w:World}{K:PySem.W.Frag}{mg mb:Str->Option Value}{CX:Ed}{k:Nat}{fa a:Addr}{fd:FuncData}{x:Str}{sp:Sp}{s₁:Shared}{vs:List Value}{ns:List Int}
  (KX:K.In s₁.heap) (hns:s₁.heap.Ns mainGlobals mg) (hb:s₁.heap.Ns builtinsNs mb) (hbb:∀x:Str,x≠"__name__"->mb x=bootBuiltins x) (hlim:s₁.heap.NoLimit) (hg:s₁.gens = #[])
  (ha:s₁.heap.get? a=some {cls:=.type "list",data:=.seq vs.toArray}) (hi:IntsAre vs ns) (hl:ns.length<=sizeLine) (hr:CC k callerA)
  (F:∀base:Heap,K.In base->base.Ns mainGlobals mg->Bz P w K mg base CX k fa fd [x] sp) (hbind:∀(s:Shared) (u:Value),BindsTo s fd ⟨[u],[]⟩ [(x,u)])
  (hsp:∀H:Hp,JI H->A4 K H a (ns.map V.int)->sp [.ref a] H (fun v _=>v = .bl true) fun _ _ _=>False)
  (hCX:∀H e s',CX [] H s₁ (fun _ _ _=>False) e s'->False) :
  codeAny (model P w) callerA (.call (.ref fa) ⟨[.ref a],[]⟩) (fun r s'=>r = .ok (.ret (.bool true))/\OldK s₁.heap s'.heap/\s'.os=s₁.os/\AllBare s'.gens) s₁:=by
 have rv:=Mq hi
 have lenV:=hi.length
 have core:∀H:Hp,JI H->A4 K H a (ns.map V.int)->Ca P w H s₁.heap->(∀b,H b≠none->b=a)->(H a≠none->K.lookup a=none)->
   codeAny (model P w) callerA (.call (.ref fa) ⟨[.ref a],[]⟩) (fun r s'=>r = .ok (.ret (.bool true))/\OldK s₁.heap s'.heap/\s'.os=s₁.os/\AllBare s'.gens) s₁:=by
  intro H hO hS hok hA hK
  have base_of:∀{b:Addr} {o:Obj},s₁.heap.get? b=some o->H b=none->(F2 s₁.heap H).get? b=some o:=fun e n=>RD e n
  have noA:∀{b:Addr} {o:Obj} {es:Array DictEntry} {ep:Nat},s₁.heap.get? b=some o->o.data = .dict es ep->H b=none:=fun{b o es ep} e d=>by
   cases q:H b with
   |none=>rfl
   |
    some u=>
    have e':b=a:=hA b (by rw[q];simp)
    subst e'
    rw[ha]at e;cases e
    have d':Data.seq vs.toArray _=Data.dict es ep:=d
    cases d'
  have nsK:∀{b:Addr} {m:Str->Option Value},s₁.heap.Ns b m->(F2 s₁.heap H).Ns b m:=fun{b m} ⟨o,es,ep,e,d,r⟩=>⟨o,es,ep,base_of e (noA e d),d,r⟩
  have hKb:K.In (F2 s₁.heap H):=fun b o e=>base_of (KX b o e) (by
   cases q:H b with
   |none=>rfl
   |
    some u=>
    have e':b=a:=hA b (by rw[q];simp)
    subst e'
    rw[hK (by rw[q];simp)]at e;cases e)
  have hM:Mod K mg (F2 s₁.heap H):=⟨hKb,nsK hns,⟨mb,nsK hb,hbb⟩,let ⟨mc,h1,h2⟩:=hlim;⟨mc,nsK h1,h2⟩⟩
  have e0:G6 P w K mg (F2 s₁.heap H) callerA [] s₁ H:=⟨rfl,hM,fun b o e=>Q7 e,Ga (T1 _ _),trivial,fun b hb=>absurd (show b∈([]:List Addr) from hb) (by simp),hok,.of_eq hg⟩
  refine M9 ((F _ hKb (nsK hns)).run callerA [] s₁ H ⟨[.ref a],[]⟩ [.ref a] [.ref a] _ _ hr e0 (hbind s₁ (.ref a)) (.cons rfl .nil) (hsp H hO hS)) fun r s' h=>?_
  cases r with
  |error e=>exact(hCX H e s' h).elim
  |
   ok fl=>
   cases fl with
   |next=>exact False.elim h
   |brk=>exact False.elim h
   |cont=>exact False.elim h
   |
    ret u=>
    obtain⟨v,H',os,bare,un,hok',r',q⟩:=h
    have q':v = .bl true:=q
    subst q'
    obtain rfl:u=Value.bool true:=r'
    refine⟨rfl,OldK.of_keep fun b o e=>?_,os,bare⟩
    cases q:H b with
    |none=>exact un.keep b o e q (by intro z;exact absurd (show b∈([]:List Addr) from z) (by simp)) (by simp)
    |
     some u=>
     rcases hO b with z|⟨ob,xs,z⟩
     .rw[q]at z;cases z
     .have z2:=un.frzs b ob _ z
      obtain⟨e1,_⟩:=hok b _ z
      obtain⟨e2,_⟩:=hok' b _ z2
      rw[e]at e1;cases e1
      exact e2
 cases hk:K.lookup a with
 |
  some o=>
  have e:=KX a o hk
  rw[ha]at e
  cases e
  refine core (fun _=>none) (fun _=>.inl rfl) (.inr ⟨_,vs.toArray,_,hk,rfl,rfl,rfl,by rw[Bh,lenV];exact hl,by simpa using rv⟩) (fun b u z=>by have z':(none:Option HO)=some u:=z;cases z') (fun b z=>absurd rfl z) fun z=>absurd rfl z
 |
  none=>
  refine core (fun b=>if b=a then some (.frz {cls:=.type "list",data:=.seq vs.toArray} (.lst (ns.map V.int))) else none) (fun b=>?_) (.inl (.inr ⟨{cls:=.type "list",data:=.seq vs.toArray},AW rfl⟩)) (fun b u z=>?_) (fun b z=>?_) fun _=>hk
  .by_cases hb:b=a
   .exact .inr ⟨_,_,AW hb⟩
   .exact .inl (AQ hb)
  .by_cases hb:b=a
   .have z':=(AW hb).symm.trans z
    cases z'
    subst hb
    exact⟨ha,by rw[Al];exact hl,vs,_,rv,ha⟩
   .have z':=(AQ hb).symm.trans z
    cases z'
  .by_cases hb:b=a
   .exact hb
   .exact absurd (AQ hb) z
theorem walk_of {l:PySem.W.OpenLaw}{n k:Nat}{q:Program}{loose:List Str}{XP:(Str->Option Value)->Heap->Prop}{YP:World->Heap->Prop}{d:DefRec}{K:Params->PySem.W.Frag}{CX:World->Ed}{sp:World->Sp}{x:Str}
  (hn:l.most=some n) (hn2:n<=sizeLine) (hdf:d.params.defaults=[]) (hr:CC k callerA)
  (hY:∀(w:World) (h:Heap),YP w h->(K w.params).In h)
  (F:∀(w:World) (mg:Str->Option Value) (fa:Addr) (h:Heap),(K w.params).In h->h.Ns mainGlobals mg->mg d.name=some (.ref fa)->
   ∃fd:FuncData,(∀(s:Shared) (u:Value),BindsTo s fd ⟨[u],[]⟩ [(x,u)])/\
    ∀base:Heap,(K w.params).In base->base.Ns mainGlobals mg->Bz l.prog w (K w.params) mg base (CX w) k fa fd [x] (sp w))
  (hsp:∀(w:World) (H:Hp) (a:Addr) (ns:List Int),ns.length<=n->JI H->A4 (K w.params) H a (ns.map V.int)->sp w [.ref a] H (fun v _=>v = .bl true) fun _ _ _=>False)
  (hCX:∀(w:World) (H:Hp) (s:Shared) (e:Value) (s':Shared),CX w [] H s (fun _ _ _=>False) e s'->False) :
  PySem.W.WalkO q loose XP YP l.row.toRowW d [] (fun f vs=>PySem.call f vs):=by
 refine Att.attach_call hn hdf fun w s₀ s₁ mg mb fa o pm cd doc a vs ns G Y ho hd hcd hmg hobj hints hlen hg=>?_
 have KX:=hY w _ Y
 obtain⟨fd,hb,hF⟩:=F w mg fa _ KX G.T.g hmg
 exact UR KX G.T.g G.T.b G.T.builtins G.T.nolimit hg hobj hints (Ey hlen hn2) hr hF hb (fun H hO hS=>hsp w H a ns hlen hO hS) fun H e s'=>hCX w H s₁ e s'
def Kq (s:Stmt)(j:Nat):Stmt:=match s with
 |.ClassDef _ _ _ body _ _ _ _ _ _ _=>body.getD j (.Pass ⟨0,0,0,0⟩)
 |_=>.Pass ⟨0,0,0,0⟩
def Hw (s:Stmt):Arguments:=match s with
 |.FunctionDef _ a _ _ _ _ _ _ _ _=>a
 |_=>{posonlyargs:=[],args:=[],vararg:=none,kwonlyargs:=[],kw_defaults:=[],kwarg:=none,defaults:=[]}
def GP (s:Stmt):List Stmt:=match s with
 |.FunctionDef _ _ b _ _ _ _ _ _ _=>b
 |_=>[]
def B4 (s:Stmt):Scope:=match s with
 |.FunctionDef _ _ _ _ _ _ sc _ _ _=>sc
 |_=>{kind:=.function,names:=[],isGenerator:=false,isCoroutine:=false}
abbrev BS:Ed:=fun _ _ _ _ _ _=>False
abbrev E0:XK:=fun _ _ _=>False
theorem AD {X:Cx}:IQ BS X E0:=fun _ _ _ _ _ _ _ h=>h.elim
structure BG (K:PySem.W.Frag)(x qual:Str)(st:Stmt)(f:Addr)(fd:FuncData):Prop where
 ex:∃(oc:Value) (od:Option Addr) (kV doc pm:Value) (an:Option Addr) (cdv ct:Value) (osl:Array (Option Value)),
  fd=PySem.W.fnOf x qual (Hw st) (GP st) (B4 st) .none kV doc pm an cdv ct/\K.lookup f=some ⟨oc,od,.func fd,osl⟩/\PySem.W.codeIn K cdv qual=true
 kp:PySem.W.keepIn K (.ref f)=true
section
variable {P:Program}{w:World}{K:PySem.W.Frag}{mg:Str->Option Value}{base:Heap}
theorem BG.ok {x qual:Str}{st:Stmt}{f:Addr}{fd:FuncData}{N ps:List Str}{k:Nat}{sp:Sp}(F:BG K x qual st f fd)(S:BY N ps (B4 st))(len:∀vs H Q E,sp vs H Q E->vs.length=ps.length)
  (hbody:∀(cdv:Value) (A:Around) (outer:List Env) (s:Shared) (H:Hp) (vs:List V) (Q:VK) (E:XK),CC k (A.deeper (envOfC qual (B4 st) s.heap.objs.size f cdv))->sp vs H Q E->
   ∃t,E3 (Gy BS P w K mg base N qual (B4 st) f cdv A outer s H E).nox (GP st) t/\t {nx:=fun _ H'=>Q .non H',rt:=Q} (FA N vs) H):Bz P w K mg base BS (k+1) f fd ps sp:=by
 obtain⟨oc,od,kV,doc,pm,an,cdv,ct,osl,rfl,lk,hcd⟩:=F.ex
 refine Uo lk hcd S len fun A outer s H vs Q E hr hsp=>?_
 obtain⟨t,h,q⟩:=hbody cdv A outer s H vs Q E hr hsp
 exact⟨t,h.nox,q⟩
theorem BG.binds {x qual:Str}{st:Stmt}{f:Addr}{fd:FuncData}{ps:List Str}(F:BG K x qual st f fd)
  (h:∀(kV doc pm:Value) (an:Option Addr) (cdv ct:Value) (us:List Value),us.length=ps.length->bindArgs (PySem.W.fnOf x qual (Hw st) (GP st) (B4 st) .none kV doc pm an cdv ct) ⟨us,[]⟩=pure (ps.zip us)):BK K fd ps []:=by
 obtain⟨oc,od,kV,doc,pm,an,cdv,ct,osl,rfl,lk,hcd⟩:=F.ex
 exact .all (h kV doc pm an cdv ct)
theorem fun_mk {x qual:Str}{st:Stmt}{f:Addr}{oc:Value}{od an:Option Addr}{osl:Array (Option Value)}{kV doc pm cdv ct:Value}(l:K.lookup f=some ⟨oc,od,.func (PySem.W.fnOf x qual (Hw st) (GP st) (B4 st) .none kV doc pm an cdv ct),osl⟩)
 (c:PySem.W.codeIn K cdv qual=true) (k:PySem.W.keepIn K (.ref f)=true):BG K x qual st f (PySem.W.fnOf x qual (Hw st) (GP st) (B4 st) .none kV doc pm an cdv ct):=⟨⟨oc,od,kV,doc,pm,an,cdv,ct,osl,rfl,l,c⟩,k⟩
end
section
variable {X:Cx}
theorem pv (i:Nat){x:Str}{pos:Pos}(hN:X.N[i]?=some x:=by rfl)(hv:JP X.env.scope x:=by first|exact Or.inl rfl|exact Or.inr (Or.inl rfl)|exact Or.inr (Or.inr rfl))(hd:(x==("__debug__":Str))=false:=by decide)
 (hcd:(x==("__classdict__":Str))=false:=by decide):PE X (.Name x pos) (Fk i):=PJ hN hv hd hcd
end
theorem BH {A B:Prop}(h:B):if false=true then A else B:=by
 rw[AQ Cu]
 exact h
theorem C0 {A B:Prop}(h:A):if true=true then A else B:=by
 rw[AW rfl]
 exact h
theorem AV {c A B:Prop}[Decidable c](h1:c->A)(h2:¬c->B):if c then A else B:=by
 by_cases h:c
 .rw[AW h]
  exact h1 h
 .rw[AQ h]
  exact h2 h
def Aa (H H':Hp):Prop := ∀b o,H b=some o->H' b=some o
theorem Aa.refl (H:Hp):Aa H H:=fun _ _ h=>h
theorem Aa.trans {H H1 H2:Hp}(a:Aa H H1)(b:Aa H1 H2):Aa H H2:=fun c o h=>b c o (a c o h)
theorem Aa.free {H H':Hp}(e:Aa H H'){l:Addr}(h:H' l=Option.none):H l=Option.none:=by
 cases q:H l with
 |none=>rfl
 |
  some o=>
  rw[e l o q]at h
  cases h
theorem Aa.seq {K:PySem.W.Frag}{H H':Hp}{a:Addr}{xs:List V}(e:Aa H H')(h:A4 K H a xs):A4 K H' a xs:=by
 rcases h with(h|⟨o,h⟩)|h
 .exact .inl (.inl (e _ _ h))
 .exact .inl (.inr ⟨o,e _ _ h⟩)
 .exact .inr h
section
variable {κ:Type}[DecidableEq κ]
end
end L2
set_option maxHeartbeats 4000000
namespace L2
open PySem PySem.Spec PyProof.Rows
theorem Kf (env:Env):∀(l:List (Str×NameKind)) (cs:List (Str×Addr)),(∀n,(n,NameKind.free)∈l->∃c,env.cells.lookup n=some c)->(∀x c,cs.lookup x=some c->env.cells.lookup x=some c)->
  ∃cl,(forIn l cs fun x s=>if(x.snd==NameKind.free)=true then do let c ←cellOf env x.fst;pure (ForInStep.yield ((x.fst,c)::s)) else pure (ForInStep.yield s))=(pure cl:Sem (List (Str×Addr)))/\
   (∀x c,cl.lookup x=some c->env.cells.lookup x=some c)/\(∀n,(n,NameKind.free)∈l->∃c,cl.lookup n=some c)/\∀n c,cs.lookup n=some c->∃c',cl.lookup n=some c'
 |[],cs,_,h=>⟨cs,rfl,h,(fun _ z=>nomatch z),(fun n c e=>⟨c,e⟩)⟩
 |
  (n,k)::r,cs,hf,h=>by
  by_cases hk:k = .free
  .subst hk
   obtain⟨c,hc⟩:=hf n Cb
   have e:cellOf env n=pure c:=by unfold cellOf;rw[hc]
   obtain⟨cl,e1,h1,h2,h3⟩:=Kf env r ((n,c)::cs) (fun m hm=>hf m (Cz _ hm)) (fun x c' q=>by
    rw[FI]at q
    by_cases hx:x=n
    .subst hx;simp at q;subst q;exact hc
    .have:(x==n)=false:=by simpa using hx
     rw[this]at q;exact h x c' q)
   refine⟨cl,?_,h1,fun m hm=>?_,fun m c' q=>?_⟩
   .rw[OW]
    show((do let c ←cellOf env n;pure (ForInStep.yield ((n,c)::cs)))>>=_)=_
    rw[e]
    exact e1
   .rcases Bw.mp hm with z|z
    .cases z;exact h3 n c (by simp)
    .exact h2 m z
   .by_cases hx:m=n
    .subst hx;exact h3 m c (by simp)
    .have:(m==n)=false:=by simpa using hx
     exact h3 m c' (by rw[FI,this];exact q)
  .have hb:(k==NameKind.free)=false:=by simpa using hk
   obtain⟨cl,e1,h1,h2,h3⟩:=Kf env r cs (fun m hm=>hf m (Cz _ hm)) h
   refine⟨cl,?_,h1,fun m hm=>?_,h3⟩
   .rw[OW]
    dsimp only
    rw[hb]
    exact e1
   .rcases Bw.mp hm with z|z
    .cases z;exact absurd rfl hk
    .exact h2 m z
theorem NV {scope:Scope}{env:Env}(h:∀n,(n,NameKind.free)∈scope.names->∃c,env.cells.lookup n=some c) :
  ∃cl,closureFor scope env=pure cl/\(∀x c,cl.lookup x=some c->env.cells.lookup x=some c)/\∀n,(n,NameKind.free)∈scope.names->∃c,cl.lookup n=some c:=by
 obtain⟨cl,e,h1,h2,_⟩:=Kf env scope.names [] h (fun _ _ z=>by simp at z)
 refine⟨cl,?_,h1,h2⟩
 simp only[closureFor]
 rw[e]
 rfl
def CU (X:Cx)(scope:Scope)(N':List Str)(cl:List (Str×Addr))(C:Addr)(s:Shared)(H:Hp)(fp:List Addr)(pins:List (Addr×Obj)):Cx where
 prog:=X.prog
 w:=X.w
 K:=X.K
 mg:=X.mg
 base:=X.base
 A:=X.A
 N:=N'
 s₀:=s
 H₀:=H
 env:=compEnvC scope cl C X.env
 outer:=X.stack
 stack:=X.stack
 ex:=fp
 calm:=X.calm
 fn:=fun _=>false
 pn:=X.pn++pins
 xe:=fun _ _=>False
structure Gz (sc:Scope)(out:Scope):Prop where
 kind:sc.kind = .function
 cell:∀y∈sc.names,y.2≠.cell
 loc:∀y∈sc.names,y.2 = .local->sc.names.lookup y.1=some .local
 free:∀y∈sc.names,y.2 = .free->out.names.lookup y.1=some .cell\/out.names.lookup y.1=some .free
def BX (ρ:List (Option Nat))(σ:St):St:=ρ.map fun o=>match o with|some i=>(σ[i]?).getD none|none=>none
def Hx (sc:Scope)(env:Env)(N N':List Str)(ρ:List (Option Nat)):Prop:=
 ρ.length=N'.length/\∀(j i:Nat) (x:Str),ρ[j]?=some (some i)->N'[j]?=some x->N[i]?=some x/\JP env.scope x/\(x,NameKind.free)∈sc.names
theorem NB {names:List (Str×NameKind)}{env:Env}{x:Str}{k:NameKind}(h:(names.map fun(n,k)=>if(k==NameKind.free&&env.scope.kind == .function&&env.kindOf n==some .cell) then(n,NameKind.cell) else(n,k)).lookup x=some k)
  (hk:k = .cell\/k = .free) (hc:∀y∈names,y.2≠.cell):(x,NameKind.free)∈names:=by
 induction names with
 |nil=>simp at h
 |
  cons p r ih=>
  obtain⟨n,k'⟩:=p
  by_cases hx:x=n
  .subst hx
   have hk':k' = .free:=by
    by_cases hc':(k'==NameKind.free&&env.scope.kind == .function&&env.kindOf x==some .cell)=true
    .simp only[ET,IX]at hc'
     exact hc'.1.1
    .simp only[C1]at h
     rw[AQ hc']at h
     simp at h
     subst h
     rcases hk with z|z
     .exact absurd z (hc (x,k') Cb)
     .exact z
   rw[hk'];exact Cb
  .have hb:(x==n)=false:=by simpa using hx
   refine Cz _ (ih ?_ fun y hy=>hc y (Cz _ hy))
   simp only[C1]at h
   by_cases hc':(k'==NameKind.free&&env.scope.kind == .function&&env.kindOf n==some .cell)=true
   .rw[AW hc',FI,hb]at h;exact h
   .rw[AQ hc',FI,hb]at h;exact h
theorem Uc:∀{names:List (Str×NameKind)} {env:Env} {x:Str},(x,NameKind.free)∈names->(names.map fun(n,k)=>if(k==NameKind.free&&env.scope.kind == .function&&env.kindOf n==some .cell) then(n,NameKind.cell) else(n,k)).lookup x=some .cell\/
  (names.map fun(n,k)=>if(k==NameKind.free&&env.scope.kind == .function&&env.kindOf n==some .cell) then(n,NameKind.cell) else(n,k)).lookup x=some .free\/names.lookup x≠some .free:=by
 intro names env x hm
 by_cases hl:names.lookup x=some .free
 .induction names with
  |nil=>simp at hl
  |
   cons p r ih=>
   obtain⟨n,k'⟩:=p
   by_cases hx:x=n
   .subst hx
    simp at hl
    subst hl
    by_cases hc':(NameKind.free==NameKind.free&&env.scope.kind == .function&&env.kindOf x==some .cell)=true
    .left;simp only[C1];rw[AW hc'];simp
    .right;left;simp only[C1];rw[AQ hc'];simp
   .have hb:(x==n)=false:=by simpa using hx
    rw[FI,hb]at hl
    have hm':(x,NameKind.free)∈r:=by
     rcases Bw.mp hm with z|z
     .cases z;exact absurd rfl hx
     .exact z
    have q:=ih hm' hl
    simp only[C1]
    by_cases hc':(k'==NameKind.free&&env.scope.kind == .function&&env.kindOf n==some .cell)=true
    .rw[AW hc',FI,hb,FI,hb];exact q
    .rw[AQ hc',FI,hb,FI,hb];exact q
 .exact .inr (.inr hl)
section
variable {X:Cx}{pins:List (Addr×Obj)}{σ:St}{H:Hp}{s:Shared}{scope:Scope}{N':List Str}{ρ:List (Option Nat)}{cl:List (Str×Addr)}{fp:List Addr}{C D:Addr}
theorem Py (I:A6 X pins σ H s)(S:Gz scope X.env.scope)(hf:∀b∈fp,Eh X pins H b)(h1:∀x c,cl.lookup x=some c->X.env.cells.lookup x=some c)(h2:∀n,(n,NameKind.free)∈scope.names->∃c,cl.lookup n=some c)
  (hC:s.heap.objs.size<=C) (hfs:∀b∈fp,b<s.heap.objs.size):(CU X scope N' cl C s H fp pins).Ok where
 mod:=I.ok.mod
 kind:=S.kind
 glob:=I.ok.glob
 blt:=I.ok.blt
 above:=hC
 inj:=fun x y c e1 e2=>I.ok.inj x y c (h1 x c e1) (h1 y c e2)
 has:=fun x hk=>h2 x (by
  rcases hk with hk|hk
  .exact NB (env:=X.env) hk (.inl rfl) S.cell
  .exact NB (env:=X.env) hk (.inr rfl) S.cell)
 cab:=fun _ _ z=>nomatch z
 hd:=I.ok.hd
 frames:=I.ok.frames
 stk:=.inl rfl
 exf:=fun b hb=>⟨BO (Ct (hfs b hb) hC),fun x c e=>(hf b hb).2.2.2.2.1 x c (h1 x c e)⟩
 bs:=I.bs
 bsz:=Ey I.ok.bsz I.sz
 noex:=fun b o e hb=>by
  rcases(hf b hb).2.2.2.1 with z|z
  .exact I.ok.noex b o e z
  .exact absurd (Ct (Ct (Bc e) I.ok.bsz) z) (E4 _)
 exfs:=fun b hb z=>by
  rcases Bw.mp (I.stkSub b z) with q|q
  .exact(hf b hb).2.1 q
  .exact(hf b hb).2.2.1 q
 funs:=I.stack
 frf:=I.stkFree
theorem Qt {h₁:Heap}{tk:Nat}(I:A6 X pins σ H s)(S:Gz scope X.env.scope)(hρ:Hx scope X.env X.N N' ρ)(hf:∀b∈fp,Eh X pins H b)(h1:∀x c,cl.lookup x=some c->X.env.cells.lookup x=some c)
  (h2:∀n,(n,NameKind.free)∈scope.names->∃c,cl.lookup n=some c) (hC:s.heap.objs.size<=C) (hfs:∀b∈fp,b<s.heap.objs.size) (hn:h₁.Ns C (fun _=>none)) (hk:∀b o,s.heap.get? b=some o->h₁.get? b=some o)
  (hl:∀x,(x,NameKind.free)∈scope.names->scope.names.lookup x=some .free) :
  A6 (CU X scope N' cl C s H fp pins) [] (BX ρ σ) H {s with heap:=h₁,toks:=tk} where
 ok:=Py I S hf h1 h2 hC hfs
 os:=rfl
 bare:=I.bare
 base:=Un.kept hk
 loc:=by
  refine⟨_,hn,fun j x v e1 e2 hv=>?_⟩
  obtain⟨m,hm,hl'⟩:=I.loc
  unfold BX at e2
  rw[C3]at e2
  cases hr:ρ[j]? with
  |none=>rw[hr]at e2;simp at e2
  |
   some o=>
   cases o with
   |none=>rw[hr]at e2;simp at e2
   |
    some i=>
    rw[hr]at e2
    obtain⟨q1,q2,q3⟩:=hρ.2 j i x hr e1
    have e3:σ[i]?=some (some v):=by
     cases hσ:σ[i]? with
     |none=>simp[hσ]at e2
     |some z=>simp[hσ]at e2;rw[e2]
    obtain⟨u,r,lk⟩:=hl' i x v q1 e3 q2
    refine⟨u,r,?_⟩
    obtain⟨c,hc⟩:=h2 x q3
    have hkind:(relabel scope X.env).names.lookup x=some .cell\/(relabel scope X.env).names.lookup x=some .free:=by
     rcases Uc (env:=X.env) q3 with z|z|z
     .exact .inl z
     .exact .inr z
     .exact absurd (hl x q3) z
    refine .inr ⟨hkind,c,hc,?_⟩
    rcases lk with⟨k,_⟩|⟨_,c',e',z⟩
    .rcases S.free (x,.free) q3 rfl with z|z
     .have k':X.env.scope.names.lookup x=some .local:=k
      rw[z]at k';cases k'
     .have k':X.env.scope.names.lookup x=some .local:=k
      rw[z]at k';cases k'
    .have:=h1 x c hc
     rw[e']at this;cases this
     obtain⟨o,ho,hd⟩:=z
     exact⟨o,hk _ _ ho,hd⟩
 cell:=fun x c e=>by
  obtain⟨v,o,ho,hd⟩:=I.cell x c (h1 x c e)
  exact⟨v,o,hk _ _ ho,hd⟩
 free:=I.hok.fresh hC
 freeC:=fun x c e=>I.freeC x c (h1 x c e)
 pin:=fun p hp=>by
  have hp':p∈X.pn++pins:=by simpa[CU] using hp
  obtain⟨e,n,ne,nf,d⟩:=I.pin p hp'
  refine⟨hk _ _ e,n,BO (Ct (Bc e) hC),fun z=>?_,d⟩
  rcases Bw.mp (I.stkSub p.1 z) with q|q
  .exact ne q
  .exact nf q
 hok:=I.hok.kept hk
 len:=by
  show(BX ρ σ).length=N'.length
  unfold BX
  rw[Al];exact hρ.1
end
theorem Ca.track {P:Program}{w:World}{H:Hp}{h:Heap}{D:Addr}{o:HO}(x:Ca P w H h)(n:H D=none)(new:CF P w (upd H D o) h D o):Ca P w (upd H D o) h:=fun b u e=>by
 by_cases hb:b=D
 .subst hb;rw[A5]at e;cases e;exact new
 .rw[Aw hb]at e
  exact(x b u e).stay (fun c v _ q=>q) (fun c q=>by rw[Aw (BA q n)];exact q) fun c xs q=>by rw[Aw (BA q n)];exact q
section
variable {prog:Program}{w:World}{A:Around}{R:Result->Shared->Prop}{s:Shared}
theorem Qj {elt target iter:Expr}{ifs:List Expr}{scope:Scope}{pos:Pos}{it acc:Value}{env:Env}(I:Nat->Shared->Prop)
  (turn:∀n s,I n s->wpAny (model prog w) A (pyNext it) (fun r s₁=>match r with
   |none=>R (.ok .next) s₁
   |some v=>wpAny (model prog w) A (letOwnedTupleGo target it v) (fun _ s₁'=>wpAny (model prog w) A (assign target env v) (fun _ s₂=>
    wpAny (model prog w) A (forIn ifs true fun c r=>if r=true then do let ok ←isTrue c env (eval c env);pure (ForInStep.yield ok) else pure (ForInStep.yield r)) (fun ok s₃=>
     if ok=true then wpAny (model prog w) A (eval elt env) (fun x s₄=>
      wpAny (model prog w) A (call (.builtin "list.append") [acc,x]) (fun _ s₅=>∃m,m<n/\I m s₅) (fun _ _=>False) s₄) (fun _ _=>False) s₃
     else ∃m,m<n/\I m s₃) (fun _ _=>False) s₂) (fun _ _=>False) s₁') (fun _ _=>False) s₁) (fun _ _=>False) s)
  (n:Nat) (h:I n s) :
  codeAny (model prog w) A (.compLoop (.ListComp elt [⟨target,iter,ifs,0⟩] scope pos) 0 it acc env) R s:=by
 refine codeAny_loop rfl I (fun n s hI=>?_) n h
 show wpAny _ A ((compTurn (.ListComp elt [⟨target,iter,ifs,0⟩] scope pos) 0 it acc env).onRaise (fun x=>do noteFrame x env;theTreesLotGoes x)) _ _ s
 refine wpAny_noted ?_
 rw[compTurn_list]
 refine An (wpAny_standAt (An (EY (turn n s hI) (fun r s₁ h₁=>?_) fun _ _ h'=>h'.elim)))
 cases r with
 |none=>exact AZ h₁
 |
  some v=>
  refine An (EY h₁ (fun _ s₁' h₁=>?_) fun _ _ h'=>h'.elim)
  refine An (EY h₁ (fun _ s₂ h₂=>An (EY h₂ (fun ok s₃ h₃=>?_) fun _ _ h'=>h'.elim)) fun _ _ h'=>h'.elim)
  cases ok with
  |false=>exact AZ ⟨rfl,h₃⟩
  |
   true=>
   exact An (An (EY h₃ (fun x s₄ h₄=>An (EY h₄ (fun _ s₅ h₅=>AZ (AZ ⟨rfl,h₅⟩)) fun _ _ h'=>h'.elim)) fun _ _ h'=>h'.elim))
end
def FQ (X:Cx)(ifs:List Expr)(t:TT):Prop:=
 ∀(pins:List (Addr×Obj)) (s:Shared) (σ:St) (H:Hp) (Q:Bool->Hp->Prop),A6 X pins σ H s->t σ H Q->
  wpAny (model X.prog X.w) X.A (forIn ifs true fun c r=>if r=true then do let ok ←isTrue c X.env (eval c X.env);pure (ForInStep.yield ok) else pure (ForInStep.yield r)) (TP X pins σ Q) X.xe s
def UW:TT:=fun _ H Q=>Q true H
theorem EG {X:Cx}:FQ X [] UW:=fun _ _ _ H _ I h=>wpAny_tests_nil ⟨H,I,h⟩
theorem Ja {X:Cx}{c:Expr}{t:TT}(h:PT X c t):FQ X [c] t:=fun pins s σ H Q I hw=>wpAny_tests_one (h pins s σ H Q I hw)
def GE (ρ:List (Option Nat))(σ σ2:St):Prop:=σ2.length=ρ.length/\∀(j:Nat) v,(BX ρ σ)[j]?=some (some v)->σ2[j]?=some (some v)
def G4 (ρ:List (Option Nat))(g:TG)(tt:TT)(te:TE)(σ:St)(Q:VK)(J:It)(H1:Hp):Prop := ∃W:Nat->Nat->List V->Hp->Prop,(∃m,W 0 m [] H1)/\∀i m ys H',W i m ys H'->
 (J.stop i H'/\ys.length<=sizeLine/\∀p,H' p=none->Q (.ref p) (upd H' p (.lst ys)))\/
 (J.go i H'/\ys.length<sizeLine/\∃N:List V->Hp->Prop,(∀ys' H'',N ys' H''->∃m',m'<m/\W (i+1) m' ys' H'')/\∀x H2,J.yld i H' x H2->g x (BX ρ σ) H2 fun σ2 H3=>GE ρ σ σ2/\tt σ2 H3 fun ok H4=>if ok=true then te σ2 H4 fun v H5=>N (ys++[v]) H5 else N ys H4)
def GW (ρ:List (Option Nat))(wi:TI)(g:TG)(tt:TT)(te:TE):TE:=fun σ H Q=>wi σ H fun J H1=>G4 ρ g tt te σ Q J H1
theorem Nj {X:Cx}{elt iter tg:Expr}{ifs:List Expr}{scope:Scope}{pos:Pos}{N':List Str}{ρ:List (Option Nat)}{wi:TI}{g:TG}{tt:TT}{te:TE}{cl:List (Str×Addr)}{RR:Value->Addr->Result->Shared->Prop}(hc:X.calm=true)(hi:PI X tg iter wi)(S:Gz scope X.env.scope)(hρ:Hx scope X.env X.N N' ρ)
  (hl:∀x,(x,NameKind.free)∈scope.names->scope.names.lookup x=some .free)
  (inner:∀(cl:List (Str×Addr)) (C:Addr) (s:Shared) (H:Hp) (fp:List Addr) (pins:List (Addr×Obj)),PG (CU X scope N' cl C s H fp pins) tg g/\FQ (CU X scope N' cl C s H fp pins) ifs tt/\PE (CU X scope N' cl C s H fp pins) elt te)
  {pins:List (Addr×Obj)} {s:Shared} {σ:St} {H:Hp} {Q:VK} (I:A6 X pins σ H s) (h:GW ρ wi g tt te σ H Q)
  (h1:∀x c,cl.lookup x=some c->X.env.cells.lookup x=some c) (h2:∀n,(n,NameKind.free)∈scope.names->∃c,cl.lookup n=some c)
  (fin:∀D C s' H' m,A6 X pins σ H' s'->Q (.ref D) H'->s'.heap.Ns C m->Eh X pins H' C->RR (.ref D) C (.ok .next) s') :
  wpAny (model X.prog X.w) X.A (eval iter X.env) (fun x s₁=>wpAny (model X.prog X.w) X.A (pyIter x) (fun it s₂=>wpAny (model X.prog X.w) X.A (newList []) (fun acc s₃=>
   wpAny (model X.prog X.w) X.A (newFunctionEnv scope X.env.globals cl [] X.env.qual none .none (some X.env)) (fun cenv s₄=>
    codeAny (model X.prog X.w) X.A (.compStart (.ListComp elt [⟨tg,iter,ifs,0⟩] scope pos) 0 it acc {cenv with scope:=relabel scope X.env}) (RR acc cenv.locals) s₄) X.xe s₃) X.xe s₂) X.xe s₁) X.xe s:=by
 refine AC (hi pins s σ H _ I h) fun v s1 h1'=>AC h1' fun itv s2 hx=>?_
 obtain⟨it,fp,tn,J,H2,e,I2,T,st2,f2,W,⟨m0,w0⟩,turn⟩:=hx
 subst e
 have hfs:∀b∈fp,b<s2.heap.objs.size:=fun b hb=>by
  obtain⟨o,e,_⟩:=T.obj _ _ st2 b hb
  exact Bc e
 refine Ka (wpAny_newFunctionEnv S.cell (by intro y hy;simp at hy) (fun h₁ hns₁ hsb₁=>?_) S.kind)
 dsimp only at hns₁ hsb₁ ⊢
 generalize hH2:s2.heap.push {cls:=.type "list",dict:=none,data:=.seq ([]:List Value).toArray}=G at hns₁ hsb₁ ⊢
 have hC:G.objs.size=s2.heap.objs.size+1:=by rw[←hH2,IR]
 have hDC:s2.heap.objs.size≠G.objs.size:=by rw[hC];exact BO (Gb _)
 have hCle:s2.heap.objs.size<=G.objs.size:=by rw[hC];exact Fm _
 have old:∀b o,s2.heap.get? b=some o->h₁.get? b=some o:=fun b o e=>hsb₁.extBut b o (BO (Ct (Bc e) hCle)) (Be _ (hH2▸Be _ e))
 have hacc:h₁.get? s2.heap.objs.size=some {cls:=.type "list",dict:=none,data:=.seq ([]:List Value).toArray}:=hsb₁.extBut _ _ hDC (Be _ (hH2▸Cy _ rfl))
 have hns₂:h₁.Ns G.objs.size (fun _=>none):=hns₁
 generalize hXX:CU X scope N' cl G.objs.size s2 H2 fp pins=XX at *
 have IN:∀(tk:Nat),A6 XX [] (BX ρ σ) H2 {s2 with heap:=h₁,toks:=tk}:=fun tk=>hXX▸Qt (N':=N') I2 S hρ f2 h1 h2 hCle hfs hns₂ old hl
 obtain⟨pg,pt,pe⟩:=inner cl G.objs.size s2 H2 fp pins
 rw[hXX]at pg pt pe
 have eP:XX.prog=X.prog:=by rw[←hXX];rfl
 have eW:XX.w=X.w:=by rw[←hXX];rfl
 have eK:XX.K=X.K:=by rw[←hXX];rfl
 have eA:XX.A=X.A:=by rw[←hXX];rfl
 have eE:XX.env=compEnvC scope cl G.objs.size X.env:=by rw[←hXX];rfl
 have eL:XX.env.locals=G.objs.size:=by rw[eE];rfl
 have ec:XX.calm=true:=by rw[←hXX];exact hc
 have ex:XX.xe=fun _ _=>False:=by rw[←hXX];rfl
 have es0:XX.s₀=s2:=by rw[←hXX];rfl
 have eex:XX.ex=fp:=by rw[←hXX];rfl
 have efs:XX.fs=DX X.stack:=by rw[←hXX];rfl
 have eH0:XX.H₀=H2:=by rw[←hXX];rfl
 have epn:XX.pn=X.pn++pins:=by rw[←hXX];rfl
 have ecl:XX.env.cells=cl:=by rw[eE];rfl
 have stat:∀{H':Hp} {ps:List (Addr×Obj)},(∀b∈fp,H' b=none)->(∀p∈ps,p.1=s2.heap.objs.size)->∀b∈fp,Eh XX ps H' b:=fun{H' ps} hn hp b hb=>by
  refine⟨hn b hb,?_,?_,?_,?_,?_⟩
  .rw[eL];exact BO (Ct (hfs b hb) hCle)
  .rw[efs]
   intro z
   rcases Bw.mp (I2.stkSub b z) with q|q
   .exact(f2 b hb).2.1 q
   .exact(f2 b hb).2.2.1 q
  .rw[eex];exact .inl hb
  .rw[ecl];exact fun x c e=>(f2 b hb).2.2.2.2.1 x c (h1 x c e)
  .intro p hp' z
   rw[epn]at hp'
   rcases CA.mp hp' with q|q
   .exact(f2 b hb).2.2.2.2.2 p q z
   .rw[hp p q]at z
    exact absurd (hfs b hb) (by rw[z];exact E4 _)
 have nofsD:s2.heap.objs.size∉XX.fs:=by
  rw[efs];intro z
  rcases Bw.mp (I2.stkSub _ z) with q|q
  .exact absurd I2.lt (by rw[←q];exact E4 _)
  .exact I2.nofs (Ak _) q
 have pinD:∀{σ':St} {H':Hp} {s':Shared} {its:List Value} {n:Nat},A6 XX [] σ' H' s'->H' s2.heap.objs.size=none->s'.heap.get? s2.heap.objs.size=some {cls:=.type "list",data:=.seq its.toArray n}->
   A6 XX [(s2.heap.objs.size,{cls:=.type "list",data:=.seq its.toArray n})] σ' H' s':=fun{σ' H' s' its n} I' hn ho=>I'.pins_of fun p hp=>by
  have e:p=(s2.heap.objs.size,{cls:=.type "list",data:=.seq its.toArray n}):=by simpa using hp
  subst e
  refine⟨ho,hn,by rw[eL];exact hDC,nofsD,fun v z=>?_⟩
  have z':Data.seq its.toArray n=Data.cell v:=z
  cases z'
 have loop:∀s₃:Shared,(∃tk,s₃={s2 with heap:=h₁,toks:=tk})->
   codeAny (model X.prog X.w) X.A (.compLoop (.ListComp elt [⟨tg,iter,ifs,0⟩] scope pos) 0 (.ref it) (.ref s2.heap.objs.size) (compEnvC scope cl G.objs.size X.env)) (RR (.ref s2.heap.objs.size) G.objs.size) s₃:=by
  rintro s₃ ⟨tk,rfl⟩
  refine Qj (fun n s'=>∃i ys its k H',A6 XX [] (BX ρ σ) H' s'/\tn i s'.heap/\(∀b∈fp,H' b=none)/\H' s2.heap.objs.size=none/\Aq ys its/\
   s'.heap.get? s2.heap.objs.size=some {cls:=.type "list",data:=.seq its.toArray k}/\W i n ys H') ?_ m0
   ⟨0,[],[],0,H2,IN tk,T.keep _ _ _ st2 fun b _ o e=>old b o e,fun b hb=>(f2 b hb).1,I2.hok.fresh (Ak _),.nil,hacc,w0⟩
  rintro n s3 ⟨i,ys,its,k,H3,I3,st3,fr3,hD3,rv,ho3,w3⟩
  rcases turn i n ys H3 w3 with⟨stop,hz,qn⟩|⟨go,hz,N,hN,step⟩
  .have I3p:=pinD I3 hD3 ho3
   have q:=T.done XX eP eW eK ec i _ s3 (BX ρ σ) H3 (fun _ _=>False) I3p (stat fr3 (by simp)) st3 stop
   rw[eA]at q
   refine AC q fun r s4 ⟨hr,I4⟩=>?_
   subst hr
   have ho4:=(I4.pin (s2.heap.objs.size,{cls:=.type "list",data:=.seq its.toArray k}) (by simp)).1
   obtain⟨m,hm,_⟩:=I4.loc
   rw[eL]at hm
   have hun:Un (DX X.stack) fp H2 (upd H3 s2.heap.objs.size (.lst ys)) s2.heap s4.heap:=by
    have u:=I4.base
    rw[efs,eex,eH0,es0]at u
    refine⟨u.keep,u.slot,fun b o e n hx=>?_,u.there,fun b xs e=>?_,fun b o xs e=>?_,fun b ps e=>?_⟩
    .rw[Aw (BO (Bc e))];exact u.free b o e n hx
    .have q:=u.tups b xs e
     rw[Aw (BA q hD3)];exact q
    .have q:=u.frzs b o xs e
     rw[Aw (BA q hD3)];exact q
    .obtain⟨more,q⟩:=u.tbls b ps e
     exact⟨more,by rw[Aw (BA q hD3)];exact q⟩
   have hok:Ca X.prog X.w (upd H3 s2.heap.objs.size (.lst ys)) s4.heap:=by
    have q:=I4.hok
    rw[eP,eW]at q
    exact q.track hD3 ⟨hz,its,k,rv,ho4⟩
   have hfr:∀b∈fp,(b∈X.ex\/X.s₀.heap.objs.size<=b)/\b≠X.env.locals/\(∀x c,X.env.cells.lookup x=some c->c≠b)/\∀p∈X.pn++pins,p.1≠b:=fun b hb=>⟨(f2 b hb).2.2.2.1,(f2 b hb).2.1,(f2 b hb).2.2.2.2.1,(f2 b hb).2.2.2.2.2⟩
   have IO:A6 X pins σ (upd H3 s2.heap.objs.size (.lst ys)) s4:=I2.call' (by have:=I4.os;rw[es0]at this;exact this) hun hok I4.bare hfr
   refine fin _ _ s4 _ m IO (qn _ hD3) hm (I2.fpOk hCle ?_)
   rw[Aw (Ne.symm hDC)]
   have:=I4.free
   rw[eL]at this
   exact this
  .have I3p:=pinD I3 hD3 ho3
   have q:=T.item XX eP eW eK ec i _ s3 (BX ρ σ) H3 (fun _ _=>False) I3p (stat fr3 (by simp)) st3 go
   rw[eA]at q
   refine AC q fun r s4 ⟨u,hr,h4⟩=>?_
   subst hr
   refine AC h4 fun _ s5 ⟨x,H5,I5,r5,y5,st5,fr5⟩=>?_
   have I5':=I5.pinned (stat fr5 (by simp)) (T.obj _ _ st5)
   have qa:=pg _ s5 (BX ρ σ) H5 x u _ I5' r5 (step x H5 y5)
   rw[eP,eW,eA,eE,ex]at qa
   refine AC qa fun _ s6 ⟨σ6,H6,I6,⟨ou1,ou2⟩,q6⟩=>?_
   have hw6:(BX ρ σ).length=σ6.length:=by rw[ou1];unfold BX;rw[Al]
   have qt:=pt _ s6 σ6 H6 _ I6 q6
   rw[eP,eW,eA,eE,ex]at qt
   refine AC qt fun ok s7 ⟨H7,I7,q7⟩=>?_
   have back:∀{s8:Shared} {H8:Hp},A6 XX ([(s2.heap.objs.size,{cls:=.type "list",data:=.seq its.toArray k})]++Gn fp s5.heap) σ6 H8 s8->tn (i+1) s8.heap/\(∀b∈fp,H8 b=none)/\H8 s2.heap.objs.size=none/\
     s8.heap.get? s2.heap.objs.size=some {cls:=.type "list",data:=.seq its.toArray k}:=fun{s8 H8} I8=>by
    refine⟨T.keep _ _ _ st5 fun b hb o e=>(I8.pin (b,o) (CM _ (CM _ (Iq hb e)))).1,fun b hb=>?_,?_,?_⟩
    .obtain⟨o,e,d⟩:=T.obj _ _ st5 b hb
     exact(I8.pin (b,o) (CM _ (CM _ (Iq hb e)))).2.1
    .exact(I8.pin (s2.heap.objs.size,{cls:=.type "list",data:=.seq its.toArray k}) (by simp)).2.1
    .exact(I8.pin (s2.heap.objs.size,{cls:=.type "list",data:=.seq its.toArray k}) (by simp)).1
   cases ok with
   |
    false=>
    obtain⟨m',hm,w7⟩:=hN _ _ q7
    obtain⟨b1,b2,b3,b4⟩:=back I7
    exact⟨m',hm,i+1,ys,its,k,H7,(I7.pins_of (pins':=[]) (fun _ z=>nomatch z)).weak hw6 ou2,b1,b2,b3,rv,b4,w7⟩
   |
    true=>
    have qe:=pe _ s7 σ6 H7 _ I7 q7
    rw[eP,eW,eA,eE,ex]at qe
    refine AC qe fun y s8 ⟨v8,H8,I8,r8,n8⟩=>?_
    obtain⟨m',hm,w8⟩:=hN _ _ n8
    obtain⟨b1,b2,b3,b4⟩:=back I8
    have hlen:=rv.length
    refine D9 F.slot_list_append ⟨_,b4,rfl⟩ F.entry_list_append (F.args_list_append_2 _ _) (PySem.list_append s2.heap.objs.size its.toArray k y (by rw[Bh];omega)) ⟨b4,?_⟩
    have qL:=PySem.IsL.update b4 (fun xs=>xs.push y)
    have I8':A6 XX [] σ6 H8 s8:=I8.pins_of (fun _ z=>nomatch z)
    have I9:A6 XX [] σ6 H8 {s8 with heap:=s8.heap.update s2.heap.objs.size (Obj.mapSeq fun xs=>xs.push y),toks:=s8.toks}:=I8'.turned (it:=s2.heap.objs.size) (fun b o hb e=>(OU s8.heap _ (Ne.symm hb)).trans e) b3
     (by rw[eL];exact hDC) (.inr (by rw[es0];exact Ak _)) (by
      rw[ecl];intro x c e z
      obtain⟨v,qc⟩:=I2.cell x c (h1 x c e)
      exact absurd qc.lt (by rw[z];exact E4 _)) (by
      intro p hp z
      have hp':p∈X.pn++pins:=by rw[epn]at hp;simpa using hp
      exact absurd (Bc (I2.pin p hp').1) (by rw[z];exact E4 _))
    have hnd:s2.heap.objs.size∉fp:=fun z=>E4 _ (hfs _ z)
    rw[show its.toArray.push y=(its++[y]).toArray by simp]at qL
    refine⟨m',hm,i+1,ys++[v8],its++[y],_,H8,I9.weak hw6 ou2,T.keep _ _ _ b1 fun b hb o e=>(OU s8.heap _ (by rintro rfl;exact hnd hb)).trans e,b2,b3,rv.append (.cons r8 .nil),qL,w8⟩
 refine codeAny_compStart_list (loop _ ⟨_,rfl⟩) (T.self X.A 0 _ _ _ (T.keep _ _ _ st2 fun b _ o e=>old b o e) (loop _ ⟨_,rfl⟩))
theorem SL {X:Cx}{elt iter tg:Expr}{ifs:List Expr}{scope:Scope}{pos:Pos}(N':List Str)(ρ:List (Option Nat)){wi:TI}{g:TG}{tt:TT}{te:TE}(hc:X.calm=true)(hi:PI X tg iter wi)(S:Gz scope X.env.scope)(hρ:Hx scope X.env X.N N' ρ)
  (hl:∀x,(x,NameKind.free)∈scope.names->scope.names.lookup x=some .free)
  (inner:∀(cl:List (Str×Addr)) (C:Addr) (s:Shared) (H:Hp) (fp:List Addr) (pins:List (Addr×Obj)),PG (CU X scope N' cl C s H fp pins) tg g/\FQ (CU X scope N' cl C s H fp pins) ifs tt/\PE (CU X scope N' cl C s H fp pins) elt te)
  (hs:∀x,foldedSetIterable iter X.env x=pure x:=by intro _;rfl):PE X (.ListComp elt [⟨tg,iter,ifs,0⟩] scope pos) (GW ρ wi g tt te):=by
 intro pins s σ H Q I h
 obtain⟨cl,hcl,h1,h2⟩:=NV (scope:=scope) (env:=X.env) (fun n hn=>I.ok.has n (S.free (n,.free) hn rfl))
 rw[eval_ListComp]
 refine wpAny_comprehension_free (use:=none) rfl hs hcl S.kind S.loc ?_
 refine Nj (RR:=fun acc C=>compPost (model X.prog X.w) X.A X.xe none (EP X pins σ Q) acc C) hc hi S hρ hl inner I h h1 h2 ?_
 intro D C s' H' m I' q hm hf
 refine⟨m,hm,fun h' sb=>⟨.ref D,H',?_,rfl,q⟩⟩
 exact I'.turned (t':=s'.toks) (fun b o hb e=>(sb.2 b hb).trans e) hf.1 hf.2.1 hf.2.2.2.1 hf.2.2.2.2.1 hf.2.2.2.2.2
theorem Qh {X:Cx}{elt iter tg:Expr}{ifs:List Expr}{scope:Scope}{pos pos' spos:Pos}{i:Nat}{x:Str}(N':List Str)(ρ:List (Option Nat)){wi:TI}{g:TG}{tt:TT}{te:TE}(hN:X.N.Nodup)(hix:X.N[i]?=some x)(hx:GB X.env.scope x)
  (hc:X.calm=true) (hi:PI X tg iter wi) (S:Gz scope X.env.scope) (hρ:Hx scope X.env X.N N' ρ)
  (hl:∀x,(x,NameKind.free)∈scope.names->scope.names.lookup x=some .free)
  (inner:∀(cl:List (Str×Addr)) (C:Addr) (s:Shared) (H:Hp) (fp:List Addr) (pins:List (Addr×Obj)),PG (CU X scope N' cl C s H fp pins) tg g/\FQ (CU X scope N' cl C s H fp pins) ifs tt/\PE (CU X scope N' cl C s H fp pins) elt te)
  (hsw:swapsWith (.ListComp elt [⟨tg,iter,ifs,0⟩] scope pos) (some (.Name x pos')) spos.line X.env=pure true:=by rfl)
  (hs:∀x,foldedSetIterable iter X.env x=pure x:=by intro _;rfl) (hf:X.fn x=true\/X.env.scope.names.lookup x=some .local:=by first|exact .inl rfl|exact .inr rfl|assumption) :
  PS X (.Assign [.Name x pos'] (.ListComp elt [⟨tg,iter,ifs,0⟩] scope pos) spos) (Ih (GW ρ wi g tt te) (Ag i)):=by
 intro pins s σ H Dn I h
 obtain⟨cl,hcl,h1,h2⟩:=NV (scope:=scope) (env:=X.env) (fun n hn=>I.ok.has n (S.free (n,.free) hn rfl))
 rw[exec_Assign_Name_used _ _ _ _ hsw]
 refine An (wpAny_standAt (An ?_))
 show wpAny _ X.A (do let _ ←comprehension (.ListComp elt [⟨tg,iter,ifs,0⟩] scope pos) scope X.env _ (newList []) false (eval iter X.env) (some (assign (.Name x pos') X.env))) _ _ s
 refine An (EY (wpAny_comprehension_free (use:=some (assign (.Name x pos') X.env)) (Q:=fun _ s'=>SP X pins Dn .next s') rfl hs hcl S.kind S.loc ?_) (fun _ s' hq=>AZ (AZ hq)) fun _ _ e=>e)
 refine Nj (RR:=fun acc C=>compPost (model X.prog X.w) X.A X.xe (some (assign (.Name x pos') X.env)) (fun _ s'=>SP X pins Dn .next s') acc C) hc hi S hρ hl inner I h h1 h2 ?_
 intro D C s' H' m I' q hm hfC
 obtain⟨oC,es,ep,hoC,hr⟩:=id hm
 have pin:A6 X (pins++Gn [C] s'.heap) σ H' s':=I'.pinned (fun b hb=>by
  have e:b=C:=by simpa using hb
  subst e
  exact hfC) (fun b hb=>by
  have e:b=C:=by simpa using hb
  subst e
  exact⟨oC,hoC,fun v z=>by rw[hr.1]at z;cases z⟩)
 show wpAny _ X.A (assign (.Name x pos') X.env (.ref D)) _ _ _
 refine wpAny_assign_Name ?_
 refine KD (M:=model X.prog X.w) (A:=X.A) (E:=X.xe) pin hN hix hx (v:=.ref D) (u:=.ref D) rfl (fun s'' I''=>?_) hf
 have pC:=(I''.pin (C,oC) (CM _ (CM _ (Iq (by simp) hoC))))
 refine⟨m,⟨oC,es,ep,pC.1,hr⟩,fun h' sb=>⟨_,H',?_,q⟩⟩
 have I2:A6 X pins (σ.set i (some (.ref D))) H' s'':=I''.unpinned
 exact I2.turned (t':=s''.toks) (fun b o hb e=>(sb.2 b hb).trans e) hfC.1 hfC.2.1 hfC.2.2.2.1 hfC.2.2.2.2.1 hfC.2.2.2.2.2
theorem EE (σ:St)(o:Option Nat)(ρ:List (Option Nat)):BX (o::ρ) σ=(match o with|some i=>(σ[i]?).getD none|none=>none)::BX ρ σ:=rfl
theorem Rt {ρ:List (Option Nat)}{σ:St}(o:Option V):GE (none::ρ) σ (o::BX ρ σ):=by
 refine⟨by unfold BX;simp,fun j v e=>?_⟩
 cases j with
 |zero=>rw[EE]at e;simp at e
 |succ j=>rw[EE]at e;simpa using e
theorem Sg {ρ:List (Option Nat)}{σ:St}(o o':Option V):GE (none::none::ρ) σ (o::o'::BX ρ σ):=by
 refine⟨by unfold BX;simp,fun j v e=>?_⟩
 cases j with
 |zero=>rw[EE]at e;simp at e
 |
  succ j=>
  rw[EE,EE]at e
  cases j with
  |zero=>simp at e
  |succ j=>simpa using e
theorem LM {J:It}{n:Nat}{X:Nat->V->Prop}{ρ:List (Option Nat)}{tt:TT}{te:TE}{σ:St}{H:Hp}{Q:VK}(Pv:Nat->List V->Hp->Prop)(h0:Pv 0 [] H)(hlen:n<=sizeLine)
  (hy:∀i ys H,i<=n->Pv i ys H->ys.length<=i) (hgo:∀i ys H,i<n->Pv i ys H->J.go i H) (hyl:∀i ys H x H',i<n->Pv i ys H->J.yld i H x H'->H'=H/\X i x) (hst:∀ys H,Pv n ys H->J.stop n H)
  (hs:∀i x ys H,i<n->X i x->Pv i ys H->tt (some x::BX ρ σ) H fun ok H4=>if ok=true then te (some x::BX ρ σ) H4 fun v H5=>Pv (i+1) (ys++[v]) H5 else Pv (i+1) ys H4)
  (hd:∀ys H,Pv n ys H->∀p,H p=none->Q (.ref p) (upd H p (.lst ys))) :
  G4 (none::ρ) (Ag 0) tt te σ Q J H:=by
 refine⟨fun i m ys H=>m=n-i/\i<=n/\Pv i ys H,⟨n,by simp,BP _,h0⟩,?_⟩
 rintro i m ys H ⟨rfl,hi,p⟩
 have hl:=hy i ys H hi p
 by_cases hlt:i<n
 .refine .inr ⟨hgo i ys H hlt p,by omega,Pv (i+1),fun ys' H'' p'=>⟨n-(i+1),by omega,rfl,hlt,p'⟩,fun x H' y=>?_⟩
  obtain⟨e,y2⟩:=hyl i ys H x H' hlt p y
  subst e
  exact⟨Rt _,hs i x ys _ hlt y2 p⟩
 .have e:i=n:=by omega
  subst e
  exact .inl ⟨hst ys H p,by omega,hd ys H p⟩
theorem Qb {K:PySem.W.Frag}{a:Addr}{xs:List V}{ρ:List (Option Nat)}{tt:TT}{te:TE}{σ:St}{H:Hp}{Q:VK}(Pv:Nat->List V->Hp->Prop)(h0:Pv 0 [] H)(hlen:xs.length<=sizeLine)(hl:∀i ys H,i<=xs.length->Pv i ys H->A9 K H a xs/\ys.length<=i)
  (hs:∀i x ys H,xs[i]?=some x->Pv i ys H->tt (some x::BX ρ σ) H fun ok H4=>if ok=true then te (some x::BX ρ σ) H4 fun v H5=>Pv (i+1) (ys++[v]) H5 else Pv (i+1) ys H4)
  (hd:∀ys H,Pv xs.length ys H->∀p,H p=none->Q (.ref p) (upd H p (.lst ys))) :
  G4 (none::ρ) (Ag 0) tt te σ Q (Gw K a) H:=
 LM (n:=xs.length) (X:=fun i x=>xs[i]?=some x) Pv h0 hlen (fun i ys H hi p=>(hl i ys H hi p).2) (fun i ys H hi p=>⟨xs,xs[i],(hl i ys H (Ez hi) p).1,by simp[hi]⟩) (fun i ys H x H' hi p y=>⟨y.1,y.2 xs (hl i ys H (Ez hi) p).1⟩)
  (fun ys H p=>⟨xs,(hl _ ys H (Ak _) p).1,Ak _⟩) (fun i x ys H _ e p=>hs i x ys H e p) hd
theorem FN {K:PySem.W.Frag}{a:Addr}{xs:List V}{ρ:List (Option Nat)}{tt:TT}{te:TE}{σ:St}{H:Hp}{Q:VK}(Pv:Nat->List V->Hp->Prop)(h0:Pv 0 [] H)(hlen:xs.length<=sizeLine)(hl:∀i ys H,i<=xs.length->Pv i ys H->A4 K H a xs/\ys.length<=i)
  (hs:∀i x ys H,xs[i]?=some x->Pv i ys H->tt (some x::BX ρ σ) H fun ok H4=>if ok=true then te (some x::BX ρ σ) H4 fun v H5=>Pv (i+1) (ys++[v]) H5 else Pv (i+1) ys H4)
  (hd:∀ys H,Pv xs.length ys H->∀p,H p=none->Q (.ref p) (upd H p (.lst ys))) :
  G4 (none::ρ) (Ag 0) tt te σ Q (G2 K a) H:=
 LM (n:=xs.length) (X:=fun i x=>xs[i]?=some x) Pv h0 hlen (fun i ys H hi p=>(hl i ys H hi p).2) (fun i ys H hi p=>⟨xs,xs[i],(hl i ys H (Ez hi) p).1,by simp[hi]⟩) (fun i ys H x H' hi p y=>⟨y.1,y.2 xs (hl i ys H (Ez hi) p).1⟩)
  (fun ys H p=>⟨xs,(hl _ ys H (Ak _) p).1,Ak _⟩) (fun i x ys H _ e p=>hs i x ys H e p) hd
theorem L4 {lo:Int}{n:Nat}{ρ:List (Option Nat)}{tt:TT}{te:TE}{σ:St}{H:Hp}{Q:VK}(Pv:Nat->List V->Hp->Prop)(h0:Pv 0 [] H)(hlen:n<=sizeLine)(hl:∀i ys H,i<=n->Pv i ys H->ys.length<=i)
  (hs:∀i ys H,i<n->Pv i ys H->tt (some (.int (lo+i))::BX ρ σ) H fun ok H4=>if ok=true then te (some (.int (lo+i))::BX ρ σ) H4 fun v H5=>Pv (i+1) (ys++[v]) H5 else Pv (i+1) ys H4)
  (hd:∀ys H,Pv n ys H->∀p,H p=none->Q (.ref p) (upd H p (.lst ys))) :
  G4 (none::ρ) (Ag 0) tt te σ Q (FV lo n) H:=
 LM (n:=n) (X:=fun i x=>x = .int (lo+i)) Pv h0 hlen hl (fun i ys H hi p=>hi) (fun i ys H x H' hi p y=>y) (fun ys H p=>Ak _) (fun i x ys H hi e p=>by subst e;exact hs i ys H hi p) hd
end L2
namespace L2
open PySem PySem.Spec PyProof.Rows
abbrev EL (x:Str):List Nat:=x.cps.toList
theorem IZ (x:Str):(EL x).length=x.length:=by simp[EL,Str.length]
theorem TV (x y:Str):EL (x++y)=EL x++EL y:=by simp[EL,Str.cps_append]
def GT {α:Type}(xs:List α)(lo hi:Option Int):List α:=(xs.drop (HT.sIx xs.length 0 lo)).take (HT.sIx xs.length xs.length hi-HT.sIx xs.length 0 lo)
section
variable {X:Cx}
def Q1:R2:=fun x y H Q=>∃z n,x = .str z/\y = .int n/\-(2 ^ 63:Int)<=n/\n<=4096/\z.length<=4096/\Q (.str (Txt.mul z n)) H
theorem Ub:BE X (binaryOp .Mult) Q1:=by
 intro pins s σ H x y v u Q I rx ry h
 obtain⟨z,n,rfl,rfl,h1,h2,h3,q⟩:=h
 obtain⟨t,rfl⟩:=rx
 obtain⟨t',rfl⟩:=ry
 exact SB.mul (mulOk_of 4096 4096 h3 h2 h1 (by decide) (by decide)) fun t' k=>⟨.str _,H,I.tok _,⟨_,rfl⟩,q⟩
theorem RS (c:Nat)(n:Int):EL (Txt.mul ⟨#[c]⟩ n)=List.replicate n.toNat c:=mul_one_list c n
end
section
variable {X:Cx}
theorem UU (hc:X.calm=true):Dh X (.builtin "all") (fun xs H Q=>∃(p:Addr) (bs:List Bool),xs=[.ref p]/\A4 X.K H p (bs.map V.bl)/\Q (.bl (bs.all id)) H):=by
 intro pins s σ H xs us Q I r h
 obtain⟨p,bs,rfl,hq,q⟩:=h
 obtain⟨u,rfl,ru⟩:=Eb r
 cases ru
 obtain⟨its,rv,pl,hz⟩:=I.list hq
 have hne:p≠s.heap.objs.size:=by
  obtain⟨o,n,e,_⟩:=pl
  exact BO (Bc e)
 have hl:=rv.length
 refine call_all_walk (M7 pl.isList ⟨s.heap.objs.size,_,_,its.toArray.size,_,_,fun i=>bs.getD i true,rfl,Walks.list (A:=X.A.in1) (show X.A.in1.handled=none from I.ok.hd hc) s.heap.objs.size p hne its.toArray,⟨⟨_,Cy _ rfl,rfl,rfl⟩,(pl.isList).push _⟩,?_,fun h' tk kk=>?_⟩)
 .intro i v s' Q' E hv hq'
  have hv':its[i]?=some v:=by simpa using hv
  have hb:∃b,bs[i]?=some b/\v = .bool b:=by
   cases e:(bs.map V.bl)[i]? with
   |
    none=>
    have:=rv.none_of e
    rw[hv']at this;cases this
   |
    some y=>
    obtain⟨u,hu,ru⟩:=rv.get e
    rw[hv']at hu;cases hu
    rw[C3]at e
    cases eb:bs[i]? with
    |none=>rw[eb]at e;cases e
    |
     some b=>
     rw[eb]at e
     cases e
     exact⟨b,rfl,ru⟩
  obtain⟨b,hb,rfl⟩:=hb
  refine Hi ?_
  have hq2:Q' ((bs[i]?).getD true) s':=hq'
  rw[hb]at hq2
  exact hq2
 .have e:((List.range its.toArray.size).all fun i=>bs.getD i true)=bs.all id:=by
   have el:its.toArray.size=bs.length:=by rw[Bh,←hl,Al]
   rw[el]
   rw[Hb]
   simp only[K4,ER]
   constructor
   .intro h b hb
    obtain⟨i,hi,e⟩:=FJ.mp hb
    have:=h i hi
    rw[Cc,AH hi]at this
    rw[←e];exact this
   .intro h i hi
    rw[Cc,AH hi]
    exact h _ (Ge hi)
  rw[e]
  refine⟨.bl (bs.all id),H,I.kept (t':=tk) fun b o eb=>kk b o ?_ (Be _ eb),rfl,q⟩
  intro z
  have z':b=s.heap.objs.size:=by simpa using z
  exact absurd (Bc eb) (by rw[z'];exact E4 _)
def Qi:V->Option Value
 |.ty n=>some (.type n)
 |.ref a=>some (.ref a)
 |_=>none
theorem Su:Dh X (.builtin "isinstance") (fun xs H Q=>∃x c t cv b,xs=[x,c]/\Qi c=some cv/\DZ X.K H x t/\PySem.W.kitOne X.K t cv=some b/\Q (.bl b) H):=by
 intro pins s σ H xs us Q I r h
 obtain⟨x,c,t,cv,b,rfl,rc,ty,e,q⟩:=h
 obtain⟨u,w',rfl,rx,rw'⟩:=r.two
 have:w'=cv:=by
  cases c with
  |ref a=>cases rc;exact rw'
  |ty a=>cases rc;exact rw'
  |_=>cases rc
 subst this
 exact SS I rx ty e fun tk=>⟨.bl b,H,I.tok _,rfl,q⟩
end
end L2
namespace L2
open PySem PySem.Spec PyProof.Rows
def CZ (sc out:Scope)(N N':List Str)(ρ:List (Option Nat)):Bool:=
 decide (sc.kind = .function)&&sc.names.all (fun y=>decide (y.2≠.cell))&&sc.names.all (fun y=>decide (y.2 = .local->sc.names.lookup y.1=some .local)) &&
 sc.names.all (fun y=>decide (y.2 = .free->sc.names.lookup y.1=some .free/\(out.names.lookup y.1=some .cell\/out.names.lookup y.1=some .free))) &&
 decide (ρ.length=N'.length)&&decide N'.Nodup &&
 (ρ.zip N').all (fun p=>match p.1 with|none=>true|some i=>decide (N[i]?=some p.2)&&decide (out.names.lookup p.2=some .local\/out.names.lookup p.2=some .cell\/out.names.lookup p.2=some .free)&&sc.names.any (fun y=>decide (y=(p.2,NameKind.free))))
structure Q0 (sc:Scope)(env:Env)(N N':List Str)(ρ:List (Option Nat)):Prop where
 S:Gz sc env.scope
 sl:Hx sc env N N' ρ
 hl:∀x,(x,NameKind.free)∈sc.names->sc.names.lookup x=some .free
 nd:N'.Nodup
theorem Nn {sc:Scope}{env:Env}{N N':List Str}{ρ:List (Option Nat)}(h:CZ sc env.scope N N' ρ=true):Q0 sc env N N' ρ:=by
 unfold CZ at h
 simp only[ET,decide_eq_true_eq,K4]at h
 obtain⟨⟨⟨⟨⟨⟨h1,h2⟩,h3⟩,h4⟩,h5⟩,h6⟩,h7⟩:=h
 refine⟨⟨h1,h2,h3,fun y hy e=>(h4 y hy e).2⟩,⟨h5,fun j i x e1 e2=>?_⟩,fun x hx=>(h4 _ hx rfl).1,h6⟩
 have hm:(some i,x)∈ρ.zip N':=by
  refine Bf (i:=j) ?_
  rw[List.getElem?_zip_eq_some]
  exact⟨e1,e2⟩
 have q:=h7 _ hm
 simp only[ET,decide_eq_true_eq,OX]at q
 obtain⟨⟨q1,q2⟩,y,hy,e⟩:=q
 exact⟨q1,q2,e▸hy⟩
theorem Fz {X:Cx}{elt iter tg:Expr}{ifs:List Expr}{scope:Scope}{pos:Pos}(N':List Str)(ρ:List (Option Nat)){wi:TI}{g:TG}{tt:TT}{te:TE}(hc:X.calm=true)(hi:PI X tg iter wi)(h:CZ scope X.env.scope X.N N' ρ=true)
  (inner:∀(cl:List (Str×Addr)) (C:Addr) (s:Shared) (H:Hp) (fp:List Addr) (pins:List (Addr×Obj)),PG (CU X scope N' cl C s H fp pins) tg g/\FQ (CU X scope N' cl C s H fp pins) ifs tt/\PE (CU X scope N' cl C s H fp pins) elt te)
  (hs:∀x,foldedSetIterable iter X.env x=pure x:=by intro _;rfl):PE X (.ListComp elt [⟨tg,iter,ifs,0⟩] scope pos) (GW ρ wi g tt te):=
 have F:=Nn h
 SL N' ρ hc hi F.S F.sl F.hl inner hs
theorem GM {X:Cx}{elt iter tg:Expr}{ifs:List Expr}{scope:Scope}{pos pos' spos:Pos}{i:Nat}{x:Str}(N':List Str)(ρ:List (Option Nat)){wi:TI}{g:TG}{tt:TT}{te:TE}(hN:X.N.Nodup)(hix:X.N[i]?=some x)(hx:GB X.env.scope x)
  (hc:X.calm=true) (hi:PI X tg iter wi) (h:CZ scope X.env.scope X.N N' ρ=true)
  (inner:∀(cl:List (Str×Addr)) (C:Addr) (s:Shared) (H:Hp) (fp:List Addr) (pins:List (Addr×Obj)),PG (CU X scope N' cl C s H fp pins) tg g/\FQ (CU X scope N' cl C s H fp pins) ifs tt/\PE (CU X scope N' cl C s H fp pins) elt te)
  (hsw:swapsWith (.ListComp elt [⟨tg,iter,ifs,0⟩] scope pos) (some (.Name x pos')) spos.line X.env=pure true:=by rfl)
  (hs:∀x,foldedSetIterable iter X.env x=pure x:=by intro _;rfl) (hf:X.fn x=true\/X.env.scope.names.lookup x=some .local:=by first|exact .inl rfl|exact .inr rfl|assumption) :
  PS X (.Assign [.Name x pos'] (.ListComp elt [⟨tg,iter,ifs,0⟩] scope pos) spos) (Ih (GW ρ wi g tt te) (Ag i)):=
 have F:=Nn h
 Qh N' ρ hN hix hx hc hi F.S F.sl F.hl inner hsw hs hf
def KZ (K:PySem.W.Frag):Sp:=fun vs H Q _=>∃(a:Addr) (ns:List Int),vs=[.ref a]/\A4 K H a (ns.map V.int)/\ns.length<=63/\JI H/\∀H',Q (.bl true) H'
theorem law_walk {l:PySem.W.OpenLaw}{q:Program}{loose:List Str}{XP:(Str->Option Value)->Heap->Prop}{YP:World->Heap->Prop}{d:DefRec}{K:Params->PySem.W.Frag}{x:Str}(k:Nat)(hk:k<=200)(hn:l.most=some 63)(hdf:d.params.defaults=[])
  (hY:∀(w:World) (h:Heap),YP w h->(K w.params).In h)
  (F:∀(w:World) (mg:Str->Option Value) (fa:Addr) (h:Heap),(K w.params).In h->h.Ns mainGlobals mg->mg d.name=some (.ref fa)->
   ∃fd:FuncData,(∀(s:Shared) (u:Value),BindsTo s fd ⟨[u],[]⟩ [(x,u)])/\∀base:Heap,(K w.params).In base->base.Ns mainGlobals mg->Bz l.prog w (K w.params) mg base BS k fa fd [x] (KZ (K w.params))) :
  PySem.W.WalkO q loose XP YP l.row.toRowW d [] (fun f vs=>PySem.call f vs):=
 L2.walk_of (n:=63) (k:=k) (x:=x) (CX:=fun _=>BS) (sp:=fun w=>KZ (K w.params)) hn (by decide) hdf
  ⟨rfl,by
    have:callerA.depth+605<recursionLimit:=by decide
    omega,by
     have:callerA.units+3400<cLine:=by decide
     omega,rfl⟩ hY F (fun _ H a ns hl hO hS=>⟨a,ns,rfl,hS,hl,hO,fun _=>rfl⟩) fun _ _ _ _ _ z=>z
end L2
namespace L2
open PySem
def DO (l:List (Str×NameKind)):Scope:={kind:=.function,names:=l,isGenerator:=false,isCoroutine:=false,more:=[]}
end L2
namespace L2
open PySem
theorem AR:bootBuiltins "len"=some (.builtin "len"):=by decide +kernel
theorem Qx:bootBuiltins "all"=some (.builtin "all"):=by decide +kernel
theorem SM:bootBuiltins "any"=some (.builtin "any"):=by decide +kernel
theorem Qw:bootBuiltins "isinstance"=some (.builtin "isinstance"):=by decide +kernel
theorem TQ:bootBuiltins "abs"=some (.builtin "abs"):=by decide +kernel
theorem Kd:bootBuiltins "min"=some (.builtin "min"):=by decide +kernel
theorem Pr:bootBuiltins "max"=some (.builtin "max"):=by decide +kernel
theorem MY:bootBuiltins "sorted"=some (.builtin "sorted"):=by decide +kernel
theorem EC:bootBuiltins "int"=some (.type "int"):=by decide +kernel
theorem QD:bootBuiltins "bool"=some (.type "bool"):=by decide +kernel
theorem Lk:bootBuiltins "list"=some (.type "list"):=by decide +kernel
theorem IM:bootBuiltins "tuple"=some (.type "tuple"):=by decide +kernel
end L2
namespace L2
open PySem PySem.Spec PyProof.Rows
theorem AF {n:Nat}(h:n<=1000000):n<=sizeLine:=by rw[M8];omega
theorem Af {n:Nat}(h:Nat.ble n 1000000=true):n<=sizeLine:=AF (Nat.le_of_ble_eq_true h)
theorem E8 {n:Nat}(h:n<1000000):n<sizeLine:=by rw[M8];omega
theorem A7 {H:Hp}{p:Addr}(h:H p=none)(o:HO):Aa H (upd H p o):=fun b u q=>by rw[Aw (BA q h)];exact q
theorem dT {p:Prop}[Decidable p](h:decide p=true):p:=Hm h
theorem dF {p:Prop}[Decidable p](h:¬decide p=true):¬p:=fun z=>h (Cw z)
theorem O6 {ns:List Int}{k:Int}(h0:0<=k)(h:k<(ns.length:Int)):C6 (ns.map V.int) k=some (.int (ns.getD k.toNat 0)):=by
 have hk:k.toNat<ns.length:=by omega
 have ek:k=((k.toNat:Nat):Int):=by omega
 have q:C6 (ns.map V.int) ((k.toNat:Nat):Int)=some (.int (ns.getD k.toNat 0)):=Bx (by rw[C3,AH hk];simp[Cc,hk])
 rw[←ek]at q
 exact q
theorem CY {α:Type}{l:List α}{i:Nat}{c:α}(h:l[i]?=some c):l.take (i+1)=l.take i++[c]:=by
 rw[List.take_succ,h];rfl
end L2
namespace L2
open PySem
end L2
namespace L2
open PySem
theorem Bk {t u:TS}{D:DH}{σ:St}{H:Hp}(M:St->Hp->Prop)(hu:∀σ' H',M σ' H'->u D σ' H')(ht:(∀σ' H',M σ' H'->u D σ' H')->t {D with nx:=u D} σ H):Jj t u D σ H:=ht hu
theorem L6 {p:Prop}[Decidable p](h:p):(!decide p)=false:=by rw[Cw h];rfl
theorem KE {p:Prop}[Decidable p](h:¬p):(!decide p)=true:=by rw[Cv h];rfl
theorem C8 {b:Bool}{A B:Prop}{v:Bool}(e:b=v)(h:if v=true then A else B):if b=true then A else B:=by rw[e];exact h
end L2
namespace L2
open PySem
end L2
namespace L2
open PySem PySem.Spec PyProof.Rows
inductive Tr where
 |v (x:V)
 |lst (l:List Tr)
 |tup (l:List Tr)
mutual
inductive BN (K:PySem.W.Frag)(H:Hp):V->Tr->Prop
 |flat {x:V}:E6 x=true->BN K H x (.v x)
 |lst {p:Addr} {xs:List V} {l:List Tr}:A4 K H p xs->C7 K H xs l->BN K H (.ref p) (.lst l)
 |tup {p:Addr} {xs:List V} {l:List Tr}:A9 K H p xs->C7 K H xs l->BN K H (.ref p) (.tup l)
inductive C7 (K:PySem.W.Frag)(H:Hp):List V->List Tr->Prop
 |nil:C7 K H [] []
 |cons {x:V} {t:Tr} {xs:List V} {l:List Tr}:BN K H x t->C7 K H xs l->C7 K H (x::xs) (t::l)
end
mutual
def Br:Tr->Tr->Bool
 |.v x,.v y=>DP x y
 |.lst l,.lst m=>BI l m
 |.tup l,.tup m=>BI l m
 |_,_=>false
def BI:List Tr->List Tr->Bool
 |[],[]=>true
 |x::l,y::m=>Br x y&&BI l m
 |_,_=>false
end
mutual
def Ci:Tr->Tr->Bool
 |.v _,.v _=>true
 |.lst l,.lst m=>EF l m
 |.tup l,.tup m=>EF l m
 |_,_=>false
def EF:List Tr->List Tr->Bool
 |x::l,y::m=>Ci x y&&EF l m
 |_,_=>true
end
mutual
def Bu:Tr->Nat
 |.v _=>0
 |.lst l=>BJ l+1
 |.tup l=>BJ l+1
def BJ:List Tr->Nat
 |[]=>0
 |x::l=>max (Bu x) (BJ l)
end
theorem OJ {x:V}(h:E6 x=true):DP x x=true:=by
 cases x<;>first|rfl|(simp[DP];done)|(simp[E6]at h)
mutual
def Fe:Tr->Bool
 |.v x=>E6 x
 |.lst l=>Fs l
 |.tup l=>Fs l
def Fs:List Tr->Bool
 |[]=>true
 |x::l=>Fe x&&Fs l
end
mutual
theorem Ly:∀t:Tr,Fe t=true->Br t t=true
 |.v x,h=>by rw[Br];exact OJ (by simpa[Fe] using h)
 |.lst l,h=>by rw[Br];exact KU l (by simpa[Fe] using h)
 |.tup l,h=>by rw[Br];exact KU l (by simpa[Fe] using h)
theorem KU:∀l:List Tr,Fs l=true->BI l l=true
 |[],_=>by rw[BI]
 |
  x::l,h=>by
  rw[Fs,ET]at h
  rw[BI,Ly x h.1,KU l h.2];rfl
end
mutual
theorem BN.ok {K:PySem.W.Frag}{H:Hp}:∀{x:V} {t:Tr},BN K H x t->Fe t=true
 |_,_,.flat h=>by rw[Fe];exact h
 |_,_,.lst _ h=>by rw[Fe];exact h.ok
 |_,_,.tup _ h=>by rw[Fe];exact h.ok
theorem C7.ok {K:PySem.W.Frag}{H:Hp}:∀{xs:List V} {l:List Tr},C7 K H xs l->Fs l=true
 |_,_,.nil=>by rw[Fs]
 |_,_,.cons h r=>by rw[Fs,h.ok,r.ok];rfl
end
theorem C7.length {K:PySem.W.Frag}{H:Hp}:∀{xs:List V} {l:List Tr},C7 K H xs l->xs.length=l.length
 |_,_,.nil=>rfl
 |_,_,.cons _ r=>by simp[r.length]
theorem GU:∀{l m:List Tr},l.length≠m.length->BI l m=false
 |[],[],h=>absurd rfl h
 |[],_::_,_=>by rw[BI]<;>simp
 |_::_,[],_=>by rw[BI]<;>simp
 |
  x::l,y::m,h=>by
  rw[BI,GU (l:=l) (m:=m) (fun e=>h (by simp[e])),LS]
section
variable {X:Cx}{pins:List (Addr×Obj)}{σ:St}{H:Hp}{s:Shared}
mutual
theorem BN.inj (I:A6 X pins σ H s):∀{t t':Tr} {x:V},BN X.K H x t->BN X.K H x t'->t=t'
 |
  .v x,t',_,.flat h,h'=>by
  cases h' with
  |flat _=>rfl
  |lst _ _=>cases h
  |tup _ _=>cases h
 |
  .lst l,t',_,.lst (p:=p) (xs:=xs) hq hr,h'=>by
  cases h' with
  |flat h=>cases h
  |
   lst hq' hr'=>
   have e:=I.list_inj hq hq'
   subst e
   rw[C7.inj I hr hr']
  |
   tup hq' hr'=>
   obtain⟨_,_,⟨o,n,e1,c1,_⟩,_⟩:=I.list hq
   obtain⟨_,_,⟨o',e2,c2,_⟩,_⟩:=I.tuple hq'
   rw[e1]at e2;cases e2
   rw[c1]at c2;simp at c2
 |
  .tup l,t',_,.tup (p:=p) (xs:=xs) hq hr,h'=>by
  cases h' with
  |flat h=>cases h
  |
   tup hq' hr'=>
   have e:=I.tuple_inj hq hq'
   subst e
   rw[C7.inj I hr hr']
  |
   lst hq' hr'=>
   obtain⟨_,_,⟨o,n,e1,c1,_⟩,_⟩:=I.list hq'
   obtain⟨_,_,⟨o',e2,c2,_⟩,_⟩:=I.tuple hq
   rw[e1]at e2;cases e2
   rw[c1]at c2;simp at c2
theorem C7.inj (I:A6 X pins σ H s):∀{l l':List Tr} {xs:List V},C7 X.K H xs l->C7 X.K H xs l'->l=l'
 |[],_,_,.nil,h'=>by cases h';rfl
 |
  t::l,_,_,.cons h r,h'=>by
  cases h' with
  |cons h2 r2=>rw[BN.inj I h h2,C7.inj I r r2]
end
theorem UX {α:Type}{e:Nat->Bool}{f:α->Bool}:∀{l:List α},(∀j x,l[j]?=some x->e j=f x)->(List.range l.length).all e=l.all f:=by
 intro l h
 rw[Hb]
 simp only[K4,ER]
 constructor
 .intro q x hx
  obtain⟨i,hi,hx⟩:=FJ.mp hx
  rw[←h i x (by rw[AH hi,hx])]
  exact q i hi
 .intro q i hi
  rw[h i l[i] (AH hi)]
  exact q _ (Ge hi)
theorem Nv:∀{l m:List Tr},l.length=m.length->BI l m=(l.zip m).all fun p=>Br p.1 p.2
 |[],[],_=>by rw[BI];rfl
 |[],_::_,h=>by simp at h
 |_::_,[],h=>by simp at h
 |
  x::l,y::m,h=>by
  rw[BI,Nv (l:=l) (m:=m) (by simpa using h)]
  rfl
theorem C7.at {K:PySem.W.Frag}{H:Hp}:∀{xs:List V} {l:List Tr} {j:Nat} {t:Tr},C7 K H xs l->l[j]?=some t->∃x,xs[j]?=some x/\BN K H x t
 |_,_,_,_,.nil,h=>by simp at h
 |_,_,0,_,.cons h _,e=>by simp at e;subst e;exact⟨_,rfl,h⟩
 |
  _,_,j+1,_,.cons _ r,e=>by
  obtain⟨x,h1,h2⟩:=r.at (j:=j) (by simpa using e)
  exact⟨x,by simpa using h1,h2⟩
theorem IP:∀{l m:List Tr} {j:Nat} {t t':Tr},EF l m=true->l[j]?=some t->m[j]?=some t'->Ci t t'=true
 |[],_,_,_,_,_,h,_=>by simp at h
 |_::_,[],_,_,_,_,_,h=>by simp at h
 |
  x::l,y::m,0,t,t',h,e1,e2=>by
  simp at e1 e2;subst e1 e2
  rw[EF,ET]at h;exact h.1
 |
  x::l,y::m,j+1,t,t',h,e1,e2=>by
  rw[EF,ET]at h
  exact IP (j:=j) h.2 (by simpa using e1) (by simpa using e2)
theorem Iy:∀{l:List Tr} {j:Nat} {t:Tr},l[j]?=some t->Bu t<=BJ l
 |[],_,_,h=>by simp at h
 |x::l,0,t,h=>by simp at h;subst h;rw[BJ];omega
 |
  x::l,j+1,t,h=>by
  have:=Iy (l:=l) (j:=j) (t:=t) (by simpa using h)
  rw[BJ];omega
theorem J7 {A:Around}{l m:List Tr}{xs ys:List V}{its jts:List Value}(hr:C7 X.K H xs l)(hr':C7 X.K H ys m)(rv:Aq xs its)(rv':Aq ys jts)
  (ih:∀(j:Nat) (t t':Tr) (x y:V) (u v:Value),l[j]?=some t->m[j]?=some t'->BN X.K H x t->AM x u->BN X.K H y t'->AM y v->SeqAt.EqAt A.in1 s u v (Br t t')) :
  ∀j (h1:j<its.toArray.size) (h2:j<jts.toArray.size),SeqAt.EqAt A.in1 s its.toArray[j] jts.toArray[j] (match l[j]?,m[j]? with|some t,some t'=>Br t t'|_,_=>true):=by
 intro j h1 h2
 have l1:=hr.length;have l2:=hr'.length;have l3:=rv.length;have l4:=rv'.length
 rw[Bh]at h1 h2
 obtain⟨t,ht⟩:∃t,l[j]?=some t:=⟨l[j]'(by omega),AH (by omega)⟩
 obtain⟨t',ht'⟩:∃t',m[j]?=some t':=⟨m[j]'(by omega),AH (by omega)⟩
 obtain⟨x,hx,hxt⟩:=hr.at ht
 obtain⟨y,hy,hyt⟩:=hr'.at ht'
 obtain⟨u,hu,ru⟩:=rv.get hx
 obtain⟨v,hv,rw'⟩:=rv'.get hy
 rw[ht,ht']
 have e1:its.toArray[j]=u:=by
  have:=AH (l:=its) (i:=j) h1
  rw[hu]at this
  simpa using(Dx this).symm
 have e2:jts.toArray[j]=v:=by
  have:=AH (l:=jts) (i:=j) h2
  rw[hv]at this
  simpa using(Dx this).symm
 rw[e1,e2]
 exact ih j t t' x y u v ht ht' hxt ru hyt rw'
theorem N5 {l m:List Tr}(h:l.length=m.length):(List.range l.length).all (fun j=>match l[j]?,m[j]? with|some t,some t'=>Br t t'|_,_=>true)=BI l m:=by
 rw[Nv h]
 have e:l.length=(l.zip m).length:=by rw[List.length_zip];omega
 rw[e]
 refine UX fun j p hp=>?_
 obtain⟨h1,h2⟩:=List.getElem?_zip_eq_some.mp hp
 rw[h1,h2]
theorem Of {A:Around}{p q:Addr}{xs ys:List V}{l m:List Tr}(I:A6 X pins σ H s)(hu:A.units<cLine)(hq:A4 X.K H p xs)(hr:C7 X.K H xs l)(hq':A4 X.K H q ys)(hr':C7 X.K H ys m)
  (ih:∀(j:Nat) (t t':Tr) (x y:V) (u v:Value),l[j]?=some t->m[j]?=some t'->BN X.K H x t->AM x u->BN X.K H y t'->AM y v->SeqAt.EqAt A.in1 s u v (Br t t')) :
  SeqAt.RcAt A s (.ref p) (.ref q) (BI l m)/\SeqAt.RcNeAt A s (.ref p) (.ref q) (!BI l m):=by
 obtain⟨its,rv,pl,_⟩:=I.list hq
 obtain⟨jts,rv',pl',_⟩:=I.list hq'
 have l1:=hr.length;have l2:=hr'.length;have l3:=rv.length;have l4:=rv'.length
 by_cases hl:l.length=m.length
 .have e:its.toArray.size=l.length:=by rw[Bh];omega
  have a:=SeqAt.RcAt.lists (A:=A) pl.isList pl'.isList (by rw[Bh,Bh];omega) hu (J7 hr hr' rv rv' ih)
  have b:=SeqAt.RcNeAt.lists (A:=A) pl.isList pl'.isList (by rw[Bh,Bh];omega) hu (J7 hr hr' rv rv' ih)
  rw[e,N5 hl]at a b
  exact⟨a,b⟩
 .rw[GU hl]
  have hne:(its.toArray.size != jts.toArray.size)=true:=by
   rw[Bh,Bh]
   simp only[bne_iff_ne,ne_eq];omega
  exact⟨SeqAt.RcAt.lists_lengths pl.isList pl'.isList hne hu,SeqAt.RcNeAt.lists_lengths pl.isList pl'.isList hne hu⟩
theorem NG {A:Around}{p q:Addr}{xs ys:List V}{l m:List Tr}(I:A6 X pins σ H s)(hu:A.units<cLine)(hq:A9 X.K H p xs)(hr:C7 X.K H xs l)(hq':A9 X.K H q ys)(hr':C7 X.K H ys m)
  (ih:∀(j:Nat) (t t':Tr) (x y:V) (u v:Value),l[j]?=some t->m[j]?=some t'->BN X.K H x t->AM x u->BN X.K H y t'->AM y v->SeqAt.EqAt A.in1 s u v (Br t t')) :
  SeqAt.RcAt A s (.ref p) (.ref q) (BI l m)/\SeqAt.RcNeAt A s (.ref p) (.ref q) (!BI l m):=by
 obtain⟨its,rv,pl,_⟩:=I.tuple hq
 obtain⟨jts,rv',pl',_⟩:=I.tuple hq'
 have l1:=hr.length;have l2:=hr'.length;have l3:=rv.length;have l4:=rv'.length
 have a:=SeqAt.RcAt.tuples (A:=A) (show s.heap.IsTuple p its.toArray from pl) (show s.heap.IsTuple q jts.toArray from pl') hu (J7 hr hr' rv rv' ih)
 have b:=SeqAt.RcNeAt.tuples (A:=A) (show s.heap.IsTuple p its.toArray from pl) (show s.heap.IsTuple q jts.toArray from pl') hu (J7 hr hr' rv rv' ih)
 have e:((List.range (min its.toArray.size jts.toArray.size)).all (fun j=>match l[j]?,m[j]? with|some t,some t'=>Br t t'|_,_=>true)&&its.toArray.size==jts.toArray.size)=BI l m:=by
  by_cases hl:l.length=m.length
  .have e1:min its.toArray.size jts.toArray.size=l.length:=by rw[Bh,Bh];omega
   have e2:(its.toArray.size==jts.toArray.size)=true:=by rw[Bh,Bh];simp;omega
   rw[e1,e2,N5 hl,Bool.and_true]
  .have e2:(its.toArray.size==jts.toArray.size)=false:=by rw[Bh,Bh];simp;omega
   rw[e2,GU hl,LS]
 rw[e]at a b
 exact⟨a,b⟩
theorem OM (I:A6 X pins σ H s)(n:Nat):∀(A:Around) (t t':Tr) (x y:V) (u v:Value),Bu t<=n->A.units+n<cLine->Ci t t'=true->BN X.K H x t->AM x u->BN X.K H y t'->AM y v->SeqAt.EqAt A s u v (Br t t'):=by
 induction n with
 |
  zero=>
  intro A t t' x y u v hd hu hs hx rx hy ry
  cases hx with
  |
   flat fx=>
   cases hy with
   |flat fy=>rw[Br];exact Lr rx ry fx fy
   |lst _ _=>simp[Ci]at hs
   |tup _ _=>simp[Ci]at hs
  |lst _ _=>simp[Bu]at hd
  |tup _ _=>simp[Bu]at hd
 |
  succ n ih=>
  intro A t t' x y u v hd hu hs hx rx hy ry
  cases hx with
  |
   flat fx=>
   cases hy with
   |flat fy=>rw[Br];exact Lr rx ry fx fy
   |lst _ _=>simp[Ci]at hs
   |tup _ _=>simp[Ci]at hs
  |
   @lst p xs l hq hr=>
   cases hy with
   |flat fy=>simp[Ci]at hs
   |tup _ _=>simp[Ci]at hs
   |
    @lst q ys m hq' hr'=>
    cases rx;cases ry
    rw[Bu]at hd
    rw[Ci]at hs
    by_cases e:p=q
    .subst e
     have e1:=BN.inj I (BN.lst hq hr) (BN.lst hq' hr')
     rw[←e1,Ly _ (BN.lst hq hr).ok]
     exact SeqAt.EqAt.same _
    .rw[Br]
     refine SeqAt.EqAt.of_refs e (Of I (by omega) hq hr hq' hr' fun j t t' x y u v h1 h2 h3 h4 h5 h6=>?_).1
     exact ih A.in1 t t' x y u v (by have:=Iy h1;omega) (by show A.units+1+n<cLine;omega) (IP hs h1 h2) h3 h4 h5 h6
  |
   @tup p xs l hq hr=>
   cases hy with
   |flat fy=>simp[Ci]at hs
   |lst _ _=>simp[Ci]at hs
   |
    @tup q ys m hq' hr'=>
    cases rx;cases ry
    rw[Bu]at hd
    rw[Ci]at hs
    by_cases e:p=q
    .subst e
     have e1:=BN.inj I (BN.tup hq hr) (BN.tup hq' hr')
     rw[←e1,Ly _ (BN.tup hq hr).ok]
     exact SeqAt.EqAt.same _
    .rw[Br]
     refine SeqAt.EqAt.of_refs e (NG I (by omega) hq hr hq' hr' fun j t t' x y u v h1 h2 h3 h4 h5 h6=>?_).1
     exact ih A.in1 t t' x y u v (by have:=Iy h1;omega) (by show A.units+1+n<cLine;omega) (IP hs h1 h2) h3 h4 h5 h6
end
section
variable {X:Cx}
def FG (K:PySem.W.Frag)(neg:Bool):R2:=fun x y H Q=>∃t t',BN K H x t/\BN K H y t'/\(∃p,x = .ref p)/\(∃p,y = .ref p)/\Ci t t'=true/\Bu t<=60/\Q (.bl (if neg then !Br t t' else Br t t')) H
theorem Mv {neg:Bool}(hu:X.A.units+64<cLine):BE X (compareOp (if neg then .NotEq else .Eq)) (FG X.K neg):=by
 intro pins s σ H x y v u Q I rx ry h
 obtain⟨t,t',hx,hy,⟨p,rfl⟩,⟨q,rfl⟩,hs,hd,q'⟩:=h
 cases rx;cases ry
 have done:∀l m,SeqAt.RcAt X.A s (.ref p) (.ref q) (BI l m)/\SeqAt.RcNeAt X.A s (.ref p) (.ref q) (!BI l m)->Q (.bl (if neg then !BI l m else BI l m)) H->
   wpAny (model X.prog X.w) X.A (compareOp (if neg then .NotEq else .Eq) (.ref p) (.ref q)) (EP X pins σ Q) X.xe s:=fun l m hb hq=>by
  cases neg with
  |false=>exact hb.1 X.prog X.w X.xe _ ⟨.bl _,H,I,rfl,hq⟩
  |true=>exact hb.2 X.prog X.w X.xe _ ⟨.bl _,H,I,rfl,hq⟩
 cases hx with
 |flat fx=>cases fx
 |
  @lst _ xs l hq hr=>
  cases hy with
  |flat fy=>cases fy
  |tup _ _=>simp[Ci]at hs
  |
   @lst _ ys m hq' hr'=>
   rw[Bu]at hd
   rw[Ci]at hs
   rw[Br]at q'
   refine done l m (Of I (by omega) hq hr hq' hr' fun j t t' x y u v h1 h2 h3 h4 h5 h6=>?_) q'
   exact OM I 60 X.A.in1 t t' x y u v (by have:=Iy h1;omega) (by show X.A.units+1+60<cLine;omega) (IP hs h1 h2) h3 h4 h5 h6
 |
  @tup _ xs l hq hr=>
  cases hy with
  |flat fy=>cases fy
  |lst _ _=>simp[Ci]at hs
  |
   @tup _ ys m hq' hr'=>
   rw[Bu]at hd
   rw[Ci]at hs
   rw[Br]at q'
   refine done l m (NG I (by omega) hq hr hq' hr' fun j t t' x y u v h1 h2 h3 h4 h5 h6=>?_) q'
   exact OM I 60 X.A.in1 t t' x y u v (by have:=Iy h1;omega) (by show X.A.units+1+60<cLine;omega) (IP hs h1 h2) h3 h4 h5 h6
theorem GF (hu:X.A.units+64<cLine):BE X (compareOp .Eq) (FG X.K false):=Mv (neg:=false) hu
theorem KQ (hu:X.A.units+64<cLine):BE X (compareOp .NotEq) (FG X.K true):=Mv (neg:=true) hu
theorem F5 {A:Around}{k:Nat}(hr:CC k A):A.units+64<cLine:=by have:=hr.un;omega
end
end L2
namespace L2
open PySem PySem.Spec PyProof.Rows
section
variable {X:Cx}
end
end L2
namespace L2
open PySem PySem.Spec PyProof.Rows
abbrev Fb:Str:="abcdefghijklmnopqrstuvwxyz"
theorem Pi:EL Fb=(List.range 26).map (97 + ·):=by decide +kernel
def GR (x:Int):Nat:=97+(x%26).toNat
theorem NC (x:Int):C6 (EL Fb) (x%26)=some (GR x):=by
 have h0:=BV x (show(26:Int)≠0 by decide)
 have h1:=BW x (show(0:Int)<26 by decide)
 have e:x%26=(((x%26).toNat:Nat):Int):=by omega
 rw[e]
 refine Bx ?_
 rw[Pi,C3,List.getElem?_range (by omega)]
 rfl
theorem NR:Fb.length<=sizeLine:=AF (by decide +kernel)
theorem DL {α:Type}(l:List α){k:Int}(h:0<=k):GT l none (some k)=l.take k.toNat:=by
 unfold GT
 have e:k=((k.toNat:Nat):Int):=by omega
 rw[HT.sIx_none,e,HT.sIx_nat,FK,Nat.sub_zero]
 rw[show(((k.toNat:Nat):Int)).toNat=k.toNat by omega]
 by_cases h:k.toNat<=l.length
 .rw[Gf h]
 .rw[Nat.min_eq_right (by omega),Dj (by omega),Dj (by omega)]
theorem Tu {α:Type}(l:List α){i j:Int}(hi:0<=i)(hj:0<=j)(hl:j<=(l.length:Int))(hij:i<=j):GT l (some i) (some j)=(l.drop i.toNat).take (j.toNat-i.toNat):=by
 unfold GT
 have e1:i=((i.toNat:Nat):Int):=by omega
 have e2:j=((j.toNat:Nat):Int):=by omega
 rw[e1,e2,HT.sIx_nat,HT.sIx_nat]
 rw[show(((i.toNat:Nat):Int)).toNat=i.toNat by omega,show(((j.toNat:Nat):Int)).toNat=j.toNat by omega,Gf (by omega),Gf (by omega)]
theorem Es {α:Type}(l:List α){i:Int}(hi:0<=i):GT l (some i) none=l.drop i.toNat:=by
 unfold GT
 have e1:i=((i.toNat:Nat):Int):=by omega
 rw[e1,HT.sIx_nat,HT.sIx_none,show(((i.toNat:Nat):Int)).toNat=i.toNat by omega]
 by_cases h:i.toNat<=l.length
 .rw[Gf h,Dj (by rw[Ck];omega)]
 .rw[Nat.min_eq_right (by omega),DJ,List.take_zero,OY (by omega)]
end L2
namespace L2
open PySem
end L2
namespace L2
open PySem
end L2
namespace L2
open PySem
end L2
namespace L2
open PySem PySem.Spec PyProof.Rows
end L2
namespace L2
open PySem PySem.Spec PyProof.Rows
def Rn (C:Addr):Sp:=fun vs H Q _=>∃(x dx:Addr) (n:V),vs=[.ref x,n]/\H x=some (.ins C dx [])/\∀H',(∀b o,H b=some o->b≠x->H' b=some o)->(∃dx,H' x=some (.ins C dx [("n",n)]))->Q .non H'
def UG (C:Addr):Sp:=fun vs H Q _=>∃(x dx:Addr) (v1 v2 v3 v4 v5 v6 v7:V),vs=[.ref x,v1,v2,v3,v4,v5,v6,v7]/\H x=some (.ins C dx [])/\∀H',(∀b o,H b=some o->b≠x->H' b=some o)->(∃dx,H' x=some (.ins C dx [("names",v1),("lows",v2),("highs",v3),("table",v4),("spots",v5),("term",v6),("path",v7)]))->Q .non H'
theorem Nw {α:Type}[DecidableEq α]:∀{l k:List α},l.Nodup->(∀x∈l,x∈k)->l.length<=k.length
 |[],_,_,_=>BP _
 |
  a::l,k,hn,hs=>by
  have ha:=hs a Cb
  have h2:=IS.mp hn
  have:=Nw (l:=l) (k:=k.erase a) h2.2 fun x hx=>(List.mem_erase_of_ne (show x≠a from fun e=>h2.1 (by rw[←e];exact hx))).mpr (hs x (Cz _ hx))
  rw[List.length_erase_of_mem ha]at this
  have:0<k.length:=List.length_pos_of_mem ha
  simp only[B5]
  omega
theorem ND {α:Type}{l:List α}{n:Nat}(h:l.length=n+1):∃p x,l=p++[x]/\p.length=n:=by
 have hne:l≠[]:=fun e=>by rw[e]at h;cases h
 exact⟨l.dropLast,l.getLast hne,(OZ hne).symm,by rw[List.length_dropLast];omega⟩
theorem GY {H H2:Hp}{x dx C:Addr}(hx:H x=none)(hdx:H dx=none)(k:∀b o,(upd (upd H dx (.own x)) x (.ins C dx [])) b=some o->b≠x->H2 b=some o):Aa H H2:=fun b o e=>by
 have n1:=BA e hx
 have n2:=BA e hdx
 exact k b o (by rw[Aw n1,Aw n2];exact e) n1
end L2
namespace L2
open PySem PySem.Spec PyProof.Rows
section
variable {X:Cx}{pins:List (Addr×Obj)}{σ:St}{H:Hp}{s:Shared}{h':Heap}
theorem A6.turnedL {t':Nat}{ch:List Addr}(I:A6 X pins σ H s)(k:∀b o,b∉ch->s.heap.get? b=some o->h'.get? b=some o)(hf:∀b∈ch,Eh X pins H b):A6 X pins σ H {s with heap:=h',toks:=t'}:=by
 have nit:∀b u,H b=some u->b∉ch:=fun b u e z=>by rw[(hf b z).1]at e;cases e
 have hL:X.env.locals∉ch:=fun z=>(hf _ z).2.1 rfl
 refine I.step (g':=s.gens) (d':=s.drawn) (ch:=ch) (fun b hb=>?_) (fun b o _ _ hc e _=>k b o hc e) (fun b o _ _ hc e _=>⟨o.slots,k b o hc e⟩) (fun _ _ _ _ n=>n)
  (fun b o hc e=>⟨o,k b o hc e⟩) (fun _ _ e=>e) (fun _ _ _ e=>e) (fun b ps e=>⟨#[],by rw[e];simp⟩) (fun m hm=>?_) (fun b u e=>?_) I.bare
 .obtain⟨f0,f1,f2,f3,f4,f5⟩:=hf b hb
  exact⟨f3,f1,f4,f5⟩
 .obtain⟨o,es,ep,ho,r⟩:=hm
  exact⟨o,es,ep,k _ o hL ho,r⟩
 .refine(I.hok b u e).stay (fun c v hc q=>k c v ?_ q) (fun _ q=>q) fun _ _ q=>q
  rcases hc with z|z
  .rw[z];exact nit b u e
  .exact nit c _ z
end
def Ij (K:PySem.W.Frag)(a:Addr):It:=
 ⟨fun i H=>∃xs x,A4 K H a xs/\xs[i]?=some x,fun i H v H'=>∃x T,(∀xs,A4 K H a xs->xs[i]?=some x)/\H T=none/\v = .ref T/\H'=upd H T (.tup [.int i,x]),fun i H=>∃xs,A4 K H a xs/\xs.length<=i⟩
theorem R3 {P:Program}{w:World}{K:PySem.W.Frag}{elts:List Expr}{x1:Nat}{pos:Pos}(a e it:Addr)(hei:e≠it):FW P w K (.Tuple elts x1 pos) (Ij K a) [e,it] e (fun i h=>(∃old,IsEnum h e it i old)/\h.IsListIter it a i) where
 mem:=by simp
 obj:=fun i h st b hb=>by
  obtain⟨⟨old,he⟩,hit⟩:=st
  rcases Bw.mp hb with rfl|hb
  .exact⟨_,he,fun v z=>by cases z⟩
  .have e:b=it:=by simpa using hb
   subst e
   obtain⟨o,e,c,d⟩:=hit
   exact⟨o,e,fun v z=>by rw[d]at z;cases z⟩
 keep:=fun i h h' st k=>by
  obtain⟨⟨old,he⟩,hit⟩:=st
  exact⟨⟨old,k e (by simp) _ he⟩,hit.at fun o e=>k it (by simp) o e⟩
 item:=by
  intro X hP hw hK hc i pins s σ H E I hf st hg
  subst hP hw hK
  obtain⟨xs,x,hq,hx⟩:=hg
  obtain⟨its,rv,p,hz⟩:=I.list hq
  obtain⟨u,hu,ru⟩:=rv.get hx
  obtain⟨⟨old,he⟩,hit⟩:=st
  refine wpAny_pyNext_enum_item he hit p.isList (x:=u) (by simpa using hu) hei fun h1 ho hit' hT hsz hk=>⟨_,rfl,?_⟩
  refine wpAny_letOwnedTupleGo_enum ho fun h2 he2 hs2=>?_
  have hTn:H s.heap.objs.size=none:=I.hok.fresh (Ak _)
  have helt:e<s.heap.objs.size:=Bc he
  have hilt:it<s.heap.objs.size:=by obtain⟨_,x,_⟩:=hit;exact Bc x
  have I1:A6 X pins σ (upd H s.heap.objs.size (.tup [.int i,x])) {s with heap:=s.heap.push {cls:=.type "tuple",data:=.seq #[.int i s.toks,u]},toks:=s.toks+1}:=I.laid (t':=s.toks+1) (o:=.tup [.int i,x]) (fun b o e=>Be _ e) (Ak _) ⟨Af rfl,[.int i s.toks,u],.cons ⟨_,rfl⟩ (.cons ru .nil),DY.new _ _⟩
  have I2:A6 X pins σ (upd H s.heap.objs.size (.tup [.int i,x])) {s with heap:=h2,toks:=s.toks+1}:=by
   refine A6.turnedL (s:={s with heap:=s.heap.push {cls:=.type "tuple",data:=.seq #[.int i s.toks,u]},toks:=s.toks+1}) (h':=h2) (ch:=[e,it]) (t':=s.toks+1) I1 (fun b o hb q=>?_) (fun b hb=>?_)
   .have nbe:b≠e:=fun z=>hb (by simp[z])
    have nbi:b≠it:=fun z=>hb (by simp[z])
    show h2.get? b=some o
    rw[hs2.2 b nbe]
    rcases P0 q with⟨rfl,rfl⟩|q
    .exact hT
    .exact hk b o nbe nbi q
   .obtain⟨f0,f1,f2,f3,f4,f5⟩:=hf b hb
    have nb:b≠s.heap.objs.size:=by
     rcases Bw.mp hb with rfl|hb
     .exact BO helt
     .have:b=it:=by simpa using hb
      subst this
      exact BO hilt
    exact⟨by rw[Aw nb];exact f0,f1,f2,f3,f4,f5⟩
  refine⟨.ref s.heap.objs.size,_,I2,rfl,⟨x,_,fun ys hy=>by rw[I.list_inj hy hq];exact hx,hTn,rfl,rfl⟩,⟨⟨_,by simpa using he2⟩,hit'.at fun o y=>(hs2.2 it hei.symm).trans y⟩,fun b hb=>?_⟩
  obtain⟨f0,f1,f2,f3,f4,f5⟩:=hf b hb
  have nb:b≠s.heap.objs.size:=by
   rcases Bw.mp hb with rfl|hb
   .exact BO helt
   .have:b=it:=by simpa using hb
    subst this
    exact BO hilt
  rw[Aw nb]
  exact f0
 done:=by
  intro X hP hw hK hc i pins s σ H E I hf st hg
  subst hP hw hK
  obtain⟨xs,hq,hx⟩:=hg
  obtain⟨its,rv,p,hz⟩:=I.list hq
  obtain⟨⟨old,he⟩,hit⟩:=st
  have hl:=rv.length
  refine wpAny_pyNext_enum_end (I.ok.hd hc) he hit p.isList (by simp;omega) fun h' eb=>⟨rfl,?_⟩
  exact I.turnedL (ch:=[e,it]) (t':=s.toks) (fun b o hb q=>eb b o (fun z=>hb (by simp[z])) q) hf
 self:=fun _ _ _ _ _ st h=>by
  obtain⟨⟨old,he⟩,_⟩:=st
  exact Mb he h
def Sq (K:PySem.W.Frag)(ta:TA):TI:=fun σ H R=>ta σ H fun vs H1=>∃a:Addr,vs=[.ref a]/\(∃xs,A4 K H1 a xs)/\R (Ij K a) H1
theorem Kt {X:Cx}{a:Expr}{ta:TA}{p pos:Pos}{elts:List Expr}{x1:Nat}{pos2:Pos}(hg:Gl X "enumerate")(hm:X.mg "enumerate"=none)(ha:PA X [a] ta)(hs:starEach [a] X.env=[(false,eval a X.env)]:=by rfl):PI X (.Tuple elts x1 pos2) (.Call (.Name "enumerate" p) [a] [] pos) (Sq X.K ta):=by
 intro pins s σ H R I h
 refine Call_ (Fg I hg hm boot_enumerate (Ha (AC (ha pos pins s σ H _ I h) fun us s1 ⟨vs,H1,I1,r1,q1⟩=>?_) hs rfl))
 obtain⟨l,rfl,⟨xs,hq⟩,q⟩:=q1
 cases r1 with
 |
  cons r rr=>
  cases rr
  cases r
  obtain⟨its,rv,pl,hz⟩:=I1.list hq
  refine call_enumerate_list pl.isList fun h' he hit hsz hk=>?_
  refine Mb he ?_
  refine⟨_,[s1.heap.objs.size+1,s1.heap.objs.size],_,_,H1,rfl,I1.kept (t':=s1.toks) hk,R3 l _ _ (FH (Gb _)),⟨⟨_,he⟩,hit⟩,fun b hb=>?_,q⟩
  rcases Bw.mp hb with rfl|hb
  .exact I1.fpOk (Fm _) (I1.hok.fresh (Fm _))
  .have e:b=s1.heap.objs.size:=by simpa using hb
   subst e
   exact I1.fpOk (Ak _) (I1.hok.fresh (Ak _))
theorem LI {K:PySem.W.Frag}{a:Addr}{xs:List V}{g:TG}{tb:TS}{D:DH}{σ:St}{H:Hp}(Pv:Nat->St->Hp->Prop)(h0:Pv 0 σ H)(hl:∀i σ H,i<=xs.length->Pv i σ H->A4 K H a xs)
  (hs:∀i x T σ H,xs[i]?=some x->Pv i σ H->H T=none->g (.ref T) σ (upd H T (.tup [.int i,x])) fun σ2 H2=>tb {D with nx:=Pv (i+1),ct:=Pv (i+1),bk:=D.nx} σ2 H2) (hd:∀σ H,Pv xs.length σ H->D.nx σ H) :
  ∃W:Nat->Nat->St->Hp->Prop,(∃m,W 0 m σ H)/\∀i m σ H,W i m σ H->
   ((Ij K a).stop i H/\D.nx σ H)\/((Ij K a).go i H/\∃N:St->Hp->Prop,(∀σ' H',N σ' H'->∃m',m'<m/\W (i+1) m' σ' H')/\∀x H',(Ij K a).yld i H x H'->g x σ H' fun σ2 H2=>tb {D with nx:=N,ct:=N,bk:=D.nx} σ2 H2):=by
 refine⟨fun i m σ H=>m=xs.length-i/\i<=xs.length/\Pv i σ H,⟨xs.length,by simp,BP _,h0⟩,?_⟩
 rintro i m σ H ⟨rfl,hi,p⟩
 have q:=hl i σ H hi p
 by_cases hlt:i<xs.length
 .refine .inr ⟨⟨xs,xs[i],q,AH hlt⟩,Pv (i+1),fun σ' H' p'=>⟨xs.length-(i+1),by omega,rfl,hlt,p'⟩,fun v H' y=>?_⟩
  obtain⟨x,T,hx,hT,rfl,rfl⟩:=y
  exact hs i x T σ H (hx xs q) p hT
 .have e:i=xs.length:=by omega
  subst e
  exact .inl ⟨⟨xs,q,Ak _⟩,hd σ H p⟩
end L2
namespace Bd
end Bd
namespace L2
open PySem PySem.Spec PyProof.Rows Bd
section
variable {es:List Expr}{env:Env}{p:Pos}
theorem B3 {c:Const}{n:Nat}:starEach (.Constant c n p::es) env=(false,eval (.Constant c n p) env)::starEach es env:=rfl
theorem Bi {x:Str}:starEach (.Name x p::es) env=(false,eval (.Name x p) env)::starEach es env:=rfl
theorem Ea {a b:Expr}{o:Operator}:starEach (.BinOp a o b p::es) env=(false,eval (.BinOp a o b p) env)::starEach es env:=rfl
theorem Ik {f:Expr}{as:List Expr}{ks:List Keyword}:starEach (.Call f as ks p::es) env=(false,eval (.Call f as ks p) env)::starEach es env:=rfl
theorem EI {a b:Expr}:starEach (.Subscript a b p::es) env=(false,eval (.Subscript a b p) env)::starEach es env:=rfl
theorem DC {as:List Expr}{n:Nat}:starEach (.Tuple as n p::es) env=(false,eval (.Tuple as n p) env)::starEach es env:=rfl
end
@[irreducible] def Fd (X:Cx) (es:List Expr) (t:TA):Prop:=PA X es t
section
variable {X:Cx}{e:Expr}{es:List Expr}{te:TE}{t:TA}{pos:Pos}
theorem BF:Fd X [] IE:=by unfold Fd;exact A2
theorem Ae (ha:PE X e te)(hr:Fd X es t)(hs:starEach (e::es) X.env=(false,eval e X.env)::starEach es X.env):Fd X (e::es) (GS te t):=by unfold Fd at *;exact A0 ha hr hs
theorem Eo (h:Fd X es t):PE X (.List es pos) (Oj t):=by unfold Fd at h;exact BU h
theorem Cq {x1:Nat}(h:Fd X es t):PE X (.Tuple es x1 pos) (Jq t):=by unfold Fd at h;exact AN h
end
theorem Lz {L:List Int}{i:Int}(h0:0<=i)(h1:i<(L.length:Int)):∃z∈L,C6 (L.map V.int) i=some (.int z):=by
 have e:L[i.toNat]?=some L[i.toNat]:=AH (by omega)
 refine⟨L[i.toNat],Ge _,?_⟩
 have h:C6 (L.map V.int) ((i.toNat:Nat):Int)=some (.int L[i.toNat]):=Bx (by rw[C3,e];rfl)
 rwa [Int.toNat_of_nonneg h0]at h
theorem Ou {L:List Int}{i:Int}(n:Nat)(hn:L.length=n)(h0:0<=i)(h1:i<(n:Int)):∃z∈L,C6 (L.map V.int) i=some (.int z):=Lz h0 (by rw[hn];exact h1)
theorem Iu {c:TT}{tb:TS}{D:DH}{σ:St}{H:Hp}(k:Nat)(Pv:Nat->St->Hp->Prop)(h0:Pv 0 σ H)
  (hs:∀i σ H,i<=k->Pv i σ H->c σ H fun b H1=>if b=true then i<k/\tb {D with nx:=Pv (i+1),ct:=Pv (i+1),bk:=D.nx} σ H1 else D.nx σ H1)
  (mono:∀σ H Q Q',(∀b H1,Q b H1->Q' b H1)->c σ H Q->c σ H Q'):LF c tb D σ H:=by
 refine⟨fun m σ H=>∃i,i<=k/\m=k-i/\Pv i σ H,⟨_,0,BP _,rfl,h0⟩,?_⟩
 rintro m σ H ⟨i,hi,rfl,p⟩
 refine mono σ H _ _ (fun b H1 q=>?_) (hs i σ H hi p)
 cases b with
 |true=>exact⟨Pv (i+1),fun σ' H' p'=>⟨k-(i+1),by have:=q.1;omega,i+1,by have:=q.1;omega,rfl,p'⟩,q.2⟩
 |false=>exact q
end L2
namespace Bd
end Bd
namespace L2
open PySem PySem.Spec PyProof.Rows Bd
theorem QY {tt:TT}{ta tb:TS}{D:DH}{σ:St}{H:Hp}(M:Hp->Prop)(ha:∀H',M H'->ta D σ H')(h:(∀H',M H'->ta D σ H')->HQ tt ta tb D σ H):HQ tt ta tb D σ H:=h ha
theorem Mf:∀{ns:List Int} {its:List Value},Aq (ns.map V.int) its->IntsAre its ns
 |[],_,.nil=>.nil
 |n::ns,_,.cons ⟨t,h⟩ r=>by subst h;exact .cons n t (Mf r)
end L2
namespace L2
open PySem PySem.Spec PyProof.Rows
open Bd
end L2
namespace L2
open PySem PySem.Spec PyProof.Rows
structure Cs where
 n:Addr
 v:Addr
 c:Addr
 j:Addr
theorem A4.updI {K:PySem.W.Frag}{H:Hp}{p x C dx:Addr}{fs:List (Str×V)}{ys:List V}{o:HO}(h:A4 K H p ys)(hx:H x=some (.ins C dx fs)):A4 K (upd H x o) p ys:=by
 rcases h with(h|⟨ob,h⟩)|h
 .refine .inl (.inl ?_)
  rw[Aw (fun e=>by rw[e,hx]at h;cases h)]
  exact h
 .refine .inl (.inr ⟨ob,?_⟩)
  rw[Aw (fun e=>by rw[e,hx]at h;cases h)]
  exact h
 .exact .inr h
def Qu (K:PySem.W.Frag)(C:Addr):Sp:=fun vs H Q _=>∃(x dx:Addr) (sz:V) (p:Addr) (ys:List V),vs=[.ref x,sz,.ref p]/\H x=some (.ins C dx [])/\A4 K H p ys/\∀(l:Addr) (H':Hp),H l=none->(∀b o,H b=some o->b≠x->H' b=some o)->H' l=some (.lst ys)->(∃dx,H' x=some (.ins C dx [("size",sz),("deeds",.ref l)]))->Q .non H'
end L2
namespace PySem
open Builtin
theorem Mt:fillsNumberSlot (.type "tuple") "mul"=pure false:=
 fillsNumberSlot_seq (id:="tuple.__mul__") (r:=some (.builtin "tuple.__rmul__")) F.slot_tuple_mul.lookup (by decide +kernel) F.slot_tuple_rmul.lookup (by decide +kernel)
theorem NT:seqRepeat? (.type "tuple")=pure (some (.builtin "tuple.__mul__")):=by
 unfold seqRepeat?
 rw[seqSlot_of (T:="tuple") (name:="__mul__") (id:="tuple.__mul__") F.slot_tuple_mul.lookup (by decide +kernel),seqSlot_of (T:="tuple") (name:="__rmul__") (id:="tuple.__rmul__") F.slot_tuple_rmul.lookup (by decide +kernel)]
 rfl
theorem NZ (a:Int)(t:Tok)(l:Addr)(items:Array Value)(n:Nat)(dd:Option Addr)(sl:Array (Option Value)) :
  Meets (Builtin.«int.__rmul__» ⟨[.int a t,.ref l],[]⟩) (fun _ R s=>s.heap.get? l=some {cls:=.type "tuple",dict:=dd,data:=.seq items n,slots:=sl}/\R (.ok (.ret Value.notImplemented)) s):=
 .of_wp fun prog w A R s h=>by obtain⟨hp,g,d,tk,os⟩:=s;obtain⟨hl,h⟩:=h;wp_walk;exact⟨_,rfl,h⟩
open AutoSeq1 (wpAny_loadPart')
theorem Tz (l:Addr)(k:Tok)(items:Array Value)(n:Nat)(dd:Option Addr)(sl:Array (Option Value)) :
  Meets (Builtin.«tuple.__mul__» ⟨[.ref l,.int 1 k],[]⟩) (fun _ R s=>s.heap.get? l=some {cls:=.type "tuple",dict:=dd,data:=.seq items n,slots:=sl}/\R (.ok (.ret (Value.ref l))) {s with heap:=s.heap,toks:=s.toks}):=
 .of_wp fun prog w A R s h=>by obtain⟨hp,g,d,tk,os⟩:=s;obtain⟨hl,h⟩:=h;have f1:=AutoSeq1.idx_int;have f2:=AutoSeq1.sub_tuple_tuple;wp_walk using wpAny_loadPart' hl;exact⟨_,rfl,h⟩
theorem SR (l:Addr)(k:Tok)(items:Array Value)(n:Nat)(dd:Option Addr)(sl:Array (Option Value))(hc0:¬items.isEmpty=true) :
  Meets (Builtin.«tuple.__mul__» ⟨[.ref l,.int 0 k],[]⟩) (fun _ R s=>s.heap.get? l=some {cls:=.type "tuple",dict:=dd,data:=.seq items n,slots:=sl}/\R (.ok (.ret (Value.ref s.heap.objs.size))) {s with heap:=s.heap.push {cls:=Value.type "tuple",data:=Data.seq #[]},toks:=s.toks}):=
 .of_wp fun prog w A R s h=>by obtain⟨hp,g,d,tk,os⟩:=s;obtain⟨hl,h⟩:=h;have f1:=AutoSeq1.idx_int;have f2:=AutoSeq1.sub_tuple_tuple;wp_walk using wpAny_loadPart' hl;exact⟨_,rfl,h⟩
end PySem
namespace L2
open PySem PySem.Spec PyProof.Rows
section
variable {X:Cx}
end
end L2
namespace L2
open PySem PySem.Spec PyProof.Rows Bd
theorem dS {x y:Str}(h:x≠y):decide (V.str x=V.str y)=false:=Cv fun e=>h (V.str.inj e)
theorem MH {K:PySem.W.Frag}{a:Addr}{xs:List V}{ρ:List (Option Nat)}{g:TG}{tt:TT}{te:TE}{σ:St}{H:Hp}{Q:VK}(Pv:Nat->List V->Hp->Prop)(h0:Pv 0 [] H)(hlen:xs.length<=sizeLine)(hl:∀i ys H,i<=xs.length->Pv i ys H->A4 K H a xs/\ys.length<=i)
  (hs:∀i x ys H,xs[i]?=some x->Pv i ys H->g x (BX ρ σ) H fun σ2 H3=>GE ρ σ σ2/\tt σ2 H3 fun ok H4=>if ok=true then te σ2 H4 fun v H5=>Pv (i+1) (ys++[v]) H5 else Pv (i+1) ys H4)
  (hd:∀ys H,Pv xs.length ys H->∀p,H p=none->Q (.ref p) (upd H p (.lst ys))):G4 ρ g tt te σ Q (G2 K a) H:=by
 refine⟨fun i m ys H=>m=xs.length-i/\i<=xs.length/\Pv i ys H,⟨_,rfl,BP _,h0⟩,?_⟩
 rintro i m ys H ⟨rfl,hi,p⟩
 obtain⟨hq,hy⟩:=hl i ys H hi p
 by_cases hlt:i<xs.length
 .refine .inr ⟨⟨xs,xs[i],hq,by simp[hlt]⟩,by omega,Pv (i+1),fun ys' H'' p'=>⟨xs.length-(i+1),by omega,rfl,hlt,p'⟩,fun x H' y=>?_⟩
  obtain⟨e,y2⟩:=y
  subst e
  exact hs i x ys _ (y2 xs hq) p
 .have e:i=xs.length:=by omega
  subst e
  exact .inl ⟨⟨xs,hq,Ak _⟩,by omega,hd ys H p⟩
end L2
namespace L2
open PySem PySem.Spec PyProof.Rows
section
open PySem.SeqAt
open PySem.AutoSeq1 (wpAny_loadPart')
open PySem.MeetsSeq PySem.MeetsSeq2 PySem.MeetsSeq3
end
def Ff (n:Nat):List V:=(List.range n).map fun i:Nat=>V.int (i:Int)
def Rg (ta:TA):TE:=fun σ H Q=>ta σ H fun vs H1=>∃n:Nat,vs=[.int (n:Int)]/\n<=1000000/\∀l,H1 l=none->Q (.ref l) (upd H1 l (.lst (Ff n)))
theorem SN {n:Nat}{acc:Array Value}(h:ItemsOf (fun i v=>∃t,v = .int (0+(i:Int)*1) t) acc n):Aq (Ff n) acc.toList:=by
 have key:∀(k:Nat) (l:List Value),(∀(j:Nat) (v:Value),l[j]?=some v->∃t,v=Value.int ((k+j:Nat):Int) t)->Aq ((List.range' k l.length).map fun i:Nat=>V.int (i:Int)) l:=by
  intro k l
  induction l generalizing k with
  |nil=>intro _;exact .nil
  |
   cons x l ih=>
   intro hl
   rw[B5,List.range'_succ,C1]
   obtain⟨t,ht⟩:=hl 0 x rfl
   refine .cons ⟨t,by rw[ht];rfl⟩ (ih (k+1) fun j v hj=>?_)
   obtain⟨t',ht'⟩:=hl (j+1) v (by simpa using hj)
   exact⟨t',by rw[ht'];congr 1;omega⟩
 have hl:acc.toList.length=n:=by simpa using h.1
 have:=key 0 acc.toList fun j v hj=>by
  obtain⟨t,ht⟩:=h.2 j v (by simpa using hj)
  exact⟨t,by rw[ht];congr 1;omega⟩
 rw[hl]at this
 unfold Ff
 rw[List.range_eq_range']
 exact this
theorem MW {X:Cx}{a:Expr}{ta:TA}{p p2 pos pos2:Pos}(hc:X.calm=true)(hgl:Gl X "list")(hml:X.mg "list"=none)(hg:Gl X "range")(hm:X.mg "range"=none)(ha:PA X [a] ta)
  (hs:starEach [a] X.env=[(false,eval a X.env)]:=by rfl):PE X (.Call (.Name "list" p) [.Call (.Name "range" p2) [a] [] pos2] [] pos) (Rg ta):=by
 intro pins s σ H Q I h
 refine K9 (Fg I hgl hml Lk ?_ (by decide) (by decide))
 refine Ha ?_ rfl rfl
 show wpAny _ _ (spliced ((false,eval (.Call (.Name "range" p2) [a] [] pos2) X.env)::backTo pos (starEach [] X.env))) _ _ s
 refine Calls.spliced_cons ?_
 refine Call_ (Fg I hg hm boot_range (Ha (AC (ha pos2 pins s σ H _ I h) fun us s1 hx=>?_) hs rfl))
 obtain⟨vs,H1,I1,r1,n,e,hn,q⟩:=hx
 subst e
 obtain⟨u,rfl,ru⟩:=Eb r1
 obtain⟨t,rfl⟩:=(show ∃t,u=Value.int (n:Int) t from ru)
 refine call_range_1 ?_
 refine Calls.spliced_nil ?_
 have p62:(2:Int) ^ 62=4611686018427387904:=by decide
 refine call_list_range (n:=n) (I1.ok.hd hc) (IsRange.new ..) (small_one (by decide) (by decide) (by omega) (by omega)) (by rw[rangeSize_one];split<;>omega) (by omega) fun h' tk acc c' hk hl hi=>?_
 have hsz:(s1.heap.push {cls:=.type "range",data:=.fields #[.int 0 s1.toks,.int (n:Int) t,.int 1 (s1.toks+1)]}).objs.size=s1.heap.objs.size+1:=IR ..
 have hf:H1 (s1.heap.objs.size+1)=none:=I1.hok.fresh (Fm _)
 have hul:(Ff n).length<=sizeLine:=by unfold Ff;rw[Al,IT];exact AF hn
 change h'.get? (s1.heap.push {cls:=.type "range",data:=.fields #[.int 0 s1.toks,.int (n:Int) t,.int 1 (s1.toks+1)]}).objs.size=_ at hl
 rw[hsz]at hl
 refine⟨.ref (s1.heap.objs.size+1),upd H1 (s1.heap.objs.size+1) (.lst (Ff n)),I1.laid (t':=tk) (o:=.lst (Ff n)) (fun b o e=>hk b o (Be _ e)) (Fm _) ⟨hul,acc.toList,c',SN hi,by simpa using hl⟩,?_,q _ hf⟩
 show Value.ref _=Value.ref _
 rw[←hsz]
end L2
namespace L2
open PySem PySem.Spec PyProof.Rows
section
variable {prog:Program}{w:World}{A:Around}{E:Value->Shared->Prop}{s:Shared}
theorem Mm {it t:Addr}{k:Nat}{its:Array Value}{Q:Value->Shared->Prop}(a:s.heap.IsTupleIter it t k)(b:s.heap.IsTuple t its)
  (q:wpAny (model prog w) A.in1 (match its[k]? with
   |some x=>do setField (.ref it) 1 (rawInt (k+1));ret x
   |none=>do rule (toString "tuple_iterator.__next__"++toString ".end");setField (.ref it) 0 .none;Builtin.SmallTypes.stopIteration) (fun fin s'=>∃v,fin = .done (.ret v)/\Q v s') E s) :
  wpAny (model prog w) A (Builtin.SmallTypes.nextOf (.ref it)) Q E s:=by
 have ty:=a.typeIs
 obtain⟨o,g,c,d⟩:=a
 obtain⟨o2,g2,-,n2,d2⟩:=b
 unfold Builtin.SmallTypes.nextOf
 apply An
 apply wpAny_callSpecial?_slot (name:=Str.ofString "__next__") ty F.slot_tuple_iterator_next
 refine Ma F.slot_tuple_iterator_next ty F.entry_tuple_iterator_next ?_ (F.args_tuple_iterator_next_1 _)
 unfold Builtin.«tuple_iterator.__next__»
 wp_walk using Gm g d (x:=.ref t) rfl
 rw[d]
 apply AZ
 apply AZ
 apply An
 apply Kb g2 d2
 rw[show Int.toNat (k:Int)=k from rfl]
 exact EY q (fun fin s' ⟨v,e,z⟩=>⟨v,e,AZ z⟩) fun _ _ z=>z
theorem Te {it t:Addr}{k:Nat}{its:Array Value}{x:Value}{Q:Value->Shared->Prop}(a:s.heap.IsTupleIter it t k)(b:s.heap.IsTuple t its)(hx:its[k]?=some x)
  (q:∀h',h'.IsTupleIter it t (k+1)->Heap.SameBut it s.heap h'->Q x {s with heap:=h'}):wpAny (model prog w) A (Builtin.SmallTypes.nextOf (.ref it)) Q E s:=by
 apply Mm a b
 obtain⟨o,g,c,d⟩:=a
 rw[hx]
 apply An
 apply wpAny_setField g d (by simp)
 apply AZ
 refine⟨x,rfl,q _ ⟨_,Heap.get?_update_self _ g ?_,?_,?_⟩ (Heap.SameBut.update ..)⟩
 .exact Obj.isFreed_of_fields (Obj.data_mapFields d _)
 .exact(Obj.cls_mapFields ..).trans c
 .rw[Obj.data_mapFields d];rfl
theorem UE {it t:Addr}{k:Nat}{its:Array Value}{Q:Value->Shared->Prop}(hh:A.handled=none)(a:s.heap.IsTupleIter it t k)(b:s.heap.IsTuple t its)(hx:its[k]?=none)
  (q:∀h' e,Heap.ExtBut it s.heap h'->(∃o,h'.get? e=some o/\o.cls = .type "StopIteration")->E (.ref e) {s with heap:=h'}):wpAny (model prog w) A (Builtin.SmallTypes.nextOf (.ref it)) Q E s:=by
 apply Mm a b
 obtain⟨o,g,c,d⟩:=a
 rw[hx]
 apply An
 apply wpAny_rule
 apply An
 apply wpAny_setField g d (by simp)
 have h1:A.in1.handled=none:=hh
 wp_walk
 unfold raiseNew
 apply An
 apply wpAny_handled
 rw[h1]
 show wpAny _ _ (throw _) _ _ _
 apply wpAny_throw
 exact q _ _ (((Heap.SameBut.update ..).extBut.push _).push _) ⟨_,Cy _ rfl,rfl⟩
theorem Gp (hh:A.handled=none)(it t:Addr)(ne:t≠it)(its:Array Value):Draws prog w A it [it,t] its.size (fun i v=>its[i]?=some v) (fun i h=>h.IsTupleIter it t i/\h.IsTuple t its) where
 live:=fun _ _ ⟨⟨o,g,_⟩,_⟩=>⟨o,g⟩
 frame:=fun _ _ _ ⟨⟨o,g,r⟩,⟨o2,g2,r2⟩⟩ k=>⟨⟨o,k it (by simp) o g,r⟩,⟨o2,k t (by simp) o2 g2,r2⟩⟩
 item:=fun i s Q E lt ⟨a,b⟩ q=>Te a b (Array.getElem?_eq_getElem lt) fun h' a' sb=>q _ h' s.toks (Array.getElem?_eq_getElem lt) ⟨a',b.extBut sb.extBut ne⟩ sb
 done:=fun s Q E ⟨a,b⟩ q=>UE hh a b (by simp) q
end
structure ZA (z TI TO i1 i2:Addr)(f g:List Addr):Prop where
 zf:z∉f
 zg:z∉g
 of:TO∉f
 og:TO∉g
 nf:i2∉f
 ng:i1∉g
 Iz:TI≠z
 Oz:TO≠z
 az:i1≠z
 bz:i2≠z
 IO:TI≠TO
 Ia:TI≠i1
 Ib:TI≠i2
 Oa:TO≠i1
 Ob:TO≠i2
theorem mv {prog:Program}{w:World}{A:Around}{it:Addr}{f:List Addr}{n:Nat}{P:Nat->Value->Prop}{S:Nat->Heap->Prop}(D:Draws prog w A it f n P S){k:Nat}{h h':Heap}{a:Addr}(st:S k h)(b:Heap.ExtBut a h h')(na:a∉f):S k h':=
 D.frame k h h' st fun c hc o e=>b c o (fun q=>na (q▸hc)) e
section
variable {prog:Program}{w:World}{A:Around}{E:Value->Shared->Prop}{s:Shared}
theorem QT {z TI TO i1 i2:Addr}{f g:List Addr}{m n k:Nat}{P R:Nat->Value->Prop}{S T:Nat->Heap->Prop}(Z:ZA z TI TO i1 i2 f g)(D1:Draws prog w A i1 f m P S)(D2:Draws prog w A i2 g n R T){a b:Value}{Q:Value->Shared->Prop}
  (hz:IsZip s.heap z TI TO .none) (hI:IsPair s.heap TI (.ref i1) (.ref i2)) (hO:IsPair s.heap TO a b) (s1:S k s.heap) (s2:T k s.heap) (le1:k<=m) (le2:k<=n)
  (q:k<m->k<n->∀x y h' tk,P k x->R k y->IsZip h' z TI TO (rawInt s.heap.objs.size)->IsPair h' TO x y->S (k+1) h'->T (k+1) h'->IsPair h' s.heap.objs.size x y->
   (∀c o,c≠z->c≠TO->c≠i1->c≠i2->s.heap.get? c=some o->h'.get? c=some o)->Q (.ref s.heap.objs.size) {s with heap:=h',toks:=tk})
  (qe:(k=m\/k=n)->∀h' e tk,(∀c o,c≠z->c≠TO->c≠i1->c≠i2->s.heap.get? c=some o->h'.get? c=some o)->(∃o,h'.get? e=some o/\o.cls = .type "StopIteration")->E (.ref e) {s with heap:=h',toks:=tk}) :
  wpAny (model prog w) A (Builtin.«zip.__next__» ⟨[.ref z],[]⟩) (fun fin s'=>∃v,fin = .done (.ret v)/\Q v s') E s:=by
 change wpAny _ _ (field (.ref z) 2>>=_) _ _ _
 apply An
 apply Gm hz rfl (x:=.bool false) rfl
 change wpAny _ _ (field (.ref z) 3>>=_) _ _ _
 apply An
 apply Gm hz rfl (x:=.ref TI) rfl
 apply An
 apply Kb hI rfl
 change wpAny _ _ (Builtin.SmallTypes.ownedTupleIsFree (.ref z)>>=_) _ _ _
 apply An
 unfold Builtin.SmallTypes.ownedTupleIsFree
 apply An
 apply Gm hz rfl (x:=.none) rfl
 apply AZ
 simp only[if_true]
 apply An
 apply wpAny_rule
 apply An
 apply Gm hz rfl (x:=.ref TO) rfl
 apply An
 apply Kc hz (by simp)
 intro hA zA bA
 have zA':IsZip hA z TI TO .ellipsis:=zA
 clear zA
 have oA:IsPair hA TO a b:=bA.extBut _ _ Z.Oz hO
 have sA:=mv D1 s1 bA.extBut Z.zf
 have tA:=mv D2 s2 bA.extBut Z.zg
 apply An
 simp only[List.zipIdx_cons,List.zipIdx_nil,OW,List.forIn_nil]
 apply An
 apply An
 apply wpAny_onRaise
 change wpAny _ _ (Builtin.SmallTypes.nextOf (.ref i1)>>=_) _ _ _
 apply An
 rcases Nat.lt_or_eq_of_le le1 with l1|rfl
 rotate_left
 .apply D1.done _ _ _ sA
  rintro h' e kp ⟨o,ge,ce⟩
  have z':IsZip h' z TI TO .ellipsis:=kp _ _ Z.az.symm zA'
  have ne:e≠z:=fun q=>by subst q;rw[z']at ge;cases ge;simp at ce
  apply Kc z' (by simp)
  intro h2 _ b2
  exact qe (.inl rfl) h2 e s.toks (fun c o c1 _ c3 _ x=>b2.extBut _ _ c1 (kp _ _ c3 (bA.extBut _ _ c1 x))) ⟨o,b2.extBut _ _ ne ge,ce⟩
 apply D1.item k _ _ _ l1 sA
 intro x hB t1 px sB bB
 apply AZ
 have oB:IsPair hB TO a b:=bB.extBut _ _ Z.Oa oA
 have zB:IsZip hB z TI TO .ellipsis:=bB.extBut _ _ Z.az.symm zA'
 have tB:=mv D2 tA bB.extBut Z.ng
 apply An
 apply Kb oB rfl
 apply An
 apply wpAny_updateSeq_pair oB
 intro hC oC bC
 have oC':IsPair hC TO x b:=oC
 clear oC
 have zC:IsZip hC z TI TO .ellipsis:=bC.extBut _ _ Z.Oz.symm zB
 have sC:=mv D1 sB bC.extBut Z.of
 have tC:=mv D2 tB bC.extBut Z.og
 apply An
 apply wpAny_letGo
 apply AZ
 apply An
 apply An
 apply wpAny_onRaise
 change wpAny _ _ (Builtin.SmallTypes.nextOf (.ref i2)>>=_) _ _ _
 apply An
 have upC:∀c o,c≠z->c≠TO->c≠i1->s.heap.get? c=some o->hC.get? c=some o:=fun c o c1 c2 c3 e=>bC.extBut _ _ c2 (bB.extBut _ _ c3 (bA.extBut _ _ c1 e))
 rcases Nat.lt_or_eq_of_le le2 with l2|rfl
 rotate_left
 .apply D2.done _ _ _ tC
  rintro h' e kp ⟨o,ge,ce⟩
  have z':IsZip h' z TI TO .ellipsis:=kp _ _ Z.bz.symm zC
  have ne:e≠z:=fun q=>by subst q;rw[z']at ge;cases ge;simp at ce
  apply Kc z' (by simp)
  intro h2 _ b2
  exact qe (.inr rfl) h2 e t1 (fun c o c1 c2 c3 c4 x=>b2.extBut _ _ c1 (kp _ _ c4 (upC c o c1 c2 c3 x))) ⟨o,b2.extBut _ _ ne ge,ce⟩
 apply D2.item k _ _ _ l2 tC
 intro y hD t2 py tD bD
 apply AZ
 have oD:IsPair hD TO x b:=bD.extBut _ _ Z.Ob oC'
 have zD:IsZip hD z TI TO .ellipsis:=bD.extBut _ _ Z.bz.symm zC
 have sD:=mv D1 sC bD.extBut Z.nf
 apply An
 apply Kb oD rfl
 apply An
 apply wpAny_updateSeq_pair oD
 intro hE oE bE
 have oE':IsPair hE TO x y:=oE
 clear oE
 have zE:IsZip hE z TI TO .ellipsis:=bE.extBut _ _ Z.Oz.symm zD
 have sE:=mv D1 sD bE.extBut Z.of
 have tE:=mv D2 tD bE.extBut Z.og
 have upE:∀c o,c≠z->c≠TO->c≠i1->c≠i2->s.heap.get? c=some o->hE.get? c=some o:=fun c o c1 c2 c3 c4 e=>bE.extBut _ _ c2 (bD.extBut _ _ c4 (upC c o c1 c2 c3 e))
 have sz:hE.objs.size=s.heap.objs.size:=by rw[bE.1,bD.1,bC.1,bB.1,bA.1]
 apply An
 apply wpAny_letGo
 apply AZ
 apply AZ
 apply An
 apply Kb oE' rfl
 apply An
 refine wpAny_newTuple ?_
 change wpAny _ _ (Builtin.SmallTypes.ownedTupleHandOut (.ref z) (.ref hE.objs.size)>>=_) _ _ _
 apply An
 unfold Builtin.SmallTypes.ownedTupleHandOut
 have zF:IsZip (hE.push {cls:=.type "tuple",data:=.seq #[x,y]}) z TI TO .ellipsis:=Be _ zE
 have pF:IsPair (hE.push {cls:=.type "tuple",data:=.seq #[x,y]}) hE.objs.size x y:=Cy _ rfl
 apply An
 apply Kc zF (by simp)
 intro hG zG bG
 have zG':IsZip hG z TI TO (rawInt hE.objs.size):=zG
 clear zG
 apply Kc zG' (by simp)
 intro hH zH bH
 have zH':IsZip hH z TI TO (rawInt hE.objs.size):=zH
 clear zH
 have far:hE.objs.size≠z:=FH (Bc zE)
 have up:Heap.ExtBut z hE hH:=fun c o c1 e=>bH.extBut _ _ c1 (bG.extBut _ _ c1 (Be _ e))
 have pH:IsPair hH hE.objs.size x y:=bH.extBut _ _ far (bG.extBut _ _ far pF)
 apply AZ
 refine⟨_,rfl,?_⟩
 have:=q l1 l2 x y hH t2 px py (by rw[←sz];exact zH') (up _ _ Z.Oz oE') (mv D1 sE up Z.zf) (mv D2 tE up Z.zg) (by rw[←sz];exact pH) fun c o c1 c2 c3 c4 e=>up c o c1 (upE c o c1 c2 c3 c4 e)
 rw[←sz]at this
 exact this
theorem Ms {z TI TO i1 i2:Addr}{f g:List Addr}{m n k:Nat}{P R:Nat->Value->Prop}{S T:Nat->Heap->Prop}(Z:ZA z TI TO i1 i2 f g)(D1:Draws prog w A.in1 i1 f m P S)(D2:Draws prog w A.in1 i2 g n R T){a b:Value}{Q:Option Value->Shared->Prop}
  (hz:IsZip s.heap z TI TO .none) (hI:IsPair s.heap TI (.ref i1) (.ref i2)) (hO:IsPair s.heap TO a b) (s1:S k s.heap) (s2:T k s.heap) (le1:k<=m) (le2:k<=n)
  (q:k<m->k<n->∀x y h' tk,P k x->R k y->IsZip h' z TI TO (rawInt s.heap.objs.size)->IsPair h' TO x y->S (k+1) h'->T (k+1) h'->IsPair h' s.heap.objs.size x y->
   (∀c o,c≠z->c≠TO->c≠i1->c≠i2->s.heap.get? c=some o->h'.get? c=some o)->Q (some (.ref s.heap.objs.size)) {s with heap:=h',toks:=tk})
  (qe:(k=m\/k=n)->∀h' tk,(∀c o,c≠z->c≠TO->c≠i1->c≠i2->s.heap.get? c=some o->h'.get? c=some o)->Q none {s with heap:=h',toks:=tk}) :
  wpAny (model prog w) A (pyNext (.ref z)) Q E s:=by
 have ty:s.TypeIs (.ref z) "zip":=⟨_,hz,rfl⟩
 unfold pyNext
 apply An
 apply wpAny_attempt
 apply wpAny_callSpecial?_slot (name:=Str.ofString "__next__") ty F.slot_zip_next
 refine Ma F.slot_zip_next ty F.entry_zip_next (QT Z D1 D2 hz hI hO s1 s2 le1 le2 ?_ ?_) (F.args_zip_next_1 _)
 .intro l1 l2 x y h' tk a1 a2 a3 a4 a5 a6 a7 a8
  exact AZ (q l1 l2 x y h' tk a1 a2 a3 a4 a5 a6 a7 a8)
 .rintro l h' e tk kp ⟨o,ge,ce⟩
  exact An (wpAny_isInstance (T:="StopIteration") (b:=true) ⟨o,ge,ce⟩ isSubtype_stop (AZ (qe l h' tk kp)))
end
def KM (K:PySem.W.Frag)(a b:Addr):It:=
 ⟨fun i H=>∃xs ys x y,A9 K H a xs/\A9 K H b ys/\xs[i]?=some x/\ys[i]?=some y,fun i H v H'=>∃x y T,(∀xs,A9 K H a xs->xs[i]?=some x)/\(∀ys,A9 K H b ys->ys[i]?=some y)/\H T=none/\v = .ref T/\H'=upd H T (.tup [x,y]),
  fun i H=>∃xs ys,A9 K H a xs/\A9 K H b ys/\i<=xs.length/\i<=ys.length/\(i=xs.length\/i=ys.length)⟩
theorem Pl {P:Program}{w:World}{K:PySem.W.Frag}{elts:List Expr}{x1:Nat}{pos:Pos}(a b z TI TO i1 i2:Addr)(D:ZA z TI TO i1 i2 [i1,a] [i2,b])(na:a≠i1)(nb:b≠i2) :
  FW P w K (.Tuple elts x1 pos) (KM K a b) [z,TI,TO,i1,i2] z (fun i h=>IsZip h z TI TO .none/\IsPair h TI (.ref i1) (.ref i2)/\(∃p q,IsPair h TO p q)/\h.IsTupleIter i1 a i/\h.IsTupleIter i2 b i) where
 mem:=by simp
 obj:=fun i h st c hc=>by
  obtain⟨hz,hTI,⟨p,q,hTO⟩,h1,h2⟩:=st
  simp only[Bw,He,or_false]at hc
  rcases hc with rfl|rfl|rfl|rfl|rfl
  .exact⟨_,hz,fun v z=>by cases z⟩
  .exact⟨_,hTI,fun v z=>by cases z⟩
  .exact⟨_,hTO,fun v z=>by cases z⟩
  .obtain⟨o,e,c,d⟩:=h1
   exact⟨o,e,fun v z=>by rw[d]at z;cases z⟩
  .obtain⟨o,e,c,d⟩:=h2
   exact⟨o,e,fun v z=>by rw[d]at z;cases z⟩
 keep:=fun i h h' st k=>by
  obtain⟨hz,hTI,⟨p,q,hTO⟩,h1,h2⟩:=st
  exact⟨k z (by simp) _ hz,k TI (by simp) _ hTI,⟨p,q,k TO (by simp) _ hTO⟩,h1.at fun o e=>k i1 (by simp) o e,h2.at fun o e=>k i2 (by simp) o e⟩
 item:=by
  intro X hP hw hK hc i pins s σ H E I hf st hg
  subst hP hw hK
  obtain⟨xs,ys,x,y,hq1,hq2,hx,hy⟩:=hg
  obtain⟨its1,rv1,p1,_⟩:=I.tuple hq1
  obtain⟨its2,rv2,p2,_⟩:=I.tuple hq2
  obtain⟨hz,hTI,⟨pa,qa,hTO⟩,h1,h2⟩:=st
  have p1':s.heap.IsTuple a its1.toArray:=p1
  have p2':s.heap.IsTuple b its2.toArray:=p2
  have l1:=rv1.length
  have l2:=rv2.length
  obtain⟨b1,_⟩:=Ay.1 hx
  obtain⟨b2,_⟩:=Ay.1 hy
  have hn:X.A.in1.handled=none:=I.ok.hd hc
  have d1:=Gp (prog:=X.prog) (w:=X.w) hn i1 a na its1.toArray
  have d2:=Gp (prog:=X.prog) (w:=X.w) hn i2 b nb its2.toArray
  refine Ms (k:=i) D d1 d2 hz hTI hTO ⟨h1,p1'⟩ ⟨h2,p2'⟩ (by simp;omega) (by simp;omega) (fun _ _ u v hh tk hu hv hz' hTO' h1' h2' hT hk=>⟨_,rfl,?_⟩) fun q=>absurd q (by simp;omega)
  obtain⟨u',hu',ru⟩:=rv1.get hx
  obtain⟨v',hv',rv⟩:=rv2.get hy
  have eu:u'=u:=by simpa[hu'] using hu
  have ev:v'=v:=by simpa[hv'] using hv
  subst eu ev
  refine wpAny_letOwnedTupleGo_zip hz' fun h3 hz3 hs3=>?_
  have hTn:H s.heap.objs.size=none:=I.hok.fresh (Ak _)
  have lts:∀c∈[z,TI,TO,i1,i2],c<s.heap.objs.size:=fun c hc=>by
   simp only[Bw,He,or_false]at hc
   rcases hc with rfl|rfl|rfl|rfl|rfl
   .exact Bc hz
   .exact Bc hTI
   .exact Bc hTO
   .obtain⟨_,e,_⟩:=h1;exact Bc e
   .obtain⟨_,e,_⟩:=h2;exact Bc e
  have I1:A6 X pins σ (upd H s.heap.objs.size (.tup [x,y])) {s with heap:=s.heap.push {cls:=.type "tuple",data:=.seq #[u',v']}}:=I.laid (t':=s.toks) (o:=.tup [x,y]) (fun b o e=>Be _ e) (Ak _) ⟨Af rfl,[u',v'],.cons ru (.cons rv .nil),DY.new _ _⟩
  have I2:A6 X pins σ (upd H s.heap.objs.size (.tup [x,y])) {s with heap:=h3,toks:=tk}:=by
   refine A6.turnedL (s:={s with heap:=s.heap.push {cls:=.type "tuple",data:=.seq #[u',v']}}) (h':=h3) (ch:=[z,TI,TO,i1,i2]) (t':=tk) I1 (fun b o hb q=>?_) (fun b hb=>?_)
   .simp only[Bw,He,or_false,not_or]at hb
    obtain⟨n1,n2,n3,n4,n5⟩:=hb
    show h3.get? b=some o
    rw[hs3.2 b n1]
    rcases P0 q with⟨rfl,rfl⟩|q
    .exact hT
    .exact hk b o n1 n3 n4 n5 q
   .obtain⟨f0,f1,f2,f3,f4,f5⟩:=hf b hb
    exact⟨by rw[Aw (BO (lts b hb))];exact f0,f1,f2,f3,f4,f5⟩
  have k3:∀c,c≠z->∀o,hh.get? c=some o->h3.get? c=some o:=fun c hc o e=>(hs3.2 c hc).trans e
  refine⟨.ref s.heap.objs.size,_,I2,rfl,⟨x,y,_,fun zs hy=>by rw[I.tuple_inj hy hq1];exact hx,fun zs hy'=>by rw[I.tuple_inj hy' hq2];exact hy,hTn,rfl,rfl⟩,⟨hz3,k3 TI D.Iz _ (hk TI _ D.Iz D.IO D.Ia D.Ib hTI),⟨u',v',k3 TO D.Oz _ hTO'⟩,h1'.1.at (k3 i1 D.az),h2'.1.at (k3 i2 D.bz)⟩,fun b hb=>?_⟩
  rw[Aw (BO (lts b hb))]
  exact(hf b hb).1
 done:=by
  intro X hP hw hK hc i pins s σ H E I hf st hg
  subst hP hw hK
  obtain⟨xs,ys,hq1,hq2,b1,b2,hl⟩:=hg
  obtain⟨its1,rv1,p1,_⟩:=I.tuple hq1
  obtain⟨its2,rv2,p2,_⟩:=I.tuple hq2
  obtain⟨hz,hTI,⟨pa,qa,hTO⟩,h1,h2⟩:=st
  have p1':s.heap.IsTuple a its1.toArray:=p1
  have p2':s.heap.IsTuple b its2.toArray:=p2
  have l1:=rv1.length
  have l2:=rv2.length
  have hn:X.A.in1.handled=none:=I.ok.hd hc
  have d1:=Gp (prog:=X.prog) (w:=X.w) hn i1 a na its1.toArray
  have d2:=Gp (prog:=X.prog) (w:=X.w) hn i2 b nb its2.toArray
  refine Ms (k:=i) D d1 d2 hz hTI hTO ⟨h1,p1'⟩ ⟨h2,p2'⟩ (by simp;omega) (by simp;omega) (fun e1 e2=>absurd e2 (by simp at e1 ⊢;omega)) fun _ h' tk hk=>⟨rfl,?_⟩
  refine I.turnedL (ch:=[z,TI,TO,i1,i2]) (t':=tk) (fun b o hb q=>?_) hf
  simp only[Bw,He,or_false,not_or]at hb
  obtain⟨n1,n2,n3,n4,n5⟩:=hb
  exact hk b o n1 n3 n4 n5 q
 self:=fun _ _ _ _ _ st h=>by
  obtain⟨hz,_⟩:=st
  exact wpAny_pyIter_zip hz h
theorem Sz (a b:Addr)(xs ys:Array Value) :
  Meets (Builtin.«zip.__new__» ⟨[.type "zip",.ref a,.ref b],[]⟩) (fun _ R s=>s.heap.IsTuple a xs/\s.heap.IsTuple b ys/\
   ∀h',IsZip h' (s.heap.objs.size+4) (s.heap.objs.size+2) (s.heap.objs.size+3) .none->IsPair h' (s.heap.objs.size+2) (.ref s.heap.objs.size) (.ref (s.heap.objs.size+1))->IsPair h' (s.heap.objs.size+3) .none .none->
    h'.IsTupleIter s.heap.objs.size a 0->h'.IsTupleIter (s.heap.objs.size+1) b 0->(∀c o,s.heap.get? c=some o->h'.get? c=some o)->R (.ok (.ret (.ref (s.heap.objs.size+4)))) {s with heap:=h'}):=
 .of_wp fun prog w A R s h=>by
  obtain⟨hp,g,d,tk,os⟩:=s
  obtain⟨t1,t2,h⟩:=h
  have hs:=sub_zip
  have u1:Heap.IsTuple (Shared.heap ⟨hp,g,d,tk,os⟩) a xs:=t1
  have u2:Heap.IsTuple (Shared.heap ⟨hp.push {cls:=.type "tuple_iterator",data:=.fields #[.ref a,.int 0 0]},g,d,tk,os⟩) b ys:=Heap.IsTuple.push t2 _
  wp_walk using K8 u1,K8 u2
  refine⟨_,rfl,?_⟩
  have key:∀(n1 n2 n3 n4:Nat) (h':Heap),n1=hp.objs.size+1->n2=hp.objs.size+2->n3=hp.objs.size+3->n4=hp.objs.size+4->IsZip h' n4 n2 n3 .none->IsPair h' n2 (.ref hp.objs.size) (.ref n1)->IsPair h' n3 .none .none->
    h'.IsTupleIter hp.objs.size a 0->h'.IsTupleIter n1 b 0->(∀c o,hp.get? c=some o->h'.get? c=some o)->R (.ok (.ret (.ref n4))) ⟨h',g,d,tk,os⟩:=by
   rintro _ _ _ _ h' rfl rfl rfl rfl
   exact h h'
  refine key (hp.push {cls:=.type "tuple_iterator",data:=.fields #[.ref a,.int 0 0]}).objs.size _ _ _ _ ?e1 ?e2 ?e3 ?e4 (Cy _ rfl) ?g5 ?g6 ?g7 ?g8 ?g9
  case g5=>exact Be _ (Be _ (Cy _ rfl))
  case g6=>exact Be _ (Cy _ rfl)
  case g7=>exact⟨_,Be _ (Be _ (Be _ (Be _ (Cy _ rfl)))),rfl,rfl⟩
  case g8=>exact⟨_,Be _ (Be _ (Be _ (Cy _ rfl))),rfl,rfl⟩
  case g9=>exact fun c o e=>Be _ (Be _ (Be _ (Be _ (Be _ e))))
  all_goals simp only[IR]
def RJ (K:PySem.W.Frag)(ta:TA):TI:=fun σ H R=>ta σ H fun vs H1=>∃a b:Addr,vs=[.ref a,.ref b]/\(∃xs,A9 K H1 a xs)/\(∃ys,A9 K H1 b ys)/\R (KM K a b) H1
theorem Tg {X:Cx}{a b:Expr}{ta:TA}{p pos:Pos}{elts:List Expr}{x1:Nat}{pos2:Pos}(hg:Gl X "zip")(hm:X.mg "zip"=none)(ha:PA X [a,b] ta)(hs:starEach [a,b] X.env=[(false,eval a X.env),(false,eval b X.env)]:=by rfl)(hs2:starEach [b] X.env=[(false,eval b X.env)]:=by rfl) :
  PI X (.Tuple elts x1 pos2) (.Call (.Name "zip" p) [a,b] [] pos) (RJ X.K ta):=by
 intro pins s σ H R I h
 refine Call_ (Fg I hg hm boot_zip (Ha (AC (ha pos pins s σ H _ I h) fun us s1 ⟨vs,H1,I1,r1,q1⟩=>?_) (by rw[hs,hs2]) (by rw[hs2];rfl)))
 obtain⟨l1,l2,rfl,⟨xs,hq1⟩,⟨ys,hq2⟩,q⟩:=q1
 cases r1 with
 |
  cons r rr=>
  cases rr with
  |
   cons r' rr=>
   cases rr
   cases r
   cases r'
   obtain⟨its1,rv1,p1,_⟩:=I1.tuple hq1
   obtain⟨its2,rv2,p2,_⟩:=I1.tuple hq2
   have lt1:l1<s1.heap.objs.size:=p1.lt
   have lt2:l2<s1.heap.objs.size:=p2.lt
   refine callType_new F.called_zip (by decide) (F.typeCall_zip_2 _ _) (F.newCall_zip_2 _ _) (fun obj=>F.args_object_init_3 obj _ _) F.entry_zip_new (Sz l1 l2 its1.toArray its2.toArray) ⟨p1,p2,fun h' hz hTI hTO h1 h2 hk=>⟨⟨_,hz,rfl⟩,?_⟩⟩
   refine wpAny_pyIter_zip hz ?_
   refine⟨_,[s1.heap.objs.size+4,s1.heap.objs.size+2,s1.heap.objs.size+3,s1.heap.objs.size,s1.heap.objs.size+1],_,_,H1,rfl,I1.kept (t':=s1.toks) hk,Pl l1 l2 _ _ _ _ _ ⟨?_,?_,?_,?_,?_,?_,?_,?_,?_,?_,?_,?_,?_,?_,?_⟩ ?_ ?_,⟨hz,hTI,⟨_,_,hTO⟩,h1,h2⟩,fun b hb=>?_,q⟩
   case refine_18=>
    simp only[Bw,He,or_false]at hb
    have hb':s1.heap.objs.size<=b:=by
     rcases hb with rfl|rfl|rfl|rfl|rfl
     .exact Gg _ 4
     .exact Gg _ 2
     .exact Gg _ 3
     .exact Ak _
     .exact Gg _ 1
    exact I1.fpOk hb' (I1.hok.fresh hb')
   all_goals first
    |exact BO lt1
    |exact BO (Ct lt2 (Gg _ _))
    |(show(_:Nat)≠_;omega)
    |(
      simp only[Bw,He,or_false,not_or]
      exact⟨by show(_:Nat)≠_;omega,by first
       |exact FH lt1
       |exact FH lt2
       |exact FH (Ct lt1 (Gg _ _))
       |exact FH (Ct lt2 (Gg _ _))⟩)
def Ip (K:PySem.W.Frag)(a:Addr):It:=
 ⟨fun i H=>∃xs x,A9 K H a xs/\xs[i]?=some x,fun i H v H'=>∃x T,(∀xs,A9 K H a xs->xs[i]?=some x)/\H T=none/\v = .ref T/\H'=upd H T (.tup [.int i,x]),fun i H=>∃xs,A9 K H a xs/\xs.length=i⟩
theorem S3 {P:Program}{w:World}{K:PySem.W.Frag}{elts:List Expr}{x1:Nat}{pos:Pos}(a e it:Addr)(hei:e≠it)(na:a≠it)(ne:e≠a):FW P w K (.Tuple elts x1 pos) (Ip K a) [e,it] e (fun i h=>(∃old,IsEnum h e it i old)/\h.IsTupleIter it a i) where
 mem:=by simp
 obj:=fun i h st b hb=>by
  obtain⟨⟨old,he⟩,hit⟩:=st
  rcases Bw.mp hb with rfl|hb
  .exact⟨_,he,fun v z=>by cases z⟩
  .have e:b=it:=by simpa using hb
   subst e
   obtain⟨o,e,c,d⟩:=hit
   exact⟨o,e,fun v z=>by rw[d]at z;cases z⟩
 keep:=fun i h h' st k=>by
  obtain⟨⟨old,he⟩,hit⟩:=st
  exact⟨⟨old,k e (by simp) _ he⟩,hit.at fun o e=>k it (by simp) o e⟩
 item:=by
  intro X hP hw hK hc i pins s σ H E I hf st hg
  subst hP hw hK
  obtain⟨xs,x,hq,hx⟩:=hg
  obtain⟨its,rv,p,hz⟩:=I.tuple hq
  obtain⟨u,hu,ru⟩:=rv.get hx
  obtain⟨⟨old,he⟩,hit⟩:=st
  have p':s.heap.IsTuple a its.toArray:=p
  have hn:X.A.in1.handled=none:=I.ok.hd hc
  have d1:=Gp (prog:=X.prog) (w:=X.w) hn it a na its.toArray
  have l1:=rv.length
  obtain⟨b1,_⟩:=Ay.1 hx
  refine wpAny_pyNext_enum_itemD d1 he ⟨hit,p'⟩ (by simp;omega) hei (by simp[hei,ne]) fun u' h1 tk hu' ho hit' hT hsz hk=>⟨_,rfl,?_⟩
  have eu:u=u':=by simpa[hu] using hu'
  subst eu
  refine wpAny_letOwnedTupleGo_enum ho fun h2 he2 hs2=>?_
  have hTn:H s.heap.objs.size=none:=I.hok.fresh (Ak _)
  have helt:e<s.heap.objs.size:=Bc he
  have hilt:it<s.heap.objs.size:=by obtain⟨_,x,_⟩:=hit;exact Bc x
  have I1:A6 X pins σ (upd H s.heap.objs.size (.tup [.int i,x])) {s with heap:=s.heap.push {cls:=.type "tuple",data:=.seq #[.int i tk,u]},toks:=tk+1}:=I.laid (t':=tk+1) (o:=.tup [.int i,x]) (fun b o e=>Be _ e) (Ak _) ⟨Af rfl,[.int i tk,u],.cons ⟨_,rfl⟩ (.cons ru .nil),DY.new _ _⟩
  have I2:A6 X pins σ (upd H s.heap.objs.size (.tup [.int i,x])) {s with heap:=h2,toks:=tk+1}:=by
   refine A6.turnedL (s:={s with heap:=s.heap.push {cls:=.type "tuple",data:=.seq #[.int i tk,u]},toks:=tk+1}) (h':=h2) (ch:=[e,it]) (t':=tk+1) I1 (fun b o hb q=>?_) (fun b hb=>?_)
   .have nbe:b≠e:=fun z=>hb (by simp[z])
    have nbi:b≠it:=fun z=>hb (by simp[z])
    show h2.get? b=some o
    rw[hs2.2 b nbe]
    rcases P0 q with⟨rfl,rfl⟩|q
    .exact hT
    .exact hk b o nbe nbi q
   .obtain⟨f0,f1,f2,f3,f4,f5⟩:=hf b hb
    have nb:b≠s.heap.objs.size:=by
     rcases Bw.mp hb with rfl|hb
     .exact BO helt
     .have:b=it:=by simpa using hb
      subst this
      exact BO hilt
    exact⟨by rw[Aw nb];exact f0,f1,f2,f3,f4,f5⟩
  refine⟨.ref s.heap.objs.size,_,I2,rfl,⟨x,_,fun ys hy=>by rw[I.tuple_inj hy hq];exact hx,hTn,rfl,rfl⟩,⟨⟨_,by simpa using he2⟩,hit'.1.at fun o y=>(hs2.2 it hei.symm).trans y⟩,fun b hb=>?_⟩
  obtain⟨f0,f1,f2,f3,f4,f5⟩:=hf b hb
  have nb:b≠s.heap.objs.size:=by
   rcases Bw.mp hb with rfl|hb
   .exact BO helt
   .have:b=it:=by simpa using hb
    subst this
    exact BO hilt
  rw[Aw nb]
  exact f0
 done:=by
  intro X hP hw hK hc i pins s σ H E I hf st hg
  subst hP hw hK
  obtain⟨xs,hq,hx⟩:=hg
  obtain⟨its,rv,p,hz⟩:=I.tuple hq
  obtain⟨⟨old,he⟩,hit⟩:=st
  have p':s.heap.IsTuple a its.toArray:=p
  have hn:X.A.in1.handled=none:=I.ok.hd hc
  have d1:=Gp (prog:=X.prog) (w:=X.w) hn it a na its.toArray
  have hl:=rv.length
  have e1:its.toArray.size=i:=by simp;omega
  refine wpAny_pyNext_enum_endD d1 he ⟨by rw[e1];exact hit,p'⟩ fun h' eb=>⟨rfl,?_⟩
  exact I.turnedL (ch:=[e,it]) (t':=s.toks) (fun b o hb q=>eb b o (fun z=>hb (by simp[z])) q) hf
 self:=fun _ _ _ _ _ st h=>by
  obtain⟨⟨old,he⟩,_⟩:=st
  exact Mb he h
theorem Pc (l:Addr)(items:Array Value)(n:Nat)(dd:Option Addr)(sl:Array (Option Value)) :
  Meets (Builtin.«enumerate.__new__» ⟨[.type "enumerate",.ref l],[]⟩) (fun _ R s=>s.heap.get? l=some {cls:=.type "tuple",dict:=dd,data:=.seq items n,slots:=sl}/\
   ∀h',IsEnum h' (s.heap.objs.size+1) s.heap.objs.size 0 .none->h'.IsTupleIter s.heap.objs.size l 0->(∀c o,s.heap.get? c=some o->h'.get? c=some o)->R (.ok (.ret (.ref (s.heap.objs.size+1)))) {s with heap:=h'}):=
 .of_wp fun prog w A R s h=>by
  obtain⟨hp,g,d,tk,os⟩:=s
  obtain⟨hl,h⟩:=h
  have hsub:=sub_enumerate
  have hL:Heap.IsTuple (Shared.heap ⟨hp,g,d,tk,os⟩) l items:=⟨_,hl,rfl,n,rfl⟩
  have key:∀(n1:Nat) (h':Heap),n1=hp.objs.size+1->IsEnum h' n1 hp.objs.size 0 .none->h'.IsTupleIter hp.objs.size l 0->(∀c o,hp.get? c=some o->h'.get? c=some o)->R (.ok (.ret (.ref n1))) ⟨h',g,d,tk,os⟩:=by
   rintro _ h' rfl
   exact h h'
  wp_walk using AutoSeq1.wpAny_loadPart' hl
  apply wpAny_stack_any
  intro st
  apply AZ
  have fin:R (.ok (.ret (.ref (hp.push {cls:=.type "tuple_iterator",data:=.fields #[.ref l,.int 0 0]}).objs.size))) ⟨(hp.push {cls:=.type "tuple_iterator",data:=.fields #[.ref l,.int 0 0]}).push {cls:=.type "enumerate",data:=.fields #[.none,.bool false,.ref hp.objs.size,rawInt 0,.none,.none]},g,d,tk,os⟩:=
   key _ _ (by simp only[IR]) (Cy _ rfl) ⟨_,Be _ (Cy _ rfl),rfl,rfl⟩ fun c o e=>Be _ (Be _ e)
  split
  .rename_i c _ _ _ _ _
   cases (c==Value.type "enumerate")
   all_goals
    wp_walk using AutoSeq1.wpAny_loadPart' hl,K8 hL
    exact⟨_,rfl,fin⟩
  .wp_walk using AutoSeq1.wpAny_loadPart' hl,K8 hL
   exact⟨_,rfl,fin⟩
def Qo (K:PySem.W.Frag)(ta:TA):TI:=fun σ H R=>ta σ H fun vs H1=>∃a:Addr,vs=[.ref a]/\(∃xs,A9 K H1 a xs)/\R (Ip K a) H1
theorem SU {X:Cx}{a:Expr}{ta:TA}{p pos:Pos}{elts:List Expr}{x1:Nat}{pos2:Pos}(hg:Gl X "enumerate")(hm:X.mg "enumerate"=none)(ha:PA X [a] ta)(hs:starEach [a] X.env=[(false,eval a X.env)]:=by rfl):PI X (.Tuple elts x1 pos2) (.Call (.Name "enumerate" p) [a] [] pos) (Qo X.K ta):=by
 intro pins s σ H R I h
 refine Call_ (Fg I hg hm boot_enumerate (Ha (AC (ha pos pins s σ H _ I h) fun us s1 ⟨vs,H1,I1,r1,q1⟩=>?_) hs rfl))
 obtain⟨l,rfl,⟨xs,hq⟩,q⟩:=q1
 cases r1 with
 |
  cons r rr=>
  cases rr
  cases r
  obtain⟨its,rv,pl,hz⟩:=I1.tuple hq
  have lt1:l<s1.heap.objs.size:=pl.lt
  obtain⟨⟨c,dct,dt,sl⟩,hl,hc,n,hd⟩:=pl
  have hc':c = .type "tuple":=hc
  have hd':dt = .seq its.toArray n:=hd
  subst hc' hd'
  refine callType_new F.called_enumerate (by decide) (F.typeCall_enumerate_1 _) (F.newCall_enumerate_1 _) (fun obj=>F.args_object_init_2 obj _) F.entry_enumerate_new (Pc l its.toArray n dct sl) ⟨hl,fun h' he hit hk=>⟨⟨_,he,rfl⟩,?_⟩⟩
  refine Mb he ?_
  refine⟨_,[s1.heap.objs.size+1,s1.heap.objs.size],_,_,H1,rfl,I1.kept (t':=s1.toks) hk,S3 l _ _ (FH (Gb _)) (BO lt1) (FH (Ct lt1 (Gg _ _))),⟨⟨_,he⟩,hit⟩,fun b hb=>?_,q⟩
  rcases Bw.mp hb with rfl|hb
  .exact I1.fpOk (Fm _) (I1.hok.fresh (Fm _))
  .have e:b=s1.heap.objs.size:=by simpa using hb
   subst e
   exact I1.fpOk (Ak _) (I1.hok.fresh (Ak _))
theorem PX {K:PySem.W.Frag}{a:Addr}{xs:List V}{g:TG}{tb:TS}{D:DH}{σ:St}{H:Hp}(Pv:Nat->St->Hp->Prop)(h0:Pv 0 σ H)(hl:∀i σ H,i<=xs.length->Pv i σ H->A9 K H a xs)
  (hs:∀i x T σ H,xs[i]?=some x->Pv i σ H->H T=none->g (.ref T) σ (upd H T (.tup [.int i,x])) fun σ2 H2=>tb {D with nx:=Pv (i+1),ct:=Pv (i+1),bk:=D.nx} σ2 H2) (hd:∀σ H,Pv xs.length σ H->D.nx σ H) :
  ∃W:Nat->Nat->St->Hp->Prop,(∃m,W 0 m σ H)/\∀i m σ H,W i m σ H->
   ((Ip K a).stop i H/\D.nx σ H)\/((Ip K a).go i H/\∃N:St->Hp->Prop,(∀σ' H',N σ' H'->∃m',m'<m/\W (i+1) m' σ' H')/\∀x H',(Ip K a).yld i H x H'->g x σ H' fun σ2 H2=>tb {D with nx:=N,ct:=N,bk:=D.nx} σ2 H2):=by
 refine⟨fun i m σ H=>m=xs.length-i/\i<=xs.length/\Pv i σ H,⟨xs.length,by simp,BP _,h0⟩,?_⟩
 rintro i m σ H ⟨rfl,hi,p⟩
 have q:=hl i σ H hi p
 by_cases hlt:i<xs.length
 .refine .inr ⟨⟨xs,xs[i],q,AH hlt⟩,Pv (i+1),fun σ' H' p'=>⟨xs.length-(i+1),by omega,rfl,hlt,p'⟩,fun v H' y=>?_⟩
  obtain⟨x,T,hx,hT,rfl,rfl⟩:=y
  exact hs i x T σ H (hx xs q) p hT
 .have e:i=xs.length:=by omega
  subst e
  exact .inl ⟨⟨xs,q,rfl⟩,hd σ H p⟩
end L2
namespace L2
open PySem PySem.Spec PyProof.Rows
def LA:R2:=fun x y H Q=>∃(a b:Addr) (xs ys:List V),x = .ref a/\y = .ref b/\H a=some (.tup xs)/\H b=some (.tup ys)/\xs.length+ys.length<=sizeLine/\∀(p:Addr) (H':Hp),Aa H H'->H' p=some (.tup (xs++ys))->Q (.ref p) H'
theorem CJ {X:Cx}:BE X (binaryOp .Add) LA:=by
 intro pins s σ H x y v u Q I rx ry h
 obtain⟨a,b,xs,ys,rfl,rfl,ha,hb,hz,q⟩:=h
 by_cases c:xs=[]
 .subst c
  cases rx
  cases ry
  obtain⟨its,r1,p1,_⟩:=I.tuple (A9.of ha)
  obtain⟨its2,r2,p2,_⟩:=I.tuple (A9.of hb)
  obtain⟨⟨cls,dd,data,sl⟩,ho,hc,n,hd⟩:=id p1
  obtain⟨⟨cls2,dd2,data2,sl2⟩,ho2,hc2,n2,hd2⟩:=id p2
  simp only at hc hd hc2 hd2
  subst hc hd hc2 hd2
  have e:its=[]:=r1.nil_iff.mpr rfl
  exact concat_meets ⟨_,ho,rfl⟩ ⟨_,ho2,rfl⟩ P8 seq_tuple_add OR OS (OT _ _)
   (tuple_addW0 a b its.toArray its2.toArray n n2 dd dd2 sl sl2 (by simp[e])) ⟨ho,ho2,.ref b,H,I,rfl,q b H (Aa.refl _) hb⟩
 .refine U7 pins s σ H (.ref a) (.ref b) v u Q I rx ry ⟨a,b,xs,ys,rfl,rfl,A9.of ha,A9.of hb,c,hz,fun z=>?_,fun z p hp=>?_⟩
  .subst z
   exact q a H (Aa.refl _) (by rw[EA];exact ha)
  .exact q p _ (A7 hp _) A5
end L2
namespace Fo
inductive F (W:Type) where
 |nil:F W
 |leaf (k:Int) (pl:List (Int×Int)) (rest:F W):F W
 |node (cut:Bool) (way:W) (sub rest:F W):F W
structure Bo (W:Type) where
 k:Int
 sh:Nat
 ways:List (Bool×W)
 pl:List (Int×Int)
variable {W L:Type}
def HeadSh (B:List (Bo W))(d:Nat):Prop := ∀c,B.head?=some c->c.sh=d
def Is:F W->List (Bo W)->Nat->Prop
 |.nil,B,_=>B=[]
 |.leaf k pl rest,B,d=>∃b B',B=b::B'/\b.k=k/\b.pl=pl/\b.ways.length=d/\HeadSh B' d/\Is rest B' d
 |.node cut way sub rest,B,d=>∃b G B',B=(b::G)++B'/\b.ways[d]?=some (cut,way)/\(∀c∈G,d<c.sh)/\HeadSh B' d/\Is sub (b::G) (d+1)/\Is rest B' d
section
variable (hdr:Nat->Bool->W->L)(dl:Nat->Int->List (Int×Int)->L)
end
structure Ok (B:List (Bo W)):Prop where
 sh:∀b∈B,b.sh<=b.ways.length
 ln:∀(i:Nat) (b c:Bo W),B[i]?=some b->B[i+1]?=some c->c.sh<=b.ways.length/\c.ways.take c.sh=b.ways.take c.sh
structure En where
 k:Int
 pl:List (Int×Int)
 path:List Int
def deedsF:F W->List Int->Nat->List En
 |.nil,_,_=>[]
 |.leaf k pl rest,p,j=>⟨k,pl,p++[(j:Int)]⟩::deedsF rest p (j+1)
 |.node _ _ sub rest,p,j=>deedsF sub (p++[(j:Int)]) 0++deedsF rest p (j+1)
theorem deeds_map:∀(f:F W) (B:List (Bo W)) (d:Nat) (p:List Int) (j:Nat),Is f B d->(deedsF f p j).map (fun e=>(e.k,e.pl))=B.map fun b=>(b.k,b.pl)
 |.nil,B,d,p,j,h=>by cases (show B=[] from h);rfl
 |
  .leaf k pl rest,B,d,p,j,h=>by
  obtain⟨b,B',rfl,rfl,rfl,hl,hh,hr⟩:=h
  show(b.k,b.pl)::_=(b.k,b.pl)::_
  rw[deeds_map rest B' d p (j+1) hr]
 |
  .node c w sub rest,B,d,p,j,h=>by
  obtain⟨b,G,B',rfl,hw,hG,hh,hs,hr⟩:=h
  show List.map _ (deedsF sub (p++[(j:Int)]) 0++deedsF rest p (j+1))=_
  rw[B8,deeds_map sub (b::G) (d+1) _ _ hs,deeds_map rest B' d p (j+1) hr,←B8]
theorem deeds_len {f:F W}{B:List (Bo W)}{d:Nat}(p:List Int)(j:Nat)(h:Is f B d):(deedsF f p j).length=B.length:=by
 have:=congrArg List.length (deeds_map f B d p j h)
 rwa [Al,Al]at this
theorem JU:∀(f:F W) (p:List Int) (j:Nat) (e:En),e∈deedsF f p j->∃(i:Nat) (q:List Int),j<=i/\e.path=p++(i:Int)::q
 |.nil,p,j,e,h=>by cases h
 |
  .leaf k pl rest,p,j,e,h=>by
  rcases Bw.mp h with rfl|h
  .exact⟨j,[],Ak _,rfl⟩
  .obtain⟨i,q,h1,h2⟩:=JU rest p (j+1) e h
   exact⟨i,q,by omega,h2⟩
 |
  .node c w sub rest,p,j,e,h=>by
  rcases CA.mp h with h|h
  .obtain⟨i,q,h1,h2⟩:=JU sub (p++[(j:Int)]) 0 e h
   exact⟨j,(i:Int)::q,Ak _,by rw[h2];simp⟩
  .obtain⟨i,q,h1,h2⟩:=JU rest p (j+1) e h
   exact⟨i,q,by omega,h2⟩
inductive Item (W:Type) where
 |deed (k:Int) (pl:List (Int×Int)):Item W
 |sweep (cut:Bool) (way:W) (sub:F W):Item W
def itm:F W->Nat->Option (Item W)
 |.nil,_=>none
 |.leaf k pl _,0=>some (.deed k pl)
 |.leaf _ _ rest,n+1=>itm rest n
 |.node c w sub _,0=>some (.sweep c w sub)
 |.node _ _ _ rest,n+1=>itm rest n
def Down:F W->List Nat->List (Bool×W)->Prop
 |_,[],_=>False
 |f,r::rs,ws=>(∃k pl,itm f r=some (.deed k pl)/\rs=[]/\ws=[])\/(∃c w sub ws',itm f r=some (.sweep c w sub)/\ws=(c,w)::ws'/\Down sub rs ws')
theorem deeds_down:∀(f:F W) (B:List (Bo W)) (d:Nat) (p:List Int) (j i:Nat) (e:En) (b:Bo W),Is f B d->(∀i c,B[i+1]?=some c->d<=c.sh)->Ok B->(∀b∈B,d<=b.ways.length)->(deedsF f p j)[i]?=some e->B[i]?=some b->
  ∃(r:Nat) (rs:List Nat),e.path=p++((j+r:Nat):Int)::rs.map (fun n:Nat=>(n:Int))/\Down f (r::rs) (b.ways.drop d)
 |.nil,B,d,p,j,i,e,b,h,hs,hk,hd,he,hb=>by simp[deedsF]at he
 |
  .leaf k pl rest,B,d,p,j,i,e,b,h,hs,hk,hd,he,hb=>by
  obtain⟨b0,B',rfl,rfl,rfl,hl,hh,hr⟩:=h
  change(⟨b0.k,b0.pl,p++[(j:Int)]⟩::deedsF rest p (j+1))[i]?=some e at he
  cases i with
  |
   zero=>
   rw[List.getElem?_cons_zero]at he hb
   cases he;cases hb
   exact⟨0,[],rfl,.inl ⟨_,_,rfl,rfl,OY (Ga hl)⟩⟩
  |
   succ i=>
   rw[Hf]at he hb
   obtain⟨r,rs,h1,h2⟩:=deeds_down rest B' d p (j+1) i e b hr (fun i c hc=>hs (i+1) c (by simpa using hc)) ⟨fun b hb=>hk.sh b (Cz _ hb),fun i b c h1 h2=>hk.ln (i+1) b c (by simpa using h1) (by simpa using h2)⟩ (fun b hb=>hd b (Cz _ hb)) he hb
   exact⟨r+1,rs,by rw[h1,show j+1+r=j+(r+1) by omega],h2⟩
 |
  .node c w sub rest,B,d,p,j,i,e,b,h,hs,hk,hd,he,hb=>by
  obtain⟨b0,G,B',rfl,hw,hG,hh,hsub,hr⟩:=h
  have l1:=deeds_len (p++[(j:Int)]) 0 hsub
  change(deedsF sub (p++[(j:Int)]) 0++deedsF rest p (j+1))[i]?=some e at he
  by_cases ci:i<(b0::G).length
  .rw[C2 (by omega)]at he hb
   have key:∀(n:Nat) (b:Bo W),(b0::G)[n]?=some b->b.ways[d]?=some (c,w):=by
    intro n
    induction n with
    |zero=>intro b hb;cases hb;exact hw
    |
     succ n ih=>
     intro b hb
     have hn:n<(b0::G).length:=by have:=(Ay.mp hb).1;omega
     have e1:(b0::G)[n]?=some (b0::G)[n]:=AH hn
     have hp:=ih _ e1
     have hg:d<b.sh:=hG b (by rw[Hf]at hb;exact Bf hb)
     have:=(hk.ln n _ b (by rw[C2 hn];exact e1) (by rw[C2 (Ay.mp hb).1];exact hb)).2
     have h2:=congrArg (fun l:List (Bool×W)=>l[d]?) this
     simp only[Dy hg]at h2
     rw[h2]
     exact hp
   have hb':=key i b hb
   obtain⟨hl,eb⟩:=Ay.mp hb'
   obtain⟨r,rs,h1,h2⟩:=deeds_down sub (b0::G) (d+1) (p++[(j:Int)]) 0 i e b hsub (fun i c hc=>hG c (by rw[Hf]at hc;exact Bf hc)) ⟨fun b hb=>hk.sh b (Fl _ hb),fun i b c h1 h2=>hk.ln i b c (by rw[C2 (Ay.mp h1).1];exact h1) (by rw[C2 (Ay.mp h2).1];exact h2)⟩ (fun b hb=>by
    obtain⟨n,hn⟩:=P2.mp hb
    obtain⟨z,_⟩:=Ay.mp (key n b hn)
    omega) he hb
   refine⟨0,r::rs,by rw[h1];simp,.inr ⟨c,w,sub,b.ways.drop (d+1),rfl,?_,h2⟩⟩
   rw[Gh hl,eb]
  .rw[BQ (by omega)]at he hb
   rw[l1]at he
   obtain⟨r,rs,h1,h2⟩:=deeds_down rest B' d p (j+1) (i-(b0::G).length) e b hr (fun i c hc=>hs ((b0::G).length+i) c (by
    rw[BQ (by omega),show(b0::G).length+i+1-(b0::G).length=i+1 by omega]
    exact hc)) ⟨fun b hb=>hk.sh b (CM _ hb),fun i b c h1 h2=>hk.ln (i+(b0::G).length) b c (by
     rw[BQ (by omega),Nat.add_sub_cancel];exact h1) (by
     rw[BQ (by omega),show i+(b0::G).length+1-(b0::G).length=i+1 by omega];exact h2)⟩ (fun b hb=>hd b (CM _ hb)) he hb
   exact⟨r+1,rs,by rw[h1,show j+1+r=j+(r+1) by omega],h2⟩
end Fo
namespace Fo
variable {W L:Type}
def app:F W->F W->F W
 |.nil,g=>g
 |.leaf k pl r,g=>.leaf k pl (app r g)
 |.node c w s r,g=>.node c w s (app r g)
theorem HeadSh.app {B C:List (Bo W)}{d:Nat}(h:HeadSh B d)(g:HeadSh C d):HeadSh (B++C) d:=by
 cases B with
 |nil=>exact g
 |cons b B=>exact h
theorem Is.app:∀(f g:F W) (B C:List (Bo W)) (d:Nat),Is f B d->Is g C d->HeadSh C d->Is (app f g) (B++C) d
 |.nil,g,B,C,d,hf,hg,hh=>by cases (show B=[] from hf);exact hg
 |
  .leaf k pl r,g,B,C,d,hf,hg,hh=>by
  obtain⟨b,B',rfl,h1,h2,h3,h4,h5⟩:=hf
  exact⟨b,B'++C,rfl,h1,h2,h3,h4.app hh,Is.app r g B' C d h5 hg hh⟩
 |
  .node c w s r,g,B,C,d,hf,hg,hh=>by
  obtain⟨b,G,B',rfl,h1,h2,h3,h4,h5⟩:=hf
  exact⟨b,G,B'++C,by simp,h1,h2,h3.app hh,h4,Is.app r g B' C d h5 hg hh⟩
theorem Is.leaf1 {b:Bo W}{d:Nat}(h:b.ways.length=d):Is (.leaf b.k b.pl .nil) [b] d:=⟨b,[],rfl,rfl,rfl,h,(fun c hc=>by cases hc),rfl⟩
theorem Is.node1 {b:Bo W}{G:List (Bo W)}{d:Nat}{s:F W}{c:Bool}{w:W}(hw:b.ways[d]?=some (c,w))(hG:∀c∈G,d<c.sh)(hs:Is s (b::G) (d+1)):Is (.node c w s .nil) (b::G) d:=⟨b,G,[],by simp,hw,hG,(fun c hc=>by cases hc),hs,rfl⟩
end Fo
namespace L2
open PySem PySem.Spec PyProof.Rows
def As {α:Type}(R:V->α->Prop)(xs:List V)(as:List α):Prop:=xs.length=as.length/\∀(i:Nat) (x:V) (a:α),xs[i]?=some x->as[i]?=some a->R x a
theorem As.nil {α:Type}{R:V->α->Prop}:As R [] []:=⟨rfl,fun i x a h=>by simp at h⟩
theorem As.mono {α:Type}{R S:V->α->Prop}{xs:List V}{as:List α}(h:As R xs as)(m:∀x a,R x a->S x a):As S xs as:=⟨h.1,fun i x a p q=>m _ _ (h.2 i x a p q)⟩
theorem As.get {α:Type}{R:V->α->Prop}{xs:List V}{as:List α}{i:Nat}{a:α}(h:As R xs as)(ha:as[i]?=some a):∃x,xs[i]?=some x/\R x a:=by
 have hi:i<xs.length:=by rw[h.1];exact(Ay.mp ha).1
 exact⟨_,AH hi,h.2 i _ a (AH hi) ha⟩
theorem As.get' {α:Type}{R:V->α->Prop}{xs:List V}{as:List α}{i:Nat}{x:V}(h:As R xs as)(hx:xs[i]?=some x):∃a,as[i]?=some a/\R x a:=by
 have hi:i<as.length:=by rw[←h.1];exact(Ay.mp hx).1
 exact⟨_,AH hi,h.2 i x _ hx (AH hi)⟩
theorem As.app {α:Type}{R:V->α->Prop}{xs ys:List V}{as bs:List α}(h:As R xs as)(g:As R ys bs):As R (xs++ys) (as++bs):=by
 refine⟨by rw[Ap,Ap,h.1,g.1],fun i x a p q=>?_⟩
 by_cases l:i<xs.length
 .rw[C2 l]at p
  rw[C2 (by rw[←h.1];exact l)]at q
  exact h.2 i x a p q
 .rw[BQ (by omega)]at p
  rw[BQ (by have:=h.1;omega)]at q
  rw[h.1]at p
  exact g.2 _ x a p q
theorem As.one {α:Type}{R:V->α->Prop}{x:V}{a:α}(h:R x a):As R [x] [a]:=⟨rfl,fun i y b p q=>by
 cases i with
 |zero=>cases p;cases q;exact h
 |succ i=>simp at p⟩
theorem As.snoc {α:Type}{R:V->α->Prop}{xs:List V}{as:List α}{x:V}{a:α}(h:As R xs as)(g:R x a):As R (xs++[x]) (as++[a]):=h.app (.one g)
theorem As.drop {α:Type}{R:V->α->Prop}{xs:List V}{as:List α}(h:As R xs as)(n:Nat):As R (xs.drop n) (as.drop n):=⟨by rw[Ck,Ck,h.1],fun i x a p q=>by
 rw[FL]at p q
 exact h.2 _ x a p q⟩
theorem As.take {α:Type}{R:V->α->Prop}{xs:List V}{as:List α}(h:As R xs as)(n:Nat):As R (xs.take n) (as.take n):=⟨by rw[Ar,Ar,h.1],fun i x a p q=>by
 by_cases l:i<n
 .rw[Dy l]at p q
  exact h.2 _ x a p q
 .rw[List.getElem?_take_eq_none (by omega)]at p
  cases p⟩
abbrev B1:=Bool×Str
abbrev Ab:=Fo.Bo Str
abbrev Ac:=Fo.F Str
def DV (H:Hp)(x:V)(w:B1):Prop := ∃t,x = .ref t/\H t=some (.tup [.bl w.1,.str w.2])
def Er (H:Hp)(x:V)(p:Int×Int):Prop := ∃t,x = .ref t/\H t=some (.tup [.int p.1,.int p.2])
theorem DV.over {H H':Hp}{x:V}{w:B1}(h:DV H x w)(e:Aa H H'):DV H' x w:=by obtain⟨t,a,b⟩:=h;exact⟨t,a,e _ _ b⟩
theorem Er.over {H H':Hp}{x:V}{p:Int×Int}(h:Er H x p)(e:Aa H H'):Er H' x p:=by obtain⟨t,a,b⟩:=h;exact⟨t,a,e _ _ b⟩
def DT (H:Hp)(l:Addr)(ws:List B1):Prop := ∃xs,H l=some (.lst xs)/\As (DV H) xs ws
def DN (H:Hp)(l:Addr)(ps:List (Int×Int)):Prop := ∃xs,H l=some (.tup xs)/\As (Er H) xs ps
theorem DT.over {H H':Hp}{l:Addr}{ws:List B1}(h:DT H l ws)(e:Aa H H'):DT H' l ws:=by obtain⟨xs,a,b⟩:=h;exact⟨xs,e _ _ a,b.mono fun x w p=>p.over e⟩
theorem DN.over {H H':Hp}{l:Addr}{ps:List (Int×Int)}(h:DN H l ps)(e:Aa H H'):DN H' l ps:=by obtain⟨xs,a,b⟩:=h;exact⟨xs,e _ _ a,b.mono fun x w p=>p.over e⟩
def AI (H:Hp):List V->Ac->Prop
 |xs,.nil=>xs=[]
 |xs,.leaf k pl rest=>∃t p ys,xs = .ref t::ys/\H t=some (.tup [.str "deed",.int k,.ref p])/\DN H p pl/\AI H ys rest
 |xs,.node c w sub rest=>∃t p zs ys,xs = .ref t::ys/\H t=some (.tup [.str "sweep",.bl c,.str w,.ref p])/\H p=some (.tup zs)/\AI H zs sub/\AI H ys rest
theorem AI.over {H H':Hp}(e:Aa H H'):∀{f:Ac} {xs:List V},AI H xs f->AI H' xs f
 |.nil,xs,h=>h
 |
  .leaf k pl rest,xs,h=>by
  obtain⟨t,p,ys,a,b,c,d⟩:=h
  exact⟨t,p,ys,a,e _ _ b,c.over e,AI.over e d⟩
 |
  .node c w sub rest,xs,h=>by
  obtain⟨t,p,zs,ys,a,b,c,d,g⟩:=h
  exact⟨t,p,zs,ys,a,e _ _ b,e _ _ c,AI.over e d,AI.over e g⟩
def DA (H:Hp)(p:Addr)(f:Ac):Prop := ∃xs,H p=some (.tup xs)/\AI H xs f
theorem DA.over {H H':Hp}{p:Addr}{f:Ac}(h:DA H p f)(e:Aa H H'):DA H' p f:=by obtain⟨xs,a,b⟩:=h;exact⟨xs,e _ _ a,AI.over e b⟩
end L2
namespace L2
open PySem PySem.Spec PyProof.Rows
def TK (H H':Hp):Prop := ∀(b:Addr) (xs:List V),H b=some (.tup xs)->H' b=some (.tup xs)
theorem TK.trans {H H' H'':Hp}(a:TK H H')(b:TK H' H''):TK H H'':=fun x xs h=>b x xs (a x xs h)
theorem Aa.tk {H H':Hp}(e:Aa H H'):TK H H':=fun b xs h=>e b _ h
theorem TK.upd {H:Hp}{l:Addr}{xs:List V}{o:HO}(hl:H l=some (.lst xs)):TK H (upd H l o):=fun b ys hb=>by
 rw[Aw (Th hb hl (by intro z;cases z))]
 exact hb
theorem DV.tk {H H':Hp}{x:V}{w:B1}(h:DV H x w)(e:TK H H'):DV H' x w:=by obtain⟨t,a,b⟩:=h;exact⟨t,a,e _ _ b⟩
theorem Er.tk {H H':Hp}{x:V}{w:Int×Int}(h:Er H x w)(e:TK H H'):Er H' x w:=by obtain⟨t,a,b⟩:=h;exact⟨t,a,e _ _ b⟩
theorem DN.tk {H H':Hp}{l:Addr}{ps:List (Int×Int)}(h:DN H l ps)(e:TK H H'):DN H' l ps:=by obtain⟨xs,a,b⟩:=h;exact⟨xs,e _ _ a,b.mono fun x w p=>p.tk e⟩
theorem AI.tk {H H':Hp}(e:TK H H'):∀{f:Ac} {xs:List V},AI H xs f->AI H' xs f
 |.nil,xs,h=>h
 |
  .leaf k pl rest,xs,h=>by
  obtain⟨t,p,ys,a,b,c,d⟩:=h
  exact⟨t,p,ys,a,e _ _ b,c.tk e,AI.tk e d⟩
 |
  .node c w sub rest,xs,h=>by
  obtain⟨t,p,zs,ys,a,b,c,d,g⟩:=h
  exact⟨t,p,zs,ys,a,e _ _ b,e _ _ c,AI.tk e d,AI.tk e g⟩
theorem AI.app {H:Hp}:∀{f g:Ac} {xs ys:List V},AI H xs f->AI H ys g->AI H (xs++ys) (Fo.app f g)
 |.nil,g,xs,ys,h,k=>by cases (show xs=[] from h);exact k
 |
  .leaf k pl rest,g,xs,ys,h,hg=>by
  obtain⟨t,p,zs,rfl,b,c,d⟩:=h
  exact⟨t,p,zs++ys,rfl,b,c,AI.app d hg⟩
 |
  .node c w sub rest,g,xs,ys,h,hg=>by
  obtain⟨t,p,zs,us,rfl,b,c,d,k⟩:=h
  exact⟨t,p,zs,us++ys,rfl,b,c,d,AI.app k hg⟩
theorem Oc (x y:Str):(x++y).length=x.length+y.length:=by rw[←IZ,TV,Ap,IZ,IZ]
def AU:Ac->Nat
 |.nil=>1
 |.leaf _ _ rest=>AU rest
 |.node _ _ sub rest=>max (1+AU sub) (AU rest)
theorem FO:∀f:Ac,1<=AU f
 |.nil=>Ak _
 |.leaf _ _ rest=>FO rest
 |.node _ _ sub rest=>by have:=FO sub;unfold AU;omega
theorem G8:∀(f:Ac) (B:List Ab) (d n:Nat),Fo.Is f B d->(∀b∈B,b.ways.length<=d+n)->AU f<=n+1
 |.nil,B,d,n,h,hn=>by unfold AU;omega
 |
  .leaf k pl rest,B,d,n,h,hn=>by
  obtain⟨b,B',rfl,_,_,_,_,h5⟩:=h
  exact G8 rest B' d n h5 fun b hb=>hn b (Cz _ hb)
 |
  .node c w sub rest,B,d,n,h,hn=>by
  obtain⟨b,G,B',rfl,h1,h2,h3,h4,h5⟩:=h
  have:=G8 rest B' d n h5 fun b hb=>hn b (CM _ hb)
  have l:=(Ay.mp h1).1
  have l2:=hn b (Fl _ Cb)
  obtain⟨n,rfl⟩:∃m,n=m+1:=⟨n-1,by omega⟩
  have:=G8 sub (b::G) (d+1) n h4 fun b hb=>by have:=hn b (Fl _ hb);omega
  unfold AU
  omega
def ME (t:TE):Prop := ∀(σ:St) (H:Hp) (Q Q':VK),(∀v H1,Q v H1->Q' v H1)->t σ H Q->t σ H Q'
def MT (t:TT):Prop := ∀σ H Q Q',(∀b H1,Q b H1->Q' b H1)->t σ H Q->t σ H Q'
def MA (t:TA):Prop := ∀σ H Q Q',(∀b H1,Q b H1->Q' b H1)->t σ H Q->t σ H Q'
def MR (r:R2):Prop := ∀(x y:V) (H:Hp) (Q Q':VK),(∀v H1,Q v H1->Q' v H1)->r x y H Q->r x y H Q'
def MB (r:List V->Hp->VK->Prop):Prop := ∀(vs:List V) (H:Hp) (Q Q':VK),(∀v H1,Q v H1->Q' v H1)->r vs H Q->r vs H Q'
theorem ME.var (i:Nat):ME (Fk i):=fun σ H Q Q' hq ⟨v,h,k⟩=>⟨v,h,hq _ _ k⟩
theorem ME.c (v:V):ME (tC v):=fun σ H Q Q' hq h=>hq _ _ h
theorem ME.op {r:R2}{a b:TE}(hr:MR r)(ha:ME a)(hb:ME b):ME (Ft r a b):=fun σ H Q Q' hq h=>ha _ _ _ _ (fun x H1 k=>hb _ _ _ _ (fun y H2 k=>hr _ _ _ _ _ hq k) k) h
theorem ME.cb {r:List V->Hp->VK->Prop}{t:TA}(hr:MB r)(h:MA t):ME (Kx r t):=fun σ H Q Q' hq k=>h _ _ _ _ (fun xs H1 m=>hr _ _ _ _ hq m) k
theorem MA.nil:MA IE:=fun σ H Q Q' hq h=>hq _ _ h
theorem MA.cons {t:TE}{u:TA}(ht:ME t)(hu:MA u):MA (GS t u):=fun σ H Q Q' hq h=>ht _ _ _ _ (fun x H1 k=>hu _ _ _ _ (fun xs H2 m=>hq _ _ m) k) h
theorem MT.test {t:TE}(h:ME t):MT (Mx t):=fun σ H Q Q' hq k=>h _ _ _ _ (fun x H1 ⟨b,e,m⟩=>⟨b,e,hq _ _ m⟩) k
theorem MT.b {t:TE}(h:ME t):MT (tB t):=fun σ H Q Q' hq k=>h _ _ _ _ (fun x H1 ⟨b,e,m⟩=>⟨b,e,hq _ _ m⟩) k
theorem MT.and {t u:TT}(h:MT t)(g:MT u):MT (Mr t u):=fun σ H Q Q' hq k=>h _ _ _ _ (fun c H1 m=>by
 cases c with
 |true=>exact g _ _ _ _ hq m
 |false=>exact hq _ _ m) k
theorem MR.i0 (g:Int->Int->V):MR (Fc g):=fun x y H Q Q' hq ⟨i,j,a,b,d⟩=>⟨i,j,a,b,hq _ _ d⟩
theorem MR.ixL (K:PySem.W.Frag):MR (Iv K):=fun x y H Q Q' hq ⟨p,xs,i,v,a,b,c,d,e⟩=>⟨p,xs,i,v,a,b,c,d,hq _ _ e⟩
theorem MR.ixT (K:PySem.W.Frag):MR (DM K):=fun x y H Q Q' hq ⟨p,xs,i,v,a,b,c,d,e⟩=>⟨p,xs,i,v,a,b,c,d,hq _ _ e⟩
theorem MB.len {P R:Hp->Addr->List V->Prop}:MB (fun xs H Q=>∃p ys,xs=[V.ref p]/\(P H p ys\/R H p ys)/\Q (V.int (ys.length:Int)) H):=fun vs H Q Q' hq ⟨p,ys,a,b,c⟩=>⟨p,ys,a,b,hq _ _ c⟩
theorem JO {K:PySem.W.Frag}{H:Hp}:∀L:List Int,C7 K H (L.map V.int) (L.map fun i=>Tr.v (.int i))
 |[]=>.nil
 |x::L=>.cons (.flat rfl) (JO L)
theorem Jf:∀L:List Int,BJ (L.map fun i=>Tr.v (.int i))=0
 |[]=>rfl
 |x::L=>by rw[C1,BJ,Jf L];rfl
theorem R6 {K:PySem.W.Frag}{H:Hp}{p z:Addr}{L:List Int}{neg:Bool}{Q:VK}(hp:H p=some (.lst (L.map V.int)))(hz:H z=some (.lst []))(h:Q (.bl (if neg then !L.isEmpty else L.isEmpty)) H):FG K neg (.ref p) (.ref z) H Q:=by
 refine⟨.lst (L.map fun i=>Tr.v (.int i)),.lst [],.lst (A4.of hp) (JO L),.lst (A4.of hz) .nil,⟨_,rfl⟩,⟨_,rfl⟩,by rw[Ci];cases L<;>rfl,by rw[Bu,Jf];decide,?_⟩
 have e:Br (.lst (L.map fun i=>Tr.v (.int i))) (.lst [])=L.isEmpty:=by
  rw[Br]
  cases L<;>rfl
 rw[e]
 exact h
def av (H:Hp)(S:List Addr):Hp:=fun b=>if b∈S then none else H b
theorem Oh {H:Hp}{S:List Addr}{l:Addr}{o:HO}(h:l∈S):av (upd H l o) S=av H S:=by
 funext b
 unfold av
 by_cases c:b∈S
 .rw[AW c,AW c]
 .rw[AQ c,AQ c,Aw (fun z:b=l=>c (by rw[z];exact h))]
theorem JD {H:Hp}{S:List Addr}:Aa (av H S) H:=fun b o h=>by
 unfold av at h
 split at h
 .cases h
 .exact h
theorem FF {H H':Hp}{S:List Addr}(e:Aa H H'):Aa (av H S) (av H' S):=fun b o h=>by
 unfold av at h ⊢
 split at h
 .cases h
 .rename_i c;rw[AQ c];exact e b o h
theorem JB {H:Hp}{S:List Addr}{b:Addr}(h:b∉S):av H S b=H b:=by unfold av;rw[AQ h]
theorem Fo.Ok.snoc {B:List Ab}{b:Ab}(h:Fo.Ok B)(h1:b.sh<=b.ways.length)(h2:∀c,B.getLast?=some c->b.sh<=c.ways.length/\b.ways.take b.sh=c.ways.take b.sh):Fo.Ok (B++[b]):=by
 refine⟨fun c hc=>?_,fun i c e hc he=>?_⟩
 .rcases CA.mp hc with hc|hc
  .exact h.sh c hc
  .rw[CO]at hc;subst hc;exact h1
 .have le:=(Ay.mp he).1
  rw[Ap,Au]at le
  rw[C2 (by omega)]at hc
  by_cases z:i+1<B.length
  .rw[C2 z]at he
   exact h.ln i c e hc he
  .have hi:i+1=B.length:=by omega
   rw[hi,BQ (Ak _),DJ]at he
   cases he
   refine h2 c ?_
   rw[Hg,show B.length-1=i by omega]
   exact hc
theorem OH {j n:Nat}(h:j<n):seqIndex? (j:Int) n=some j:=by
 unfold seqIndex?
 simp only[show ¬((j:Int)<0) by omega,IY]
 rw[AW (by simp;omega),Gc]
theorem RF (L:List Int):∀j:Nat,(L.map V.int).eraseIdx j=(L.eraseIdx j).map V.int:=by
 induction L with
 |nil=>intro j;rfl
 |
  cons x L ih=>
  intro j
  cases j with
  |zero=>rfl
  |succ j=>show V.int x::(L.map V.int).eraseIdx j=V.int x::(L.eraseIdx j).map V.int;rw[ih]
theorem Ts:∀{f:Ac} {d:Nat},Fo.Is f [] d->f = .nil
 |.nil,d,h=>rfl
 |.leaf k pl r,d,h=>by obtain⟨b,B',e,_⟩:=h;cases e
 |.node c w s r,d,h=>by obtain⟨b,G,B',e,_⟩:=h;simp at e
theorem Mi {f g:Ac}{B C:List Ab}{d:Nat}(hf:Fo.Is f B d)(hg:Fo.Is g C d)(hh:B≠[]->Fo.HeadSh C d):Fo.Is (Fo.app f g) (B++C) d:=by
 by_cases c:B=[]
 .subst c
  rw[Ts hf]
  exact hg
 .exact Fo.Is.app f g B C d hf hg (hh c)
theorem Ud {α:Type}(B:List α){i m:Nat}(h:i<=m):B.take i++(B.drop i).take (m-i)=B.take m:=by
 have:B.take i=(B.take m).take i:=by rw[Gi,Gf h]
 rw[←List.drop_take,this,Gj]
theorem Tn {v:V}{i:Nat}{b:TS}{D:DH}{σ:St}{H:Hp}(h:b D (σ.set i (some v)) H):Jj (Ih (tC v) (Ag i)) b D σ H:=h
end L2
namespace L2
open PySem PySem.Spec PyProof.Rows
theorem JA:∀{rs:List Nat} {f:Ac} {ws:List B1},Fo.Down f rs ws->rs.length=ws.length+1
 |[],f,ws,h=>h.elim
 |
  r::rs,f,ws,h=>by
  rcases h with⟨k,pl,_,rfl,rfl⟩|⟨c,w,sub,ws',_,rfl,h⟩
  .rfl
  .rw[B5,B5,JA h]
theorem MX {f:Ac}{B:List Ab}{i:Nat}{b:Ab}(h:Fo.Is f B 0)(hb:B[i]?=some b):∃e,(Fo.deedsF f [] 0)[i]?=some e/\e.k=b.k/\e.pl=b.pl:=by
 have l:=Fo.deeds_len [] 0 h
 have hi:i<(Fo.deedsF f [] 0).length:=by rw[l];exact(Ay.mp hb).1
 have m:=congrArg (fun l:List (Int×List (Int×Int))=>l[i]?) (Fo.deeds_map f B 0 [] 0 h)
 simp only[C3,AH hi,hb,Option.map_some]at m
 have m:=Dx m
 exact⟨_,AH hi,congrArg Prod.fst m,congrArg Prod.snd m⟩
end L2
namespace HT
open PySem PySem.Spec PyProof.Rows L2
section
variable {prog:Program}{w:World}{A:Around}{E:Value->Shared->Prop}{s:Shared}
theorem getItem_tuple_all {t sl:Addr}{items:Array Value}{vl vu:Value}{lo hi:Option Int}{Q:Value->Shared->Prop}(ht:IsTup s.heap t items)(hs:s.heap.IsSliceOf sl vl vu .none)(pl:IsPart vl lo)(pu:IsPart vu hi)
  (hw:sIx items.size 0 lo=0/\sIx items.size items.size hi=items.size) (h:Q (.ref t) s):wpAny (model prog w) A (getItem (.ref t) (.ref sl)) Q E s:=by
 obtain⟨os,hos,hcs,hds⟩:=id hs
 have hTs:s.TypeIs (.ref sl) "slice":=⟨os,hos,hcs⟩
 unfold getItem
 try with_reducible refine Hk ?_
 first|refine An (AZ ?_)|skip
 refine An (wpAny_sequenceKey ht.typeIs (by decide) ?_)
 refine An (wpAny_callSpecial?_slot (name:=Str.ofString "__getitem__") ht.typeIs LQ
  (Ma LQ ht.typeIs entry_tuple_getitem ?_ (args_tuple_getitem _ _)))
 show wpAny _ _ (Builtin.Tuple.tupleItemsOf (.ref t)>>=_) _ _ s
 refine An (tupleItemsOf_ ht ?_)
 refine An (wpAny_typeOf hTs ?_)
 rw[AW (by decide)]
 refine An (Nl hs pl pu ?_)
 have hyes:(((sIx items.size 0 lo:Nat):Int)==0&&(1:Int)==1&&(sIx items.size items.size hi-sIx items.size 0 lo)==items.size)=true:=by
  rw[hw.1,hw.2]
  simp
 show wpAny _ _ (if(((sIx items.size 0 lo:Nat):Int)==0&&(1:Int)==1&&(sIx items.size items.size hi-sIx items.size 0 lo)==items.size)=true then _ else _) _ _ s
 rw[AW hyes]
 show wpAny _ _ (Builtin.Tuple.tupleIsExact (.ref t)>>=_) _ _ s
 unfold Builtin.Tuple.tupleIsExact
 refine An (An (wpAny_typeOf ht.typeIs (AZ ?_)))
 rw[AW (by decide)]
 wp_walk
 first
  |exact⟨_,rfl,AZ h⟩
  |exact AZ ⟨_,rfl,AZ h⟩
end
end HT
namespace L2
open PySem PySem.Spec PyProof.Rows
def Kr:V->Option Int->Option Int->Hp->VK->Prop:=fun x lo hi H Q=>∃(a:Addr) (xs:List V),x = .ref a/\H a=some (.tup xs)/\∀(p:Addr) (H':Hp),Aa H H'->H' p=some (.tup (AL xs lo hi))->Q (.ref p) H'
theorem CQ {X:Cx}:J6 X Kr:=by
 intro pins s σ H x v vl vu lo hi sl Q I rx hs pl pu h
 obtain⟨a,xs,rfl,ha,q⟩:=h
 by_cases c:HT.sIx xs.length 0 lo=0/\HT.sIx xs.length xs.length hi=xs.length
 .cases rx
  obtain⟨its,r,ht,hz⟩:=I.tuple (A9.of ha)
  have hlen:its.toArray.size=xs.length:=by rw[Bh];exact r.length.symm
  refine⟨"tuple",_,PyProof.Rows.slot_tuple_getitem.lookup,ht.typeIs,?_⟩
  refine HT.getItem_tuple_all ht hs pl pu (by rw[hlen];exact c) ⟨.ref a,H,I,rfl,q a H (Aa.refl _) ?_⟩
  have:AL xs lo hi=xs:=by
   unfold AL
   rw[c.1,c.2]
   simp
  rw[this]
  exact ha
 .exact Tp pins s σ H (.ref a) v vl vu lo hi sl Q I rx hs pl pu ⟨a,xs,rfl,A9.of ha,c,fun p hp=>q p _ (A7 hp _) A5⟩
end L2
namespace L2
open PySem PySem.Spec PyProof.Rows
end L2
namespace L2
open PySem PySem.Spec PyProof.Rows
end L2
namespace L2
open PySem PySem.Spec PyProof.Rows
inductive Tw where
 |n (i:Int)
 |v (z:Str)
 |c (z:Str) (sp:List (Str×Int))
 |j (z:Str) (l r:Tw)
namespace Tw
end Tw
def Da (H:Hp)(x:V)(s:Str×Int):Prop := ∃t,x = .ref t/\H t=some (.tup [.str s.1,.int s.2])
def Hq (H:Hp)(p:Addr)(sp:List (Str×Int)):Prop := ∃xs,H p=some (.tup xs)/\As (Da H) xs sp
theorem Da.tk {H H':Hp}{x:V}{s:Str×Int}(k:TK H H')(h:Da H x s):Da H' x s:=let ⟨t,e,h⟩:=h;⟨t,e,k _ _ h⟩
theorem Hq.tk {H H':Hp}{p:Addr}{sp:List (Str×Int)}(k:TK H H')(h:Hq H p sp):Hq H' p sp:=let ⟨xs,e,h⟩:=h;⟨xs,k _ _ e,h.mono fun _ _ z=>z.tk k⟩
def DS (c:Cs)(H:Hp):Tw->V->Prop
 |.n i,x=>∃t dx,x = .ref t/\H t=some (.ins c.n dx [("n",.int i)])
 |.v z,x=>∃t dx,x = .ref t/\H t=some (.ins c.v dx [("name",.str z)])
 |.c z sp,x=>∃t dx p,x = .ref t/\H t=some (.ins c.c dx [("table",.str z),("spots",.ref p)])/\Hq H p sp
 |.j z l r,x=>∃t dx a b,x = .ref t/\H t=some (.ins c.j dx [("sign",.str z),("left",a),("right",b)])/\DS c H l a/\DS c H r b
theorem DS.over {c:Cs}{H H':Hp}(e:Aa H H'):∀{t:Tw} {x:V},DS c H t x->DS c H' t x
 |.n i,x,h=>let ⟨t,dx,r,h⟩:=h;⟨t,dx,r,e _ _ h⟩
 |.v z,x,h=>let ⟨t,dx,r,h⟩:=h;⟨t,dx,r,e _ _ h⟩
 |.c z sp,x,h=>let ⟨t,dx,p,r,h,g⟩:=h;⟨t,dx,p,r,e _ _ h,g.tk (Aa.tk e)⟩
 |.j z l r,x,h=>let ⟨t,dx,a,b,r,h,g1,g2⟩:=h;⟨t,dx,a,b,r,e _ _ h,DS.over e g1,DS.over e g2⟩
end L2
namespace L2
open PySem
end L2
namespace L2
open PySem
end L2
namespace L2
open PySem
end L2
namespace L2
open PySem
end L2
namespace Pw
variable {T S:Type}
end Pw
namespace L2
open PySem PySem.Spec PyProof.Rows
structure GH where
 nm:Str
 lo:Str×Int
 hi:Str×Int
structure Dw where
 loops:List GH
 tbl:Str
 sp:List (Str×Int)
 tm:Tw
 path:List Int
def CI (C:Addr)(c:Cs)(H:Hp)(x:V)(D:Dw):Prop := ∃(p dx nm lo hi ps pt:Addr) (ob:V) (ls hs:List V),x = .ref p/\H p=some (.ins C dx [("names",.ref nm),("lows",.ref lo),("highs",.ref hi),("table",.str D.tbl),("spots",.ref ps),("term",ob),("path",.ref pt)])/\H nm=some (.tup (D.loops.map fun t=>V.str t.nm))/\H lo=some (.tup ls)/\As (fun v t=>Da H v (GH.lo t)) ls D.loops/\H hi=some (.tup hs)/\As (fun v t=>Da H v (GH.hi t)) hs D.loops/\Hq H ps D.sp/\DS c H D.tm ob/\H pt=some (.tup (D.path.map V.int))
theorem CI.over {C:Addr}{c:Cs}{H H':Hp}{x:V}{D:Dw}(e:Aa H H')(h:CI C c H x D):CI C c H' x D:=by
 obtain⟨p,dx,nm,lo,hi,ps,pt,ob,ls,hs,rfl,h0,h1,h2,h3,h4,h5,h6,h7,h8⟩:=h
 exact⟨p,dx,nm,lo,hi,ps,pt,ob,ls,hs,rfl,e _ _ h0,e _ _ h1,e _ _ h2,h3.mono fun _ _ z=>z.tk (Aa.tk e),e _ _ h4,h5.mono fun _ _ z=>z.tk (Aa.tk e),h6.tk (Aa.tk e),h7.over e,e _ _ h8⟩
def JY (C:Addr)(c:Cs)(H:Hp)(l:Addr)(Ds:List Dw):Prop := ∃xs,H l=some (.lst xs)/\As (CI C c H) xs Ds
theorem JY.over {C:Addr}{c:Cs}{H H':Hp}{l:Addr}{Ds:List Dw}(e:Aa H H')(h:JY C c H l Ds):JY C c H' l Ds:=let ⟨xs,h,g⟩:=h;⟨xs,e _ _ h,g.mono fun _ _ z=>z.over e⟩
def Fq (CP C:Addr)(c:Cs)(H:Hp)(v:V)(n:Int)(Ds:List Dw):Prop := ∃(x dx dl:Addr),v = .ref x/\H x=some (.ins CP dx [("size",.int n),("deeds",.ref dl)])/\JY C c H dl Ds
end L2
namespace L2
open PySem
end L2
namespace L2
open PySem PySem.Spec PyProof.Rows
def NL (H H':Hp):Prop := ∀b o,H b=some o->(∀xs,o≠.lst xs)->H' b=some o
theorem NL.tk {H H':Hp}(h:NL H H'):TK H H':=fun b xs hb=>h b _ hb (fun _ z=>by cases z)
theorem NL.upd {H:Hp}{l:Addr}{xs:List V}{o:HO}(hl:H l=some (.lst xs)):NL H (upd H l o):=fun b ob hb hn=>by
 rw[Aw (fun z=>by rw[z,hl]at hb;cases hb;exact hn _ rfl)]
 exact hb
theorem DS.nl {c:Cs}{H H':Hp}(e:NL H H'):∀{t:Tw} {x:V},DS c H t x->DS c H' t x
 |.n i,x,h=>let ⟨t,dx,r,h⟩:=h;⟨t,dx,r,e _ _ h (fun _ z=>by cases z)⟩
 |.v z,x,h=>let ⟨t,dx,r,h⟩:=h;⟨t,dx,r,e _ _ h (fun _ z=>by cases z)⟩
 |.c z sp,x,h=>let ⟨t,dx,p,r,h,g⟩:=h;⟨t,dx,p,r,e _ _ h (fun _ z=>by cases z),g.tk e.tk⟩
 |.j z l r,x,h=>let ⟨t,dx,a,b,r,h,g1,g2⟩:=h;⟨t,dx,a,b,r,e _ _ h (fun _ z=>by cases z),DS.nl e g1,DS.nl e g2⟩
theorem CI.nl {C:Addr}{c:Cs}{H H':Hp}{x:V}{D:Dw}(e:NL H H')(h:CI C c H x D):CI C c H' x D:=by
 obtain⟨p,dx,nm,lo,hi,ps,pt,ob,ls,hs,rfl,h0,h1,h2,h3,h4,h5,h6,h7,h8⟩:=h
 exact⟨p,dx,nm,lo,hi,ps,pt,ob,ls,hs,rfl,e _ _ h0 (fun _ z=>by cases z),e.tk _ _ h1,e.tk _ _ h2,h3.mono fun _ _ z=>z.tk e.tk,e.tk _ _ h4,h5.mono fun _ _ z=>z.tk e.tk,h6.tk e.tk,h7.nl e,e.tk _ _ h8⟩
end L2
namespace L2
open PySem PySem.Spec PyProof.Rows
section
variable {X:Cx}{pins:List (Addr×Obj)}{s:Shared}{σ:St}{H:Hp}
end
theorem Qd {K:PySem.W.Frag}{a b:Addr}{xs ys:List V}{ρ:List (Option Nat)}{g:TG}{tt:TT}{te:TE}{σ:St}{H:Hp}{Q:VK}(hlen:xs.length=ys.length)(Pv:Nat->List V->Hp->Prop)(h0:Pv 0 [] H)(hsz:xs.length<=sizeLine)(hl:∀i zs H,i<=xs.length->Pv i zs H->A9 K H a xs/\A9 K H b ys/\zs.length<=i)
  (hs:∀i x y T zs H,xs[i]?=some x->ys[i]?=some y->Pv i zs H->H T=none->g (.ref T) (BX ρ σ) (upd H T (.tup [x,y])) fun σ2 H3=>GE ρ σ σ2/\tt σ2 H3 fun ok H4=>if ok=true then te σ2 H4 fun v H5=>Pv (i+1) (zs++[v]) H5 else Pv (i+1) zs H4)
  (hd:∀zs H,Pv xs.length zs H->∀p,H p=none->Q (.ref p) (upd H p (.lst zs))):G4 ρ g tt te σ Q (KM K a b) H:=by
 refine⟨fun i m zs H=>m=xs.length-i/\i<=xs.length/\Pv i zs H,⟨_,rfl,BP _,h0⟩,?_⟩
 rintro i m zs H ⟨rfl,hi,p⟩
 obtain⟨q1,q2,hz⟩:=hl i zs H hi p
 by_cases hlt:i<xs.length
 .refine .inr ⟨⟨xs,ys,xs[i],ys[i],q1,q2,AH hlt,AH (by omega)⟩,by omega,Pv (i+1),fun ys' H'' p'=>⟨xs.length-(i+1),by omega,rfl,hlt,p'⟩,fun v H' yy=>?_⟩
  obtain⟨x,y,T,hx,hy,hT,rfl,rfl⟩:=yy
  exact hs i x y T zs H (hx xs q1) (hy ys q2) p hT
 .have:i=xs.length:=by omega
  subst this
  exact .inl ⟨⟨xs,ys,q1,q2,Ak _,by omega,.inl rfl⟩,by omega,hd zs H p⟩
def N4:V->Bool
 |.int _=>true
 |.str _=>true
 |.bl _=>true
 |_=>false
mutual
def Cj (H:Hp):Tr->V->Prop
 |.v y,x=>x=y/\N4 y=true
 |.tup l,x=>∃p xs,x = .ref p/\H p=some (.tup xs)/\By H l xs
 |.lst _,_=>False
def By (H:Hp):List Tr->List V->Prop
 |[],xs=>xs=[]
 |t::l,xs=>∃x xs',xs=x::xs'/\Cj H t x/\By H l xs'
end
def PB (K:PySem.W.Frag):Sp:=fun vs H Q _=>∃(p:Addr) (ns:List Int) (k:Int),vs=[.ref p,.int k]/\A4 K H p (ns.map V.int)/\0<=k/\k<=1000000/\∀m:Int,0<=m->m<2147483629->Q (.int m) H
def Sw:Sp:=fun vs H Q _=>∃(c:Int) (l:Addr) (ms:List Int),vs=[.int c,.ref l]/\H l=some (.lst (ms.map V.int))/\0<=c/\ms.length<=100/\(∀m∈ms,0<m/\m<1073741824)/\∀(r:Addr) (H':Hp) (ds:List Int),Aa H H'->H' r=some (.lst (ds.map V.int))->ds.length=ms.length->(∀(i:Nat) (d m:Int),ds[i]?=some d->ms[i]?=some m->0<=d/\d<m)->Q (.ref r) H'
end L2
namespace L2
open PySem PySem.Spec PyProof.Rows
theorem O2:∀P:List (Int×Int),BJ (P.map fun p=>Tr.tup [.v (.int p.1),.v (.int p.2)])<=1
 |[]=>BP _
 |
  p::P=>by
  rw[C1,BJ]
  have:=O2 P
  have:Bu (Tr.tup [.v (.int p.1),.v (.int p.2)])=1:=by simp[Bu,BJ]
  omega
end L2
namespace PySem
open Builtin
open AutoSeq1 (wpAny_loadPart')
theorem PF (l:Addr)(k:Tok)(x:Value)(n:Nat)(dd:Option Addr)(sl:Array (Option Value)) :
  Meets (Builtin.«tuple.__mul__» ⟨[.ref l,.int 2 k],[]⟩) (fun _ R s=>s.heap.get? l=some {cls:=.type "tuple",dict:=dd,data:=.seq #[x] n,slots:=sl}/\R (.ok (.ret (Value.ref s.heap.objs.size))) {s with heap:=s.heap.push {cls:=Value.type "tuple",data:=Data.seq #[x,x]},toks:=s.toks}):=
 .of_wp fun prog w A R s h=>by obtain⟨hp,g,d,tk,os⟩:=s;obtain⟨hl,h⟩:=h;have f1:=AutoSeq1.idx_int;have f2:=AutoSeq1.sub_tuple_tuple;wp_walk using wpAny_loadPart' hl;exact⟨_,rfl,h⟩
theorem Tj (l:Addr)(k:Tok)(x:Value)(n:Nat)(dd:Option Addr)(sl:Array (Option Value)) :
  Meets (Builtin.«tuple.__mul__» ⟨[.ref l,.int 3 k],[]⟩) (fun _ R s=>s.heap.get? l=some {cls:=.type "tuple",dict:=dd,data:=.seq #[x] n,slots:=sl}/\R (.ok (.ret (Value.ref s.heap.objs.size))) {s with heap:=s.heap.push {cls:=Value.type "tuple",data:=Data.seq #[x,x,x]},toks:=s.toks}):=
 .of_wp fun prog w A R s h=>by obtain⟨hp,g,d,tk,os⟩:=s;obtain⟨hl,h⟩:=h;have f1:=AutoSeq1.idx_int;have f2:=AutoSeq1.sub_tuple_tuple;wp_walk using wpAny_loadPart' hl;exact⟨_,rfl,h⟩
theorem UH (l:Addr)(k:Tok)(x:Value)(n:Nat)(dd:Option Addr)(sl:Array (Option Value)) :
  Meets (Builtin.«tuple.__mul__» ⟨[.ref l,.int 4 k],[]⟩) (fun _ R s=>s.heap.get? l=some {cls:=.type "tuple",dict:=dd,data:=.seq #[x] n,slots:=sl}/\R (.ok (.ret (Value.ref s.heap.objs.size))) {s with heap:=s.heap.push {cls:=Value.type "tuple",data:=Data.seq #[x,x,x,x]},toks:=s.toks}):=
 .of_wp fun prog w A R s h=>by obtain⟨hp,g,d,tk,os⟩:=s;obtain⟨hl,h⟩:=h;have f1:=AutoSeq1.idx_int;have f2:=AutoSeq1.sub_tuple_tuple;wp_walk using wpAny_loadPart' hl;exact⟨_,rfl,h⟩
end PySem
namespace L2
open PySem PySem.Spec PyProof.Rows
end L2
namespace Fo
variable {W:Type}
def nxt (prev:List Int)(b:Bo W):List Int:=prev.take b.sh++[prev.getD b.sh 0+1]++List.replicate (b.ways.length-b.sh) 0
def pathsFrom:List Int->List (Bo W)->List (List Int)
 |_,[]=>[]
 |prev,b::B=>nxt prev b::pathsFrom (nxt prev b) B
def EO:List Int->List (Bo W)->List Int
 |prev,[]=>prev
 |prev,b::B=>EO (nxt prev b) B
theorem O5:∀(A B:List (Bo W)) (prev:List Int),pathsFrom prev (A++B)=pathsFrom prev A++pathsFrom (EO prev A) B
 |[],B,prev=>rfl
 |
  a::A,B,prev=>by
  show nxt prev a::pathsFrom (nxt prev a) (A++B)=nxt prev a::(pathsFrom (nxt prev a) A++_)
  rw[O5]
  rfl
theorem Ox:∀(A:List (Bo W)) (prev:List Int),EO prev A=prev\/EO prev A∈pathsFrom prev A
 |[],prev=>.inl rfl
 |
  a::A,prev=>by
  right
  rcases Ox A (nxt prev a) with h|h
  .show EO (nxt prev a) A∈_
   rw[h];exact Cb
  .exact Cz _ h
def fst (p:List Int)(j:Nat)(n:Nat):List Int:=p++(j:Int)::List.replicate n 0
theorem deeds_paths:∀(f:F W) (B:List (Bo W)) (d:Nat) (p:List Int) (j:Nat),Is f B d->p.length=d->∀b B',B=b::B'->(deedsF f p j).map (·.path)=fst p j (b.ways.length-d)::pathsFrom (fst p j (b.ways.length-d)) B'
 |
  .nil,B,d,p,j,h,hp,b,B',e=>by
  have h:B=[]:=h
  rw[h]at e
  cases e
 |
  .leaf k pl rest,B,d,p,j,h,hp,b,B',e=>by
  obtain⟨b0,B0,rfl,rfl,rfl,hl,hh,hr⟩:=h
  cases e
  have e0:b.ways.length-d=0:=by omega
  rw[e0]
  show(p++[(j:Int)])::(deedsF rest p (j+1)).map (·.path)=(p++[(j:Int)])::pathsFrom (p++[(j:Int)]) B'
  congr 1
  cases B' with
  |
   nil=>
   cases rest with
   |nil=>rfl
   |leaf k' pl' r'=>obtain⟨_,_,z,_⟩:=hr;cases z
   |node c w s r'=>obtain⟨_,_,_,z,_⟩:=hr;cases z
  |
   cons c B2=>
   have hs:c.sh=d:=hh c rfl
   rw[deeds_paths rest (c::B2) d p (j+1) hr hp c B2 rfl]
   have en:nxt (p++[(j:Int)]) c=fst p (j+1) (c.ways.length-d):=by
    unfold nxt fst
    rw[hs,←hp,P3,Cc,BQ (Ak _),DJ]
    .simp
    .rfl
   show _=nxt (p++[(j:Int)]) c::pathsFrom (nxt (p++[(j:Int)]) c) B2
   rw[en]
 |
  .node c w sub rest,B,d,p,j,h,hp,b,B',e=>by
  obtain⟨b0,G,B0,rfl,hw,hG,hh,hsub,hr⟩:=h
  cases e
  have hlw:d<b.ways.length:=(Ay.mp hw).1
  have i1:=deeds_paths sub (b::G) (d+1) (p++[(j:Int)]) 0 hsub (by rw[Ap,hp];rfl) b G rfl
  have ef:fst (p++[(j:Int)]) 0 (b.ways.length-(d+1))=fst p j (b.ways.length-d):=by
   unfold fst
   rw[show b.ways.length-d=(b.ways.length-(d+1))+1 by omega,Hc,CV]
   rfl
  rw[ef]at i1
  show(deedsF sub (p++[(j:Int)]) 0++deedsF rest p (j+1)).map (·.path)=fst p j (b.ways.length-d)::pathsFrom (fst p j (b.ways.length-d)) (G++B0)
  rw[B8,i1,O5]
  show _::(_++_)=_::(_++_)
  congr 1
  congr 1
  cases B0 with
  |
   nil=>
   cases rest with
   |nil=>rfl
   |leaf k' pl' r'=>obtain⟨_,_,z,_⟩:=hr;cases z
   |node c w s r'=>obtain⟨_,_,_,z,_⟩:=hr;cases z
  |
   cons c2 B2=>
   have hs:c2.sh=d:=hh c2 rfl
   rw[deeds_paths rest (c2::B2) d p (j+1) hr hp c2 B2 rfl]
   have beg:∃q,EO (fst p j (b.ways.length-d)) G=p++(j:Int)::q:=by
    have hm:EO (fst p j (b.ways.length-d)) G∈(deedsF sub (p++[(j:Int)]) 0).map (·.path):=by
     rw[i1]
     rcases Ox G (fst p j (b.ways.length-d)) with h|h
     .rw[h];exact Cb
     .exact Cz _ h
    obtain⟨x,hx,ex⟩:=C4.mp hm
    obtain⟨i,q,_,h2⟩:=JU sub (p++[(j:Int)]) 0 x hx
    exact⟨(i:Int)::q,by rw[←ex,h2,CV];rfl⟩
   obtain⟨q,hq⟩:=beg
   have en:nxt (EO (fst p j (b.ways.length-d)) G) c2=fst p (j+1) (c2.ways.length-d):=by
    rw[hq]
    unfold nxt fst
    rw[hs,←hp,P3,Cc,BQ (Ak _),DJ]
    .simp
    .rfl
   show _=nxt (EO (fst p j (b.ways.length-d)) G) c2::pathsFrom (nxt (EO (fst p j (b.ways.length-d)) G) c2) B2
   rw[en]
end Fo
namespace PySem
open PySem.Spec PyProof.Rows
open AutoSeq1 (wpAny_loadPart')
theorem Pu (l:Addr)(k:Tok)(x:Value)(n:Nat)(dd:Option Addr)(sl:Array (Option Value)) :
  Meets (Builtin.«tuple.__mul__» ⟨[.ref l,.int 5 k],[]⟩) (fun _ R s=>s.heap.get? l=some {cls:=.type "tuple",dict:=dd,data:=.seq #[x] n,slots:=sl}/\R (.ok (.ret (Value.ref s.heap.objs.size))) {s with heap:=s.heap.push {cls:=Value.type "tuple",data:=Data.seq #[x,x,x,x,x]},toks:=s.toks}):=
 .of_wp fun prog w A R s h=>by obtain⟨hp,g,d,tk,os⟩:=s;obtain⟨hl,h⟩:=h;have f1:=AutoSeq1.idx_int;have f2:=AutoSeq1.sub_tuple_tuple;wp_walk using wpAny_loadPart' hl;exact⟨_,rfl,h⟩
theorem SF (l:Addr)(k:Tok)(x:Value)(n:Nat)(dd:Option Addr)(sl:Array (Option Value)) :
  Meets (Builtin.«tuple.__mul__» ⟨[.ref l,.int 6 k],[]⟩) (fun _ R s=>s.heap.get? l=some {cls:=.type "tuple",dict:=dd,data:=.seq #[x] n,slots:=sl}/\R (.ok (.ret (Value.ref s.heap.objs.size))) {s with heap:=s.heap.push {cls:=Value.type "tuple",data:=Data.seq #[x,x,x,x,x,x]},toks:=s.toks}):=
 .of_wp fun prog w A R s h=>by obtain⟨hp,g,d,tk,os⟩:=s;obtain⟨hl,h⟩:=h;have f1:=AutoSeq1.idx_int;have f2:=AutoSeq1.sub_tuple_tuple;wp_walk using wpAny_loadPart' hl;exact⟨_,rfl,h⟩
end PySem
namespace L2
open PySem PySem.Spec PyProof.Rows
def Rr:R2:=fun x y H Q=>∃(a:Addr) (k:Nat) (v:V),x = .ref a/\y = .int (k:Int)/\H a=some (.tup [v])/\k<=6/\∀(p:Addr) (H':Hp),Aa H H'->H' p=some (.tup (List.replicate k v))->Q (.ref p) H'
theorem PV {X:Cx}:BE X (binaryOp .Mult) Rr:=by
 intro pins s σ H x y v u Q I rx ry h
 obtain⟨a,k,vv,rfl,rfl,ha,h6,q⟩:=h
 cases rx
 obtain⟨t,rfl⟩:=ry
 obtain⟨its,r1,p1,_⟩:=I.tuple (A9.of ha)
 obtain⟨uu,rfl,ru⟩:=Eb r1
 obtain⟨⟨cls,dd,data,sl⟩,ho,hc,n,hd⟩:=id p1
 simp only at hc hd
 subst hc hd
 refine P9 (T:="tuple") (U:="int") (by decide) ⟨_,ho,rfl⟩ (fun s'=>Hl s' (k:Int) t) Mt F.fills_int_mul F.slot_int_rmul NT F.slot_int_index.lookup ?_
 refine D9 F.slot_int_rmul (Hl _ _ _) F.entry_int_rmul (F.args_int_rmul_2 _ _) (NZ (k:Int) t a _ n dd sl) ⟨ho,rfl,⟨_,ho,rfl⟩,?_⟩
 have new:∀(its:List Value),Aq (List.replicate k vv) its->EP X pins σ Q (Value.ref s.heap.objs.size) {s with heap:=s.heap.push {cls:=Value.type "tuple",data:=Data.seq its.toArray},toks:=s.toks}:=fun its r=>
  ⟨.ref s.heap.objs.size,_,I.laid (t':=s.toks) (o:=.tup (List.replicate k vv)) (fun b o e=>Be _ e) (Ak _) ⟨AF (by rw[CN];omega),its,r,DY.new _ _⟩,rfl,q _ _ (A7 (I.hok.fresh (Ak _)) _) A5⟩
 have:k=0\/k=1\/k=2\/k=3\/k=4\/k=5\/k=6:=by omega
 rcases this with rfl|rfl|rfl|rfl|rfl|rfl|rfl
 .refine D9 F.slot_tuple_mul ⟨_,ho,rfl⟩ F.entry_tuple_mul (F.args_tuple_mul_2 _ _) (SR a t _ n dd sl (by simp)) ⟨ho,new [] .nil⟩
 .exact D9 F.slot_tuple_mul ⟨_,ho,rfl⟩ F.entry_tuple_mul (F.args_tuple_mul_2 _ _) (Tz a t _ n dd sl) ⟨ho,⟨.ref a,H,I,rfl,q a H (Aa.refl _) ha⟩⟩
 .exact D9 F.slot_tuple_mul ⟨_,ho,rfl⟩ F.entry_tuple_mul (F.args_tuple_mul_2 _ _) (PF a t uu n dd sl) ⟨ho,new [uu,uu] (.cons ru (.cons ru .nil))⟩
 .exact D9 F.slot_tuple_mul ⟨_,ho,rfl⟩ F.entry_tuple_mul (F.args_tuple_mul_2 _ _) (Tj a t uu n dd sl) ⟨ho,new [uu,uu,uu] (.cons ru (.cons ru (.cons ru .nil)))⟩
 .exact D9 F.slot_tuple_mul ⟨_,ho,rfl⟩ F.entry_tuple_mul (F.args_tuple_mul_2 _ _) (UH a t uu n dd sl) ⟨ho,new [uu,uu,uu,uu] (.cons ru (.cons ru (.cons ru (.cons ru .nil))))⟩
 .exact D9 F.slot_tuple_mul ⟨_,ho,rfl⟩ F.entry_tuple_mul (F.args_tuple_mul_2 _ _) (Pu a t uu n dd sl) ⟨ho,new [uu,uu,uu,uu,uu] (.cons ru (.cons ru (.cons ru (.cons ru (.cons ru .nil)))))⟩
 .exact D9 F.slot_tuple_mul ⟨_,ho,rfl⟩ F.entry_tuple_mul (F.args_tuple_mul_2 _ _) (SF a t uu n dd sl) ⟨ho,new [uu,uu,uu,uu,uu,uu] (.cons ru (.cons ru (.cons ru (.cons ru (.cons ru (.cons ru .nil))))))⟩
def Sx:V->List V->Hp->VK->Prop:=fun x vs H Q=>∃l xs y,x = .ref l/\vs=[.int 0,y]/\H l=some (.lst xs)/\xs.length<sizeLine/\Q .non (upd H l (.lst (y::xs)))
theorem UA {X:Cx}:IH X "list.insert" Sx:=by
 intro pins s σ H x vs v us Q I rx rv h
 obtain⟨l,xs,y,rfl,rfl,hH,hz,q⟩:=h
 cases rx
 obtain⟨u1,u2,rfl,r1,r2⟩:=rv.two
 obtain⟨t,rfl⟩:=r1
 obtain⟨z,its,n,r,hl,e⟩:=I.lstM hH
 refine D9 F.slot_list_insert ⟨_,e,rfl⟩ F.entry_list_insert (F.args_list_insert_3 _ _ _) (PySem.AutoSeq1.list_insert_list_int_val_1 l its.toArray n 0 t u2 (by decide) (by rw[Bh];omega)) ⟨e,?_⟩
 refine⟨.non,_,I.lset (its':=u2::its) hH e (by simp) (.cons r2 r) ?_,rfl,q⟩
 rw[B5]
 omega
end L2
namespace HU
open PySem PySem.Spec
section
variable {prog:Program}{w:World}{A:Around}{E:Value->Shared->Prop}{s:Shared}
theorem Mc {it t:Addr}{items:Array Value}(hne:t≠it):∀(n i:Nat) (s:Shared) (Q:List Value->Shared->Prop),s.heap.IsListIter it t i->s.heap.IsList t items->i+n<=items.size->
  (∀h',h'.IsListIter it t (i+n)->Heap.SameBut it s.heap h'->Q ((items.toList.drop i).take n) {s with heap:=h'})->wpAny (model prog w) A (draw (.ref it) n) Q E s
 |
  0,i,s,Q,hit,_,_,hQ=>by
  show wpAny _ _ (pure []) Q E s
  exact AZ (by simpa using hQ s.heap hit (Heap.SameBut.refl ..))
 |
  n+1,i,s,Q,hit,ht,hle,hQ=>by
  have hlt:i<items.size:=by omega
  show wpAny _ _ (pyNext (.ref it)>>=_) Q E s
  refine An (wpAny_pyNext_list_item hit ht (x:=items[i]) (by simp[hlt]) fun h1 hit1 hs1=>?_)
  refine An (Hk (Mc hne n (i+1) _ _ hit1 (ht.extBut hs1.extBut hne) (by omega) fun h2 hit2 hs2=>AZ ?_))
  have hd:items.toList.drop i=items[i]::items.toList.drop (i+1):=by simp[Gh,hlt]
  have:=hQ h2 (by rw[show i+(n+1)=i+1+n by omega];exact hit2) (hs1.trans hs2)
  rw[hd,List.take_succ_cons]at this
  exact this
theorem Ta {t:Addr}{items:Array Value}{Q:List Value->Shared->Prop}(hh:A.handled=none)(ht:s.heap.IsList t items)
  (hQ:∀h',Heap.ExtBut s.heap.objs.size s.heap h'->Q items.toList {s with heap:=h'}):wpAny (model prog w) A (unpackItems (.ref t) items.size none) Q E s:=by
 have hlt:t≠s.heap.objs.size:=by obtain⟨o,ho,_⟩:=ht;exact BO (Bc ho)
 unfold unpackItems
 refine An ?_
 unfold notIterableAtAll
 refine An (wpAny_specialOf ht.typeIs slot_list_iter.lookup ?_)
 refine AZ ?_
 simp only[Bool.false_eq_true,IY]
 refine An (Hk (M7 ht ?_))
 refine An (Hk (Mc hlt items.size 0 _ _ ⟨_,Cy _ rfl,rfl,rfl⟩ (ht.push _) (by omega) fun h1 hit1 hs1=>?_))
 have hall:List.take items.size (List.drop 0 items.toList)=items.toList:=by
  rw[FK];exact Dj (by simp)
 rw[hall]
 rw[AQ (by simp)]
 have ht1:h1.IsList t items:=(ht.push _).extBut hs1.extBut hlt
 refine An (Hk (wpAny_pyNext_list_end hh hit1 ht1 (by simp) fun h2 he2=>?_))
 simp only[Option.isSome_none,Bool.false_eq_true,IY]
 refine AZ (hQ h2 fun b o hb e=>he2 b o hb (hs1.extBut b o hb (Be _ e)))
theorem assign_Tuple_list {env:Env}{elts:List Expr}{x1}{pos:Pos}{t:Addr}{items:Array Value}{Q:Unit->Shared->Prop}(hh:A.handled=none)(ht:s.heap.IsList t items)
  (hn:(assignEach elts env).length=items.size) (hstar:(assignEach elts env).findIdx? (·.1)=none)
  (h:∀h',Heap.ExtBut s.heap.objs.size s.heap h'->wpAny (model prog w) A (assignInOrder ((assignEach elts env).map (·.2)) items.toList) Q E {s with heap:=h'}) :
  wpAny (model prog w) A (assign (.Tuple elts x1 pos) env (.ref t)) Q E s:=by
 rw[PyProof.Rows.assign_Tuple]
 refine An (wpAny_standAt ?_)
 unfold unpack
 rw[hn,hstar]
 exact An (Hk (Ta hh ht h))
end
end HU
namespace L2
open PySem PySem.Spec PyProof.Rows
def Sm (n:Nat)(t:F8):TG:=fun v σ H Q=>∃a xs,v = .ref a/\H a=some (.lst xs)/\xs.length=n/\t xs σ H Q
theorem FP {X:Cx}{pos:Pos}{es:List Expr}{k:Nat}{t:F8}{n:Nat}(hc:X.calm=true)(h:Hz X es t)
  (hn:(assignEach es X.env).length=n:=by rfl) (hst:(assignEach es X.env).findIdx? (·.1)=none:=by rfl):PG X (.Tuple es k pos) (Sm n t):=by
 intro pins s σ H v u Q I r hw
 obtain⟨a,xs,e1,hq,hl,hw⟩:=hw
 subst e1
 cases r
 obtain⟨z,its,m,rv,hl2,e⟩:=I.lstM hq
 refine HU.assign_Tuple_list (I.ok.hd hc) ⟨_,e,rfl,m,rfl⟩ (by simp[hn,←hl,rv.length]) hst fun h' hx=>?_
 have I1:A6 X pins σ H {s with heap:=h'}:=I.kept (t':=s.toks) fun b o e=>hx b o (BO (Bc e)) e
 exact h pins _ σ H xs _ Q I1 (by simpa using rv) hw
end L2
namespace L2
open PySem PySem.Spec PyProof.Rows
theorem Tq {e l:Nat}(h:V.int (e:Int)=V.int (l:Int)):e=l:=by have:=V.int.inj h;omega
def GK:List V:=[.str "up",.str "down",.str "any"]
abbrev BM (ws:List B1):Nat:=ws.countP fun w=>w.1
abbrev Bj (ws:List B1):Nat:=ws.countP fun w=>!w.1
def S0 (K:PySem.W.Frag):Sp:=fun vs H Q _=>∃(sc old wl:Addr) (ns:List Int) (first:Int) (n:Nat) (ws0:List B1),vs=[.ref sc,.int first,.int (n:Int),.ref old,.ref wl]/\A4 K H sc (ns.map V.int)/\0<=first/\first<=1000/\n<=3/\DT H old ws0/\BM ws0<=3/\H wl=some (.lst GK)/\
 ∀(r w:Addr) (H':Hp) (sh:Nat) (ws:List B1),Aa H H'->H w=none->H' r=some (.tup [.int (sh:Int),.ref w])->DT H' w ws->sh<=ws0.length->sh<=ws.length->ws.take sh=ws0.take sh->BM ws<=3->Bj ws=n->(n=0->ws0=[]->ws=[])->Q (.ref r) H'
theorem O4 {i:Int}(h0:0<=i)(h1:i<3):∃s:Str,C6 GK i=some (.str s):=by
 have:i=0\/i=1\/i=2:=by omega
 rcases this with rfl|rfl|rfl
 .exact⟨"up",rfl⟩
 .exact⟨"down",rfl⟩
 .exact⟨"any",rfl⟩
theorem Ls (ws:List B1):ws.length=BM ws+Bj ws:=by
 show ws.length=List.countP (fun w:B1=>w.1) ws+List.countP (fun w:B1=>!w.1) ws
 induction ws with
 |nil=>rfl
 |
  cons w ws ih=>
  rw[B5,K5,K5,ih]
  cases w.1<;>simp<;>omega
theorem My (ws:List B1)(w:B1):BM (ws++[w])=BM ws+(if w.1=true then 1 else 0):=by
 show List.countP _ _=_
 rw[Hh,List.countP_singleton]
theorem Nf (ws:List B1)(w:B1):Bj (ws++[w])=Bj ws+(if(!w.1)=true then 1 else 0):=by
 show List.countP _ _=_
 rw[Hh,List.countP_singleton]
theorem Kz (ws:List B1)(i:Nat):BM (ws.take i)<=BM ws:=by
 have:=Gj i ws
 have h:BM (ws.take i++ws.drop i)=BM (ws.take i)+BM (ws.drop i):=Hh
 rw[this]at h
 omega
def F4 (H:Hp)(x:V)(b:Ab):Prop := ∃t w p,x = .ref t/\H t=some (.tup [.int b.k,.int (b.sh:Int),.ref w,.ref p])/\DT H w b.ways/\DN H p b.pl
theorem F4.over {H H':Hp}{x:V}{b:Ab}(h:F4 H x b)(e:Aa H H'):F4 H' x b:=by obtain⟨t,w,p,a,b,c,d⟩:=h;exact⟨t,w,p,a,e _ _ b,c.over e,d.over e⟩
def DE (H:Hp)(l:Addr)(B:List Ab):Prop := ∃xs,H l=some (.lst xs)/\As (F4 H) xs B
theorem DE.over {H H':Hp}{l:Addr}{B:List Ab}(h:DE H l B)(e:Aa H H'):DE H' l B:=by obtain⟨xs,a,b⟩:=h;exact⟨xs,e _ _ a,b.mono fun x w p=>p.over e⟩
structure GL (B:List Ab):Prop where
 ok:Fo.Ok B
 fst:∀b,B.head?=some b->b.sh=0
 len:B.length<=6
 way:∀b∈B,b.ways.length<=6
 pll:∀b∈B,b.pl.length=b.ways.length
def De (s:Int)(m i:Nat):List Int:=(List.range i).map fun n:Nat=>((n:Int)+s)%(m:Int)
theorem NQ (s:Int)(m i:Nat):De s m (i+1)=De s m i++[((i:Int)+s)%(m:Int)]:=by
 unfold De
 rw[LU,B8]
 rfl
theorem NA {s:Int}{m:Nat}(h0:0<=s)(h1:s<6)(hm:m<=6):(De s m m).Nodup:=by
 obtain⟨k,rfl⟩:∃k:Nat,s=(k:Int):=⟨s.toNat,by omega⟩
 have:∀m<7,∀k<6,(De ((k:Nat):Int) m m).Nodup:=by decide +kernel
 exact this m (by omega) k (by omega)
theorem JJ (s:Int)(m i:Nat):(De s m i).length=i:=by unfold De;rw[Al,IT]
theorem OI {s:Int}{m i:Nat}(hm:0<m):∀k∈De s m i,0<=k/\k<(m:Int):=fun k hk=>by
 obtain⟨n,_,rfl⟩:=C4.mp hk
 exact⟨BV _ (by omega),BW _ (by omega)⟩
theorem NO:∀(l:List Int) (i:Nat) (h:i<l.length),(l[i]::l.eraseIdx i).Perm l
 |x::l,0,h=>.refl _
 |
  x::l,i+1,h=>by
  have h':i<l.length:=by rw[B5]at h;omega
  show(l[i]::x::l.eraseIdx i).Perm (x::l)
  exact(List.Perm.swap _ _ _).trans ((NO l i h').cons x)
structure Ew (B:List Ab)(R:List Int)(i:Nat):Prop where
 ok:Fo.Ok B
 fst:∀b,B.head?=some b->b.sh=0
 ks:B.map (·.k)=R.take i
 way:∀b∈B,BM b.ways<=3/\b.ways.length<=6
 pll:∀b∈B,b.pl.length=b.ways.length
theorem Ew.nil (R:List Int):Ew [] R 0:=⟨⟨fun b hb=>(by cases hb),fun i b c hb=>(by simp at hb)⟩,fun b hb=>(by cases hb),rfl,fun b hb=>(by cases hb),fun b hb=>(by cases hb)⟩
theorem Ew.len {B:List Ab}{R:List Int}{i:Nat}(h:Ew B R i)(hi:i<=R.length):B.length=i:=by
 have:=congrArg List.length h.ks
 rw[Al,Ar]at this
 omega
theorem Ew.snoc {B:List Ab}{R:List Int}{i:Nat}{b:Ab}(h:Ew B R i)(hk:R[i]?=some b.k)(h1:b.sh<=b.ways.length)(h0:B=[]->b.sh=0)(h2:∀c,B.getLast?=some c->b.sh<=c.ways.length/\b.ways.take b.sh=c.ways.take b.sh)(hw:BM b.ways<=3/\b.ways.length<=6)(hp:b.pl.length=b.ways.length):Ew (B++[b]) R (i+1):=by
 refine⟨Fo.Ok.snoc h.ok h1 h2,fun c hc=>?_,?_,fun c hc=>?_,fun c hc=>?_⟩
 .cases B with
  |nil=>cases hc;exact h0 rfl
  |cons b0 B=>exact h.fst c hc
 .rw[CY hk,B8,h.ks]
  rfl
 .rcases CA.mp hc with hc|hc
  .exact h.way c hc
  .rw[CO]at hc;subst hc;exact hw
 .rcases CA.mp hc with hc|hc
  .exact h.pll c hc
  .rw[CO]at hc;subst hc;exact hp
theorem Ew.fin {B:List Ab}{R:List Int}(h:Ew B R R.length)(hl:R.length<=6)(hn:R.Nodup):GL B/\B.length=R.length/\(B.map (·.k)).Nodup:=by
 have l:=h.len (Ak _)
 refine⟨⟨h.ok,h.fst,by omega,fun b hb=>(h.way b hb).2,h.pll⟩,l,?_⟩
 rw[h.ks,Dj (Ak _)]
 exact hn
theorem IL {H:Hp}{lv:Addr}{xs:List V}(h:H lv=some (.lst xs)):TK H (av H [lv]):=fun b ys hb=>by
 rw[JB (by
  intro z
  rw[CO]at z
  rw[z,h]at hb
  cases hb)]
 exact hb
theorem DT.av {H:Hp}{lv w:Addr}{xs:List V}{ws:List B1}(h:DT H w ws)(hl:H lv=some (.lst xs))(hn:w≠lv):DT (av H [lv]) w ws:=by
 obtain⟨ys,a,b⟩:=h
 exact⟨ys,by rw[JB (by rw[CO];exact hn)];exact a,b.mono fun x v z=>z.tk (IL hl)⟩
def CL:List Ab->List (List Int)
 |[]=>[]
 |b::B=>Fo.fst [] 0 b.ways.length::Fo.pathsFrom (Fo.fst [] 0 b.ways.length) B
def E7 (H:Hp)(x:V)(p:List Int):Prop := ∃t,x = .ref t/\H t=some (.tup (p.map V.int))
theorem E7.tk {H H':Hp}{x:V}{p:List Int}(h:E7 H x p)(e:TK H H'):E7 H' x p:=by obtain⟨t,a,b⟩:=h;exact⟨t,a,e _ _ b⟩
theorem E7.over {H H':Hp}{x:V}{p:List Int}(h:E7 H x p)(e:Aa H H'):E7 H' x p:=h.tk (Aa.tk e)
theorem SE {prev:List Int}{b:Ab}(h1:b.sh<prev.length)(h2:b.sh<=b.ways.length):(Fo.nxt prev b).length=b.ways.length+1:=by
 unfold Fo.nxt
 rw[Ap,Ap,Ar,CN,Au]
 omega
theorem NP:∀(B:List Ab) (prev:List Int),(Fo.pathsFrom prev B).length=B.length
 |[],_=>rfl
 |b::B,prev=>by show(Fo.pathsFrom (Fo.nxt prev b) B).length+1=_;rw[NP];rfl
theorem Ej (B:List Ab):(CL B).length=B.length:=by
 cases B with
 |nil=>rfl
 |cons b B=>show(Fo.pathsFrom _ B).length+1=_;rw[NP];rfl
theorem OB:∀(B:List Ab) (prev:List Int) (i:Nat) (b:Ab) (p:List Int),(prev::Fo.pathsFrom prev B)[i]?=some p->B[i]?=some b->(Fo.pathsFrom prev B)[i]?=some (Fo.nxt p b)
 |[],prev,i,b,p,hp,hb=>by simp at hb
 |c::B,prev,0,b,p,hp,hb=>by cases hp;cases hb;rfl
 |
  c::B,prev,i+1,b,p,hp,hb=>by
  rw[Hf]at hp hb
  show(Fo.nxt prev c::Fo.pathsFrom (Fo.nxt prev c) B)[i+1]?=_
  rw[Hf]
  exact OB B (Fo.nxt prev c) i b p hp hb
theorem O0 {B:List Ab}{i:Nat}{b:Ab}{p:List Int}(hp:(CL B)[i]?=some p)(hb:B[i+1]?=some b):(CL B)[i+1]?=some (Fo.nxt p b):=by
 cases B with
 |nil=>simp at hb
 |
  cons b0 B=>
  rw[Hf]at hb
  show(_::Fo.pathsFrom _ B)[i+1]?=_
  rw[Hf]
  exact OB B _ i b p hp hb
theorem Km {B:List Ab}(ok:GL B):∀(i:Nat) (b:Ab) (p:List Int),(CL B)[i]?=some p->B[i]?=some b->p.length=b.ways.length+1
 |
  0,b,p,hp,hb=>by
  cases B with
  |nil=>cases hb
  |
   cons b0 B=>
   cases hb
   cases hp
   unfold Fo.fst
   rw[Hd,B5,CN]
 |
  i+1,b,p,hp,hb=>by
  have hi:=(Ay.mp hb).1
  have hb0:B[i]?=some B[i]:=AH (by omega)
  have hp0:(CL B)[i]?=some ((CL B)[i]'(by rw[Ej];omega)):=AH _
  have l:=Km ok i _ _ hp0 hb0
  rw[O0 hp0 hb]at hp
  cases hp
  have o:=(ok.ok.ln i _ b hb0 hb).1
  exact SE (by omega) (ok.ok.sh b (Bf hb))
def SC:Sp:=fun vs H Q _=>∃(l:Addr) (B:List Ab),vs=[.ref l]/\DE H l B/\GL B/\∀(r:Addr) (xs:List V) (H':Hp),Aa H H'->H' r=some (.lst xs)->As (E7 H') xs (CL B)->Q (.ref r) H'
mutual
theorem Cj.tr {K:PySem.W.Frag}{H:Hp}:∀{t:Tr} {x:V},Cj H t x->BN K H x t
 |
  .v y,x,h=>by
  rw[Cj]at h
  obtain⟨rfl,h⟩:=h
  exact .flat (by cases x<;>first|rfl|cases h)
 |
  .tup l,x,h=>by
  rw[Cj]at h
  obtain⟨p,xs,rfl,h0,h1⟩:=h
  exact .tup (A9.of h0) (By.tr h1)
 |.lst l,x,h=>by rw[Cj]at h;exact h.elim
theorem By.tr {K:PySem.W.Frag}{H:Hp}:∀{l:List Tr} {xs:List V},By H l xs->C7 K H xs l
 |[],xs,h=>by rw[By]at h;subst h;exact .nil
 |
  t::l,xs,h=>by
  rw[By]at h
  obtain⟨x,xs',rfl,h0,h1⟩:=h
  exact .cons (Cj.tr h0) (By.tr h1)
end
def IF (P:List (Int×Int)):Tr:=.tup (P.map fun p=>Tr.tup [.v (.int p.1),.v (.int p.2)])
theorem IC {α:Type}{H:Hp}{R:V->α->Prop}{g:α->Tr}(h:∀x a,R x a->Cj H (g a) x):∀{ys:List V} {P:List α},As R ys P->By H (P.map g) ys
 |[],[],_=>by rw[Gd,By]
 |[],p::P,z=>by have:=z.1;cases this
 |y::ys,[],z=>by have:=z.1;cases this
 |
  y::ys,p::P,z=>by
  rw[C1,By]
  exact⟨y,ys,rfl,h y p (z.2 0 y p rfl rfl),IC h ⟨Nat.succ.inj z.1,fun i x a p q=>z.2 (i+1) x a (by simpa using p) (by simpa using q)⟩⟩
theorem R5 {H:Hp}{t:Addr}{P:List (Int×Int)}(h:DN H t P):Cj H (IF P) (.ref t):=by
 obtain⟨xs,h0,h1⟩:=h
 rw[IF,Cj]
 refine⟨t,xs,rfl,h0,IC (fun x a z=>?_) h1⟩
 obtain⟨u,rfl,hu⟩:=z
 rw[Cj]
 refine⟨u,_,rfl,hu,?_⟩
 rw[By]
 refine⟨_,_,rfl,by rw[Cj];exact⟨rfl,rfl⟩,?_⟩
 rw[By]
 refine⟨_,_,rfl,by rw[Cj];exact⟨rfl,rfl⟩,?_⟩
 rw[By]
theorem KW {n:Nat}:∀{l:List Tr},(∀t∈l,Bu t<=n)->BJ l<=n
 |[],_=>by rw[BJ];exact BP _
 |
  t::l,h=>by
  rw[BJ]
  exact Nat.max_le.mpr ⟨h t Cb,KW fun u hu=>h u (Cz _ hu)⟩
theorem Ue (P:List (Int×Int)):Bu (IF P)<=2:=by
 rw[IF,Bu]
 have:=O2 P
 omega
theorem U0 {f:Ac}{B:List Ab}(h:Fo.Is f B 0)(hn:0<B.length):(Fo.deedsF f [] 0).map (·.path)=CL B:=by
 cases B with
 |nil=>cases hn
 |cons b B=>exact Fo.deeds_paths f (b::B) 0 [] 0 h rfl b B rfl
theorem Oe {f:Ac}{B:List Ab}(h:Fo.Is f B 0)(hn:0<B.length){i:Nat}{e:Fo.En}{p:List Int}(he:(Fo.deedsF f [] 0)[i]?=some e)(hp:(CL B)[i]?=some p):e.path=p:=by
 rw[←U0 h hn,C3,he]at hp
 exact Dx hp
end L2
namespace Fo
variable {W:Type}
end Fo
namespace L2
open PySem PySem.Spec PyProof.Rows
section
variable {X:Cx}
theorem UK (hc:X.calm=true):Dh X (.builtin "any") (fun xs H Q=>∃(p:Addr) (bs:List Bool),xs=[.ref p]/\A4 X.K H p (bs.map V.bl)/\Q (.bl (bs.any id)) H):=by
 intro pins s σ H xs us Q I r h
 obtain⟨p,bs,rfl,hq,q⟩:=h
 obtain⟨u,rfl,ru⟩:=Eb r
 cases ru
 obtain⟨its,rv,pl,hz⟩:=I.list hq
 have hne:p≠s.heap.objs.size:=by
  obtain⟨o,n,e,_⟩:=pl
  exact BO (Bc e)
 have hl:=rv.length
 refine call_any_walk (M7 pl.isList ⟨s.heap.objs.size,_,_,its.toArray.size,_,_,fun i=>bs.getD i false,rfl,Walks.list (A:=X.A.in1) (show X.A.in1.handled=none from I.ok.hd hc) s.heap.objs.size p hne its.toArray,⟨⟨_,Cy _ rfl,rfl,rfl⟩,(pl.isList).push _⟩,?_,fun h' tk kk=>?_⟩)
 .intro i v s' Q' E hv hq'
  have hv':its[i]?=some v:=by simpa using hv
  have hb:∃b,bs[i]?=some b/\v = .bool b:=by
   cases e:(bs.map V.bl)[i]? with
   |
    none=>
    have:=rv.none_of e
    rw[hv']at this;cases this
   |
    some y=>
    obtain⟨u,hu,ru⟩:=rv.get e
    rw[hv']at hu;cases hu
    rw[C3]at e
    cases eb:bs[i]? with
    |none=>rw[eb]at e;cases e
    |
     some b=>
     rw[eb]at e
     cases e
     exact⟨b,rfl,ru⟩
  obtain⟨b,hb,rfl⟩:=hb
  refine Hi ?_
  have hq2:Q' ((bs[i]?).getD false) s':=hq'
  rw[hb]at hq2
  exact hq2
 .have e:((List.range its.toArray.size).any fun i=>bs.getD i false)=bs.any id:=by
   have el:its.toArray.size=bs.length:=by rw[Bh,←hl,Al]
   rw[el]
   rw[Hb]
   simp only[OX,ER]
   constructor
   .rintro ⟨i,hi,h⟩
    refine⟨bs[i],Ge hi,?_⟩
    rw[Cc,AH hi]at h
    exact h
   .rintro ⟨b,hb,h⟩
    obtain⟨i,hi,e⟩:=FJ.mp hb
    refine⟨i,hi,?_⟩
    rw[Cc,AH hi,e]
    exact h
  rw[e]
  refine⟨.bl (bs.any id),H,I.kept (t':=tk) fun b o eb=>kk b o ?_ (Be _ eb),rfl,q⟩
  intro z
  have z':b=s.heap.objs.size:=by simpa using z
  exact absurd (Bc eb) (by rw[z'];exact E4 _)
theorem NU:∀{its:List Value} {ns:List Int},IntsAre its ns->Aq (ns.map V.int) its
 |_,_,.nil=>.nil
 |_,_,.cons n t r=>.cons ⟨t,rfl⟩ (NU r)
def RT (K:PySem.W.Frag):List V->Hp->VK->Prop:=fun xs H Q=>∃(p:Addr) (ns:List Int),xs=[.ref p]/\A4 K H p (ns.map V.int)/\ns.length<64/\∀(l:Addr) (ns':List Int),H l=none->ns'.Perm ns->ns'.Pairwise (·<=·)->Q (.ref l) (upd H l (.lst (ns'.map V.int)))
theorem OC:Dh X (.builtin "sorted") (RT X.K):=by
 intro pins s σ H xs us Q I r h
 obtain⟨p,ns,rfl,hq,h64,q⟩:=h
 obtain⟨u,rfl,ru⟩:=Eb r
 cases ru
 obtain⟨its,rv,pl,hz⟩:=I.list hq
 have hl:=rv.length
 rw[Al]at hl
 refine sorted_ints pl.isList (Mf rv) (by omega) fun out ns' a1 a2 a3=>?_
 obtain⟨e,he⟩:=sortedAll_at s.heap its out
 have nl:=a2.length_eq
 have hle:s.heap.objs.size<=s.heap.objs.size+1:=Fm _
 obtain⟨out⟩:=out
 exact⟨.ref (s.heap.objs.size+1),_,I.laid (t':=s.toks) (o:=.lst (ns'.map V.int)) (fun b o e=>sortedAll_old e) hle ⟨AF (by rw[Al];omega),out,e,NU a1,he⟩,rfl,q _ ns' (I.hok.fresh hle) a2 a3⟩
theorem Ki:BE X (compareOp .IsNot) (fun x y H Q=>∃b,x = .bl b/\y = .bl true/\Q (.bl (!b)) H):=by
 intro pins s σ H x y v u Q I rx ry h
 obtain⟨b,rfl,rfl,q⟩:=h
 cases rx
 cases ry
 refine wpAny_isNot_plain (by cases b<;>rfl) (BC I q ?_)
 cases b<;>rfl
theorem QW (hc:X.calm=true):Dh X (.builtin "min") (fun xs H Q=>∃i j k,xs=[.int i,.int j,.int k]/\Q (.int (if j<i then(if k<j then k else j) else(if k<i then k else i))) H):=by
 intro pins s σ H xs us Q I r h
 obtain⟨i,j,k,rfl,q⟩:=h
 cases r with
 |
  cons r1 r=>
  cases r with
  |
   cons r2 r=>
   cases r with
   |
    cons r3 r=>
    cases r
    obtain⟨t1,rfl⟩:=r1
    obtain⟨t2,rfl⟩:=r2
    obtain⟨t3,rfl⟩:=r3
    refine min_three_ints (I.ok.hd hc) fun h' tk k'=>⟨_,H,I.kept k',?_,q⟩
    by_cases h1:j<i
    .rw[AW h1,AW h1]
     by_cases h2:k<j
     .rw[AW h2,AW h2];exact⟨_,rfl⟩
     .rw[AQ h2,AQ h2];exact⟨_,rfl⟩
    .rw[AQ h1,AQ h1]
     by_cases h2:k<i
     .rw[AW h2,AW h2];exact⟨_,rfl⟩
     .rw[AQ h2,AQ h2];exact⟨_,rfl⟩
end
def Ig:Ac->Prop
 |.nil=>True
 |.leaf _ _ r=>Ig r
 |.node _ _ s r=>s≠.nil/\Ig s/\Ig r
theorem Je:∀(f:Ac) (B:List Ab) (d:Nat),Fo.Is f B d->Ig f
 |.nil,B,d,h=>True.intro
 |
  .leaf k pl r,B,d,h=>by
  obtain⟨b,B',rfl,_,_,_,_,h5⟩:=h
  exact Je r B' d h5
 |
  .node c w s r,B,d,h=>by
  obtain⟨b,G,B',rfl,_,_,_,h4,h5⟩:=h
  refine⟨fun z=>?_,Je s _ _ h4,Je r _ _ h5⟩
  rw[z]at h4
  have h4:b::G=[]:=h4
  cases h4
def Ax:Ac->Nat
 |.nil=>0
 |.leaf _ _ r=>Ax r+1
 |.node _ _ s r=>Ax s+Ax r+1
theorem Kl {H:Hp}:∀{f:Ac} {xs:List V},AI H xs f->xs.length<=Ax f
 |.nil,xs,h=>by have h:xs=[]:=h;subst h;exact Ak _
 |
  .leaf k pl r,xs,h=>by
  obtain⟨t,p,ys,rfl,_,_,h1⟩:=h
  have:=Kl h1
  show ys.length+1<=Ax r+1
  omega
 |
  .node c w s r,xs,h=>by
  obtain⟨t,p,zs,ys,rfl,_,_,_,h1⟩:=h
  have:=Kl h1
  show ys.length+1<=Ax s+Ax r+1
  omega
def D5:Ac->List Tr
 |.nil=>[]
 |.leaf k pl r=>.tup [.v (.str "deed"),.v (.int k),IF pl]::D5 r
 |.node c w s r=>.tup [.v (.str "sweep"),.v (.bl c),.v (.str w),.tup (D5 s)]::D5 r
theorem El {H:Hp}{y:V}(h:N4 y=true):Cj H (.v y) y:=by rw[Cj];exact⟨rfl,h⟩
theorem JQ {H:Hp}:∀{f:Ac} {xs:List V},AI H xs f->By H (D5 f) xs
 |.nil,xs,h=>by have h:xs=[]:=h;subst h;rw[D5,By]
 |
  .leaf k pl r,xs,h=>by
  obtain⟨t,p,ys,rfl,h0,h1,h2⟩:=h
  rw[D5,By]
  refine⟨_,_,rfl,?_,JQ h2⟩
  rw[Cj]
  refine⟨t,_,rfl,h0,?_⟩
  rw[By]
  refine⟨_,_,rfl,El rfl,?_⟩
  rw[By]
  refine⟨_,_,rfl,El rfl,?_⟩
  rw[By]
  exact⟨_,_,rfl,R5 h1,by rw[By]⟩
 |
  .node c w s r,xs,h=>by
  obtain⟨t,p,zs,ys,rfl,h0,h1,h2,h3⟩:=h
  rw[D5,By]
  refine⟨_,_,rfl,?_,JQ h3⟩
  rw[Cj]
  refine⟨t,_,rfl,h0,?_⟩
  rw[By]
  refine⟨_,_,rfl,El rfl,?_⟩
  rw[By]
  refine⟨_,_,rfl,El rfl,?_⟩
  rw[By]
  refine⟨_,_,rfl,El rfl,?_⟩
  rw[By]
  refine⟨_,_,rfl,?_,by rw[By]⟩
  rw[Cj]
  exact⟨p,zs,rfl,h1,JQ h2⟩
theorem Qe {H:Hp}{p:Addr}{f:Ac}(h:DA H p f):Cj H (.tup (D5 f)) (.ref p):=by
 obtain⟨xs,h0,h1⟩:=h
 rw[Cj]
 exact⟨p,xs,rfl,h0,JQ h1⟩
theorem JT:∀f:Ac,BJ (D5 f)<=2*AU f+1
 |.nil=>by rw[D5,BJ];omega
 |
  .leaf k pl r=>by
  have h1:=JT r
  have h2:=Ue pl
  have h3:=FO r
  rw[D5,BJ]
  simp only[Bu,BJ]
  show _<=2*AU r+1
  omega
 |
  .node c w s r=>by
  have h1:=JT r
  have h2:=JT s
  rw[D5,BJ]
  simp only[Bu,BJ]
  unfold AU
  omega
def AO:Ac->List Int->Nat->List Bool->List (Fo.En×List Bool)
 |.nil,_,_,_=>[]
 |.leaf k pl rest,p,j,cs=>(⟨k,pl,p++[(j:Int)]⟩,cs)::AO rest p (j+1) cs
 |.node c _ sub rest,p,j,cs=>AO sub (p++[(j:Int)]) 0 (cs++[c])++AO rest p (j+1) cs
def FB (H:Hp)(x:V)(e:Fo.En×List Bool):Prop := ∃t pl pt cu,x = .ref t/\H t=some (.tup [.int e.1.k,.ref pl,.ref pt,.ref cu])/\DN H pl e.1.pl/\H cu=some (.tup (e.2.map V.bl))
theorem FB.tk {H H':Hp}{x:V}{e:Fo.En×List Bool}(h:FB H x e)(k:TK H H'):FB H' x e:=by obtain⟨t,pl,pt,cu,a,b,c,d⟩:=h;exact⟨t,pl,pt,cu,a,k _ _ b,c.tk k,k _ _ d⟩
theorem FB.over {H H':Hp}{x:V}{e:Fo.En×List Bool}(h:FB H x e)(k:Aa H H'):FB H' x e:=h.tk (Aa.tk k)
def MS (n:Nat):Sp:=fun vs H Q _=>∃(it pa cu:Addr) (f:Ac) (P:List Int) (cs:List Bool),vs=[.ref it,.ref pa,.ref cu]/\DA H it f/\H pa=some (.tup (P.map V.int))/\H cu=some (.tup (cs.map V.bl))/\AU f<=n/\P.length+n<=100/\cs.length+n<=100/\(AO f P 0 cs).length<=1000/\∀(r:Addr) (ys:List V) (H':Hp),Aa H H'->H' r=some (.lst ys)->As (FB H') ys (AO f P 0 cs)->Q (.ref r) H'
theorem FC:∀(f:Ac) (B:List Ab) (d n:Nat),Fo.Is f B d->(∀b∈B,b.ways.length<=d+n)->Ax f<=(n+1)*B.length
 |.nil,B,d,n,h,_=>BP _
 |
  .leaf k pl rest,B,d,n,h,hn=>by
  obtain⟨b,B',rfl,_,_,_,_,hr⟩:=h
  have:=FC rest B' d n hr fun b hb=>hn b (Cz _ hb)
  show Ax rest+1<=(n+1)*(B'.length+1)
  rw[Nat.mul_add]
  omega
 |
  .node c w sub rest,B,d,n,h,hn=>by
  obtain⟨b,G,B',rfl,hw,_,_,hs,hr⟩:=h
  have l:=(Ay.mp hw).1
  have l2:=hn b (Fl _ Cb)
  obtain⟨n,rfl⟩:∃m,n=m+1:=⟨n-1,by omega⟩
  have i1:=FC sub (b::G) (d+1) n hs fun b hb=>by have:=hn b (Fl _ hb);omega
  have i2:=FC rest B' d (n+1) hr fun b hb=>hn b (CM _ hb)
  show Ax sub+Ax rest+1<=(n+1+1)*((b::G)++B').length
  rw[Ap,Nat.mul_add]
  have e:(n+1+1)*(b::G).length=(n+1)*(b::G).length+(b::G).length:=Nat.succ_mul _ _
  rw[e,B5]at *
  omega
theorem Na:∀{l m:List Int},l.Perm m->l.Pairwise (·<=·)->m.Pairwise (·<=·)->l=m
 |[],m,h,_,_=>(List.nil_perm.mp h).symm
 |a::l,[],h,_,_=>by cases h.length_eq
 |
  a::l,b::m,h,h1,h2=>by
  obtain⟨a1,a2⟩:=List.pairwise_cons.mp h1
  obtain⟨b1,b2⟩:=List.pairwise_cons.mp h2
  have e:a=b:=by
   have hb:b∈a::l:=h.symm.subset Cb
   have ha:a∈b::m:=h.subset Cb
   rcases Bw.mp hb with z|z
   .exact z.symm
   .rcases Bw.mp ha with y|y
    .exact y
    .have:=a1 b z
     have:=b1 a y
     omega
  subst e
  rw[Na (List.Perm.cons_inv h) a2 b2]
def BB (n:Nat):List Int:=(List.range n).map fun i:Nat=>(i:Int)
theorem Uy (n:Nat):(BB n).Pairwise (·<=·):=by
 unfold BB
 rw[P4]
 exact List.Pairwise.imp (fun{a b} h=>by omega) (List.pairwise_lt_range (n:=n))
theorem Ot (n:Nat):Ff n=(BB n).map V.int:=by unfold Ff BB;rw[IU];rfl
theorem Mo {ρ:List (Option Nat)}{σ:St}(o o' p p':Option V):GE (none::none::none::none::ρ) σ (o::o'::p::p'::BX ρ σ):=by
 refine⟨by unfold BX;simp,fun j v e=>?_⟩
 cases j with
 |zero=>rw[EE]at e;simp at e
 |
  succ j=>
  rw[EE,EE]at e
  cases j with
  |zero=>simp at e
  |
   succ j=>
   rw[EE]at e
   cases j with
   |zero=>simp at e
   |
    succ j=>
    rw[EE]at e
    cases j with
    |zero=>simp at e
    |succ j=>simpa using e
theorem MR.isIn (K:PySem.W.Frag)(n:Bool):MR (MQ K n):=fun x y H Q Q' hq ⟨p,xs,a,b,c,d,e⟩=>⟨p,xs,a,b,c,d,hq _ _ e⟩
theorem ME.comp {ρ:List (Option Nat)}{wi:TI}{g:TG}{tt:TT}{te:TE}(hw:∀σ H R R',(∀J H1,R J H1->R' J H1)->wi σ H R->wi σ H R'):ME (GW ρ wi g tt te):=fun σ H Q Q' hq h=>
 hw _ _ _ _ (fun J H1 ⟨W,h0,h1⟩=>⟨W,h0,fun i m ys H' w=>(h1 i m ys H' w).imp (fun⟨a,b,c⟩=>⟨a,b,fun p hp=>hq _ _ (c p hp)⟩) id⟩) h
structure Lq where
 nm:Str
 lo:Str×Int
 hi:Str×Int
 fi:Int
 la:Int
def D7 (H:Hp)(x:V)(q:Lq):Prop := ∃t a b,x = .ref t/\H t=some (.tup [.str q.nm,.ref a,.ref b,.int q.fi,.int q.la])/\H a=some (.tup [.str q.lo.1,.int q.lo.2])/\H b=some (.tup [.str q.hi.1,.int q.hi.2])
theorem D7.tk {H H':Hp}{x:V}{q:Lq}(h:D7 H x q)(e:TK H H'):D7 H' x q:=by obtain⟨t,a,b,r,h0,h1,h2⟩:=h;exact⟨t,a,b,r,e _ _ h0,e _ _ h1,e _ _ h2⟩
theorem D7.over {H H':Hp}{x:V}{q:Lq}(h:D7 H x q)(e:Aa H H'):D7 H' x q:=h.tk (Aa.tk e)
structure Lq.Ok (q:Lq)(j:Nat):Prop where
 n:q.nm.length<=10
 l:q.lo.1.length<=10
 h:q.hi.1.length<=10
 l2 : -100<=q.lo.2/\q.lo.2<=100
 h2 : -100<=q.hi.2/\q.hi.2<=100
 f : -(10*((j:Int)+1))<=q.fi/\q.fi<=10*((j:Int)+1)
 a : -(10*((j:Int)+1))<=q.la/\q.la<=10*((j:Int)+1)
def DW (H:Hp)(ll:Addr)(L:List Lq):Prop := ∃xs,H ll=some (.lst xs)/\As (D7 H) xs L
theorem DW.over {H H':Hp}{ll:Addr}{L:List Lq}(h:DW H ll L)(e:Aa H H'):DW H' ll L:=by obtain⟨xs,a,b⟩:=h;exact⟨xs,e _ _ a,b.mono fun _ _ z=>z.over e⟩
def KC (L:List Lq):Prop := ∀(j:Nat) (q:Lq),L[j]?=some q->q.Ok j
def qT (q:Lq):Tr:=.tup [.v (.str q.nm),.tup [.v (.str q.lo.1),.v (.int q.lo.2)],.tup [.v (.str q.hi.1),.v (.int q.hi.2)],.v (.int q.fi),.v (.int q.la)]
theorem Rv {H:Hp}{x:V}{q:Lq}(h:D7 H x q):Cj H (qT q) x:=by
 obtain⟨t,a,b,rfl,h0,h1,h2⟩:=h
 have pr:∀{p:Addr} {s:Str×Int},H p=some (.tup [.str s.1,.int s.2])->Cj H (.tup [.v (.str s.1),.v (.int s.2)]) (.ref p):=fun{p s} h=>by
  rw[Cj]
  refine⟨p,_,rfl,h,?_⟩
  rw[By]
  refine⟨_,_,rfl,El rfl,?_⟩
  rw[By]
  exact⟨_,_,rfl,El rfl,by rw[By]⟩
 rw[qT,Cj]
 refine⟨t,_,rfl,h0,?_⟩
 rw[By]
 refine⟨_,_,rfl,El rfl,?_⟩
 rw[By]
 refine⟨_,_,rfl,pr h1,?_⟩
 rw[By]
 refine⟨_,_,rfl,pr h2,?_⟩
 rw[By]
 refine⟨_,_,rfl,El rfl,?_⟩
 rw[By]
 exact⟨_,_,rfl,El rfl,by rw[By]⟩
theorem Kg {K:PySem.W.Frag}{H:Hp}{p:Addr}{xs:List V}{L:List Lq}(hp:H p=some (.lst xs))(h:As (D7 H) xs L):BN K H (.ref p) (.lst (L.map qT)):=.lst (A4.of hp) (IC (fun _ _ z=>Rv z) h).tr
theorem Kh:∀A B:List Lq,EF (A.map qT) (B.map qT)=true
 |[],B=>by cases B<;>rfl
 |a::A,[]=>rfl
 |
  a::A,b::B=>by
  rw[C1,C1,EF,Kh A B]
  rfl
theorem MO (L:List Lq):BJ (L.map qT)<=2:=KW fun t ht=>by
 obtain⟨q,_,rfl⟩:=C4.mp ht
 simp[qT,Bu,BJ]
def EH (z:Str):Nat->Str
 |0=>z
 |i+1=>EH z i++"q"
theorem JN (z:Str):∀i,(EH z i).length=z.length+i
 |0=>rfl
 |
  i+1=>by
  have e:("q":Str).length=1:=by decide +kernel
  show(EH z i++"q").length=_
  rw[Oc,JN z i,e]
  omega
theorem So {z:Str}{ns:List Str}{i:Nat}(h:∀j<i,EH z j∈ns):i<=ns.length:=by
 have nd:((List.range i).map (EH z)).Nodup:=by
  rw[List.nodup_iff_pairwise_ne,P4]
  refine List.Pairwise.imp (fun{a b} h e=>h ?_) (P5:(List.range i).Nodup)
  have:=congrArg Str.length e
  rw[JN,JN]at this
  omega
 have:=Nw nd (k:=ns) fun x hx=>by
  obtain⟨j,hj,rfl⟩:=C4.mp hx
  exact h j (ER.mp hj)
 rwa [Al,IT]at this
theorem T2 (z:Str)(ns:List Str):Jk (.str z) (ns.map V.str)=true↔z∈ns:=by
 unfold Jk
 rw[OX]
 constructor
 .rintro ⟨y,hy,e⟩
  obtain⟨n,hn,rfl⟩:=C4.mp hy
  have e:(n==z)=true:=e
  rw[←IX.mp e]
  exact hn
 .intro h
  exact⟨.str z,C4.mpr ⟨z,h,rfl⟩,beq_self_eq_true z⟩
theorem D7.made {H:Hp}{a b r:Addr}{nm z1 z2:Str}{n1 n2 f l:Int}(ha:H a=none)(hb:(upd H a (.tup [.str z1,.int n1])) b=none)(hr:(upd (upd H a (.tup [.str z1,.int n1])) b (.tup [.str z2,.int n2])) r=none) :
  Aa H (upd (upd (upd H a (.tup [.str z1,.int n1])) b (.tup [.str z2,.int n2])) r (.tup [.str nm,.ref a,.ref b,.int f,.int l]))/\D7 (upd (upd (upd H a (.tup [.str z1,.int n1])) b (.tup [.str z2,.int n2])) r (.tup [.str nm,.ref a,.ref b,.int f,.int l])) (.ref r) ⟨nm,(z1,n1),(z2,n2),f,l⟩:=by
 have s1:=A7 ha (.tup [.str z1,.int n1])
 have s2:=A7 hb (.tup [.str z2,.int n2])
 have s3:=A7 hr (.tup [.str nm,.ref a,.ref b,.int f,.int l])
 exact⟨(s1.trans s2).trans s3,r,a,b,rfl,A5,(s2.trans s3) _ _ A5,s3 _ _ A5⟩
theorem KN (c:Nat):(⟨#[c]⟩:Str).length=1:=rfl
theorem Nb (c:Nat)(n:Int):(Txt.mul ⟨#[c]⟩ n).length=n.toNat:=by rw[←IZ,RS,CN]
end L2
namespace L2
open PySem PySem.Spec PyProof.Rows
def Eu (j:Nat)(n1 n2 f l:Int):Prop:=(-100<=n1/\n1<=100)/\(-100<=n2/\n2<=100)/\(-(10*((j:Int)+1))<=f/\f<=10*((j:Int)+1))/\-(10*((j:Int)+1))<=l/\l<=10*((j:Int)+1)
theorem GA {nm z1 z2:Str}{n1 n2 f l:Int}{j:Nat}(h:Eu j n1 n2 f l)(a:nm.length<=10)(b:z1.length<=10)(c:z2.length<=10):Lq.Ok ⟨nm,(z1,n1),(z2,n2),f,l⟩ j:=⟨a,b,c,h.1,h.2.1,h.2.2.1,h.2.2.2⟩
theorem Nk {x y u:Int}{j:Nat}(hx:0<=x/\x<5)(hy:0<=y/\y<=2)(hu:0<=u/\u<=3):Eu j (x-2) (x-2+y-u) (x-2) (x-2+y-u):=by unfold Eu;omega
theorem PR {x u f l:Int}{i j:Nat}(hx:0<=x/\x<5)(hu : -2<=u/\u<=1)(hi:i<j)(hj:j<=2)(hf : -(10*((i:Int)+1))<=f/\f<=10*((i:Int)+1))(hl : -(10*((i:Int)+1))<=l/\l<=10*((i:Int)+1)):Eu j (x-2) (x-2+u) (f+(x-2)) (l+(x-2)+u):=by unfold Eu;omega
theorem Pn {x u f l:Int}{i j:Nat}(hx:0<=x/\x<5)(hu:u=0\/u=1)(hi:i<j)(hj:j<=2)(hf : -(10*((i:Int)+1))<=f/\f<=10*((i:Int)+1))(hl : -(10*((i:Int)+1))<=l/\l<=10*((i:Int)+1)):Eu j (x-2) (l+(x-2)-u) (f+(x-2)) (l+(x-2)-u):=by unfold Eu;omega
theorem Rz {x f l:Int}{i j:Nat}(hx:0<=x/\x<5)(hi:i<j)(hj:j<=2)(hf : -(10*((i:Int)+1))<=f/\f<=10*((i:Int)+1))(hl : -(10*((i:Int)+1))<=l/\l<=10*((i:Int)+1)):Eu j (f+(x-2)) (x-2) (f+(x-2)) (l+(x-2)):=by unfold Eu;omega
theorem Qv {x y f l:Int}{i k j:Nat}(hx:0<=x/\x<5)(hy:0<=y/\y<3)(hi:i<j)(hk:k<j)(hj:j<=2)(hf : -(10*((i:Int)+1))<=f/\f<=10*((i:Int)+1))(hl : -(10*((k:Int)+1))<=l/\l<=10*((k:Int)+1)):Eu j (x-2) (f+(x-2)+1+y-l) (f+(x-2)) (f+(x-2)+1+y):=by unfold Eu;omega
theorem PC {tt:TT}{ta tb:TS}{D:DH}{σ:St}{H:Hp}(M:Hp->Prop)(hb:∀H',M H'->tb D σ H')(h:(∀H',M H'->tb D σ H')->HQ tt ta tb D σ H):HQ tt ta tb D σ H:=h hb
structure Dq where
 L:List Lq
 path:List Int
 sh:Nat
def GZ (H:Hp)(x:V)(D:Dq):Prop := ∃t o pt,x = .ref t/\H t=some (.tup [.ref o,.ref pt,.int (D.sh:Int)])/\DW H o D.L/\H pt=some (.tup (D.path.map V.int))
theorem GZ.over {H H':Hp}{x:V}{D:Dq}(h:GZ H x D)(e:Aa H H'):GZ H' x D:=by obtain⟨t,o,pt,r,h0,h1,h2⟩:=h;exact⟨t,o,pt,r,e _ _ h0,h1.over e,e _ _ h2⟩
structure Dq.Ok (D:Dq):Prop where
 ok:KC D.L
 ll:D.L.length<=3
 pl:D.path.length=D.L.length+1
 sl:D.sh<=D.L.length
def Nx (a b:Dq):Prop:=b.sh<=a.L.length/\a.L.take b.sh=b.L.take b.sh/\a.path.take b.sh=b.path.take b.sh/\a.path.getD b.sh 0≠b.path.getD b.sh 0
structure G0 (Ds:List Dq):Prop where
 ok:∀D∈Ds,D.Ok
 nx:∀(i:Nat) (a b:Dq),Ds[i]?=some a->Ds[i+1]?=some b->Nx a b
theorem G0.nil:G0 []:=⟨fun D h=>(by cases h),fun i a b h=>(by cases h)⟩
theorem G0.snoc {Ds:List Dq}{D:Dq}(h:G0 Ds)(hD:D.Ok)(hn:∀a,Ds.getLast?=some a->Nx a D):G0 (Ds++[D]):=by
 refine⟨fun x hx=>?_,fun i a b h1 h2=>?_⟩
 .rcases CA.mp hx with z|z
  .exact h.ok x z
  .rw[CO.mp z];exact hD
 .have l2:=(Ay.mp h2).1
  rw[Ap,Au]at l2
  rw[C2 (by omega)]at h1
  rcases FM (i+1) Ds.length with z|z
  .rw[C2 z]at h2
   exact h.nx i a b h1 h2
  .have e:i+1=Ds.length:=by omega
   rw[e,BQ (Ak _),DJ]at h2
   cases h2
   refine hn a ?_
   rw[Hg,show Ds.length-1=i by omega]
   exact h1
theorem Lu (xs:List V)(n:Nat):AL xs none (some (n:Int))=xs.take n:=by
 have h:AL xs none (some (n:Int))=xs.take (n:Int).toNat:=DL _ (by omega)
 rw[h,Gc]
theorem DW.av {H:Hp}{fo ll:Addr}{xs:List V}{L:List Lq}(h:DW H ll L)(hl:H fo=some (.lst xs))(hn:ll≠fo):DW (av H [fo]) ll L:=by
 obtain⟨ys,h1,h2⟩:=h
 exact⟨ys,by rw[JB (by rw[CO];exact hn)];exact h1,h2.mono fun _ _ z=>z.tk (IL hl)⟩
theorem UO {x:Int}(h0:0<=x)(h1:x<7):∃v:Int,C6 [V.int 2,V.int 1,V.int 3,V.int 2,V.int 0,V.int 1,V.int 2] x=some (.int v)/\0<=v/\v<=3:=by
 have:x=0\/x=1\/x=2\/x=3\/x=4\/x=5\/x=6:=by omega
 rcases this with rfl|rfl|rfl|rfl|rfl|rfl|rfl
 .exact⟨2,rfl,by decide,by decide⟩
 .exact⟨1,rfl,by decide,by decide⟩
 .exact⟨3,rfl,by decide,by decide⟩
 .exact⟨2,rfl,by decide,by decide⟩
 .exact⟨0,rfl,by decide,by decide⟩
 .exact⟨1,rfl,by decide,by decide⟩
 .exact⟨2,rfl,by decide,by decide⟩
theorem UY {p q:List Int}{c:Nat}{v:Int}(hc:p[c]?=some v)(hq:q.take (c+1)=p.take c++[v+1]):p.take c=q.take c/\p.getD c 0≠q.getD c 0:=by
 have lc:=(Ay.mp hc).1
 have h1:q.take c=p.take c:=by
  have:=congrArg (List.take c) hq
  rw[Gi,show min c (c+1)=c by omega,Gk (by rw[Ar];omega),Gi,Nat.min_self]at this
  exact this
 refine⟨h1.symm,?_⟩
 have h2:q[c]?=some (v+1):=by
  have:=congrArg (fun l:List Int=>l[c]?) hq
  simp only[Dy (Gb c)]at this
  rw[this,BQ (by rw[Ar];omega),Ar,show c-min c p.length=0 by omega]
  rfl
 rw[Cc,Cc,hc,h2]
 show v≠v+1
 omega
def Io (b:Int)(s:Str×Int):Str×Int:=if s.1="" then("",s.2+b) else(s.1,s.2)
def Sv:Sp:=fun vs H Q _=>∃(x:V) (b:Int) (s:Str×Int),vs=[x,.int 1,.int b]/\Da H x s/\∀(r:V) (H':Hp),Aa H H'->Da H' r (Io b s)->Q r H'
def Gr (b:Int)(q:Lq):GH:=⟨q.nm,Io b q.lo,Io b q.hi⟩
def CG (b:Int)(D:Dq):Dw:=⟨D.L.map (Gr b),"a",[("",0)],.n 1,D.path⟩
def R4 (C:Addr)(c:Cs):Sp:=fun vs H Q _=>∃(l:Addr) (b:Int) (xs:List V) (Ds:List Dq),vs=[.ref l,.int 1,.int b]/\H l=some (.lst xs)/\As (GZ H) xs Ds/\Ds.length<=6/\(∀D∈Ds,D.L.length<=3)/\∀(r:Addr) (ys:List V) (H':Hp),Aa H H'->H' r=some (.lst ys)->As (CI C c H') ys (Ds.map (CG b))->Q (.ref r) H'
def Fx (p:List Int):Tr:=.tup (p.map fun i=>Tr.v (.int i))
theorem SH {H:Hp}{x:V}{p:List Int}(h:E7 H x p):Cj H (Fx p) x:=by
 obtain⟨t,rfl,ht⟩:=h
 rw[Fx,Cj]
 refine⟨t,_,rfl,ht,?_⟩
 have:=IC (H:=H) (R:=fun x (i:Int)=>x=V.int i) (g:=fun i=>Tr.v (.int i)) (fun x i h=>by subst h;exact El rfl) (ys:=p.map V.int) (P:=p) ⟨by rw[Al],fun i x a h1 h2=>by rw[C3,h2]at h1;cases h1;rfl⟩
 exact this
theorem S4 {K:PySem.W.Frag}{H:Hp}{l:Addr}{xs:List V}{P:List (List Int)}(hl:H l=some (.lst xs))(h:As (E7 H) xs P):BN K H (.ref l) (.lst (P.map Fx)):=.lst (A4.of hl) (IC (fun _ _ z=>SH z) h).tr
theorem U1 (P:List (List Int)):Bu (.lst (P.map Fx))<=60:=by
 rw[Bu]
 have:=KW (n:=1) (l:=P.map Fx) fun t ht=>by
  obtain⟨p,_,rfl⟩:=C4.mp ht
  rw[Fx,Bu,Jf]
  decide
 omega
end L2
namespace L2
open PySem PySem.Spec PyProof.Rows
section
variable {prog:Program}{w:World}{A:Around}{E:Value->Shared->Prop}{s:Shared}
end
end L2
namespace L2
open PySem PySem.Spec PyProof.Rows
section
variable {prog:Program}{w:World}{A:Around}{E:Value->Shared->Prop}{s:Shared}
end
end L2
namespace L2
open PySem PySem.Spec PyProof.Rows
section
variable {prog:Program}{w:World}{A:Around}{E:Value->Shared->Prop}{s:Shared}
end
end L2
namespace L2
open PySem PySem.Spec PyProof.Rows
section
variable {prog:Program}{w:World}{A:Around}{E:Value->Shared->Prop}{s:Shared}
end
section
variable {X:Cx}
end
end L2
namespace L2
open PySem PySem.Spec PyProof.Rows
end L2
namespace L2
open PySem PySem.Spec PyProof.Rows
end L2
namespace L2
open PySem PySem.Spec PyProof.Rows
section
variable {prog:Program}{w:World}{A:Around}{E:Value->Shared->Prop}{s:Shared}
end
end L2
namespace L2
open PySem PySem.Spec PyProof.Rows
end L2
namespace L2
open PySem PySem.Spec PyProof.Rows
end L2
namespace L2
open PySem PySem.Spec PyProof.Rows
end L2
namespace L2
open PySem PySem.Spec PyProof.Rows
structure Lq.Ok7 (q:Lq)(L:List Lq):Prop where
 ok:q.Ok L.length
 l1:q.lo.1=""\/∃y∈L,q.lo.1=y.nm
 h1:q.hi.1=""\/∃y∈L,q.hi.1=y.nm
 lb : -(5+20*(L.length:Int))<=q.lo.2/\q.lo.2<=5+20*(L.length:Int)
 hb : -(5+20*(L.length:Int))<=q.hi.2/\q.hi.2<=5+20*(L.length:Int)
def D8 (L:List Lq):Prop := ∀(j:Nat) (q:Lq),L[j]?=some q->q.Ok7 (L.take j)
theorem D8.ok {L:List Lq}(h:D8 L):KC L:=fun j q hq=>by
 have:=(h j q hq).ok
 rwa [Ar,Gf (Ez (Ay.mp hq).1)]at this
theorem D8.nil:D8 []:=fun j x hx=>by cases hx
theorem D8.snoc {L:List Lq}{q:Lq}(h:D8 L)(hq:q.Ok7 L):D8 (L++[q]):=fun j x hx=>by
 rcases FM j L.length with z|z
 .rw[C2 z]at hx
  rw[Gk (Ez z)]
  exact h j x hx
 .have l:=(Ay.mp hx).1
  rw[Ap,Au]at l
  have e:j=L.length:=by omega
  subst e
  rw[BQ (Ak _),DJ]at hx
  cases hx
  rw[P3 rfl]
  exact hq
theorem D8.take {L:List Lq}(h:D8 L)(n:Nat):D8 (L.take n):=fun j x hx=>by
 have l:=(Ay.mp hx).1
 rw[Ar]at l
 rw[Dy (by omega)]at hx
 rw[Gi,Gf (by omega)]
 exact h j x hx
def Ro:Sp:=fun vs H Q _=>∃(cell:Int) (ll:Addr) (L:List Lq),vs=[.int cell,.ref ll]/\0<=cell/\DW H ll L/\KC L/\L.length<=2/\∀(r:Addr) (H':Hp) (q:Lq),Aa H H'->D7 H' (.ref r) q->q.Ok7 L->Q (.ref r) H'
theorem PD {p q:Lq}(h:Br (qT p) (qT q)=true):p=q:=by
 obtain⟨a,⟨b1,b2⟩,⟨c1,c2⟩,d,e⟩:=p
 obtain⟨a',⟨b1',b2'⟩,⟨c1',c2'⟩,d',e'⟩:=q
 simp[qT,Br,BI,DP]at h
 obtain⟨h1,⟨h2,h3⟩,⟨h4,h5⟩,h6,h7⟩:=h
 subst h1 h2 h3 h4 h5 h6 h7
 rfl
theorem Om:∀{A B:List Lq},BI (A.map qT) (B.map qT)=true->A=B
 |[],[],_=>rfl
 |[],b::B,h=>by simp[BI]at h
 |a::A,[],h=>by simp[BI]at h
 |
  a::A,b::B,h=>by
  rw[C1,C1,BI,ET]at h
  rw[PD h.1,Om h.2]
structure FD (Ds:List Dq):Prop where
 row:G0 Ds
 in7:∀D∈Ds,D8 D.L
 hd:∀D,Ds.head?=some D->D.sh=0
 up:∀(i:Nat) (a b:Dq),Ds[i]?=some a->Ds[i+1]?=some b->a.path.getD b.sh 0<b.path.getD b.sh 0
theorem FD.nil:FD []:=⟨G0.nil,fun D h=>(by cases h),fun D h=>(by cases h),fun i a b h=>(by cases h)⟩
theorem FD.snoc {Ds:List Dq}{D:Dq}(h:FD Ds)(hD:D.Ok)(h7:D8 D.L)(h0:Ds=[]->D.sh=0)(hn:∀a,Ds.getLast?=some a->Nx a D/\a.path.getD D.sh 0<D.path.getD D.sh 0):FD (Ds++[D]):=by
 refine⟨h.row.snoc hD fun a ha=>(hn a ha).1,fun x hx=>?_,fun x hx=>?_,fun i a b h1 h2=>?_⟩
 .rcases CA.mp hx with z|z
  .exact h.in7 x z
  .rw[CO.mp z];exact h7
 .cases Ds with
  |nil=>cases hx;exact h0 rfl
  |cons y ys=>exact h.hd x hx
 .have l2:=(Ay.mp h2).1
  rw[Ap,Au]at l2
  rw[C2 (by omega)]at h1
  rcases FM (i+1) Ds.length with z|z
  .rw[C2 z]at h2
   exact h.up i a b h1 h2
  .have e:i+1=Ds.length:=by omega
   rw[e,BQ (Ak _),DJ]at h2
   cases h2
   refine(hn a ?_).2
   rw[Hg,show Ds.length-1=i by omega]
   exact h1
theorem SJ {p q:List Int}{c:Nat}{v:Int}(hc:p[c]?=some v)(hq:q.take (c+1)=p.take c++[v+1]):p.getD c 0<q.getD c 0:=by
 have lc:=(Ay.mp hc).1
 have tl:(p.take c).length=c:=by rw[Ar];omega
 have e:q[c]?=some (v+1):=by
  have:(q.take (c+1))[c]?=(p.take c++[v+1])[c]?:=by rw[hq]
  rw[Dy (by omega),BQ (by omega),tl,DJ]at this
  exact this
 rw[Cc,Cc,hc,e]
 show v<v+1
 omega
def R7 (K:PySem.W.Frag):Sp:=fun vs H Q _=>∃(p:Addr) (ns:List Int) (f:Int) (n:Nat),vs=[.ref p,.int f,.int (n:Int)]/\A4 K H p (ns.map V.int)/\0<=f/\f<=1000/\n<=6/\∀(r:Addr) (xs:List V) (H':Hp) (Ds:List Dq),Aa H H'->H' r=some (.lst xs)->As (GZ H') xs Ds->Ds.length=n->FD Ds->Q (.ref r) H'
end L2
namespace EX
open PySem PySem.Spec PyProof.Rows
section
variable {M:Model}{A:Around}{E:Value->Shared->Prop}{s:Shared}
end
end EX
namespace EX
open PySem PySem.Spec PyProof.Rows
section
variable {M:Model}{A:Around}{E:Value->Shared->Prop}{s:Shared}{env:Env}
end
end EX
namespace EX
open PySem PySem.Spec PySem.Calls PyProof.Rows
section
variable {prog:Program}{w:World}{A:Around}{h:Heap}{g:Array GenState}{d:Drawn}{t:Nat}{os:OsState}{R:Result->Shared->Prop}
variable {nm q:Str}{C N:Addr}{bs bm bmB:List Value}{hdct:Bool}{sn:List Str}{sub:List Value}{ab:Bool}{col:Option Bool}{dd:Option Addr}{k0 k1 k2 k3 k5:Option Value}{B newId initId:String}
end
end EX
namespace EX
open PySem PySem.Spec PySem.Calls PyProof.Rows PySem.W PySem.Builtin PySem.Builtin.ObjectAttr
section
variable {prog:Program}{w:World}{A:Around}{E:Value->Shared->Prop}{s:Shared}{K:Frag}{x C:Addr}{ox:Obj}{od:Option Obj}{name:Str}{expr:Bool}
end
end EX
namespace EX
open PySem PySem.Spec PySem.Calls PyProof.Rows PySem.W PySem.Builtin PySem.Builtin.ObjectAttr
section
variable {prog:Program}{w:World}{A:Around}{E:Value->Shared->Prop}{s:Shared}{K:Frag}{x C:Addr}{ox:Obj}{od:Option Obj}
end
end EX
namespace EX
open PySem PySem.Spec PyProof.Rows
end EX
namespace L2
open PySem PySem.Spec PyProof.Rows EX
section
variable {P:Program}{w:World}{H:Hp}{h:Heap}{a C:Addr}{d:Option Addr}
end
section
variable {X:Cx}{pins:List (Addr×Obj)}{σ:St}{H:Hp}{s:Shared}{a C:Addr}{d:Option Addr}
end
section
variable {X:Cx}
variable {P:Program}{w:World}{K:PySem.W.Frag}{mg:Str->Option Value}{base:Heap}{N:List Str}{qual:Str}{scope:Scope}{f:Addr}{cd:Value}{A:Around}{outer:List Env}{s₀:Shared}{H₀:Hp}{E:XK}
end
section
variable {P:Program}{w:World}{K:PySem.W.Frag}{mg:Str->Option Value}{base:Heap}
end
section
variable {X:Cx}{Ek:St->XK}{e:Expr}{te:TE}{pos:Pos}
end
end L2
namespace EX
open PySem PySem.Spec PyProof.Rows
end EX
namespace L2
open PySem PySem.Spec PyProof.Rows EX
section
variable {X:Cx}{pins pins':List (Addr×Obj)}{σ:St}{H:Hp}{s:Shared}{a:Addr}{xe:Value->Shared->Prop}{pn:List (Addr×Obj)}
end
section
variable {X:Cx}{x n:Str}{np pos:Pos}{Dc:Addr}{b₀:Stmt}{suite:List Stmt}{rest:List ExceptHandler}{ts:Addr->TS}{th:Addr->Addr->Option Addr->TS}
end
section
variable {X:Cx}{k:Nat}{f C:Addr}{fd:FuncData}{ps:List Str}{sp:Sp}{dvs:List V}{ds:List Value}{Ek:St->XK}{x:Str}{p pos:Pos}{e:Expr}{es:List Expr}{t:TA}
end
end L2
namespace EX
open PySem PySem.Spec PySem.Calls PyProof.Rows PySem.W
section
variable {prog:Program}{w:World}{A:Around}{h:Heap}{g:Array GenState}{d:Drawn}{t:Nat}{os:OsState}{R:Result->Shared->Prop}{C N:Addr}{bm:List Value}
end
end EX
namespace L2
open PySem PySem.Spec PyProof.Rows EX
section
variable {X:Cx}{pins:List (Addr×Obj)}{σ:St}{H:Hp}{s:Shared}{M:Model}{A:Around}{E:Value->Shared->Prop}
end
section
variable {X:Cx}{x n:Str}{np pos:Pos}{Dc:Addr}{b₀:Stmt}{suite:List Stmt}{rest:List ExceptHandler}{ts:Addr->TS}{th:Addr->Addr->Option Addr->TS}{i:Nat}
end
section
variable {X:Cx}{k:Nat}{f C:Addr}{fd:FuncData}{ps:List Str}{sp:Sp}{CX:Ed}{E:XK}{x:Str}{p pos:Pos}{e:Expr}{es:List Expr}{t:TA}
end
end L2
namespace L2
open PySem PySem.Spec PyProof.Rows EX
section
variable {X:Cx}{e o:Expr}{ta tv:TE}{f x:Str}{pos pos' p apos:Pos}
end
end L2
namespace Wv
variable {α:Type}
end Wv
namespace L2
open PySem PySem.Spec PyProof.Rows
section
variable {X:Cx}{es:List Expr}{env:Env}{p:Pos}
theorem Uk {a:Expr}{os:List CmpOp}{bs:List Expr}:starEach (.Compare a os bs p::es) env=(false,eval (.Compare a os bs p) env)::starEach es env:=rfl
def Le (K:PySem.W.Frag):List V->Hp->VK->Prop:=fun xs H Q=>∃p ys,xs=[V.ref p]/\(A4 K H p ys\/A9 K H p ys)/\Q (V.int (ys.length:Int)) H
end
section
variable {X:Cx}{pins:List (Addr×Obj)}{σ:St}{H:Hp}{s:Shared}
end
end L2
namespace L2
open PySem PySem.Spec PyProof.Rows EX
section
variable {P:Program}{w:World}{K:PySem.W.Frag}{mg:Str->Option Value}{base:Heap}
end
section
variable {X:Cx}{k:Nat}{f:Addr}{fd:FuncData}{ps:List Str}{sp:Sp}{x:Str}{p pos:Pos}{e:Expr}{es:List Expr}{t:TA}
end
end L2
namespace L2
open PySem PySem.Spec PyProof.Rows EX
end L2
namespace L2
open PySem PySem.Spec PyProof.Rows EX
end L2
namespace Bd
open PySem L2
end Bd
namespace L2
open PySem PySem.Spec PyProof.Rows EX Bd
end L2
namespace Fo
variable {W:Type}
end Fo
namespace L2
open PySem PySem.Spec PyProof.Rows EX Bd
open Classical in
theorem Ng:∀A B:List Int,EF (A.map fun i=>Tr.v (.int i)) (B.map fun i=>Tr.v (.int i))=true
 |[],_=>by cases ‹List Int› <;> rfl
 |_::_,[]=>rfl
 |a::A,b::B=>by rw[C1,C1,EF,Ng A B];rfl
theorem NY:∀A:List Int,BI (A.map fun i=>Tr.v (.int i)) (A.map fun i=>Tr.v (.int i))=true
 |[]=>rfl
 |a::A=>by rw[C1,BI,NY A,Br,OJ rfl];rfl
theorem UD {A B:List Int}(h:A≠B):BI (A.map fun i=>Tr.v (.int i)) (B.map fun i=>Tr.v (.int i))=false:=by
 induction A generalizing B with
 |
  nil=>cases B with
  |nil=>exact absurd rfl h
  |cons b B=>rfl
 |
  cons a A ih=>cases B with
  |nil=>rfl
  |
   cons b B=>
   rw[C1,C1,BI,Br]
   by_cases c:a=b
   .subst c
    rw[ih (fun z=>h (by rw[z])),LS]
   .have:DP (.int a) (.int b)=false:=by simp[DP,c]
    rw[this];rfl
end L2
namespace L2
open PySem PySem.Spec PyProof.Rows
def B9:Ac->Bool
 |.nil=>false
 |.leaf _ _ r=>B9 r
 |.node _ _ .nil r=>true
 |.node _ _ s r=>B9 s||B9 r
def Ec:Ac->List Bool
 |.nil=>[]
 |.leaf _ _ r=>false::Ec r
 |.node _ _ .nil r=>true::Ec r
 |.node _ _ s r=>B9 s::Ec r
theorem Jg:∀f:Ac,(Ec f).any id=B9 f
 |.nil=>rfl
 |.leaf k pl r=>by show(false::Ec r).any id=B9 r;rw[K2,Jg r];rfl
 |.node c w .nil r=>rfl
 |
  .node c w (.leaf k pl s) r=>by
  show(B9 (.leaf k pl s)::Ec r).any id=(B9 (.leaf k pl s)||B9 r)
  rw[K2,Jg r];rfl
 |
  .node c w (.node c' w' s' s) r=>by
  show(B9 (.node c' w' s' s)::Ec r).any id=(B9 (.node c' w' s' s)||B9 r)
  rw[K2,Jg r];rfl
theorem GC:∀f:Ac,Ig f->B9 f=false
 |.nil,_=>rfl
 |.leaf k pl r,h=>GC r h
 |.node c w .nil r,h=>absurd rfl h.1
 |
  .node c w (.leaf k pl s) r,h=>by
  show(B9 (.leaf k pl s)||B9 r)=false
  rw[GC _ h.2.1,GC _ h.2.2];rfl
 |
  .node c w (.node c' w' s' s) r,h=>by
  show(B9 (.node c' w' s' s)||B9 r)=false
  rw[GC _ h.2.1,GC _ h.2.2];rfl
def Oy (n:Nat):Sp:=fun vs H Q _=>∃(p:Addr) (f:Ac),vs=[.ref p]/\DA H p f/\AU f<=n/\Ax f<=1000/\n<=20/\∀H',Aa H H'->Q (.bl (B9 f)) H'
def BD:List (Int×Int)->List Bool->List Int
 |p::pl,c::cs=>if c then BD pl cs else p.1::BD pl cs
 |_,_=>[]
theorem IK:∀(pl:List (Int×Int)) (cs:List Bool) (p:Int×Int) (c:Bool),pl.length=cs.length->BD (pl++[p]) (cs++[c])=BD pl cs++(if c then[] else[p.1])
 |[],[],p,c,_=>by cases c<;>rfl
 |[],_::_,p,c,h=>by cases h
 |_::_,[],p,c,h=>by cases h
 |
  q::pl,d::cs,p,c,h=>by
  have ih:=IK pl cs p c (by simpa using h)
  show(if d then BD (pl++[p]) (cs++[c]) else q.1::BD (pl++[p]) (cs++[c]))=(if d then BD pl cs else q.1::BD pl cs)++_
  rw[ih]
  cases d<;>rfl
theorem JK:∀(pl:List (Int×Int)) (cs:List Bool),(BD pl cs).length<=pl.length
 |[],_=>by cases ‹List Bool› <;> exact Ak _
 |_::_,[]=>BP _
 |
  p::pl,c::cs=>by
  have:=JK pl cs
  show(if c then BD pl cs else p.1::BD pl cs).length<=_
  rw[B5]
  split
  .omega
  .rw[B5];omega
def G9 (m:Nat)(p:Int×Int):Prop:=0<=p.1/\p.1<(m:Int)/\-1000000000000000000<=p.2/\p.2<=1000000000000000000
def C9 (m:Nat)(pl:List (Int×Int))(cs:List Bool):Prop:=pl.length=cs.length/\pl.length<=6/\(∀p∈pl,G9 m p)/\(BD pl cs).Perm (BB m)
open Classical in
def FE (m:Nat)(pl:List (Int×Int))(cs:List Bool):Bool:=decide (C9 m pl cs)
open Classical in
theorem OF {m:Nat}{pl:List (Int×Int)}{cs:List Bool}(h:C9 m pl cs):FE m pl cs=true:=by unfold FE;exact Cw h
open Classical in
theorem LO {m:Nat}{pl:List (Int×Int)}{cs:List Bool}(h:¬C9 m pl cs):FE m pl cs=false:=by unfold FE;exact Cv h
def PM (C:Addr)(c:Cs):Sp:=fun vs H Q _=>∃(x:V) (pl cu:Addr) (D:Dw) (ps:List (Int×Int)) (cs:List Bool),vs=[x,.ref pl,.ref cu]/\CI C c H x D/\D.loops.length<=3/\DN H pl ps/\H cu=some (.tup (cs.map V.bl))/\ps.length<=60/\∀H',Aa H H'->Q (.bl (FE D.loops.length ps cs)) H'
def E9 (f:Ac):List Int:=(AO f [] 0 []).map (·.1.k)
def E2 (Ds:List Dw)(f:Ac):Prop:=(E9 f).Perm (BB Ds.length)/\B9 f=false/\∀e∈AO f [] 0 [],∀(k:Nat) (D:Dw),e.1.k=(k:Int)->Ds[k]?=some D->C9 D.loops.length e.1.pl e.2
open Classical in
def DU (Ds:List Dw)(f:Ac):Bool:=decide (E2 Ds f)
open Classical in
theorem Gq {Ds:List Dw}{f:Ac}(h:E2 Ds f):DU Ds f=true:=by unfold DU;exact Cw h
open Classical in
theorem Fu {Ds:List Dw}{f:Ac}(h:¬E2 Ds f):DU Ds f=false:=by unfold DU;exact Cv h
def Td (CP C:Addr)(c:Cs):Sp:=fun vs H Q _=>∃(v:V) (pt:Addr) (n:Int) (Ds:List Dw) (f:Ac),vs=[v,.ref pt]/\Fq CP C c H v n Ds/\Ds.length<=10/\(∀D∈Ds,D.loops.length<=3)/\DA H pt f/\AU f<=13/\Ax f<=900/\(AO f [] 0 []).length<=60/\(∀e∈AO f [] 0 [],e.1.pl.length<=60)/\∀H',Aa H H'->Q (.bl (DU Ds f)) H'
theorem O1 {K:PySem.W.Frag}{H:Hp}{x y:Addr}{A B:List Int}{neg:Bool}{Q:VK}(hx:H x=some (.lst (A.map V.int)))(hy:H y=some (.lst (B.map V.int)))(h:Q (.bl (if neg then !decide (A=B) else decide (A=B))) H):FG K neg (.ref x) (.ref y) H Q:=by
 refine⟨.lst (A.map fun i=>Tr.v (.int i)),.lst (B.map fun i=>Tr.v (.int i)),.lst (A4.of hx) (JO _),.lst (A4.of hy) (JO _),⟨_,rfl⟩,⟨_,rfl⟩,by rw[Ci];exact Ng A B,by rw[Bu,Jf];decide,?_⟩
 have:Br (.lst (A.map fun i=>Tr.v (.int i))) (.lst (B.map fun i=>Tr.v (.int i)))=decide (A=B):=by
  rw[Br]
  by_cases c:A=B
  .subst c;rw[NY,Cw rfl]
  .rw[UD c,Cv c]
 rw[this]
 exact h
theorem Js {ns ns':List Int}{n:Nat}(pm:ns'.Perm ns)(so:ns'.Pairwise (·<=·)):(ns'=BB n)↔ns.Perm (BB n):=by
 refine⟨fun h=>by rw[←h];exact pm.symm,fun h=>Na (pm.trans h) so (Uy n)⟩
theorem ON {l:List Int}{n:Nat}(h:l.Perm (BB n)){x:Int}(hx:x∈l):∃k:Nat,x=(k:Int)/\k<n:=by
 have:=h.subset hx
 unfold BB at this
 obtain⟨k,hk,rfl⟩:=C4.mp this
 exact⟨k,rfl,ER.mp hk⟩
end L2
namespace L2
open PySem PySem.Spec PyProof.Rows
theorem Fo.Ok.left {A B:List Ab}(h:Fo.Ok (A++B)):Fo.Ok A:=by
 refine⟨fun b hb=>h.sh b (Fl _ hb),fun i b c hb hc=>?_⟩
 have l:=(Ay.mp hc).1
 exact h.ln i b c (by rw[C2 (by omega)];exact hb) (by rw[C2 l];exact hc)
theorem Fo.Ok.right {A B:List Ab}(h:Fo.Ok (A++B)):Fo.Ok B:=by
 refine⟨fun b hb=>h.sh b (CM _ hb),fun i b c hb hc=>?_⟩
 refine h.ln (A.length+i) b c (by rw[BQ (by omega),Nat.add_sub_cancel_left];exact hb) (by rw[BQ (by omega),show A.length+i+1-A.length=i+1 by omega];exact hc)
theorem Mw {d:Nat}{x:B1}:∀(G:List Ab) (b:Ab),Fo.Ok (b::G)->b.ways[d]?=some x->(∀c∈G,d<c.sh)->∀c∈b::G,c.ways[d]?=some x
 |[],b,_,hb,_,c,hc=>by rw[CO.mp hc];exact hb
 |
  g::G,b,ok,hb,hs,c,hc=>by
  have hg:g.ways[d]?=some x:=by
   obtain⟨_,e⟩:=ok.ln 0 b g rfl rfl
   have l:=hs g Cb
   have:(g.ways.take g.sh)[d]?=(b.ways.take g.sh)[d]?:=by rw[e]
   rw[Dy l,Dy l]at this
   rw[this];exact hb
  rcases Bw.mp hc with rfl|hc
  .exact hb
  .exact Mw G g (Fo.Ok.right (A:=[b]) ok) hg (fun c h=>hs c (Cz _ h)) c hc
theorem HK:∀(f:Ac) (B:List Ab) (d:Nat) (p:List Int) (j:Nat) (cs:List Bool),Fo.Is f B d->Fo.Ok B->(AO f p j cs).map (fun e=>(e.1.k,e.1.pl,e.2))=B.map fun b=>(b.k,b.pl,cs++(b.ways.drop d).map (·.1))
 |
  .nil,B,d,p,j,cs,h,_=>by
  have h:B=[]:=h
  subst h
  rfl
 |
  .leaf k pl rest,B,d,p,j,cs,h,hB=>by
  obtain⟨b,B',rfl,rfl,rfl,hl,_,hr⟩:=h
  have ih:=HK rest B' d p (j+1) cs hr (Fo.Ok.right (A:=[b]) hB)
  show(b.k,b.pl,cs)::_=(b.k,b.pl,cs++(b.ways.drop d).map (·.1))::_
  rw[ih,List.drop_of_length_le (by omega),Gd,EA]
 |
  .node c w sub rest,B,d,p,j,cs,h,hB=>by
  obtain⟨b,G,B',rfl,hw,hG,_,hs,hr⟩:=h
  have okG:=Fo.Ok.left hB
  have i1:=HK sub (b::G) (d+1) (p++[(j:Int)]) 0 (cs++[c]) hs okG
  have i2:=HK rest B' d p (j+1) cs hr (Fo.Ok.right hB)
  show List.map _ (AO sub (p++[(j:Int)]) 0 (cs++[c])++AO rest p (j+1) cs)=_
  rw[B8,i1,i2,B8]
  congr 1
  refine LV fun x hx=>?_
  have hx':=Mw G b okG hw hG x hx
  obtain⟨l,e⟩:=Ay.mp hx'
  rw[Gh l,e,C1,CV]
  rfl
def AK (b:Ab):List Bool:=b.ways.map (·.1)
def JZ (Ds:List Dw)(B:List Ab):Prop:=(B.map (·.k)).Perm (BB Ds.length)/\∀b∈B,∀(k:Nat) (D:Dw),b.k=(k:Int)->Ds[k]?=some D->C9 D.loops.length b.pl (AK b)
theorem MF {Ds:List Dw}{f:Ac}{B:List Ab}(h:Fo.Is f B 0)(ok:Fo.Ok B):E2 Ds f↔JZ Ds B:=by
 have m:=HK f B 0 [] 0 [] h ok
 have mk:E9 f=B.map (·.k):=by
  have:=congrArg (List.map (fun x:Int×List (Int×Int)×List Bool=>x.1)) m
  rw[IU,IU]at this
  exact this
 have nb:=GC f (Je f B 0 h)
 have ent:∀e∈AO f [] 0 [],∃b∈B,e.1.k=b.k/\e.1.pl=b.pl/\e.2=AK b:=fun e he=>by
  have:(e.1.k,e.1.pl,e.2)∈(AO f [] 0 []).map (fun e=>(e.1.k,e.1.pl,e.2)):=C4.mpr ⟨e,he,rfl⟩
  rw[m]at this
  obtain⟨b,hb,eq⟩:=C4.mp this
  rw[FK,Hd]at eq
  injection eq with e1 e2
  injection e2 with e2 e3
  exact⟨b,hb,e1.symm,e2.symm,e3.symm⟩
 have tne:∀b∈B,∃e∈AO f [] 0 [],e.1.k=b.k/\e.1.pl=b.pl/\e.2=AK b:=fun b hb=>by
  have:(b.k,b.pl,([]:List Bool)++(b.ways.drop 0).map (·.1))∈B.map fun b=>(b.k,b.pl,([]:List Bool)++(b.ways.drop 0).map (·.1)):=C4.mpr ⟨b,hb,rfl⟩
  rw[←m]at this
  obtain⟨e,he,eq⟩:=C4.mp this
  rw[FK,Hd]at eq
  injection eq with e1 e2
  injection e2 with e2 e3
  exact⟨e,he,e1,e2,e3⟩
 unfold E2 JZ
 rw[mk]
 refine⟨fun⟨a,_,c⟩=>⟨a,fun b hb k D hk hD=>?_⟩,fun⟨a,c⟩=>⟨a,nb,fun e he k D hk hD=>?_⟩⟩
 .obtain⟨e,he,e1,e2,e3⟩:=tne b hb
  have:=c e he k D (by rw[e1];exact hk) hD
  rw[e2,e3]at this
  exact this
 .obtain⟨b,hb,e1,e2,e3⟩:=ent e he
  rw[e2,e3]
  exact c b hb k D (by rw[←e1];exact hk) hD
structure CK (B:List Ab):Prop where
 sh:∀b∈B,b.sh<=b.ways.length
 ln:∀(i:Nat) (b c:Ab),B[i]?=some b->B[i+1]?=some c->c.sh<=b.ways.length
def Ce:List B1->List Ab->List Ab
 |_,[]=>[]
 |prev,b::B=>⟨b.k,b.sh,prev.take b.sh++b.ways.drop b.sh,b.pl⟩::Ce (prev.take b.sh++b.ways.drop b.sh) B
def EZ:List B1->List Ab->List B1
 |prev,[]=>prev
 |prev,b::B=>EZ (prev.take b.sh++b.ways.drop b.sh) B
theorem Lv:∀(A B:List Ab) (prev:List B1),Ce prev (A++B)=Ce prev A++Ce (EZ prev A) B
 |[],B,prev=>rfl
 |
  a::A,B,prev=>by
  show _::Ce _ (A++B)=_::Ce _ A++_
  rw[Lv A B]
  rfl
theorem Ir {prev:List B1}{b:Ab}(h1:b.sh<=prev.length)(h2:b.sh<=b.ways.length):(prev.take b.sh++b.ways.drop b.sh).length=b.ways.length:=by
 rw[Ap,Ar,Ck];omega
theorem CK.tail {b:Ab}{B:List Ab}(h:CK (b::B)):CK B:=⟨fun c hc=>h.sh c (Cz _ hc),fun i x y hx hy=>h.ln (i+1) x y hx hy⟩
theorem CK.left {A B:List Ab}(h:CK (A++B)):CK A:=⟨fun b hb=>h.sh b (Fl _ hb),fun i b c hb hc=>h.ln i b c (by have:=(Ay.mp hc).1;rw[C2 (by omega)];exact hb) (by rw[C2 (Ay.mp hc).1];exact hc)⟩
theorem CK.right {A B:List Ab}(h:CK (A++B)):CK B:=⟨fun b hb=>h.sh b (CM _ hb),fun i b c hb hc=>h.ln (A.length+i) b c (by rw[BQ (by omega),Nat.add_sub_cancel_left];exact hb) (by rw[BQ (by omega),show A.length+i+1-A.length=i+1 by omega];exact hc)⟩
theorem N8:∀(A:List Ab) (b:Ab) (prev:List B1),CK (b::A)->b.sh<=prev.length->∃c,(b::A).getLast?=some c/\(EZ prev (b::A)).length=c.ways.length
 |[],b,prev,ok,h=>⟨b,rfl,Ir h (ok.sh b Cb)⟩
 |
  a::A,b,prev,ok,h=>by
  have l:=Ir h (ok.sh b Cb)
  obtain⟨c,hc,e⟩:=N8 A a (prev.take b.sh++b.ways.drop b.sh) ok.tail (by rw[l];exact ok.ln 0 b a rfl rfl)
  exact⟨c,by rw[List.getLast?_cons_cons];exact hc,e⟩
theorem IG:∀(f:Ac) (B:List Ab) (d:Nat) (prev:List B1),Fo.Is f B d->CK B->(∀b,B.head?=some b->b.sh<=d/\b.sh<=prev.length)->Fo.Is f (Ce prev B) d
 |
  .nil,B,d,prev,h,_,_=>by
  have h:B=[]:=h
  subst h
  rfl
 |
  .leaf k pl rest,B,d,prev,h,ok,hh=>by
  obtain⟨b,B',rfl,rfl,rfl,hl,hd,hr⟩:=h
  obtain⟨h1,h2⟩:=hh b rfl
  have l:=Ir h2 (ok.sh b Cb)
  refine⟨_,_,rfl,rfl,rfl,l.trans hl,fun c hc=>?_,IG rest B' d _ hr ok.tail fun c hc=>?_⟩
  .cases B' with
   |nil=>cases hc
   |cons c' B'=>cases hc;exact hd c' rfl
  .cases B' with
   |nil=>cases hc
   |
    cons c' B'=>
    cases hc
    exact⟨Ga (hd c rfl),by rw[l];exact ok.ln 0 b c rfl rfl⟩
 |
  .node c w sub rest,B,d,prev,h,ok,hh=>by
  obtain⟨b,G,B',rfl,hw,hG,hd,hs,hr⟩:=h
  obtain⟨h1,h2⟩:=hh b rfl
  have okG:=ok.left
  have l:=Ir h2 (okG.sh b Cb)
  rw[Lv]
  have gsh:∀(G:List Ab) (prev:List B1),(∀c∈G,d<c.sh)->∀c∈Ce prev G,d<c.sh:=fun G=>by
   induction G with
   |nil=>intro prev _ c hc;cases hc
   |
    cons g G ih=>
    intro prev hG c hc
    rcases Bw.mp (show c∈(⟨g.k,g.sh,prev.take g.sh++g.ways.drop g.sh,g.pl⟩:Ab)::Ce (prev.take g.sh++g.ways.drop g.sh) G from hc) with rfl|hc
    .exact hG g Cb
    .exact ih _ (fun c h=>hG c (Cz _ h)) c hc
  refine⟨⟨b.k,b.sh,prev.take b.sh++b.ways.drop b.sh,b.pl⟩,Ce (prev.take b.sh++b.ways.drop b.sh) G,Ce (EZ prev (b::G)) B',rfl,?_,gsh G _ hG,fun x hx=>?_,IG sub (b::G) (d+1) prev hs okG fun x hx=>?_,IG rest B' d _ hr ok.right fun x hx=>?_⟩
  .have tl:(prev.take b.sh).length=b.sh:=by rw[Ar];omega
   show(prev.take b.sh++b.ways.drop b.sh)[d]?=_
   rw[BQ (by omega),tl,FL,show b.sh+(d-b.sh)=d by omega]
   exact hw
  .cases B' with
   |nil=>cases hx
   |cons c' B'=>cases hx;exact hd c' rfl
  .cases hx;exact⟨by omega,h2⟩
  .refine⟨Ga (hd x hx),?_⟩
   obtain⟨y,hy,e⟩:=N8 G b prev okG h2
   rw[e]
   have hi:(b::G).length-1<(b::G).length:=by rw[B5];omega
   rw[Hg]at hy
   refine ok.ln ((b::G).length-1) y x (by rw[C2 hi];exact hy) ?_
   rw[BQ (by rw[B5];omega),show(b::G).length-1+1-(b::G).length=0 by rw[B5];omega,←EU]
   exact hx
theorem LN:∀(B:List Ab) (prev:List B1),CK B->(∀b,B.head?=some b->b.sh<=prev.length)->Fo.Ok (Ce prev B)
 |[],prev,_,_=>⟨fun b hb=>(by cases hb),fun i b c hb=>(by cases hb)⟩
 |
  b::B,prev,ok,hh=>by
  have h2:=hh b rfl
  have l:=Ir h2 (ok.sh b Cb)
  have hB:∀c,B.head?=some c->c.sh<=(prev.take b.sh++b.ways.drop b.sh).length:=fun c hc=>by
   rw[l]
   cases B with
   |nil=>cases hc
   |cons c' B=>cases hc;exact ok.ln 0 b c rfl rfl
  have ih:=LN B (prev.take b.sh++b.ways.drop b.sh) ok.tail hB
  refine⟨fun x hx=>?_,fun i x y hx hy=>?_⟩
  .rcases Bw.mp (show x∈(⟨b.k,b.sh,prev.take b.sh++b.ways.drop b.sh,b.pl⟩:Ab)::Ce (prev.take b.sh++b.ways.drop b.sh) B from hx) with rfl|hx
   .have:=ok.sh b Cb
    exact Ey this (Ga l.symm)
   .exact ih.sh x hx
  .cases i with
   |succ i=>exact ih.ln i x y hx hy
   |
    zero=>
    cases hx
    cases B with
    |nil=>cases hy
    |
     cons c B=>
     cases hy
     have hc:=hB c rfl
     refine⟨hc,?_⟩
     have key:∀X Y:List B1,c.sh<=X.length->(X.take c.sh++Y).take c.sh=X.take c.sh:=fun X Y h=>by
      rw[Gk (by rw[Ar];omega),Gi,Nat.min_self]
     exact key _ _ hc
structure FX (B:List Ab)(d n:Nat):Prop where
 ok:CK B
 sh:∀i c,B[i+1]?=some c->d<=c.sh
 lo:∀b∈B,d<=b.ways.length
 hi:∀b∈B,b.ways.length<=d+n
 pl:∀b∈B,b.pl.length<=60
 len:B.length<=7
theorem Rk {B:List Ab}(h:CK B)(i j:Nat):CK ((B.drop i).take j):=by
 refine⟨fun b hb=>h.sh b (LW (LX hb)),fun n b c h1 h2=>?_⟩
 have l2:=(Ay.mp h2).1
 rw[Ar]at l2
 rw[Dy (by omega),FL]at h1 h2
 exact h.ln (i+n) b c h1 h2
theorem FX.group {B:List Ab}{d n at' m:Nat}{b:Ab}(h:FX B d (n+1))(hb:B[at']?=some b)(hd:b.ways.length≠d)(hm:at'<m)(hG:∀i c,at'<i->i<m->B[i]?=some c->d<c.sh):FX ((B.drop at').take (m-at')) (d+1) n:=by
 have mem:∀c∈(B.drop at').take (m-at'),c∈B:=fun c hc=>LW (LX hc)
 refine⟨Rk h.ok _ _,fun i c hc=>?_,fun c hc=>?_,fun c hc=>by have:=h.hi c (mem c hc);omega,fun c hc=>h.pl c (mem c hc),?_⟩
 .have l2:=(Ay.mp hc).1
  rw[Ar]at l2
  rw[Dy (by omega),FL]at hc
  exact hG (at'+(i+1)) c (by omega) (by omega) hc
 .obtain⟨i,hi⟩:=P2.mp hc
  have l2:=(Ay.mp hi).1
  rw[Ar]at l2
  rw[Dy (by omega),FL]at hi
  rcases LY i with z|z
  .subst z
   rw[Nat.add_zero,hb]at hi
   cases hi
   have:=h.lo b (Bf hb)
   omega
  .have:=hG (at'+i) c (by omega) (by omega) hi
   have:=h.ok.sh c (mem c hc)
   omega
 .rw[Ar,Ck]
  have:=h.len
  omega
def MC (n:Nat):Sp:=fun vs H Q _=>∃(l:Addr) (d m:Nat) (B:List Ab),vs=[.ref l,.int (d:Int)]/\DE H l B/\FX B d m/\m<n/\d+m<=10/\∀(r:Addr) (H':Hp) (f:Ac),Aa H H'->DA H' r f->Fo.Is f B d->Q (.ref r) H'
end L2
namespace L2
open PySem PySem.Spec PyProof.Rows
theorem Ov:∀(ps:List (Int×Int)) (ws:List B1),ps.length=ws.length->(BD ps (ws.map (·.1))).length=Bj ws
 |[],[],_=>rfl
 |[],_::_,h=>by cases h
 |_::_,[],h=>by cases h
 |
  p::ps,w::ws,h=>by
  have ih:_=List.countP (fun w:B1=>!w.1) ws:=Ov ps ws (by simpa using h)
  show(if w.1 then BD ps (ws.map (·.1)) else p.1::BD ps (ws.map (·.1))).length=List.countP (fun w:B1=>!w.1) (w::ws)
  rw[K5]
  cases h:w.1 with
  |true=>show(BD ps (ws.map (·.1))).length=_;rw[ih];rfl
  |false=>show(BD ps (ws.map (·.1))).length+1=_;rw[ih];rfl
theorem NS:∀(l m:List Int),l.Nodup->(∀x∈l,x∈m)->l.length=m.length->l.Perm m
 |[],[],_,_,_=>.refl _
 |[],_::_,_,_,h=>by cases h
 |
  a::l,m,nd,hs,hl=>by
  have ha:=hs a Cb
  rw[IS]at nd
  have e:=List.perm_cons_erase ha
  refine .trans (.cons a (NS l (m.erase a) nd.2 (fun x hx=>?_) ?_)) e.symm
  .exact(List.mem_erase_of_ne (fun z:x=a=>nd.1 (by rw[←z];exact hx))).mpr (hs x (Cz _ hx))
  .rw[List.length_erase_of_mem ha,←hl,B5]
   rfl
theorem Il (n:Nat):(BB n).length=n:=by unfold BB;rw[Al,IT]
theorem Nt {R:List Int}{n:Nat}(nd:R.Nodup)(hl:R.length=n)(hm:∀k∈R,0<=k/\k<(n:Int)):R.Perm (BB n):=by
 refine NS R _ nd (fun x hx=>?_) (by rw[Il];exact hl)
 have:=hm x hx
 unfold BB
 exact C4.mpr ⟨x.toNat,ER.mpr (by omega),by omega⟩
structure J0 (B:List Ab)(D R:List Int)(i:Nat):Prop where
 st:Ew B R i
 lf:∀b∈B,∃(k m:Nat),b.k=(k:Int)/\D[k]?=some (m:Int)/\C9 m b.pl (AK b)/\(m=0->b.ways=[])
theorem J0.snoc {B:List Ab}{D R:List Int}{i:Nat}{b:Ab}(h:J0 B D R i)(hk:R[i]?=some b.k)(h1:b.sh<=b.ways.length)(h0:B=[]->b.sh=0)(h2:∀c,B.getLast?=some c->b.sh<=c.ways.length/\b.ways.take b.sh=c.ways.take b.sh)(hw:BM b.ways<=3/\b.ways.length<=6)(hp:b.pl.length=b.ways.length)(lb:∃(k m:Nat),b.k=(k:Int)/\D[k]?=some (m:Int)/\C9 m b.pl (AK b)/\(m=0->b.ways=[])):J0 (B++[b]) D R (i+1):=by
 refine⟨h.st.snoc hk h1 h0 h2 hw hp,fun c hc=>?_⟩
 rcases CA.mp hc with z|z
 .exact h.lf c z
 .rw[CO.mp z];exact lb
def Uq (K:PySem.W.Frag):Sp:=fun vs H Q _=>∃(sc sw lo:Addr) (ns L:List Int) (first:Int) (ws:List B1) (M:Nat),vs=[.ref sc,.int first,.ref sw,.ref lo,.bl true]/\A4 K H sc (ns.map V.int)/\0<=first/\first<=1000/\DT H sw ws/\ws.length<=6/\H lo=some (.lst (L.map V.int))/\L.length<=3/\Bj ws=L.length/\(ws≠[]->L≠[])/\(∀z∈L,0<=z/\z<(M:Int))/\
 ∀(r:Addr) (H':Hp) (ps:List (Int×Int)),Aa H H'->H r=none->DN H' r ps->ps.length=ws.length->(∀p∈ps,G9 M p)->BD ps (ws.map (·.1))=L->Q (.ref r) H'
def Q5 (D:List Int)(b:Ab):Prop := ∃(k m:Nat),b.k=(k:Int)/\D[k]?=some (m:Int)/\C9 m b.pl (AK b)/\(m=0->b.ways=[])
structure E1 (B:List Ab)(D:List Int):Prop where
 lv:GL B
 ks:(B.map (·.k)).Perm (BB D.length)
 lf:∀b∈B,Q5 D b
def Si (K:PySem.W.Frag):Sp:=fun vs H Q _=>∃(sc dl wl:Addr) (ns D:List Int) (first:Int),vs=[.ref sc,.int first,.ref dl,.ref wl,.bl true]/\A4 K H sc (ns.map V.int)/\0<=first/\first<=100/\H dl=some (.lst (D.map V.int))/\H wl=some (.lst GK)/\(∀d∈D,0<=d/\d<=3)/\0<D.length/\D.length<=6/\
 ∀(r:Addr) (H':Hp) (B:List Ab),Aa H H'->DE H' r B->E1 B D->B.length=D.length->Q (.ref r) H'
def IB (w:B1):Tr:=.tup [.v (.bl w.1),.v (.str w.2)]
def Gs (p:Int×Int):Tr:=.tup [.v (.int p.1),.v (.int p.2)]
def IJ (b:Ab):Tr:=.tup [.v (.int b.k),.v (.int (b.sh:Int)),.lst (b.ways.map IB),.tup (b.pl.map Gs)]
theorem Nz {K:PySem.W.Frag}{H:Hp}:∀{xs:List V} {ws:List B1},As (DV H) xs ws->C7 K H xs (ws.map IB)
 |[],[],_=>.nil
 |[],_::_,h=>by have:=h.1;cases this
 |_::_,[],h=>by have:=h.1;cases this
 |
  x::xs,w::ws,h=>by
  obtain⟨t,rfl,ht⟩:=h.2 0 x w rfl rfl
  exact .cons (.tup (A9.of ht) (.cons (.flat rfl) (.cons (.flat rfl) .nil))) (Nz ⟨by have:=h.1;simpa using this,fun i y l h1 h2=>h.2 (i+1) y l h1 h2⟩)
theorem L9 {K:PySem.W.Frag}{H:Hp}:∀{xs:List V} {ps:List (Int×Int)},As (Er H) xs ps->C7 K H xs (ps.map Gs)
 |[],[],_=>.nil
 |[],_::_,h=>by have:=h.1;cases this
 |_::_,[],h=>by have:=h.1;cases this
 |
  x::xs,w::ws,h=>by
  obtain⟨t,rfl,ht⟩:=h.2 0 x w rfl rfl
  exact .cons (.tup (A9.of ht) (.cons (.flat rfl) (.cons (.flat rfl) .nil))) (L9 ⟨by have:=h.1;simpa using this,fun i y l h1 h2=>h.2 (i+1) y l h1 h2⟩)
theorem OG {K:PySem.W.Frag}{H:Hp}:∀{xs:List V} {B:List Ab},As (F4 H) xs B->C7 K H xs (B.map IJ)
 |[],[],_=>.nil
 |[],_::_,h=>by have:=h.1;cases this
 |_::_,[],h=>by have:=h.1;cases this
 |
  x::xs,b::B,h=>by
  obtain⟨t,w,p,rfl,ht,⟨wx,hw,aw⟩,⟨px,hp,ap⟩⟩:=h.2 0 x b rfl rfl
  exact .cons (.tup (A9.of ht) (.cons (.flat rfl) (.cons (.flat rfl) (.cons (.lst (A4.of hw) (Nz aw)) (.cons (.tup (A9.of hp) (L9 ap)) .nil))))) (OG ⟨by have:=h.1;simpa using this,fun i y l h1 h2=>h.2 (i+1) y l h1 h2⟩)
theorem N1:∀ws:List B1,BJ (ws.map IB)<=1
 |[]=>by rw[Gd,BJ];decide
 |
  w::ws=>by
  have:=N1 ws
  rw[C1,BJ]
  have:Bu (IB w)<=1:=by show Bu (.tup [.v _,.v _])<=1;simp[Bu,BJ]
  omega
theorem LB:∀ps:List (Int×Int),BJ (ps.map Gs)<=1
 |[]=>by rw[Gd,BJ];decide
 |
  w::ws=>by
  have:=LB ws
  rw[C1,BJ]
  have:Bu (Gs w)<=1:=by show Bu (.tup [.v _,.v _])<=1;simp[Bu,BJ]
  omega
theorem Nr:∀B:List Ab,BJ (B.map IJ)<=3
 |[]=>by rw[Gd,BJ];decide
 |
  b::B=>by
  have:=Nr B
  rw[C1,BJ]
  have h1:=N1 b.ways
  have h2:=LB b.pl
  have:Bu (IJ b)<=3:=by
   show Bu (.tup [.v _,.v _,.lst (b.ways.map IB),.tup (b.pl.map Gs)])<=3
   simp only[Bu,BJ]
   omega
  omega
theorem UQ {K:PySem.W.Frag}{H:Hp}{p z:Addr}{xs:List V}{B:List Ab}{neg:Bool}{Q:VK}(hp:H p=some (.lst xs))(ax:As (F4 H) xs B)(hz:H z=some (.lst []))(h:Q (.bl (if neg then !B.isEmpty else B.isEmpty)) H):FG K neg (.ref p) (.ref z) H Q:=by
 refine⟨.lst (B.map IJ),.lst [],.lst (A4.of hp) (OG ax),.lst (A4.of hz) .nil,⟨_,rfl⟩,⟨_,rfl⟩,by rw[Ci];cases B<;>rfl,by rw[Bu];have:=Nr B;omega,?_⟩
 have e:Br (.lst (B.map IJ)) (.lst [])=B.isEmpty:=by
  rw[Br]
  cases B with
  |nil=>rfl
  |cons b B=>rw[C1,GU (by simp)];rfl
 rw[e]
 exact h
def Iw (C:List Ab)(s:Nat):List Ab:=match C with
 |[]=>[]
 |c::C=>⟨c.k,min c.sh s,c.ways,c.pl⟩::C
theorem OA (C:List Ab)(s:Nat):(Iw C s).length=C.length:=by cases C<;>rfl
def FS (B:List Ab)(n s:Nat):List Ab:=B.take n++Iw (B.drop (n+1)) s
def Sl:Sp:=fun vs H Q _=>∃(l:Addr) (n:Nat) (B:List Ab) (b:Ab),vs=[.ref l,.int (n:Int)]/\DE H l B/\B[n]?=some b/\B.length<=10/\∀(r:Addr) (H':Hp),Aa H H'->DE H' r (FS B n b.sh)->Q (.ref r) H'
def Pg:Sp:=fun vs H Q _=>∃(x:V) (b:Ab) (m:Nat) (kind at' much:Int),vs=[x,.int (m:Int),.int kind,.int at',.int much]/\F4 H x b/\C9 m b.pl (AK b)/\m<=3/\(kind=3\/kind=4\/kind=5\/kind=6\/kind=7\/kind=12\/kind=13)/\0<=at'/\0<=much/\(∀H',Aa H H'->Q .non H')/\∀(r:Addr) (H':Hp) (ps:List (Int×Int)),Aa H H'->DN H' r ps->ps.length<=7->(C9 m ps (AK b)↔11<kind)->Q (.ref r) H'
end L2
namespace L2
open PySem PySem.Spec PyProof.Rows
def Az {α:Type}(ps:List α)(e:Nat)(p:α):List α:=ps.take e++[p]++ps.drop (e+1)
theorem EM {α:Type}{ps:List α}{e:Nat}{p:α}(h:e<ps.length):(Az ps e p).length=ps.length:=by
 unfold Az;rw[Ap,Ap,Ar,Ck,Au];omega
theorem F7 {α:Type}{ps:List α}{e:Nat}{p:α}(h:e<ps.length):(Az ps e p)[e]?=some p:=by
 have tl:(ps.take e).length=e:=by rw[Ar];omega
 unfold Az
 rw[CV,BQ (by omega),tl,DJ];rfl
theorem Fh {α:Type}{ps:List α}{e i:Nat}{p:α}(h:e<ps.length)(hi:i≠e):(Az ps e p)[i]?=ps[i]?:=by
 have tl:(ps.take e).length=e:=by rw[Ar];omega
 unfold Az
 rcases FM i e with z|z
 .rw[CV,C2 (by omega),Dy z]
 .rw[BQ (by rw[Ap,tl,Au];omega),Ap,tl,Au,FL]
  congr 1
  omega
theorem Fp {α:Type}{ps:List α}{e:Nat}{p q:α}(h:q∈Az ps e p):q=p\/q∈ps:=by
 rcases CA.mp h with z|z
 .rcases CA.mp z with z|z
  .exact .inr (LX z)
  .exact .inl (CO.mp z)
 .exact .inr (LW z)
theorem KR {α:Type}{ps:List α}{e:Nat}{p:α}:p∈Az ps e p:=Fl _ (CM _ Cb)
def Bp (cs:List Bool):List Nat:=(List.range cs.length).filter fun x=>!(cs.getD x false)
theorem Tv (cs:List Bool)(c:Bool):Bp (cs++[c])=Bp cs++(if c then[] else[cs.length]):=by
 unfold Bp
 rw[Ap,Au,LU,List.filter_append]
 congr 1
 .refine List.filter_congr fun x hx=>?_
  have:=ER.mp hx
  rw[Cc,Cc,C2 this]
 .have:(cs++[c]).getD cs.length false=c:=by rw[Cc,BQ (Ak _),DJ];rfl
  rw[List.filter_cons,this]
  cases c<;>rfl
theorem Kj {cs:List Bool}{x:Nat}(h:x∈Bp cs):x<cs.length:=ER.mp (LP.mp h).1
theorem RA {cs:List Bool}{x:Nat}(h:x∈Bp cs):cs.getD x false=false:=by
 have:=(LP.mp h).2
 cases e:cs.getD x false with
 |false=>rfl
 |true=>rw[e]at this;cases this
theorem SO (cs:List Bool):(Bp cs).Nodup:=(P5).sublist List.filter_sublist
theorem J2:∀(n:Nat) (pl:List (Int×Int)) (cs:List Bool),cs.length=n->pl.length=cs.length->BD pl cs=(Bp cs).map fun x=>(pl.getD x (0,0)).1
 |
  0,pl,cs,h1,h2=>by
  have e1:cs=[]:=LZ h1
  have e2:pl=[]:=LZ (by omega)
  subst e1 e2
  rfl
 |
  n+1,pl,cs,h1,h2=>by
  have hc:cs≠[]:=fun z=>by rw[z]at h1;cases h1
  have hp:pl≠[]:=fun z=>by rw[z,h1]at h2;cases h2
  obtain⟨cs',c,rfl⟩:∃cs' c,cs=cs'++[c]:=⟨cs.dropLast,cs.getLast hc,(OZ hc).symm⟩
  obtain⟨pl',p,rfl⟩:∃pl' p,pl=pl'++[p]:=⟨pl.dropLast,pl.getLast hp,(OZ hp).symm⟩
  rw[Ap,Au]at h1
  rw[Ap,Ap,Au,Au]at h2
  have ih:=J2 n pl' cs' (by omega) (by omega)
  rw[IK _ _ _ _ (by omega),ih,Tv,B8]
  congr 1
  .refine LV fun x hx=>?_
   have:=Kj hx
   rw[Cc,Cc,C2 (by omega)]
  .cases c with
   |true=>rfl
   |
    false=>
    show[p.1]=[((pl'++[p]).getD cs'.length (0,0)).1]
    rw[Cc,BQ (by omega),show cs'.length-pl'.length=0 by omega]
    rfl
theorem OL (n:Nat):(BB n).Nodup:=by
 unfold BB
 refine P4.mpr ((P5).imp fun h z=>h ?_)
 omega
theorem KF {m:Nat}{ps:List (Int×Int)}{cs:List Bool}(h:C9 m ps cs){e:Nat}{p:Int×Int}(he:e<ps.length)(hp:G9 m p)(hs:cs.getD e false=false->p.1=(ps.getD e (0,0)).1):C9 m (Az ps e p) cs:=by
 obtain⟨h1,h2,h3,h4⟩:=h
 refine⟨by rw[EM he];exact h1,by rw[EM he];exact h2,fun q hq=>?_,?_⟩
 .rcases Fp hq with rfl|z
  .exact hp
  .exact h3 q z
 .rw[J2 _ _ _ rfl (by rw[EM he];exact h1)]
  rw[J2 _ _ _ rfl h1]at h4
  have:(Bp cs).map (fun x=>((Az ps e p).getD x (0,0)).1)=(Bp cs).map fun x=>(ps.getD x (0,0)).1:=by
   refine LV fun x hx=>?_
   by_cases c:x=e
   .subst c
    rw[Cc,F7 he]
    exact hs (RA hx)
   .rw[Cc,Cc,Fh he c]
  rw[this]
  exact h4
theorem MM {m:Nat}{ps:List (Int×Int)}{cs:List Bool}{e:Nat}{p:Int×Int}(hp:¬G9 m p):¬C9 m (Az ps e p) cs:=fun h=>hp (h.2.2.1 p KR)
theorem Np {m:Nat}{ps qs:List (Int×Int)}{cs:List Bool}(h:C9 m ps cs)(hl:qs.length≠ps.length):¬C9 m qs cs:=fun z=>hl (z.1.trans h.1.symm)
theorem Rp {m:Nat}{ps:List (Int×Int)}{cs:List Bool}(h:C9 m ps cs){i j e f:Nat}{p:Int×Int}(hi:(Bp cs)[i]?=some e)(hj:(Bp cs)[j]?=some f)(ij:i≠j)(hp:p.1=(ps.getD f (0,0)).1):¬C9 m (Az ps e p) cs:=fun z=>by
 have he:e<ps.length:=by rw[h.1];exact Kj (Bf hi)
 have nd:=SO cs
 have fe:f≠e:=fun y=>by
  obtain⟨li,ei⟩:=Ay.mp hi
  obtain⟨lj,ej⟩:=Ay.mp hj
  rcases P6 ij with w|w
  .exact IV.mp nd i j li lj w (by rw[ei,ej,y])
  .exact IV.mp nd j i lj li w (by rw[ei,ej,y])
 have pm:=z.2.2.2
 rw[J2 _ _ _ rfl (by rw[EM he];exact h.1)]at pm
 have nd2:=pm.nodup_iff.mpr (OL m)
 have gi:((Bp cs).map fun x=>((Az ps e p).getD x (0,0)).1)[i]?=some p.1:=by
  rw[C3,hi]
  show some ((Az ps e p).getD e (0,0)).1=_
  rw[Cc,F7 he];rfl
 have gj:((Bp cs).map fun x=>((Az ps e p).getD x (0,0)).1)[j]?=some p.1:=by
  rw[C3,hj]
  show some ((Az ps e p).getD f (0,0)).1=_
  rw[Cc,Fh he fe,hp,Cc]
 obtain⟨li,ei⟩:=Ay.mp gi
 obtain⟨lj,ej⟩:=Ay.mp gj
 rcases P6 ij with w|w
 .exact IV.mp nd2 i j li lj w (by rw[ei,ej])
 .exact IV.mp nd2 j i lj li w (by rw[ei,ej])
end L2
namespace L2
open PySem PySem.Spec PyProof.Rows
def F9 (D:List Int)(B:List Ab):Prop:=(B.map (·.k)).Perm (BB D.length)/\∀b∈B,∀(k m:Nat),b.k=(k:Int)->D[k]?=some (m:Int)->C9 m b.pl (AK b)
theorem Jy {B:List Ab}{D:List Int}(h:E1 B D):F9 D B:=by
 refine⟨h.ks,fun b hb k m hk hm=>?_⟩
 obtain⟨k',m',e1,e2,w,_⟩:=h.lf b hb
 have:k=k':=by omega
 subst this
 rw[e2]at hm
 have:m=m':=by have:=Dx hm;omega
 subst this
 exact w
theorem Ju:∀(B:List Ab) (prev:List B1),(Ce prev B).map (·.k)=B.map (·.k)
 |[],_=>rfl
 |
  b::B,prev=>by
  show b.k::(Ce _ B).map (·.k)=b.k::B.map (·.k)
  rw[Ju B]
theorem Ml:∀(B:List Ab) (prev:List B1),Fo.Ok B->(∀b,B.head?=some b->prev.take b.sh=b.ways.take b.sh)->Ce prev B=B
 |[],_,_,_=>rfl
 |
  b::B,prev,ok,hh=>by
  have e:prev.take b.sh++b.ways.drop b.sh=b.ways:=by rw[hh b rfl,Gj]
  show(⟨b.k,b.sh,prev.take b.sh++b.ways.drop b.sh,b.pl⟩:Ab)::Ce (prev.take b.sh++b.ways.drop b.sh) B=b::B
  rw[e,Ml B b.ways (Fo.Ok.right (A:=[b]) ok) fun c hc=>?_]
  cases B with
  |nil=>cases hc
  |cons c' B=>cases hc;exact((ok.ln 0 b c rfl rfl).2).symm
theorem Kw {B:List Ab}(ok:Fo.Ok B)(h0:∀b,B.head?=some b->b.sh=0):Ce [] B=B:=Ml B [] ok fun b hb=>by rw[h0 b hb];rfl
theorem LL {D:List Int}{B:List Ab}(h:B.length≠D.length):¬F9 D (Ce [] B):=fun z=>by
 have:=z.1.length_eq
 rw[Ju,Al,Il]at this
 exact h this
theorem Sj {D:List Int}{B:List Ab}{k:Nat}(hk:k<D.length)(h:(k:Int)∉B.map (·.k)):¬F9 D (Ce [] B):=fun z=>by
 refine h ?_
 have:=z.1
 rw[Ju]at this
 refine this.symm.subset ?_
 unfold BB
 exact C4.mpr ⟨k,ER.mpr hk,rfl⟩
structure Ef (D:List Int)(kind:Int)(B':List Ab):Prop where
 ok:CK B'
 hd:∀b,B'.head?=some b->b.sh=0
 len:B'.length<=7
 way:∀b∈B',b.ways.length<=6/\b.pl.length<=7
 fit:F9 D (Ce [] B')↔11<kind
theorem ED {B:List Ab}(h:Fo.Ok B):CK B:=⟨h.sh,fun i b c hb hc=>(h.ln i b c hb hc).1⟩
theorem NH {B:List Ab}(ok:Fo.Ok B){n:Nat}{b:Ab}{x:Ab}(hb:B[n]?=some b)(hs:x.sh=b.sh)(hw:x.ways=b.ways):Fo.Ok (Az B n x):=by
 have nl:=(Ay.mp hb).1
 have at_:∀(i:Nat) (c:Ab),(Az B n x)[i]?=some c->∃c':Ab,B[i]?=some c'/\c.sh=c'.sh/\c.ways=c'.ways:=fun i c hc=>by
  by_cases z:i=n
  .subst z
   rw[F7 nl]at hc
   cases hc
   exact⟨b,hb,hs,hw⟩
  .rw[Fh nl z]at hc
   exact⟨c,hc,rfl,rfl⟩
 refine⟨fun c hc=>?_,fun i c d hc hd=>?_⟩
 .obtain⟨i,hi,e⟩:=FJ.mp hc
  obtain⟨c',h1,h2,h3⟩:=at_ i c (by rw[AH hi,e])
  rw[h2,h3]
  exact ok.sh c' (Bf h1)
 .obtain⟨c',h1,h2,h3⟩:=at_ i c hc
  obtain⟨d',g1,g2,g3⟩:=at_ (i+1) d hd
  rw[g2,g3,h3]
  exact ok.ln i c' d' h1 g1
theorem Jt {B:List Ab}{n:Nat}{b x:Ab}(hb:B[n]?=some b)(hs:x.sh=b.sh)(h0:∀b,B.head?=some b->b.sh=0):∀c,(Az B n x).head?=some c->c.sh=0:=fun c hc=>by
 have nl:=(Ay.mp hb).1
 rw[EU]at hc
 by_cases z:n=0
 .subst z
  rw[F7 nl]at hc
  cases hc
  rw[hs]
  exact h0 b (by rw[EU];exact hb)
 .rw[Fh nl (fun y=>z y.symm)]at hc
  exact h0 c (by rw[EU];exact hc)
theorem T9 {B:List Ab}{D:List Int}(h:E1 B D){n:Nat}{b:Ab}{ps:List (Int×Int)}{kind:Int}{k m:Nat}(hb:B[n]?=some b)(hk:b.k=(k:Int))(hm:D[k]?=some (m:Int))(hp:ps.length<=7)(hw:C9 m ps (AK b)↔11<kind):Ef D kind (Az B n ⟨b.k,b.sh,b.ways,ps⟩):=by
 have nl:=(Ay.mp hb).1
 have ok:=NH (x:=⟨b.k,b.sh,b.ways,ps⟩) h.lv.ok hb rfl rfl
 have h0:=Jt (x:=⟨b.k,b.sh,b.ways,ps⟩) hb rfl h.lv.fst
 have fb:=Jy h
 have ks:(Az B n ⟨b.k,b.sh,b.ways,ps⟩).map (·.k)=B.map (·.k):=by
  refine List.ext_getElem? fun i=>?_
  rw[C3,C3]
  by_cases z:i=n
  .subst z;rw[F7 nl,hb];rfl
  .rw[Fh nl z]
 refine⟨ED ok,h0,by rw[EM nl];have:=h.lv.len;omega,fun c hc=>?_,?_⟩
 .rcases Fp hc with rfl|z
  .exact⟨h.lv.way b (Bf hb),hp⟩
  .have:=h.lv.way c z
   have:=h.lv.pll c z
   omega
 .rw[Kw ok h0]
  refine⟨fun z=>hw.mp (z.2 _ KR k m hk hm),fun z=>⟨by rw[ks];exact h.ks,fun c hc k' m' hk' hm'=>?_⟩⟩
  rcases Fp hc with rfl|y
  .have:k=k':=by
    have hk':b.k=(k':Int):=hk'
    omega
   subst this
   rw[hm]at hm'
   have:m=m':=by have:=Dx hm';omega
   subst this
   exact hw.mpr z
  .exact fb.2 c y k' m' hk' hm'
theorem IA {B':List Ab}{D:List Int}{kind:Int}(hk:¬11<kind)(ok:CK B')(h0:∀b,B'.head?=some b->b.sh=0)(hl:B'.length<=7)(hw:∀b∈B',b.ways.length<=6/\b.pl.length<=7)(hn:¬F9 D (Ce [] B')):Ef D kind B':=⟨ok,h0,hl,hw,⟨fun z=>absurd z hn,fun z=>absurd z hk⟩⟩
theorem Dv {B:List Ab}{D:List Int}(h:E1 B D):∀b∈B,b.ways.length<=6/\b.pl.length<=7:=fun b hb=>by
 have:=h.lv.way b hb
 have:=h.lv.pll b hb
 omega
theorem Tf {B:List Ab}{D:List Int}(h:E1 B D)(hl:B.length=D.length){n:Nat}{b:Ab}(hb:B[n]?=some b):Ef D 1 (B++[⟨b.k,0,b.ways,b.pl⟩]):=by
 have bm:=Bf hb
 refine IA (by decide) ⟨fun c hc=>?_,fun i c d hc hd=>?_⟩ (fun c hc=>?_) (by rw[Ap];have:=h.lv.len;exact LR this) (fun c hc=>?_) (LL (by rw[Ap,Au];omega))
 .rcases CA.mp hc with z|z
  .exact h.lv.ok.sh c z
  .rw[CO.mp z];exact BP _
 .have l:=(Ay.mp hd).1
  rw[Ap,Au]at l
  rcases FM (i+1) B.length with z|z
  .rw[C2 z]at hd
   rw[C2 (by omega)]at hc
   exact(h.lv.ok.ln i c d hc hd).1
  .rw[BQ z,show i+1-B.length=0 by omega]at hd
   cases hd
   exact BP _
 .cases B with
  |nil=>cases hb
  |cons a B=>cases hc;exact h.lv.fst c rfl
 .rcases CA.mp hc with z|z
  .exact Dv h c z
  .rw[CO.mp z];exact Dv h b bm
theorem R8 {B:List Ab}{D:List Int}(h:E1 B D)(hl:B.length=D.length){n:Nat}{b:Ab}(hb:B[n]?=some b):Ef D 2 (B.take (n+1)++[⟨b.k,b.ways.length,b.ways,b.pl⟩]++B.drop (n+1)):=by
 have bm:=Bf hb
 have nl:=(Ay.mp hb).1
 have tl:(B.take (n+1)).length=n+1:=by rw[Ar];omega
 have ln:(B.take (n+1)++[(⟨b.k,b.ways.length,b.ways,b.pl⟩:Ab)]++B.drop (n+1)).length=B.length+1:=by
  rw[Ap,Ap,tl,Ck,Au];omega
 have at_:∀(i:Nat),(B.take (n+1)++[(⟨b.k,b.ways.length,b.ways,b.pl⟩:Ab)]++B.drop (n+1))[i]?=if i<=n then B[i]? else if i=n+1 then some ⟨b.k,b.ways.length,b.ways,b.pl⟩ else B[i-1]?:=fun i=>by
  by_cases c1:i<=n
  .rw[AW c1,CV,C2 (by omega),Dy (by omega)]
  .rw[AQ c1]
   by_cases c2:i=n+1
   .rw[AW c2,CV,BQ (by omega),tl,c2,DJ];rfl
   .rw[AQ c2,BQ (by rw[Ap,tl,Au];omega),Ap,tl,Au,FL]
    congr 1
    omega
 have mem:∀c∈B.take (n+1)++[(⟨b.k,b.ways.length,b.ways,b.pl⟩:Ab)]++B.drop (n+1),c∈B\/c=⟨b.k,b.ways.length,b.ways,b.pl⟩:=fun c hc=>by
  rcases CA.mp hc with z|z
  .rcases CA.mp z with z|z
   .exact .inl (LX z)
   .exact .inr (CO.mp z)
  .exact .inl (LW z)
 refine IA (by decide) ⟨fun c hc=>?_,fun i c d hc hd=>?_⟩ (fun c hc=>?_) (by rw[ln];have:=h.lv.len;omega) (fun c hc=>?_) (LL (by rw[ln];omega))
 .rcases mem c hc with z|rfl
  .exact h.lv.ok.sh c z
  .exact Ak _
 .rw[at_]at hc hd
  by_cases c1:i+1<=n
  .rw[AW c1]at hd
   rw[AW (by omega)]at hc
   exact(h.lv.ok.ln i c d hc hd).1
  .rw[AQ c1]at hd
   by_cases c2:i+1=n+1
   .rw[AW c2]at hd
    cases hd
    rw[AW (by omega),show i=n by omega,hb]at hc
    cases hc
    exact Ak _
   .rw[AQ c2,Nat.add_sub_cancel]at hd
    by_cases c3:i=n+1
    .rw[AQ (by omega),AW c3]at hc
     cases hc
     subst c3
     exact(h.lv.ok.ln n b d hb hd).1
    .rw[AQ (by omega),AQ c3]at hc
     exact(h.lv.ok.ln (i-1) c d hc (by rw[show i-1+1=i by omega];exact hd)).1
 .rw[EU,at_,AW (BP _)]at hc
  exact h.lv.fst c (by rw[EU];exact hc)
 .rcases mem c hc with z|rfl
  .exact Dv h c z
  .exact Dv h b bm
theorem V2 {B:List Ab}{D:List Int}(h:E1 B D){n:Nat}{b:Ab}{k':Int}(hb:B[n]?=some b)(hk:k'≠b.k):Ef D 8 (Az B n ⟨k',b.sh,b.ways,b.pl⟩):=by
 have bm:=Bf hb
 have nl:=(Ay.mp hb).1
 have ok:=NH (x:=⟨k',b.sh,b.ways,b.pl⟩) h.lv.ok hb rfl rfl
 have h0:=Jt (x:=⟨k',b.sh,b.ways,b.pl⟩) hb rfl h.lv.fst
 obtain⟨k,m,e1,e2,_,_⟩:=h.lf b bm
 have kl:=(Ay.mp e2).1
 have nd:(B.map (·.k)).Nodup:=h.ks.nodup_iff.mpr (OL _)
 refine IA (by decide) (ED ok) h0 (by rw[EM nl];have:=h.lv.len;omega) (fun c hc=>?_) (Sj kl fun z=>?_)
 .rcases Fp hc with rfl|z
  .exact Dv h b bm
  .exact Dv h c z
 .obtain⟨c,hc,ec⟩:=C4.mp z
  obtain⟨i,hi,e⟩:=FJ.mp hc
  have hc':(Az B n ⟨k',b.sh,b.ways,b.pl⟩)[i]?=some c:=by rw[AH hi,e]
  by_cases y:i=n
  .subst y
   rw[F7 nl]at hc'
   cases hc'
   exact hk (ec.trans e1.symm)
  .rw[Fh nl y]at hc'
   obtain⟨li,ei⟩:=Ay.mp hc'
   obtain⟨ln,en⟩:=Ay.mp hb
   have eq:(B.map (·.k))[i]'(by rw[Al];exact li)=(B.map (·.k))[n]'(by rw[Al];exact ln):=by
    rw[List.getElem_map,List.getElem_map,ei,en,ec,e1]
   rcases P6 y with w|w
   .exact IV.mp nd i n _ _ w eq
   .exact IV.mp nd n i _ _ w eq.symm
theorem UT {B:List Ab}{D:List Int}{kind:Int}(hkd:¬11<kind)(h:E1 B D)(hl:B.length=D.length){n:Nat}{b:Ab}(hb:B[n]?=some b):Ef D kind (FS B n b.sh):=by
 have bm:=Bf hb
 have nl:=(Ay.mp hb).1
 have tl:(B.take n).length=n:=by rw[Ar];omega
 have ln:(FS B n b.sh).length=B.length-1:=by
  unfold FS
  rw[Ap,tl,OA,Ck];omega
 have wT:∀(i:Nat) (c:Ab),(Iw (B.drop (n+1)) b.sh)[i]?=some c->∃c',B[n+1+i]?=some c'/\c.ways=c'.ways/\c.pl=c'.pl/\c.sh<=c'.sh/\(i=0->c.sh<=b.sh)/\(i≠0->c=c'):=fun i c hc=>by
  have hd:∀j:Nat,(B.drop (n+1))[j]?=B[n+1+j]?:=fun j=>by rw[FL]
  cases hD:B.drop (n+1) with
  |nil=>rw[hD]at hc;cases hc
  |
   cons d C=>
   rw[hD]at hc hd
   cases i with
   |
    zero=>
    cases hc
    exact⟨d,(hd 0).symm,rfl,rfl,Nat.min_le_left _ _,fun _=>Nat.min_le_right _ _,fun z=>absurd rfl z⟩
   |succ i=>exact⟨c,by rw[←hd (i+1)];exact hc,rfl,rfl,Ak _,fun z=>(by cases z),fun _=>rfl⟩
 have at_:∀(i:Nat) (c:Ab),(FS B n b.sh)[i]?=some c->(i<n/\B[i]?=some c)\/(n<=i/\(Iw (B.drop (n+1)) b.sh)[i-n]?=some c):=fun i c hc=>by
  unfold FS at hc
  rcases FM i n with z|z
  .rw[C2 (by omega),Dy z]at hc
   exact .inl ⟨z,hc⟩
  .rw[BQ (by omega),tl]at hc
   exact .inr ⟨z,hc⟩
 have mem:∀c∈FS B n b.sh,∃c'∈B,c.ways=c'.ways/\c.pl=c'.pl/\c.sh<=c'.sh:=fun c hc=>by
  obtain⟨i,hi,e⟩:=FJ.mp hc
  rcases at_ i c (by rw[AH hi,e]) with⟨_,z⟩|⟨_,z⟩
  .exact⟨c,Bf z,rfl,rfl,Ak _⟩
  .obtain⟨c',h1,h2,h3,h4,_⟩:=wT _ c z
   exact⟨c',Bf h1,h2,h3,h4⟩
 refine IA hkd ⟨fun c hc=>?_,fun i c d hc hd=>?_⟩ (fun c hc=>?_) (by rw[ln];have:=h.lv.len;omega) (fun c hc=>?_) (LL (by rw[ln];omega))
 .obtain⟨c',h1,h2,_,h4⟩:=mem c hc
  have:=h.lv.ok.sh c' h1
  rw[h2]
  omega
 .rcases at_ i c hc with⟨z1,z2⟩|⟨z1,z2⟩
  .rcases at_ (i+1) d hd with⟨y1,y2⟩|⟨y1,y2⟩
   .exact(h.lv.ok.ln i c d z2 y2).1
   .have en:i+1=n:=by omega
    rw[en,DJ]at y2
    obtain⟨d',_,_,_,_,h5,_⟩:=wT 0 d y2
    have:=h5 rfl
    have:=(h.lv.ok.ln i c b z2 (by rw[en];exact hb)).1
    omega
  .rcases at_ (i+1) d hd with⟨y1,y2⟩|⟨y1,y2⟩
   .omega
   .obtain⟨c',h1,h2,_,_,_⟩:=wT _ c z2
    obtain⟨d',g1,g2,_,g4,_⟩:=wT _ d y2
    have:=(h.lv.ok.ln (n+1+(i-n)) c' d' h1 (by rw[show n+1+(i-n)+1=n+1+(i+1-n) by omega];exact g1)).1
    rw[h2]
    omega
 .rw[EU]at hc
  rcases at_ 0 c hc with⟨_,z⟩|⟨z1,z2⟩
  .exact h.lv.fst c (by rw[EU];exact z)
  .have n0:n=0:=by omega
   subst n0
   obtain⟨_,_,_,_,_,h5,_⟩:=wT 0 c z2
   have:=h5 rfl
   have:=h.lv.fst b (by rw[EU];exact hb)
   omega
 .obtain⟨c',h1,h2,h3,_⟩:=mem c hc
  rw[h2,h3]
  exact Dv h c' h1
theorem O9:∀(A:List Ab) (prev:List B1) (a:Ab),Fo.Ok A->(∀b,A.head?=some b->prev.take b.sh=b.ways.take b.sh)->A.getLast?=some a->EZ prev A=a.ways
 |[],_,_,_,_,h=>by cases h
 |
  [b],prev,a,ok,hh,h=>by
  cases h
  show prev.take b.sh++b.ways.drop b.sh=b.ways
  rw[hh b rfl,Gj]
 |
  b::c::A,prev,a,ok,hh,h=>by
  have e:prev.take b.sh++b.ways.drop b.sh=b.ways:=by rw[hh b rfl,Gj]
  show EZ (prev.take b.sh++b.ways.drop b.sh) (c::A)=a.ways
  rw[e]
  refine O9 (c::A) b.ways a (Fo.Ok.right (A:=[b]) ok) (fun d hd=>?_) (by rw[List.getLast?_cons_cons]at h;exact h)
  cases hd
  exact((ok.ln 0 b c rfl rfl).2).symm
theorem Lj:∀(ps:List (Int×Int)) (cs:List Bool),ps.length=cs.length->(BD ps cs).length=cs.countP (fun c=>!c)
 |[],[],_=>rfl
 |[],_::_,h=>by cases h
 |_::_,[],h=>by cases h
 |
  p::ps,c::cs,h=>by
  have ih:=Lj ps cs (by simpa using h)
  show(if c then BD ps cs else p.1::BD ps cs).length=_
  rw[K5]
  cases c with
  |true=>show(BD ps cs).length=_;rw[ih];rfl
  |false=>show(BD ps cs).length+1=_;rw[ih];rfl
theorem T6 {B:List Ab}{D:List Int}(h:E1 B D){n e:Nat}{b:Ab}{wy:B1}(hb:B[n]?=some b)(he:b.sh<=e)(hw:b.ways[e]?=some wy):Ef D 9 (Az B n ⟨b.k,b.sh,Az b.ways e (!wy.1,wy.2),b.pl⟩):=by
 have bm:=Bf hb
 have nl:=(Ay.mp hb).1
 obtain⟨el,ee⟩:=Ay.mp hw
 have wl:(Az b.ways e (!wy.1,wy.2)).length=b.ways.length:=EM el
 have tk:(Az b.ways e (!wy.1,wy.2)).take b.sh=b.ways.take b.sh:=by
  unfold Az
  rw[CV,Gk (by rw[Ar];omega),Gi,Gf he]
 obtain⟨k,m,e1,e2,wp,_⟩:=h.lf b bm
 have h0:=Jt (x:=⟨b.k,b.sh,Az b.ways e (!wy.1,wy.2),b.pl⟩) hb rfl h.lv.fst
 have bad:¬C9 m b.pl ((Az b.ways e (!wy.1,wy.2)).map (·.1)):=fun z=>by
  have c1:=Lj _ _ wp.1
  have c2:=Lj _ _ z.1
  have l1:=wp.2.2.2.length_eq
  have l2:=z.2.2.2.length_eq
  have d1:b.ways=b.ways.take e++[wy]++b.ways.drop (e+1):=by
   rw[CV,List.singleton_append,←ee,←Gh el,Gj]
  have q1:(AK b).countP (fun c=>!c)=((b.ways.take e).map (·.1)).countP (fun c=>!c)+[wy.1].countP (fun c=>!c)+((b.ways.drop (e+1)).map (·.1)).countP (fun c=>!c):=by
   unfold AK
   conv=>lhs;rw[d1]
   rw[B8,B8,Hh,Hh]
   rfl
  have q2:((Az b.ways e (!wy.1,wy.2)).map (·.1)).countP (fun c=>!c)=((b.ways.take e).map (·.1)).countP (fun c=>!c)+[!wy.1].countP (fun c=>!c)+((b.ways.drop (e+1)).map (·.1)).countP (fun c=>!c):=by
   unfold Az
   rw[B8,B8,Hh,Hh]
   rfl
  have q3:[wy.1].countP (fun c=>!c)≠[!wy.1].countP (fun c=>!c):=by cases wy.1<;>decide
  omega
 refine IA (by decide) ⟨fun c hc=>?_,fun i c d hc hd=>?_⟩ h0 (by rw[EM nl];have:=h.lv.len;omega) (fun c hc=>?_) (fun z=>?_)
 .rcases Fp hc with rfl|z
  .show b.sh<=(Az b.ways e (!wy.1,wy.2)).length
   rw[wl];exact h.lv.ok.sh b bm
  .exact h.lv.ok.sh c z
 .have at_:∀(i:Nat) (c:Ab),(Az B n ⟨b.k,b.sh,Az b.ways e (!wy.1,wy.2),b.pl⟩)[i]?=some c->∃c':Ab,B[i]?=some c'/\c.sh=c'.sh/\c.ways.length=c'.ways.length:=fun i c hc=>by
   by_cases z:i=n
   .subst z
    rw[F7 nl]at hc
    cases hc
    exact⟨b,hb,rfl,wl⟩
   .rw[Fh nl z]at hc
    exact⟨c,hc,rfl,rfl⟩
  obtain⟨c',h1,h2,h3⟩:=at_ i c hc
  obtain⟨d',g1,g2,g3⟩:=at_ (i+1) d hd
  rw[g2,h3]
  exact(h.lv.ok.ln i c' d' h1 g1).1
 .rcases Fp hc with rfl|z
  .exact⟨by show(Az b.ways e (!wy.1,wy.2)).length<=6;rw[wl];exact(Dv h b bm).1,(Dv h b bm).2⟩
  .exact Dv h c z
 .have okA:Fo.Ok (B.take n):=by
   have:=h.lv.ok
   rw[←Gj n B]at this
   exact Fo.Ok.left this
  have hA:∀a,(B.take n).head?=some a->([]:List B1).take a.sh=a.ways.take a.sh:=fun a ha=>by
   have:a.sh=0:=h.lv.fst a (by
    cases B with
    |nil=>cases hb
    |
     cons x B=>
     cases n with
     |zero=>cases ha
     |succ n=>exact ha)
   rw[this];rfl
  have hm:(⟨b.k,b.sh,Az b.ways e (!wy.1,wy.2),b.pl⟩:Ab)∈Ce [] (Az B n ⟨b.k,b.sh,Az b.ways e (!wy.1,wy.2),b.pl⟩):=by
   have ew:(EZ [] (B.take n)).take b.sh++(Az b.ways e (!wy.1,wy.2)).drop b.sh=Az b.ways e (!wy.1,wy.2):=by
    have:(EZ [] (B.take n)).take b.sh=(Az b.ways e (!wy.1,wy.2)).take b.sh:=by
     cases n with
     |
      zero=>
      have:b.sh=0:=h.lv.fst b (by rw[EU];exact hb)
      rw[this];rfl
     |
      succ n=>
      have ha:B[n]?=some (B[n]'(by omega)):=AH (by omega)
      generalize B[n]'(by omega)=a at ha
      rw[O9 (B.take (n+1)) [] a okA hA (by rw[Hg,Ar,show min (n+1) B.length-1=n by omega,Dy (by omega)];exact ha),tk]
      exact((h.lv.ok.ln n a b ha hb).2).symm
    rw[this,Gj]
   unfold Az at *
   rw[CV,Lv]
   refine CM _ ?_
   show _∈(⟨b.k,b.sh,(EZ [] (B.take n)).take b.sh++(b.ways.take e++[(!wy.1,wy.2)]++b.ways.drop (e+1)).drop b.sh,b.pl⟩:Ab)::_
   rw[ew]
   exact Cb
  exact bad (z.2 _ hm k m e1 e2)
theorem TB {B:List Ab}{D:List Int}{kind:Int}(hk:11<kind)(h:E1 B D):Ef D kind B:=⟨ED h.lv.ok,h.lv.fst,by have:=h.lv.len;omega,Dv h,⟨fun _=>hk,fun _=>by rw[Kw h.lv.ok h.lv.fst];exact Jy h⟩⟩
def SA:Sp:=fun vs H Q _=>∃(l dl:Addr) (B:List Ab) (D:List Int) (kind:Int) (n:Nat) (at' much:Int),vs=[.ref l,.ref dl,.int kind,.int (n:Int),.int at',.int much]/\DE H l B/\H dl=some (.lst (D.map V.int))/\E1 B D/\(∀d∈D,0<=d/\d<=3)/\B.length=D.length/\n<B.length/\0<=kind/\kind<=13/\kind≠10/\0<=at'/\0<=much/\∀(r:Addr) (H':Hp) (B':List Ab),Aa H H'->DE H' r B'->Ef D kind B'->Q (.ref r) H'
end L2
namespace PySem
open PySem.Spec PyProof.Rows
theorem Tc (l:Addr)(k:Tok)(x:Value)(n:Nat)(dd:Option Addr)(sl:Array (Option Value)) :
  Meets (Builtin.«tuple.__mul__» ⟨[.ref l,.int 7 k],[]⟩) (fun _ R s=>s.heap.get? l=some {cls:=.type "tuple",dict:=dd,data:=.seq #[x] n,slots:=sl}/\R (.ok (.ret (Value.ref s.heap.objs.size))) {s with heap:=s.heap.push {cls:=Value.type "tuple",data:=Data.seq #[x,x,x,x,x,x,x]},toks:=s.toks}):=
 .of_wp fun prog w A R s h=>by obtain⟨hp,g,d,tk,os⟩:=s;obtain⟨hl,h⟩:=h;have f1:=AutoSeq1.idx_int;have f2:=AutoSeq1.sub_tuple_tuple;wp_walk using wpAny_loadPart' hl;exact⟨_,rfl,h⟩
theorem Se (l:Addr)(k:Tok)(x:Value)(n:Nat)(dd:Option Addr)(sl:Array (Option Value)) :
  Meets (Builtin.«tuple.__mul__» ⟨[.ref l,.int 8 k],[]⟩) (fun _ R s=>s.heap.get? l=some {cls:=.type "tuple",dict:=dd,data:=.seq #[x] n,slots:=sl}/\R (.ok (.ret (Value.ref s.heap.objs.size))) {s with heap:=s.heap.push {cls:=Value.type "tuple",data:=Data.seq #[x,x,x,x,x,x,x,x]},toks:=s.toks}):=
 .of_wp fun prog w A R s h=>by obtain⟨hp,g,d,tk,os⟩:=s;obtain⟨hl,h⟩:=h;have f1:=AutoSeq1.idx_int;have f2:=AutoSeq1.sub_tuple_tuple;wp_walk using wpAny_loadPart' hl;exact⟨_,rfl,h⟩
end PySem
namespace L2
open PySem PySem.Spec PyProof.Rows
def T4:R2:=fun x y H Q=>∃(a:Addr) (k:Nat) (v:V),x = .ref a/\y = .int (k:Int)/\H a=some (.tup [v])/\k<=8/\∀(p:Addr) (H':Hp),Aa H H'->H' p=some (.tup (List.replicate k v))->Q (.ref p) H'
theorem Ko {X:Cx}:BE X (binaryOp .Mult) T4:=by
 intro pins s σ H x y v u Q I rx ry h
 obtain⟨a,k,vv,rfl,rfl,ha,h8,q⟩:=h
 rcases FM 6 k with c|c
 rotate_left
 .exact PV pins s σ H _ _ _ _ Q I rx ry ⟨a,k,vv,rfl,rfl,ha,c,q⟩
 cases rx
 obtain⟨t,rfl⟩:=ry
 obtain⟨its,r1,p1,_⟩:=I.tuple (A9.of ha)
 obtain⟨uu,rfl,ru⟩:=Eb r1
 obtain⟨⟨cls,dd,data,sl⟩,ho,hc,n,hd⟩:=id p1
 simp only at hc hd
 subst hc hd
 refine P9 (T:="tuple") (U:="int") (by decide) ⟨_,ho,rfl⟩ (fun s'=>Hl s' (k:Int) t) Mt F.fills_int_mul F.slot_int_rmul NT F.slot_int_index.lookup ?_
 refine D9 F.slot_int_rmul (Hl _ _ _) F.entry_int_rmul (F.args_int_rmul_2 _ _) (NZ (k:Int) t a _ n dd sl) ⟨ho,rfl,⟨_,ho,rfl⟩,?_⟩
 have new:∀(its:List Value),Aq (List.replicate k vv) its->EP X pins σ Q (Value.ref s.heap.objs.size) {s with heap:=s.heap.push {cls:=Value.type "tuple",data:=Data.seq its.toArray},toks:=s.toks}:=fun its r=>
  ⟨.ref s.heap.objs.size,_,I.laid (t':=s.toks) (o:=.tup (List.replicate k vv)) (fun b o e=>Be _ e) (Ak _) ⟨AF (by rw[CN];omega),its,r,DY.new _ _⟩,rfl,q _ _ (A7 (I.hok.fresh (Ak _)) _) A5⟩
 have:k=7\/k=8:=by omega
 rcases this with rfl|rfl
 .exact D9 F.slot_tuple_mul ⟨_,ho,rfl⟩ F.entry_tuple_mul (F.args_tuple_mul_2 _ _) (Tc a t uu n dd sl) ⟨ho,new [uu,uu,uu,uu,uu,uu,uu] (.cons ru (.cons ru (.cons ru (.cons ru (.cons ru (.cons ru (.cons ru .nil)))))))⟩
 .exact D9 F.slot_tuple_mul ⟨_,ho,rfl⟩ F.entry_tuple_mul (F.args_tuple_mul_2 _ _) (Se a t uu n dd sl) ⟨ho,new [uu,uu,uu,uu,uu,uu,uu,uu] (.cons ru (.cons ru (.cons ru (.cons ru (.cons ru (.cons ru (.cons ru (.cons ru .nil))))))))⟩
end L2
namespace L2
open PySem PySem.Spec PyProof.Rows
def Dt (b:Ab)(j:Nat)(w:Str):Ab:=⟨b.k,b.sh,b.ways++List.replicate j (true,w),b.pl++List.replicate j (0,1)⟩
def Pe:Sp:=fun vs H Q _=>∃(l:Addr) (B:List Ab) (b:Ab) (n j:Nat) (w:Str),vs=[.ref l,.int (n:Int),.int ((b.ways.length+j:Nat):Int),.str w]/\DE H l B/\B[n]?=some b/\B.length<=6/\b.ways.length<=6/\b.pl.length<=6/\j<=8/\∀(r:Addr) (H':Hp),Aa H H'->DE H' r (Az B n (Dt b j w))->Q (.ref r) H'
theorem MK:∀(j:Nat) (ps:List (Int×Int)) (cs:List Bool),ps.length=cs.length->BD (ps++List.replicate j (0,1)) (cs++List.replicate j true)=BD ps cs
 |0,ps,cs,h=>by rw[List.replicate_zero,List.replicate_zero,EA,EA]
 |
  j+1,ps,cs,h=>by
  have l:(ps++List.replicate j ((0,1):Int×Int)).length=(cs++List.replicate j true).length:=by rw[Ap,Ap,CN,CN,h]
  rw[List.replicate_succ',List.replicate_succ',←CV,←CV,IK _ _ _ _ l,MK j ps cs h]
  show BD ps cs++[]=_
  rw[EA]
theorem MV {m j:Nat}{b:Ab}{w:Str}(h:C9 m b.pl (AK b))(hm:0<m):C9 m (Dt b j w).pl (AK (Dt b j w))↔b.pl.length+j<=6:=by
 have ec:AK (Dt b j w)=AK b++List.replicate j true:=by
  show(b.ways++List.replicate j (true,w)).map (·.1)=_
  rw[B8,List.map_replicate]
  rfl
 have ep:(Dt b j w).pl=b.pl++List.replicate j (0,1):=rfl
 have lp:(b.pl++List.replicate j ((0,1):Int×Int)).length=b.pl.length+j:=by rw[Ap,CN]
 rw[ec,ep]
 refine⟨fun z=>by have:=z.2.1;rw[lp]at this;exact this,fun z=>⟨by rw[lp,Ap,CN,h.1],by rw[lp];exact z,fun p hp=>?_,by rw[MK j _ _ h.1];exact h.2.2.2⟩⟩
 rcases CA.mp hp with y|y
 .exact h.2.2.1 p y
 .rw[(K6.mp y).2]
  exact⟨by decide,by show(0:Int)<m;omega,by decide,by decide⟩
end L2
namespace L2
open PySem PySem.Spec PyProof.Rows
def BR:Ac->Nat->(Ac->Ac)->Ac
 |f,0,mk=>mk f
 |.leaf k pl r,i+1,mk=>.leaf k pl (BR r i mk)
 |.node c w s r,i+1,mk=>.node c w s (BR r i mk)
 |.nil,_+1,mk=>mk .nil
def DB:Ac->Nat->Ac->Ac
 |.node c w _ r,0,g=>.node c w g r
 |.leaf k pl r,i+1,g=>.leaf k pl (DB r i g)
 |.node c w s r,i+1,g=>.node c w s (DB r i g)
 |f,_,_=>f
theorem JW {H:Hp}{y:V}{mk:Ac->Ac}(hy:∀ys g,AI H ys g->AI H (y::ys) (mk g)):∀(f:Ac) (xs:List V) (i:Nat),AI H xs f->i<=xs.length->AI H (xs.take i++[y]++xs.drop i) (BR f i mk)
 |
  f,xs,0,h,_=>by
  have:BR f 0 mk=mk f:=by cases f<;>rfl
  rw[this]
  exact hy xs f h
 |
  .nil,xs,i+1,h,hi=>by
  have h:xs=[]:=h
  subst h
  exact absurd hi (M0 _)
 |
  .leaf k pl r,xs,i+1,h,hi=>by
  obtain⟨t,p,ys,rfl,h0,h1,h2⟩:=h
  exact⟨t,p,_,rfl,h0,h1,JW hy r ys i h2 (by rw[B5]at hi;omega)⟩
 |
  .node c w s r,xs,i+1,h,hi=>by
  obtain⟨t,p,zs,ys,rfl,h0,h1,h2,h3⟩:=h
  exact⟨t,p,zs,_,rfl,h0,h1,h2,JW hy r ys i h3 (by rw[B5]at hi;omega)⟩
theorem Kn {H:Hp}{y:V}{s':Ac}:∀(f:Ac) (xs:List V) (i:Nat) {c:Bool} {w:Str} {s:Ac},AI H xs f->Fo.itm f i=some (.sweep c w s)->(∀ys g,AI H ys g->AI H (y::ys) (.node c w s' g))->AI H (xs.take i++[y]++xs.drop (i+1)) (DB f i s')
 |.nil,xs,i,c,w,s,h,e,_=>by cases i<;>cases e
 |.leaf k pl r,xs,0,c,w,s,h,e,_=>by cases e
 |
  .leaf k pl r,xs,i+1,c,w,s,h,e,hy=>by
  obtain⟨t,p,ys,rfl,h0,h1,h2⟩:=h
  exact⟨t,p,_,rfl,h0,h1,Kn r ys i h2 e hy⟩
 |
  .node c' w' s0 r,xs,0,c,w,s,h,e,hy=>by
  obtain⟨t,p,zs,ys,rfl,h0,h1,h2,h3⟩:=h
  cases e
  exact hy ys r h3
 |
  .node c' w' s0 r,xs,i+1,c,w,s,h,e,hy=>by
  obtain⟨t,p,zs,ys,rfl,h0,h1,h2,h3⟩:=h
  exact⟨t,p,zs,_,rfl,h0,h1,h2,Kn r ys i h3 e hy⟩
theorem Ky {H:Hp}:∀(f:Ac) (xs:List V) (i:Nat) {c:Bool} {w:Str} {s:Ac},AI H xs f->Fo.itm f i=some (.sweep c w s)->∃t p zs,xs[i]?=some (.ref t)/\H t=some (.tup [.str "sweep",.bl c,.str w,.ref p])/\H p=some (.tup zs)/\AI H zs s
 |.nil,xs,i,c,w,s,h,e=>by cases i<;>cases e
 |.leaf k pl r,xs,0,c,w,s,h,e=>by cases e
 |
  .leaf k pl r,xs,i+1,c,w,s,h,e=>by
  obtain⟨t,p,ys,rfl,h0,h1,h2⟩:=h
  exact Ky r ys i h2 e
 |
  .node c' w' s0 r,xs,0,c,w,s,h,e=>by
  obtain⟨t,p,zs,ys,rfl,h0,h1,h2,h3⟩:=h
  cases e
  exact⟨t,p,zs,rfl,h0,h1,h2⟩
 |
  .node c' w' s0 r,xs,i+1,c,w,s,h,e=>by
  obtain⟨t,p,zs,ys,rfl,h0,h1,h2,h3⟩:=h
  exact Ky r ys i h3 e
def Fj:Ac->Nat
 |.nil=>0
 |.leaf _ _ r=>Fj r+1
 |.node _ _ _ r=>Fj r+1
theorem Jc {H:Hp}:∀(f:Ac) (xs:List V),AI H xs f->xs.length=Fj f
 |.nil,xs,h=>by have h:xs=[]:=h;subst h;rfl
 |
  .leaf k pl r,xs,h=>by
  obtain⟨t,p,ys,rfl,h0,h1,h2⟩:=h
  rw[B5,Jc r ys h2];rfl
 |
  .node c w s r,xs,h=>by
  obtain⟨t,p,zs,ys,rfl,h0,h1,h2,h3⟩:=h
  rw[B5,Jc r ys h3];rfl
inductive DD (mk:Ac->Ac):Ac->List Nat->Ac->Prop
 |here {f:Ac} {i:Nat}:i<=Fj f->DD mk f [i] (BR f i mk)
 |down {f s s':Ac} {i:Nat} {p:List Nat} {c:Bool} {w:Str}:Fo.itm f i=some (.sweep c w s)->DD mk s p s'->DD mk f (i::p) (DB f i s')
theorem Ku:∀(f:Ac) (i:Nat) {c:Bool} {w:Str} {s:Ac},Fo.itm f i=some (.sweep c w s)->Ax s<=Ax f
 |.nil,i,c,w,s,e=>by cases i<;>cases e
 |.leaf k pl r,0,c,w,s,e=>by cases e
 |
  .leaf k pl r,i+1,c,w,s,e=>by
  have:=Ku r i e
  show Ax s<=Ax r+1
  omega
 |
  .node c' w' s0 r,0,c,w,s,e=>by
  cases e
  show Ax s0<=Ax s0+Ax r+1
  omega
 |
  .node c' w' s0 r,i+1,c,w,s,e=>by
  have:=Ku r i e
  show Ax s<=Ax s0+Ax r+1
  omega
theorem Jh:∀f:Ac,Fj f<=Ax f
 |.nil=>Ak _
 |.leaf k pl r=>LR (Jh r)
 |
  .node c w s r=>by
  have:=Jh r
  show Fj r+1<=Ax s+Ax r+1
  omega
theorem Ii:∀(f:Ac) (i:Nat) {x:Fo.Item Str},Fo.itm f i=some x->i<Fj f
 |.nil,i,x,e=>by cases i<;>cases e
 |.leaf k pl r,0,x,e=>K7 _
 |.leaf k pl r,i+1,x,e=>Nat.succ_lt_succ (Ii r i e)
 |.node c' w' s0 r,0,x,e=>K7 _
 |.node c' w' s0 r,i+1,x,e=>Nat.succ_lt_succ (Ii r i e)
def Og (n:Nat):Sp:=fun vs H Q _=>∃(it pa:Addr) (y:V) (f g:Ac) (P:List Nat) (mk:Ac->Ac),vs=[.ref it,.ref pa,y]/\DA H it f/\H pa=some (.tup ((P.map fun i:Nat=>(i:Int)).map V.int))/\DD mk f P g/\P.length<=n/\n<=20/\(∀H',Aa H H'->∀ys g,AI H' ys g->AI H' (y::ys) (mk g))/\Ax f<=1000/\∀(r:Addr) (H':Hp),Aa H H'->DA H' r g->Q (.ref r) H'
end L2
namespace L2
open PySem PySem.Spec PyProof.Rows
theorem JF {mk:Ac->Ac}(h:∀r,B9 (mk r)=true):∀(f:Ac) (i:Nat),B9 (BR f i mk)=true
 |
  f,0=>by
  have:BR f 0 mk=mk f:=by cases f<;>rfl
  rw[this];exact h f
 |.nil,i+1=>h .nil
 |.leaf k pl r,i+1=>JF h r i
 |.node c w .nil r,i+1=>rfl
 |
  .node c w (.leaf k pl s) r,i+1=>by
  show(B9 (.leaf k pl s)||B9 (BR r i mk))=true
  rw[JF h r i,M1]
 |
  .node c w (.node c' w' s' s) r,i+1=>by
  show(B9 (.node c' w' s' s)||B9 (BR r i mk))=true
  rw[JF h r i,M1]
theorem Mh {c:Bool}{w:Str}{s r:Ac}(h:B9 s=true\/B9 r=true):B9 (.node c w s r)=true:=by
 cases s with
 |nil=>rfl
 |
  leaf k pl s=>
  show(B9 (.leaf k pl s)||B9 r)=true
  rcases h with h|h
  .rw[h];rfl
  .rw[h,M1]
 |
  node c' w' s' s=>
  show(B9 (.node c' w' s' s)||B9 r)=true
  rcases h with h|h
  .rw[h];rfl
  .rw[h,M1]
theorem L7 {s':Ac}(h:B9 s'=true):∀(f:Ac) (i:Nat) {c:Bool} {w:Str} {s:Ac},Fo.itm f i=some (.sweep c w s)->B9 (DB f i s')=true
 |.nil,i,c,w,s,e=>by cases i<;>cases e
 |.leaf k pl r,0,c,w,s,e=>by cases e
 |.leaf k pl r,i+1,c,w,s,e=>L7 h r i e
 |.node c' w' s0 r,0,c,w,s,e=>Mh (.inl h)
 |.node c' w' s0 r,i+1,c,w,s,e=>Mh (.inr (L7 h r i e))
theorem Qa {mk:Ac->Ac}(h:∀r,B9 (mk r)=true){f g:Ac}{p:List Nat}(hp:DD mk f p g):B9 g=true:=by
 induction hp with
 |here _=>exact JF h _ _
 |down e _ ih=>exact L7 ih _ _ e
theorem To {Ds:List Dw}{mk:Ac->Ac}(h:∀r,B9 (mk r)=true){f g:Ac}{p:List Nat}(hp:DD mk f p g):DU Ds g=false:=Fu fun z=>by
 have:=z.2.1
 rw[Qa h hp]at this
 cases this
theorem LK {mk:Ac->Ac}{a:Nat}(h:∀r,Ax (mk r)=Ax r+a):∀(f:Ac) (i:Nat),Ax (BR f i mk)=Ax f+a
 |
  f,0=>by
  have:BR f 0 mk=mk f:=by cases f<;>rfl
  rw[this];exact h f
 |.nil,i+1=>h .nil
 |
  .leaf k pl r,i+1=>by
  show Ax (BR r i mk)+1=Ax r+1+a
  rw[LK h r i];omega
 |
  .node c w s r,i+1=>by
  show Ax s+Ax (BR r i mk)+1=Ax s+Ax r+1+a
  rw[LK h r i];omega
theorem Kp {s':Ac}{a:Nat}:∀(f:Ac) (i:Nat) {c:Bool} {w:Str} {s:Ac},Fo.itm f i=some (.sweep c w s)->Ax s'=Ax s+a->Ax (DB f i s')=Ax f+a
 |.nil,i,c,w,s,e,_=>by cases i<;>cases e
 |.leaf k pl r,0,c,w,s,e,_=>by cases e
 |
  .leaf k pl r,i+1,c,w,s,e,h=>by
  show Ax (DB r i s')+1=Ax r+1+a
  rw[Kp r i e h];omega
 |
  .node c' w' s0 r,0,c,w,s,e,h=>by
  cases e
  show Ax s'+Ax r+1=Ax s0+Ax r+1+a
  omega
 |
  .node c' w' s0 r,i+1,c,w,s,e,h=>by
  show Ax s0+Ax (DB r i s')+1=Ax s0+Ax r+1+a
  rw[Kp r i e h];omega
theorem Lf {mk:Ac->Ac}{a:Nat}(h:∀r,Ax (mk r)=Ax r+a){f g:Ac}{p:List Nat}(hp:DD mk f p g):Ax g=Ax f+a:=by
 induction hp with
 |here _=>exact LK h _ _
 |down e _ ih=>exact Kp _ _ e ih
theorem Hs:∀(f:Ac) (p:List Int) (j:Nat) (cs:List Bool),(AO f p j cs).length<=Ax f
 |.nil,_,_,_=>Ak _
 |.leaf k pl r,p,j,cs=>LR (Hs r p (j+1) cs)
 |
  .node c w s r,p,j,cs=>by
  have:=Hs s (p++[(j:Int)]) 0 (cs++[c])
  have:=Hs r p (j+1) cs
  show(AO s (p++[(j:Int)]) 0 (cs++[c])++AO r p (j+1) cs).length<=Ax s+Ax r+1
  rw[Ap]
  omega
theorem KL {mk:Ac->Ac}:∀(k:Nat) (f:Ac) (r:Nat) (rs:List Nat) (ws:List B1) (d:Nat),Fo.Down f (r::rs) ws->k<=rs.length->d<=1->∃g,DD mk f ((r::rs).take k++[(r::rs).getD k 0+d]) g
 |
  0,f,r,rs,ws,d,h,_,hd=>by
  have:r<Fj f:=by
   rcases h with⟨_,_,e,_⟩|⟨_,_,_,_,e,_⟩
   .exact Ii f r e
   .exact Ii f r e
  exact⟨_,.here (f:=f) (i:=r+d) (by omega)⟩
 |
  k+1,f,r,rs,ws,d,h,hk,hd=>by
  rcases h with⟨_,_,e,rfl,_⟩|⟨c,w,s,ws',e,_,h⟩
  .exact absurd hk (M0 _)
  .cases rs with
   |nil=>exact absurd hk (M0 _)
   |
    cons r' rs=>
    obtain⟨g,hg⟩:=KL k s r' rs ws' d h (by rw[B5]at hk;omega) hd
    exact⟨_,.down e hg⟩
def Bs:Ac->List (List (Int×Int))
 |.nil=>[]
 |.leaf _ pl r=>pl::Bs r
 |.node _ _ s r=>Bs s++Bs r
theorem G5:∀(f:Ac) (p:List Int) (j:Nat) (cs:List Bool),(AO f p j cs).map (·.1.pl)=Bs f
 |.nil,_,_,_=>rfl
 |
  .leaf k pl r,p,j,cs=>by
  show pl::(AO r p (j+1) cs).map (·.1.pl)=pl::Bs r
  rw[G5 r]
 |
  .node c w s r,p,j,cs=>by
  show(AO s (p++[(j:Int)]) 0 (cs++[c])++AO r p (j+1) cs).map (·.1.pl)=Bs s++Bs r
  rw[B8,G5 s,G5 r]
theorem KO {mk:Ac->Ac}(h:∀r,Bs (mk r)=Bs r):∀(f:Ac) (i:Nat),Bs (BR f i mk)=Bs f
 |
  f,0=>by
  have:BR f 0 mk=mk f:=by cases f<;>rfl
  rw[this];exact h f
 |.nil,i+1=>h .nil
 |
  .leaf k pl r,i+1=>by
  show pl::Bs (BR r i mk)=pl::Bs r
  rw[KO h r i]
 |
  .node c w s r,i+1=>by
  show Bs s++Bs (BR r i mk)=Bs s++Bs r
  rw[KO h r i]
theorem KI {s':Ac}:∀(f:Ac) (i:Nat) {c:Bool} {w:Str} {s:Ac},Fo.itm f i=some (.sweep c w s)->Bs s'=Bs s->Bs (DB f i s')=Bs f
 |.nil,i,c,w,s,e,_=>by cases i<;>cases e
 |.leaf k pl r,0,c,w,s,e,_=>by cases e
 |
  .leaf k pl r,i+1,c,w,s,e,h=>by
  show pl::Bs (DB r i s')=pl::Bs r
  rw[KI r i e h]
 |
  .node c' w' s0 r,0,c,w,s,e,h=>by
  cases e
  show Bs s'++Bs r=Bs s0++Bs r
  rw[h]
 |
  .node c' w' s0 r,i+1,c,w,s,e,h=>by
  show Bs s0++Bs (DB r i s')=Bs s0++Bs r
  rw[KI r i e h]
theorem S8 {mk:Ac->Ac}(h:∀r,Bs (mk r)=Bs r){f g:Ac}{p:List Nat}(hp:DD mk f p g):Bs g=Bs f:=by
 induction hp with
 |here _=>exact KO h _ _
 |down e _ ih=>exact KI _ _ e ih
def N2 (mk:Ac->Ac):Prop:=(∀r,B9 (mk r)=true)/\(∃a≤2,∀r,Ax (mk r)=Ax r+a)/\(∀r,Bs (mk r)=Bs r)/\∀r,AU (mk r)<=AU r+2
def QF:Sp:=fun vs H Q _=>∃(pt l:Addr) (f:Ac) (B:List Ab) (n:Nat) (at' much:Int),vs=[.ref pt,.ref l,.int (n:Int),.int at',.int much]/\DA H pt f/\Fo.Is f B 0/\DE H l B/\GL B/\n<B.length/\0<=at'/\0<=much/\∀(r:Addr) (H':Hp) (g:Ac) (mk:Ac->Ac) (P:List Nat),Aa H H'->DA H' r g->N2 mk->DD mk f P g->Q (.ref r) H'
theorem Rw (xs:List V):AL xs none (some (-1))=xs.dropLast:=by
 unfold AL
 have e0:HT.sIx xs.length 0 none=0:=rfl
 have e1:HT.sIx xs.length xs.length (some (-1))=xs.length-1:=by
  unfold HT.sIx
  simp
  omega
 rw[e0,e1,FK,Nat.sub_zero,List.dropLast_eq_take]
theorem O8 (xs:List V)(v:V):AL (xs++[v]) none (some (-1))=xs:=by
 rw[Rw,List.dropLast_concat]
end L2
namespace L2
open PySem PySem.Spec PyProof.Rows
theorem MU {Ds:List Dw}{D:List Int}{B:List Ab}(hD:D=Ds.map fun x=>(x.loops.length:Int)):JZ Ds B↔F9 D B:=by
 subst hD
 unfold JZ F9
 rw[Al]
 refine⟨fun⟨h1,h2⟩=>⟨h1,fun b hb k m hk hm=>?_⟩,fun⟨h1,h2⟩=>⟨h1,fun b hb k D hk hm=>h2 b hb k D.loops.length hk (by rw[C3,hm];rfl)⟩⟩
 rw[C3]at hm
 cases c:Ds[k]? with
 |none=>rw[c]at hm;cases hm
 |
  some D=>
  rw[c]at hm
  have:(D.loops.length:Int)=(m:Int):=Dx hm
  have e:D.loops.length=m:=by omega
  rw[←e]
  exact h2 b hb k D hk c
theorem Os {Ds:List Dw}{D:List Int}{B:List Ab}{f:Ac}(hD:D=Ds.map fun x=>(x.loops.length:Int))(hI:Fo.Is f B 0)(ok:CK B)(h0:∀b,B.head?=some b->b.sh=0):E2 Ds f↔F9 D (Ce [] B):=by
 have h1:=IG f B 0 [] hI ok fun b hb=>by rw[h0 b hb];exact⟨Ak _,Ak _⟩
 have h2:=LN B [] ok fun b hb=>by rw[h0 b hb];exact Ak _
 rw[MF h1 h2,MU hD]
theorem Ni:∀(B:List Ab) (prev:List B1) (c:Ab),c∈Ce prev B->∃b∈B,c.k=b.k/\c.pl=b.pl
 |[],_,c,h=>by cases h
 |
  b::B,prev,c,h=>by
  rcases Bw.mp (show c∈(⟨b.k,b.sh,prev.take b.sh++b.ways.drop b.sh,b.pl⟩:Ab)::Ce (prev.take b.sh++b.ways.drop b.sh) B from h) with rfl|h
  .exact⟨b,Cb,rfl,rfl⟩
  .obtain⟨x,hx,e⟩:=Ni B _ c h
   exact⟨x,Cz _ hx,e⟩
theorem Hy {B:List Ab}{f:Ac}{w:Nat}(hI:Fo.Is f B 0)(ok:CK B)(h0:∀b,B.head?=some b->b.sh=0)(hl:B.length<=7)(hw:∀b∈B,b.ways.length<=w/\b.pl.length<=60)(w9:w<=9):AU f<=13/\Ax f<=900/\(AO f [] 0 []).length<=60/\∀e∈AO f [] 0 [],e.1.pl.length<=60:=by
 have h1:=IG f B 0 [] hI ok fun b hb=>by rw[h0 b hb];exact⟨Ak _,Ak _⟩
 have h2:=LN B [] ok fun b hb=>by rw[h0 b hb];exact Ak _
 have d:=G8 f B 0 w hI fun b hb=>by have:=(hw b hb).1;omega
 have c:=FC f B 0 w hI fun b hb=>by have:=(hw b hb).1;omega
 have c':(w+1)*B.length<=10*7:=M3 (by omega) hl
 have m:=HK f _ 0 [] 0 [] h1 h2
 have nl:(Ce [] B).length=B.length:=by have:=congrArg List.length (Ju B []);rwa [Al,Al]at this
 have ln:=congrArg List.length m
 rw[Al,Al,nl]at ln
 refine⟨by omega,by omega,by omega,fun e he=>?_⟩
 have:(e.1.k,e.1.pl,e.2)∈(AO f [] 0 []).map (fun e=>(e.1.k,e.1.pl,e.2)):=C4.mpr ⟨e,he,rfl⟩
 rw[m]at this
 obtain⟨b,hb,eq⟩:=C4.mp this
 injection eq with _ e2
 injection e2 with e2 _
 obtain⟨x,hx,_,e3⟩:=Ni B [] b hb
 rw[←e2,e3]
 exact(hw x hx).2
theorem Ef.from {D:List Int}{kind:Int}{B:List Ab}(h:Ef D kind B):FX B 0 6:=⟨h.ok,fun _ _ _=>BP _,fun _ _=>BP _,fun b hb=>by have:=(h.way b hb).1;omega,fun b hb=>by have:=(h.way b hb).2;omega,h.len⟩
theorem Q3 {Ds:List Dw}{D:List Int}{kind:Int}{B:List Ab}{f:Ac}(h:Ef D kind B)(hI:Fo.Is f B 0)(hD:D=Ds.map fun x=>(x.loops.length:Int)):DU Ds f=decide (11<kind):=by
 have:=Os hD hI h.ok h.hd
 by_cases c:11<kind
 .rw[Cw c,Gq (this.mpr (h.fit.mpr c))]
 .rw[Cv c,Fu fun z=>c (h.fit.mp (this.mp z))]
theorem Ug {B:List Ab}{D:List Int}(h:E1 B D){n j:Nat}{b:Ab}{w:Str}{k m:Nat}(hb:B[n]?=some b)(hk:b.k=(k:Int))(hm:D[k]?=some (m:Int))(m0:0<m):Fo.Ok (Az B n (Dt b j w))/\(∀c,(Az B n (Dt b j w)).head?=some c->c.sh=0)/\(F9 D (Az B n (Dt b j w))↔b.pl.length+j<=6):=by
 have nl:=(Ay.mp hb).1
 have bm:=Bf hb
 have bsh:=h.lv.ok.sh b bm
 have h0:=Jt (x:=Dt b j w) hb rfl h.lv.fst
 have at_:∀(i:Nat) (c:Ab),(Az B n (Dt b j w))[i]?=some c->∃c':Ab,B[i]?=some c'/\c.sh=c'.sh/\c'.ways.length<=c.ways.length/\∀s,s<=c'.ways.length->c.ways.take s=c'.ways.take s:=fun i c hc=>by
  by_cases z:i=n
  .subst z
   rw[F7 nl]at hc
   cases hc
   refine⟨b,hb,rfl,?_,fun s hs=>?_⟩
   .show b.ways.length<=(b.ways++List.replicate j (true,w)).length
    rw[Ap];omega
   .show(b.ways++List.replicate j (true,w)).take s=_
    rw[Gk hs]
  .rw[Fh nl z]at hc
   exact⟨c,hc,rfl,Ak _,fun _ _=>rfl⟩
 refine⟨⟨fun c hc=>?_,fun i c d hc hd=>?_⟩,h0,?_⟩
 .obtain⟨i,hi,e⟩:=FJ.mp hc
  obtain⟨c',h1,h2,h3,_⟩:=at_ i c (by rw[AH hi,e])
  have:=h.lv.ok.sh c' (Bf h1)
  omega
 .obtain⟨c',h1,h2,h3,h4⟩:=at_ i c hc
  obtain⟨d',g1,g2,g3,g4⟩:=at_ (i+1) d hd
  obtain⟨o1,o2⟩:=h.lv.ok.ln i c' d' h1 g1
  have o3:=h.lv.ok.sh d' (Bf g1)
  refine⟨by omega,?_⟩
  rw[g2,g4 d'.sh o3,h4 d'.sh o1]
  exact o2
 .have fb:=Jy h
  obtain⟨k',m',e1,e2,wp,_⟩:=h.lf b bm
  have ek:k=k':=by omega
  subst ek
  rw[hm]at e2
  have em:m=m':=by have:=Dx e2;omega
  subst em
  have ks:(Az B n (Dt b j w)).map (·.k)=B.map (·.k):=by
   refine List.ext_getElem? fun i=>?_
   rw[C3,C3]
   by_cases z:i=n
   .subst z;rw[F7 nl,hb];rfl
   .rw[Fh nl z]
  refine⟨fun z=>(MV wp m0).mp (z.2 _ KR k m hk hm),fun z=>⟨by rw[ks];exact h.ks,fun c hc k' m' hk' hm'=>?_⟩⟩
  rcases Fp hc with rfl|y
  .have:k=k':=by
    have hk':b.k=(k':Int):=hk'
    omega
   subst this
   rw[hm]at hm'
   have:m=m':=by have:=Dx hm';omega
   subst this
   exact(MV wp m0).mpr z
  .exact fb.2 c y k' m' hk' hm'
end L2
namespace L2
open PySem PySem.Spec PyProof.Rows
theorem Jr {X:Cx}:BE X (compareOp .Is) (fun x y H Q=>∃b,x = .bl b/\y = .bl false/\Q (.bl (!b)) H):=by
 intro pins s σ H x y v u Q I rx ry h
 obtain⟨b,rfl,rfl,q⟩:=h
 cases rx
 cases ry
 refine wpAny_is_plain (by cases b<;>rfl) (BC I q ?_)
 cases b<;>rfl
theorem Qm {X:Cx}:BE X (compareOp .Is) (fun x y H Q=>∃b,x = .bl b/\y = .bl true/\Q (.bl b) H):=by
 intro pins s σ H x y v u Q I rx ry h
 obtain⟨b,rfl,rfl,q⟩:=h
 cases rx
 cases ry
 refine wpAny_is_plain (by cases b<;>rfl) (BC I q ?_)
 cases b<;>rfl
theorem Sk {X:Cx}:BE X (compareOp .IsNot) (fun x y H Q=>∃b,x = .bl b/\y = .bl false/\Q (.bl b) H):=by
 intro pins s σ H x y v u Q I rx ry h
 obtain⟨b,rfl,rfl,q⟩:=h
 cases rx
 cases ry
 refine wpAny_isNot_plain (by cases b<;>rfl) (BC I q ?_)
 cases b<;>rfl
end L2
namespace L2
open PySem PySem.Spec PyProof.Rows
def UI (K:PySem.W.Frag)(CP C:Addr)(c:Cs):Sp:=fun vs H Q _=>∃(v:V) (l dl pt sc:Addr) (N:Int) (Ds:List Dw) (B:List Ab) (D:List Int) (f:Ac) (ns:List Int),vs=[v,.ref l,.ref dl,.ref pt,.ref sc]/\Fq CP C c H v N Ds/\Ds.length<=10/\(∀x∈Ds,x.loops.length<=3)/\DE H l B/\E1 B D/\H dl=some (.lst (D.map V.int))/\D=Ds.map (fun x=>(x.loops.length:Int))/\B.length=D.length/\0<B.length/\DA H pt f/\Fo.Is f B 0/\A4 K H sc (ns.map V.int)/\∀H',Aa H H'->Q (.bl true) H'
theorem LG {mk:Ac->Ac}(h:∀r,AU (mk r)<=AU r+2):∀(f:Ac) (i:Nat),AU (BR f i mk)<=AU f+2
 |
  f,0=>by
  have:BR f 0 mk=mk f:=by cases f<;>rfl
  rw[this];exact h f
 |.nil,i+1=>h .nil
 |
  .leaf k pl r,i+1=>by
  have:=LG h r i
  show AU (.leaf k pl (BR r i mk))<=AU (.leaf k pl r)+2
  simp only[AU]
  omega
 |
  .node c w s r,i+1=>by
  have:=LG h r i
  show AU (.node c w s (BR r i mk))<=AU (.node c w s r)+2
  simp only[AU]
  omega
theorem Li {s':Ac}:∀(f:Ac) (i:Nat) {c:Bool} {w:Str} {s:Ac},Fo.itm f i=some (.sweep c w s)->AU s'<=AU s+2->AU (DB f i s')<=AU f+2
 |.nil,i,c,w,s,e,_=>by cases i<;>cases e
 |.leaf k pl r,0,c,w,s,e,_=>by cases e
 |
  .leaf k pl r,i+1,c,w,s,e,h=>by
  have:=Li r i e h
  show AU (.leaf k pl (DB r i s'))<=AU (.leaf k pl r)+2
  simp only[AU]
  omega
 |
  .node c' w' s0 r,0,c,w,s,e,h=>by
  cases e
  show AU (.node c' w' s' r)<=AU (.node c' w' s0 r)+2
  simp only[AU]
  omega
 |
  .node c' w' s0 r,i+1,c,w,s,e,h=>by
  have:=Li r i e h
  show AU (.node c' w' s0 (DB r i s'))<=AU (.node c' w' s0 r)+2
  simp only[AU]
  omega
theorem L5 {mk:Ac->Ac}(h:∀r,AU (mk r)<=AU r+2){f g:Ac}{p:List Nat}(hp:DD mk f p g):AU g<=AU f+2:=by
 induction hp with
 |here _=>exact LG h _ _
 |down e _ ih=>exact Li _ _ e ih
end L2
namespace L2
open PySem PySem.Spec PyProof.Rows
abbrev T3:=Int×List (Int×Int)×List Bool
def Do:Ac->List Bool->List T3
 |.nil,_=>[]
 |.leaf k pl r,cs=>(k,pl,cs)::Do r cs
 |.node c _ s r,cs=>Do s (cs++[c])++Do r cs
theorem H0:∀(f:Ac) (p:List Int) (j:Nat) (cs:List Bool),(AO f p j cs).map (fun e=>(e.1.k,e.1.pl,e.2))=Do f cs
 |.nil,_,_,_=>rfl
 |
  .leaf k pl r,p,j,cs=>by
  show(k,pl,cs)::(AO r p (j+1) cs).map _=_
  rw[H0 r];rfl
 |
  .node c w s r,p,j,cs=>by
  show(AO s (p++[(j:Int)]) 0 (cs++[c])++AO r p (j+1) cs).map _=_
  rw[B8,H0 s,H0 r];rfl
theorem Lg {Ds:List Dw}{f:Ac}:E2 Ds f↔((Do f []).map (·.1)).Perm (BB Ds.length)/\B9 f=false/\∀e∈Do f [],∀(k:Nat) (D:Dw),e.1=(k:Int)->Ds[k]?=some D->C9 D.loops.length e.2.1 e.2.2:=by
 have m:=H0 f [] 0 []
 have mk:E9 f=(Do f []).map (·.1):=by rw[←m,IU];rfl
 unfold E2
 rw[mk,←m]
 refine⟨fun⟨a,b,c⟩=>⟨a,b,fun e he k D hk hD=>?_⟩,fun⟨a,b,c⟩=>⟨a,b,fun e he k D hk hD=>c _ (C4.mpr ⟨e,he,rfl⟩) k D hk hD⟩⟩
 obtain⟨e',he',rfl⟩:=C4.mp he
 exact c e' he' k D hk hD
abbrev Dd (k:Int)(pl:List (Int×Int)):Ac->Ac:=fun r=>.leaf k pl r
theorem Jl {k:Int}{pl:List (Int×Int)}:∀(f:Ac) (i:Nat) (cs:List Bool),(Do (BR f i (Dd k pl)) cs).Perm ((k,pl,cs)::Do f cs)
 |
  f,0,cs=>by
  have:BR f 0 (Dd k pl) = .leaf k pl f:=by cases f<;>rfl
  rw[this];exact List.Perm.refl _
 |.nil,i+1,cs=>List.Perm.refl _
 |.leaf k' pl' r,i+1,cs=>((Jl r i cs).cons _).trans (List.Perm.swap _ _ _)
 |.node c w s r,i+1,cs=>((Jl r i cs).append_left _).trans List.perm_middle
theorem KJ {s':Ac}{x:List Bool->T3}:∀(f:Ac) (i:Nat) (cs:List Bool) {c:Bool} {w:Str} {s:Ac},Fo.itm f i=some (.sweep c w s)->(Do s' (cs++[c])).Perm (x (cs++[c])::Do s (cs++[c]))->(Do (DB f i s') cs).Perm (x (cs++[c])::Do f cs)
 |.nil,i,cs,c,w,s,e,_=>by cases i<;>cases e
 |.leaf k pl r,0,cs,c,w,s,e,_=>by cases e
 |.leaf k pl r,i+1,cs,c,w,s,e,h=>((KJ r i cs e h).cons _).trans (List.Perm.swap _ _ _)
 |
  .node c' w' s0 r,0,cs,c,w,s,e,h=>by
  cases e
  exact h.append_right _
 |.node c' w' s0 r,i+1,cs,c,w,s,e,h=>((KJ r i cs e h).append_left _).trans List.perm_middle
theorem N6 {k:Int}{pl:List (Int×Int)}{f g:Ac}{P:List Nat}(hp:DD (Dd k pl) f P g):∀cs:List Bool,∃ds:List Bool,ds.length+1=P.length/\(Do g cs).Perm ((k,pl,cs++ds)::Do f cs):=by
 induction hp with
 |here _=>exact fun cs=>⟨[],rfl,by rw[EA];exact Jl _ _ cs⟩
 |
  @down f s s' i p c w e _ ih=>
  intro cs
  obtain⟨ds,hl,h⟩:=ih (cs++[c])
  refine⟨c::ds,by rw[B5,B5];omega,?_⟩
  have:=KJ (x:=fun z=>(k,pl,z++ds)) f i cs e h
  rw[CV]at this
  exact this
theorem Nq {k:Int}{pl:List (Int×Int)}{f g:Ac}{P:List Nat}(hp:DD (Dd k pl) f P g)(hl:pl.length<=60)(h3:∀e∈AO f [] 0 [],e.1.pl.length<=60):∀e∈AO g [] 0 [],e.1.pl.length<=60:=fun e he=>by
 obtain⟨ds,_,pm⟩:=N6 hp []
 have:(e.1.k,e.1.pl,e.2)∈Do g []:=by rw[←H0 g [] 0 []];exact C4.mpr ⟨e,he,rfl⟩
 rcases Bw.mp (pm.subset this) with z|z
 .injection z with _ z
  injection z with z _
  rw[z];exact hl
 .rw[←H0 f [] 0 []]at z
  obtain⟨e',he',eq⟩:=C4.mp z
  injection eq with _ eq
  injection eq with eq _
  rw[←eq];exact h3 e' he'
theorem RV {Ds:List Dw}{D0:Dw}{pl:List (Int×Int)}{f g:Ac}{P:List Nat}(hD:D0.loops=[])(hp:DD (Dd (Ds.length:Int) pl) f P g)(h2:2<=P.length):DU (Ds++[D0]) g=false:=Fu fun z=>by
 obtain⟨ds,hl,pm⟩:=N6 hp []
 have w:=(Lg.mp z).2.2 _ (pm.symm.subset Cb) Ds.length D0 rfl (by rw[BQ (Ak _),DJ];rfl)
 rw[hD]at w
 obtain⟨w1,_,w3,_⟩:=w
 cases pl with
 |
  nil=>
  have:(0:Nat)=([]++ds).length:=w1
  rw[Hd]at this
  omega
 |
  cons p pl=>
  have:=w3 p Cb
  have h1:=this.1
  have h2:=this.2.1
  exact absurd h2 (by show ¬p.1<((0:Nat):Int);omega)
theorem U2 {Ds:List Dw}{D0:Dw}{f:Ac}(h:E2 Ds f):DU (Ds++[D0]) f=false:=Fu fun z=>by
 have h1:=h.1.length_eq
 have h2:=z.1.length_eq
 rw[Il]at h1 h2
 rw[Ap,Au]at h2
 omega
theorem Jb {k:Int}{pl:List (Int×Int)}:∀(f:Ac) (i:Nat),B9 (BR f i (Dd k pl))=B9 f
 |
  f,0=>by
  have:BR f 0 (Dd k pl) = .leaf k pl f:=by cases f<;>rfl
  rw[this];rfl
 |.nil,i+1=>rfl
 |.leaf k' pl' r,i+1=>Jb r i
 |.node c w .nil r,i+1=>rfl
 |
  .node c w (.leaf k' pl' s) r,i+1=>by
  show(B9 (.leaf k' pl' s)||B9 (BR r i (Dd k pl)))=_
  rw[Jb r i];rfl
 |
  .node c w (.node c' w' s' s) r,i+1=>by
  show(B9 (.node c' w' s' s)||B9 (BR r i (Dd k pl)))=_
  rw[Jb r i];rfl
theorem Ph (n:Nat):BB (n+1)=BB n++[(n:Int)]:=by
 unfold BB
 rw[LU,B8];rfl
theorem UV {Ds:List Dw}{D0:Dw}{f:Ac}(h:E2 Ds f)(hD:D0.loops=[])(i:Nat):DU (Ds++[D0]) (BR f i (Dd (Ds.length:Int) []))=true:=Gq (by
 have pm:=Jl (k:=(Ds.length:Int)) (pl:=[]) f i []
 obtain⟨h1,h2,h3⟩:=Lg.mp h
 refine Lg.mpr ⟨?_,by rw[Jb];exact h2,fun e he k D hk hDk=>?_⟩
 .refine(pm.map _).trans ?_
  rw[Ap,Au,Ph,C1]
  exact(h1.cons _).trans (List.perm_append_singleton _ _).symm
 .rcases Bw.mp (pm.subset he) with z|z
  .subst z
   have:Ds.length=k:=by have hk:(Ds.length:Int)=(k:Int):=hk;omega
   subst this
   rw[BQ (Ak _),DJ]at hDk
   cases hDk
   rw[hD]
   exact⟨rfl,BP _,(fun p hp=>by cases hp),List.Perm.refl _⟩
  .have kn:k<Ds.length:=by
    have:e.1∈BB Ds.length:=h1.subset (C4.mpr ⟨e,z,rfl⟩)
    unfold BB at this
    obtain⟨k',hk',e'⟩:=C4.mp this
    have:=ER.mp hk'
    omega
   rw[C2 kn]at hDk
   exact h3 e z k D hk hDk)
theorem SD {Ds:List Dw}(h:0<Ds.length):DU Ds .nil=false:=Fu fun z=>by
 have:=z.1.length_eq
 rw[Il]at this
 have:(0:Nat)=Ds.length:=this
 omega
theorem UM {K:PySem.W.Frag}{H:Hp}{p z:Addr}{xs:List V}{P:List (List Int)}{neg:Bool}{Q:VK}(hp:H p=some (.lst xs))(ax:As (E7 H) xs P)(hz:H z=some (.lst []))(h:Q (.bl (if neg then !P.isEmpty else P.isEmpty)) H):FG K neg (.ref p) (.ref z) H Q:=by
 refine⟨.lst (P.map Fx),.lst [],S4 hp ax,.lst (A4.of hz) .nil,⟨_,rfl⟩,⟨_,rfl⟩,by rw[Ci];cases P<;>rfl,U1 P,?_⟩
 have e:Br (.lst (P.map Fx)) (.lst [])=P.isEmpty:=by
  rw[Br]
  cases P with
  |nil=>rfl
  |cons b P=>rw[C1,GU (by simp)];rfl
 rw[e]
 exact h
def RB (CP C:Addr)(c:Cs):Sp:=fun vs H Q _=>∃(v:V) (pt l:Addr) (N:Int) (Ds:List Dw) (D0:Dw) (B:List Ab) (f:Ac) (cell:Int),vs=[v,.ref pt,.ref l,.int (Ds.length:Int),.int cell]/\Fq CP C c H v N (Ds++[D0])/\D0.loops=[]/\Ds.length<=6/\(∀x∈Ds,x.loops.length<=3)/\DE H l B/\GL B/\0<B.length/\DA H pt f/\Fo.Is f B 0/\0<=cell/\∀H',Aa H H'->Q (.bl true) H'
end L2
namespace Fw
open PySem L2 Bd
def Cf (i:Nat):Stmt:=PySem.Challenge.pw_furrow_k61_what_fits.main.body.getD i (.Pass ⟨0,0,0,0⟩)
abbrev JV:Stmt:=Kq (Cf 3) 0
abbrev Jv:Stmt:=Kq (Cf 5) 0
abbrev J5:Stmt:=Kq (Cf 6) 0
abbrev Gu:Stmt:=Cf 10
abbrev J8:Stmt:=Cf 11
abbrev HW:Stmt:=Cf 12
abbrev HR:Stmt:=Cf 13
abbrev K0:Stmt:=Cf 15
abbrev JH:Stmt:=Cf 16
abbrev Im:Stmt:=Cf 17
abbrev J3:Stmt:=Cf 18
abbrev JS:Stmt:=Cf 19
abbrev FZ:Stmt:=Cf 20
abbrev Jm:Stmt:=Cf 21
abbrev JM:Stmt:=Cf 22
abbrev Gv:Stmt:=Cf 23
abbrev Jd:Stmt:=Cf 24
abbrev Jn:Stmt:=Cf 25
abbrev Hn:Stmt:=Cf 26
abbrev II:Stmt:=Cf 27
abbrev Jp:Stmt:=Cf 28
abbrev JE:Stmt:=Cf 29
abbrev JX:Stmt:=Cf 30
abbrev Jo:Stmt:=Cf 31
abbrev J4:Stmt:=Cf 32
abbrev Ho:Stmt:=Cf 33
abbrev I0:Stmt:=Cf 34
theorem Cg {N P:List Str}{sc:Scope}(a:sc.kind = .function:=by rfl)(b:sc.isCoroutine=false:=by rfl)(c:sc.isGenerator=false:=by rfl)(d:N.Nodup:=by decide +kernel)(e:N.take P.length=P:=by rfl)(f:∀x∈P,sc.names.lookup x=some .local\/sc.names.lookup x=some .cell:=by decide +kernel)(g:∀y∈sc.names,y.2≠.free:=by decide +kernel):BY N P sc:=⟨a,b,c,d,e,f,g⟩
theorem TH:BY ["self","n"] ["self","n"] (B4 JV):=Cg
theorem Ul:BY ["self","names","lows","highs","table","spots","term","path"] ["self","names","lows","highs","table","spots","term","path"] (B4 Jv):=Cg
theorem SY:BY ["self","size","deeds"] ["self","size","deeds"] (B4 J5):=Cg
theorem O3:BY ["program","plan","stood"] ["program","plan"] (B4 Gu):=Cg
theorem Ht:BY ["items","path","cuts","found","number","item","here"] ["items","path","cuts"] (B4 J8):=Cg
theorem S7:BY ["items"] ["items"] (B4 HW):=Cg
theorem ID:BY ["deed","places","cuts","many","loop","shift","whole"] ["deed","places","cuts"] (B4 HR):=Cg
theorem Ic:BY ["_law_script","_law_k","_law_number"] ["_law_script","_law_k"] (B4 K0):=Cg
theorem JL:BY ["_law_cell","_law_sizes","_law_found","_law_many"] ["_law_cell","_law_sizes"] (B4 JH):=Cg
theorem Cp:BY ["_law_cell","_law_loops","_law_kind","_law_step","_law_many","_law_thin","_law_which","_law_sign","_law_more","_law_letters","_law_name","_law_at_here","_law_high","_law_outer","_law_low","_law_first","_law_last","_law_other"] ["_law_cell","_law_loops"] (B4 Im):=Cg
theorem D4:BY ["_law_script","_law_first","_law_count","_law_deeds_here","_law_n","_law_deep","_law_common","_law_loops","_law_path","_law_old","_law_cell"] ["_law_script","_law_first","_law_count"] (B4 J3):=Cg
theorem Up:BY ["_law_spot","_law_scale","_law_base"] ["_law_spot","_law_scale","_law_base"] (B4 JS):=Cg
theorem Fy:BY ["_law_deeds_here","_law_scale","_law_base","_law_found","_law_loops","_law_path","_law_common","_law_names","_law_lows","_law_highs"] ["_law_deeds_here","_law_scale","_law_base"] (B4 FZ):=Cg
theorem DG:BY ["_law_script","_law_first","_law_depth","_law_old","_law_ways","_law_sweeps_here","_law_free","_law_split","_law_pair","_law_share","_law_more","_law_way","_law_kind"] ["_law_script","_law_first","_law_depth","_law_old","_law_ways"] (B4 Jm):=Cg
theorem DQ:BY ["_law_script","_law_first","_law_sweeps_here","_law_loops","_law_far","_law_places_here","_law_left","_law_e","_law_pair","_law_cell","_law_loop_here","_law_step","_law_big","_law_shift","_law_number"] ["_law_script","_law_first","_law_sweeps_here","_law_loops","_law_far"] (B4 JM):=Cg
theorem Df:BY ["_law_script","_law_first","_law_depths","_law_ways","_law_far","_law_start","_law_back","_law_front","_law_row","_law_leaves_here","_law_n","_law_k","_law_cell","_law_like","_law_turn","_law_flip","_law_loops","_law_old","_law_share","_law_sweeps_here"] ["_law_script","_law_first","_law_depths","_law_ways","_law_far"] (B4 Gv):=Cg
theorem G1:BY ["_law_leaves_here","_law_level","_law_items_here","_law_at_here","_law_upto","_law_pair"] ["_law_leaves_here","_law_level"] (B4 Jd):=Cg
theorem FY:BY ["_law_leaves_here","_law_n","_law_rest","_law_k","_law_share","_law_sweeps_here","_law_places_here"] ["_law_leaves_here","_law_n"] (B4 Jn):=Cg
theorem Di:BY ["_law_leaf","_law_depth","_law_kind","_law_at_here","_law_much","_law_k","_law_share","_law_sweeps_here","_law_places_here","_law_e","_law_loop_here","_law_shift","_law_wholes"] ["_law_leaf","_law_depth","_law_kind","_law_at_here","_law_much"] (B4 Hn):=Cg
theorem F6:BY ["_law_leaves_here","_law_depths","_law_kind","_law_n","_law_at_here","_law_much","_law_k","_law_share","_law_sweeps_here","_law_places_here","_law_others","_law_e","_law_changed"] ["_law_leaves_here","_law_depths","_law_kind","_law_n","_law_at_here","_law_much"] (B4 II):=Cg
theorem GG:BY ["_law_leaves_here","_law_n","_law_many","_law_way","_law_k","_law_share","_law_sweeps_here","_law_places_here","_law_more"] ["_law_leaves_here","_law_n","_law_many","_law_way"] (B4 Jp):=Cg
theorem J1:BY ["_law_items_here","_law_path","_law_item","_law_at_here","_law_head","_law_within_it"] ["_law_items_here","_law_path","_law_item"] (B4 JE):=Cg
theorem GD:BY ["_law_leaves_here","_law_found","_law_n","_law_leaf","_law_path"] ["_law_leaves_here"] (B4 JX):=Cg
theorem HV:BY ["_law_plan","_law_leaves_here","_law_n","_law_at_here","_law_much","_law_item","_law_path"] ["_law_plan","_law_leaves_here","_law_n","_law_at_here","_law_much"] (B4 Jo):=Cg
theorem Fv:BY ["_law_program","_law_leaves_here","_law_depths","_law_plan","_law_script","_law_kind","_law_n","_law_at_here","_law_much","_law_way","_law_found"] ["_law_program","_law_leaves_here","_law_depths","_law_plan","_law_script"] (B4 J4):=Cg
theorem GJ:BY ["_law_longer","_law_plan","_law_leaves_here","_law_number","_law_cell","_law_paths_here","_law_path","_law_item"] ["_law_longer","_law_plan","_law_leaves_here","_law_number","_law_cell"] (B4 Ho):=Cg
theorem Ex:BY ["_law_script","_law_deeds_here","_law_some","_law_program","_law_depths","_law_leaves_here","_law_plan","_law_last","_law_longer","_law_at_here","_law_item"] ["_law_script"] (B4 I0):=Cg
theorem Qz:CZ (DO [(".0",.local),("item",.local),("has_bare_sweep",.globalImplicit)]) (B4 HW) ["items"] ["item"] [none]=true:=by decide +kernel
theorem QU:(["item"]:List Str).Nodup:=by decide +kernel
theorem Rf:CZ (DO [(".0",.local),("place",.local),("cut",.local)]) (B4 HR) ["deed","places","cuts","many","loop","shift","whole"] ["place","cut"] [none,none]=true:=by decide +kernel
theorem Oq:(["place","cut"]:List Str).Nodup:=by decide +kernel
theorem QM:CZ (DO [(".0",.local),("k",.local),("places",.local),("path",.local),("cuts",.local)]) (B4 Gu) ["program","plan","stood"] ["k","places","path","cuts"] [none,none,none,none]=true:=by decide +kernel
theorem Jz:(["k","places","path","cuts"]:List Str).Nodup:=by decide +kernel
theorem Qs:CZ (DO [(".0",.local),("k",.local),("places",.local),("path",.local),("cuts",.local),("well_placed",.globalImplicit),("program",.free)]) (B4 Gu) ["program","plan","stood"] ["k","places","path","cuts","program"] [none,none,none,none,some 0]=true:=by decide +kernel
theorem Ji:(["k","places","path","cuts","program"]:List Str).Nodup:=by decide +kernel
theorem V1:CZ (DO [(".0",.local),("_law_loop_here",.local)]) (B4 Im) ["_law_cell","_law_loops","_law_kind","_law_step","_law_many","_law_thin","_law_which","_law_sign","_law_more","_law_letters","_law_name","_law_at_here","_law_high","_law_outer","_law_low","_law_first","_law_last","_law_other"] ["_law_loop_here"] [none]=true:=by decide +kernel
theorem QZ:(["_law_loop_here"]:List Str).Nodup:=by decide +kernel
theorem RH:CZ (DO [(".0",.local),("_law_loop_here",.local)]) (B4 FZ) ["_law_deeds_here","_law_scale","_law_base","_law_found","_law_loops","_law_path","_law_common","_law_names","_law_lows","_law_highs"] ["_law_loop_here"] [none]=true:=by decide +kernel
theorem UJ:(["_law_loop_here"]:List Str).Nodup:=by decide +kernel
theorem T5:CZ (DO [(".0",.local),("_law_loop_here",.local),("_law_told",.globalImplicit),("_law_base",.free),("_law_scale",.free)]) (B4 FZ) ["_law_deeds_here","_law_scale","_law_base","_law_found","_law_loops","_law_path","_law_common","_law_names","_law_lows","_law_highs"] ["_law_loop_here","_law_base","_law_scale"] [none,some 2,some 1]=true:=by decide +kernel
theorem Tb:(["_law_loop_here","_law_base","_law_scale"]:List Str).Nodup:=by decide +kernel
theorem SW:CZ (DO [(".0",.local),("_law_loop_here",.local),("_law_told",.globalImplicit),("_law_base",.free),("_law_scale",.free)]) (B4 FZ) ["_law_deeds_here","_law_scale","_law_base","_law_found","_law_loops","_law_path","_law_common","_law_names","_law_lows","_law_highs"] ["_law_loop_here","_law_base","_law_scale"] [none,some 2,some 1]=true:=by decide +kernel
theorem R1:(["_law_loop_here","_law_base","_law_scale"]:List Str).Nodup:=by decide +kernel
theorem Uw:CZ (DO [(".0",.local),("_law_n",.local),("len",.globalImplicit),("_law_depths",.free),("_law_start",.free)]) (B4 Gv) ["_law_script","_law_first","_law_depths","_law_ways","_law_far","_law_start","_law_back","_law_front","_law_row","_law_leaves_here","_law_n","_law_k","_law_cell","_law_like","_law_turn","_law_flip","_law_loops","_law_old","_law_share","_law_sweeps_here"] ["_law_n","_law_depths","_law_start"] [none,some 2,some 5]=true:=by decide +kernel
theorem Ux:(["_law_n","_law_depths","_law_start"]:List Str).Nodup:=by decide +kernel
theorem Ss:CZ (DO [(".0",.local),("_law_e",.local),("_law_depths",.free),("_law_k",.free),("_law_turn",.free)]) (B4 Gv) ["_law_script","_law_first","_law_depths","_law_ways","_law_far","_law_start","_law_back","_law_front","_law_row","_law_leaves_here","_law_n","_law_k","_law_cell","_law_like","_law_turn","_law_flip","_law_loops","_law_old","_law_share","_law_sweeps_here"] ["_law_e","_law_depths","_law_k","_law_turn"] [none,some 2,some 11,some 14]=true:=by decide +kernel
theorem Q9:(["_law_e","_law_depths","_law_k","_law_turn"]:List Str).Nodup:=by decide +kernel
theorem Qq:CZ (DO [(".0",.local),("_law_x",.local),("_law_sweeps_here",.free)]) (B4 Hn) ["_law_leaf","_law_depth","_law_kind","_law_at_here","_law_much","_law_k","_law_share","_law_sweeps_here","_law_places_here","_law_e","_law_loop_here","_law_shift","_law_wholes"] ["_law_x","_law_sweeps_here"] [none,some 7]=true:=by decide +kernel
theorem QN:(["_law_x","_law_sweeps_here"]:List Str).Nodup:=by decide +kernel
theorem Sh:CZ (DO [(".0",.local),("_law_leaf",.local),("_law_k",.free)]) (B4 II) ["_law_leaves_here","_law_depths","_law_kind","_law_n","_law_at_here","_law_much","_law_k","_law_share","_law_sweeps_here","_law_places_here","_law_others","_law_e","_law_changed"] ["_law_leaf","_law_k"] [none,some 6]=true:=by decide +kernel
theorem Rq:(["_law_leaf","_law_k"]:List Str).Nodup:=by decide +kernel
theorem TU:CZ (DO [(".0",.local),("_law_path",.local),("len",.globalImplicit)]) (B4 Ho) ["_law_longer","_law_plan","_law_leaves_here","_law_number","_law_cell","_law_paths_here","_law_path","_law_item"] ["_law_path"] [none]=true:=by decide +kernel
theorem S9:(["_law_path"]:List Str).Nodup:=by decide +kernel
theorem Sb:CZ (DO [(".0",.local),("_law_deed",.local),("len",.globalImplicit)]) (B4 I0) ["_law_script","_law_deeds_here","_law_some","_law_program","_law_depths","_law_leaves_here","_law_plan","_law_last","_law_longer","_law_at_here","_law_item"] ["_law_deed"] [none]=true:=by decide +kernel
theorem Ur:(["_law_deed"]:List Str).Nodup:=by decide +kernel
structure Co (K:PySem.W.Frag)(x:Str)(st:Stmt)(f:Addr)(d:FuncData):Prop where
 a:PySem.W.nsIn K mainGlobals x=some (some (.ref f))
 F:BG K x x st f d
structure Lb (K:PySem.W.Frag)(C:Addr)(x q:Str)(st:Stmt)(f:Addr)(d:FuncData):Prop where
 a:PySem.W.findIn K (.ref C) x=some (some (.ref f))
 i:PySem.W.isFn K (.ref f)=true
 F:BG K x q st f d
structure ClA (K:PySem.W.Frag)(C:Addr)(x:Str):Prop where
 a:PySem.W.nsIn K mainGlobals x=some (some (.ref C))
 pg:PySem.W.plainGet K C Str.empty=true
 hd:PySem.W.hasDictIn K C=true
 po:PySem.W.plainOver K C=true
 sa:PySem.W.findIn K (.ref C) "__setattr__"=some (some (.builtin "object.__setattr__"))
 mi:PySem.W.makesIn K C=true
 kc:PySem.W.keepIn K (.ref C)=true
abbrev Cd (x q:Str)(st:Stmt)(ps:List Str):Prop := ∀(kV doc pm:Value) (an:Option Addr) (cdv ct:Value) (us:List Value),us.length=ps.length->bindArgs (PySem.W.fnOf x q (Hw st) (GP st) (B4 st) .none kV doc pm an cdv ct) ⟨us,[]⟩=pure (ps.zip us)
set_option genSizeOf false in
set_option genInjectivity false in
structure Ad where
 f_Number_init:Addr
 d_Number_init:FuncData
 f_Deed_init:Addr
 d_Deed_init:FuncData
 f_Program_init:Addr
 d_Program_init:FuncData
 f_fits:Addr
 d_fits:FuncData
 f_deeds_within:Addr
 d_deeds_within:FuncData
 f_has_bare_sweep:Addr
 d_has_bare_sweep:FuncData
 f_well_placed:Addr
 d_well_placed:FuncData
 f_l_at:Addr
 d_l_at:FuncData
 f_l_digits:Addr
 d_l_digits:FuncData
 f_l_loop:Addr
 d_l_loop:FuncData
 f_l_deeds:Addr
 d_l_deeds:FuncData
 f_l_told:Addr
 d_l_told:FuncData
 f_l_told_deeds:Addr
 d_l_told_deeds:FuncData
 f_l_sweeps:Addr
 d_l_sweeps:FuncData
 f_l_places:Addr
 d_l_places:FuncData
 f_l_leaves:Addr
 d_l_leaves:FuncData
 f_l_items:Addr
 d_l_items:FuncData
 f_l_without:Addr
 d_l_without:FuncData
 f_l_spoilt_places:Addr
 d_l_spoilt_places:FuncData
 f_l_spoilt:Addr
 d_l_spoilt:FuncData
 f_l_deeper:Addr
 d_l_deeper:FuncData
 f_l_put:Addr
 d_l_put:FuncData
 f_l_paths:Addr
 d_l_paths:FuncData
 f_l_hollow:Addr
 d_l_hollow:FuncData
 f_l_asked:Addr
 d_l_asked:FuncData
 f_l_housed:Addr
 d_l_housed:FuncData
 f_law:Addr
 d_law:FuncData
 c_Number:Addr
 c_Deed:Addr
 c_Program:Addr
 u_MOST_PAIRS:Value
 u_MOST_SHIFT:Value
structure Tx (K:PySem.W.Frag)(mg:Str->Option Value)(a:Ad):Prop where
 F_Number_init:BG K "__init__" "Number.__init__" JV a.f_Number_init a.d_Number_init
 b_Number_init:BK K a.d_Number_init ["self","n"] []
 F_Deed_init:BG K "__init__" "Deed.__init__" Jv a.f_Deed_init a.d_Deed_init
 b_Deed_init:BK K a.d_Deed_init ["self","names","lows","highs","table","spots","term","path"] []
 F_Program_init:BG K "__init__" "Program.__init__" J5 a.f_Program_init a.d_Program_init
 b_Program_init:BK K a.d_Program_init ["self","size","deeds"] []
 F_fits:BG K "fits" "fits" Gu a.f_fits a.d_fits
 b_fits:BK K a.d_fits ["program","plan"] []
 m_fits:mg "fits"=some (.ref a.f_fits)
 F_deeds_within:BG K "deeds_within" "deeds_within" J8 a.f_deeds_within a.d_deeds_within
 b_deeds_within:BK K a.d_deeds_within ["items","path","cuts"] []
 m_deeds_within:mg "deeds_within"=some (.ref a.f_deeds_within)
 F_has_bare_sweep:BG K "has_bare_sweep" "has_bare_sweep" HW a.f_has_bare_sweep a.d_has_bare_sweep
 b_has_bare_sweep:BK K a.d_has_bare_sweep ["items"] []
 m_has_bare_sweep:mg "has_bare_sweep"=some (.ref a.f_has_bare_sweep)
 F_well_placed:BG K "well_placed" "well_placed" HR a.f_well_placed a.d_well_placed
 b_well_placed:BK K a.d_well_placed ["deed","places","cuts"] []
 m_well_placed:mg "well_placed"=some (.ref a.f_well_placed)
 F_l_at:BG K "_law_at" "_law_at" K0 a.f_l_at a.d_l_at
 b_l_at:BK K a.d_l_at ["_law_script","_law_k"] []
 m_l_at:mg "_law_at"=some (.ref a.f_l_at)
 F_l_digits:BG K "_law_digits" "_law_digits" JH a.f_l_digits a.d_l_digits
 b_l_digits:BK K a.d_l_digits ["_law_cell","_law_sizes"] []
 m_l_digits:mg "_law_digits"=some (.ref a.f_l_digits)
 F_l_loop:BG K "_law_loop" "_law_loop" Im a.f_l_loop a.d_l_loop
 b_l_loop:BK K a.d_l_loop ["_law_cell","_law_loops"] []
 m_l_loop:mg "_law_loop"=some (.ref a.f_l_loop)
 F_l_deeds:BG K "_law_deeds" "_law_deeds" J3 a.f_l_deeds a.d_l_deeds
 b_l_deeds:BK K a.d_l_deeds ["_law_script","_law_first","_law_count"] []
 m_l_deeds:mg "_law_deeds"=some (.ref a.f_l_deeds)
 F_l_told:BG K "_law_told" "_law_told" JS a.f_l_told a.d_l_told
 b_l_told:BK K a.d_l_told ["_law_spot","_law_scale","_law_base"] []
 m_l_told:mg "_law_told"=some (.ref a.f_l_told)
 F_l_told_deeds:BG K "_law_told_deeds" "_law_told_deeds" FZ a.f_l_told_deeds a.d_l_told_deeds
 b_l_told_deeds:BK K a.d_l_told_deeds ["_law_deeds_here","_law_scale","_law_base"] []
 m_l_told_deeds:mg "_law_told_deeds"=some (.ref a.f_l_told_deeds)
 F_l_sweeps:BG K "_law_sweeps" "_law_sweeps" Jm a.f_l_sweeps a.d_l_sweeps
 b_l_sweeps:BK K a.d_l_sweeps ["_law_script","_law_first","_law_depth","_law_old","_law_ways"] []
 m_l_sweeps:mg "_law_sweeps"=some (.ref a.f_l_sweeps)
 F_l_places:BG K "_law_places" "_law_places" JM a.f_l_places a.d_l_places
 b_l_places:BK K a.d_l_places ["_law_script","_law_first","_law_sweeps_here","_law_loops","_law_far"] []
 m_l_places:mg "_law_places"=some (.ref a.f_l_places)
 F_l_leaves:BG K "_law_leaves" "_law_leaves" Gv a.f_l_leaves a.d_l_leaves
 b_l_leaves:BK K a.d_l_leaves ["_law_script","_law_first","_law_depths","_law_ways","_law_far"] []
 m_l_leaves:mg "_law_leaves"=some (.ref a.f_l_leaves)
 F_l_items:BG K "_law_items" "_law_items" Jd a.f_l_items a.d_l_items
 b_l_items:BK K a.d_l_items ["_law_leaves_here","_law_level"] []
 m_l_items:mg "_law_items"=some (.ref a.f_l_items)
 F_l_without:BG K "_law_without" "_law_without" Jn a.f_l_without a.d_l_without
 b_l_without:BK K a.d_l_without ["_law_leaves_here","_law_n"] []
 m_l_without:mg "_law_without"=some (.ref a.f_l_without)
 F_l_spoilt_places:BG K "_law_spoilt_places" "_law_spoilt_places" Hn a.f_l_spoilt_places a.d_l_spoilt_places
 b_l_spoilt_places:BK K a.d_l_spoilt_places ["_law_leaf","_law_depth","_law_kind","_law_at_here","_law_much"] []
 m_l_spoilt_places:mg "_law_spoilt_places"=some (.ref a.f_l_spoilt_places)
 F_l_spoilt:BG K "_law_spoilt" "_law_spoilt" II a.f_l_spoilt a.d_l_spoilt
 b_l_spoilt:BK K a.d_l_spoilt ["_law_leaves_here","_law_depths","_law_kind","_law_n","_law_at_here","_law_much"] []
 m_l_spoilt:mg "_law_spoilt"=some (.ref a.f_l_spoilt)
 F_l_deeper:BG K "_law_deeper" "_law_deeper" Jp a.f_l_deeper a.d_l_deeper
 b_l_deeper:BK K a.d_l_deeper ["_law_leaves_here","_law_n","_law_many","_law_way"] []
 m_l_deeper:mg "_law_deeper"=some (.ref a.f_l_deeper)
 F_l_put:BG K "_law_put" "_law_put" JE a.f_l_put a.d_l_put
 b_l_put:BK K a.d_l_put ["_law_items_here","_law_path","_law_item"] []
 m_l_put:mg "_law_put"=some (.ref a.f_l_put)
 F_l_paths:BG K "_law_paths" "_law_paths" JX a.f_l_paths a.d_l_paths
 b_l_paths:BK K a.d_l_paths ["_law_leaves_here"] []
 m_l_paths:mg "_law_paths"=some (.ref a.f_l_paths)
 F_l_hollow:BG K "_law_hollow" "_law_hollow" Jo a.f_l_hollow a.d_l_hollow
 b_l_hollow:BK K a.d_l_hollow ["_law_plan","_law_leaves_here","_law_n","_law_at_here","_law_much"] []
 m_l_hollow:mg "_law_hollow"=some (.ref a.f_l_hollow)
 F_l_asked:BG K "_law_asked" "_law_asked" J4 a.f_l_asked a.d_l_asked
 b_l_asked:BK K a.d_l_asked ["_law_program","_law_leaves_here","_law_depths","_law_plan","_law_script"] []
 m_l_asked:mg "_law_asked"=some (.ref a.f_l_asked)
 F_l_housed:BG K "_law_housed" "_law_housed" Ho a.f_l_housed a.d_l_housed
 b_l_housed:BK K a.d_l_housed ["_law_longer","_law_plan","_law_leaves_here","_law_number","_law_cell"] []
 m_l_housed:mg "_law_housed"=some (.ref a.f_l_housed)
 F_law:BG K "law" "law" I0 a.f_law a.d_law
 b_law:BK K a.d_law ["_law_script"] []
 m_law:mg "law"=some (.ref a.f_law)
 cl_Number:EN K a.c_Number
 mc_Number:mg "Number"=some (.ref a.c_Number)
 mk_Number:Mk K a.c_Number a.f_Number_init
 n_Number_n:Dr K a.c_Number "n"
 cl_Deed:EN K a.c_Deed
 mc_Deed:mg "Deed"=some (.ref a.c_Deed)
 mk_Deed:Mk K a.c_Deed a.f_Deed_init
 n_Deed_names:Dr K a.c_Deed "names"
 n_Deed_lows:Dr K a.c_Deed "lows"
 n_Deed_highs:Dr K a.c_Deed "highs"
 n_Deed_table:Dr K a.c_Deed "table"
 n_Deed_spots:Dr K a.c_Deed "spots"
 n_Deed_term:Dr K a.c_Deed "term"
 n_Deed_path:Dr K a.c_Deed "path"
 cl_Program:EN K a.c_Program
 mc_Program:mg "Program"=some (.ref a.c_Program)
 mk_Program:Mk K a.c_Program a.f_Program_init
 n_Program_size:Dr K a.c_Program "size"
 n_Program_deeds:Dr K a.c_Program "deeds"
 z_abs:mg "abs"=none
 z_all:mg "all"=none
 z_any:mg "any"=none
 z_bool:mg "bool"=none
 z_enumerate:mg "enumerate"=none
 z_int:mg "int"=none
 z_isinstance:mg "isinstance"=none
 z_len:mg "len"=none
 z_list:mg "list"=none
 z_max:mg "max"=none
 z_min:mg "min"=none
 z_range:mg "range"=none
 z_sorted:mg "sorted"=none
 z_tuple:mg "tuple"=none
 z_zip:mg "zip"=none
 g_MOST_PAIRS:mg "MOST_PAIRS"=some a.u_MOST_PAIRS
 r_MOST_PAIRS:AM (.int 6) a.u_MOST_PAIRS
 g_MOST_SHIFT:mg "MOST_SHIFT"=some a.u_MOST_SHIFT
 r_MOST_SHIFT:AM (.int 1000000000000000000) a.u_MOST_SHIFT
def Ee (a:Ad):Cs:=⟨a.c_Number,0,0,0⟩
section
variable {P:Program}{w:World}{K:PySem.W.Frag}{mg:Str->Option Value}{base:Heap}{a:Ad}
theorem NK (T:Tx K mg a):Bz P w K mg base BS 1 a.f_Number_init a.d_Number_init ["self","n"] (Rn a.c_Number):=by
 refine T.F_Number_init.ok TH (fun vs H Q E h=>?_) (fun cdv A outer s H vs Q E hr h=>?_)
 .obtain⟨_,_,_,rfl,_⟩:=h;rfl
 obtain⟨x,dx,n,rfl,hx,q⟩:=h
 refine⟨_,(@Aj _ _ _ (@EB _ _ _ _ _ _ _ _ (pv 0) (pv 1) rfl)),?_⟩
 exact⟨_,rfl,_,rfl,x,_,dx,_,rfl,hx,T.cl_Number,T.n_Number_n,(by show 0<1000;decide),q _ (fun b o e hb=>by rw[Aw hb];exact e) ⟨dx,A5⟩⟩
theorem MJ (T:Tx K mg a):Bz P w K mg base BS 1 a.f_Deed_init a.d_Deed_init ["self","names","lows","highs","table","spots","term","path"] (UG a.c_Deed):=by
 refine T.F_Deed_init.ok Ul (fun vs H Q E h=>?_) (fun cdv A outer s H vs Q E hr h=>?_)
 .obtain⟨_,_,_,_,_,_,_,_,_,rfl,_⟩:=h;rfl
 obtain⟨x,dx,v1,v2,v3,v4,v5,v6,v7,rfl,hx,q⟩:=h
 refine⟨_,(@A8 _ _ _ _ _ (@EB _ _ _ _ _ _ _ _ (pv 0) (pv 1) rfl) (@A8 _ _ _ _ _ (@EB _ _ _ _ _ _ _ _ (pv 0) (pv 2) rfl) (@A8 _ _ _ _ _ (@EB _ _ _ _ _ _ _ _ (pv 0) (pv 3) rfl) (@A8 _ _ _ _ _ (@EB _ _ _ _ _ _ _ _ (pv 0) (pv 4) rfl) (@A8 _ _ _ _ _ (@EB _ _ _ _ _ _ _ _ (pv 0) (pv 5) rfl) (@A8 _ _ _ _ _ (@EB _ _ _ _ _ _ _ _ (pv 0) (pv 6) rfl) (@Aj _ _ _ (@EB _ _ _ _ _ _ _ _ (pv 0) (pv 7) rfl)))))))),?_⟩
 refine⟨_,rfl,_,rfl,x,_,dx,_,rfl,hx,T.cl_Deed,T.n_Deed_names,(by show 0<1000;decide),?_⟩
 refine⟨_,rfl,_,rfl,x,_,dx,_,rfl,A5,T.cl_Deed,T.n_Deed_lows,(by show 1<1000;decide),?_⟩
 refine⟨_,rfl,_,rfl,x,_,dx,_,rfl,A5,T.cl_Deed,T.n_Deed_highs,(by show 2<1000;decide),?_⟩
 refine⟨_,rfl,_,rfl,x,_,dx,_,rfl,A5,T.cl_Deed,T.n_Deed_table,(by show 3<1000;decide),?_⟩
 refine⟨_,rfl,_,rfl,x,_,dx,_,rfl,A5,T.cl_Deed,T.n_Deed_spots,(by show 4<1000;decide),?_⟩
 refine⟨_,rfl,_,rfl,x,_,dx,_,rfl,A5,T.cl_Deed,T.n_Deed_term,(by show 5<1000;decide),?_⟩
 refine⟨_,rfl,_,rfl,x,_,dx,_,rfl,A5,T.cl_Deed,T.n_Deed_path,(by show 6<1000;decide),?_⟩
 exact q _ (fun b o e hb=>by
  repeat rw[Aw hb]
  exact e) ⟨dx,A5⟩
theorem TR (T:Tx K mg a):Bz P w K mg base BS 1 a.f_Program_init a.d_Program_init ["self","size","deeds"] (Qu K a.c_Program):=by
 refine T.F_Program_init.ok SY (fun vs H Q E h=>?_) (fun cdv A outer s H vs Q E hr h=>?_)
 .obtain⟨_,_,_,_,_,rfl,_⟩:=h;rfl
 obtain⟨x,dx,sz,p,ys,rfl,hx,hp,q⟩:=h
 refine⟨_,(@A8 _ _ _ _ _ (@EB _ _ _ _ _ _ _ _ (pv 0) (pv 1) rfl) (@Aj _ _ _ (@EB _ _ _ _ _ _ _ _ (pv 0) (@Dg _ _ _ _ _ _ _ _ _ MD (by rfl) T.z_list Lk (@A0 _ _ _ _ _ (pv 2) A2 (by rfl)) (by decide) (by decide) (by rfl) (by rfl)) rfl))),?_⟩
 refine⟨_,rfl,_,rfl,x,_,dx,_,rfl,hx,T.cl_Program,T.n_Program_size,(by show 0<1000;decide),?_⟩
 refine⟨_,rfl,p,ys,rfl,.inl (A4.updI hp hx),fun l hl=>?_⟩
 have nxl:x≠l:=fun e=>by rw[e,A5]at hl;cases hl
 have hlH:H l=none:=by rw[Aw (Ne.symm nxl)]at hl;exact hl
 refine⟨_,rfl,x,_,dx,_,rfl,(by rw[Aw nxl];exact A5),T.cl_Program,T.n_Program_deeds,(by show 1<1000;decide),?_⟩
 refine q l _ hlH (fun b o e hb=>?_) ?_ ⟨dx,A5⟩
 .rw[Aw hb,Aw (BA e hlH),Aw hb]
  exact e
 .rw[Aw (Ne.symm nxl)]
  exact A5
theorem Me (T:Tx K mg a):∀n:Nat,Bz P w K mg base BS (n+2) a.f_deeds_within a.d_deeds_within ["items","path","cuts"] (MS n)
 |
  0=>by
  have no:∀vs H Q E,¬MS 0 vs H Q E:=fun vs H Q E h=>by
   obtain⟨it,pa,cu,f,P',cs,_,_,_,_,hd,_⟩:=h
   have:=FO f
   omega
  exact⟨fun vs H Q E h=>absurd h (no vs H Q E),fun A outer s H args us vs Q E _ _ _ _ h=>absurd h (no vs H Q E)⟩
 |
  n+1=>by
  have G_deeds_within:=Me T n
  refine T.F_deeds_within.ok Ht (fun vs H Q E h=>?_) (fun cdv A outer s H vs Q E hr h=>?_)
  .obtain⟨_,_,_,_,_,_,rfl,_⟩:=h;rfl
  obtain⟨it,pa,cu,f,PP,cs,rfl,⟨xs,hit,hf⟩,hpa,hcu,hdep,pl,cl,hlen,q⟩:=h
  refine⟨_,(@A8 _ _ _ _ _ (@Ai _ _ (3) _ _ _ _ Ht.nd rfl (Or.inl rfl) (@BU _ _ _ _ A2) (by rfl) (by first|exact .inl rfl|exact .inr rfl|assumption)) (@A8 _ _ _ _ _ (@F3 _ _ _ _ _ _ _ _ PassesOwn.never rfl (@SU _ _ _ _ _ _ _ _ (by rfl) T.z_enumerate (@A0 _ _ _ _ _ (pv 0) A2 (by rfl)) (by rfl)) (Du rfl (Av (Ao (i:=4) Ht.nd rfl (Or.inl rfl)) (Av (Ao (i:=5) Ht.nd rfl (Or.inl rfl)) Cr))) (@A8 _ _ _ _ _ (@Ai _ _ (6) _ _ _ _ Ht.nd rfl (Or.inl rfl) (@A3 _ _ _ _ _ _ _ _ CJ (pv 1) (@AN _ _ _ _ _ (@A0 _ _ _ _ _ (pv 4) A2 (by rfl)))) (by rfl) (by first|exact .inl rfl|exact .inr rfl|assumption)) (@Aj _ _ _ (@AY _ _ _ _ _ _ _ _ (@AA _ _ _ _ _ _ _ _ Bn (@Ah _ _ _ _ _ _ _ AG (pv 5) A1 (fun _ _=>rfl)) BL (@Am _ _ (by decide) (by decide))) (@Aj _ _ _ (@DF _ _ _ _ (@DI _ _ _ _ _ _ _ _ _ _ _ _ Dz EV EW Et (pv 3) (@A0 _ _ _ _ _ (@Cq _ _ _ _ _ (@Ae _ _ _ _ _ (@Ah _ _ _ _ _ _ _ AG (pv 5) A1 (fun _ _=>rfl)) (@Ae _ _ _ _ _ (@Ah _ _ _ _ _ _ _ AG (pv 5) A1 (fun _ _=>rfl)) (@Ae _ _ _ _ _ (pv 6) (@Ae _ _ _ _ _ (pv 2) BF Bi) Bi) EI) EI)) A2 (by rfl)) (by rfl) (by rfl) (by rfl) (by rfl) (by rfl)) (by rfl))) (@Aj _ _ _ (@DF _ _ _ _ (@DI _ _ _ _ _ _ _ _ _ _ _ _ Dz PySem.F.slot_list_extend PySem.F.type_list_extend TJ (pv 3) (@A0 _ _ _ _ _ (@AJ _ _ _ _ _ _ _ _ _ _ _ _ _ _ _ _ G_deeds_within (hr.mono (by omega)) (by rfl) T.m_deeds_within T.F_deeds_within.kp T.b_deeds_within .nil AD (@A0 _ _ _ _ _ (@Ah _ _ _ _ _ _ _ AG (pv 5) A1 (fun _ _=>rfl)) (@A0 _ _ _ _ _ (pv 6) (@A0 _ _ _ _ _ (@A3 _ _ _ _ _ _ _ _ CJ (pv 2) (@AN _ _ _ _ _ (@A0 _ _ _ _ _ (@Ah _ _ _ _ _ _ _ AG (pv 5) A1 (fun _ _=>rfl)) A2 (by rfl)))) A2 (by rfl)) (by rfl)) (by rfl)) (by decide) (by rfl) (by rfl)) A2 (by rfl)) (by rfl) (by rfl) (by rfl) (by rfl) (by rfl)) (by rfl)))))) (by intro _;rfl)) (@Aj _ _ _ (@AX _ _ _ _ (pv 3))))),?_⟩
  refine⟨Af rfl,fun fo hfo=>?_⟩
  have e1:=A7 hfo (.lst [])
  have hfo1:(upd H fo (.lst [])) fo=some (.lst []):=A5
  generalize upd H fo (.lst [])=H1 at e1 hfo1
  refine⟨_,rfl,it,rfl,⟨_,A9.of (e1 _ _ hit)⟩,?_⟩
  refine PX (xs:=xs) (fun i σ' H'=>∃(g:Ac) (done:List (Fo.En×List Bool)) (ys:List V) (o4 o5 o6:Option V),σ'=[some (.ref it),some (.ref pa),some (.ref cu),some (.ref fo),o4,o5,o6]/\Aa H H'/\AI H (xs.drop i) g/\AU g<=n+1/\H' fo=some (.lst ys)/\As (FB H') ys done/\done++AO g PP i cs=AO f PP 0 cs) ⟨f,[],[],_,_,_,rfl,e1,hf,hdep,hfo1,.nil,rfl⟩ (fun i σ' H' _ pp=>by obtain⟨_,_,_,_,_,_,_,e,_⟩:=pp;exact A9.of (e _ _ hit)) (fun i x Tt σ' H' hx pp hT=>?_) (fun σ' H' pp=>?_)
  rotate_left
  .obtain⟨g,done,ys,o4,o5,o6,rfl,e,hg,_,hy,ay,hd⟩:=pp
   have hz:xs.drop xs.length=[]:=OY (Ak _)
   rw[hz]at hg
   have gn:g = .nil:=by
    cases g with
    |nil=>rfl
    |leaf k pl r=>obtain⟨_,_,_,z,_⟩:=hg;cases z
    |node c w s r=>obtain⟨_,_,_,_,z,_⟩:=hg;cases z
   subst gn
   have:done=AO f PP 0 cs:=by rw[←hd];show done=done++[];rw[EA]
   rw[this]at ay
   exact⟨_,rfl,q fo ys _ e hy ay⟩
  obtain⟨g,done,ys,o4,o5,o6,rfl,e,hg,gdep,hy,ay,hd⟩:=pp
  obtain⟨hi,ex⟩:=Ay.mp hx
  rw[Gh hi,ex]at hg
  have tot:=congrArg List.length hd
  rw[Ap]at tot
  have yl:=ay.1
  have sT:=A7 hT (.tup [V.int (i:Int),x])
  have e2:=e.trans sT
  have hy2:=sT _ _ hy
  have ay2:=ay.mono fun y v z=>z.over sT
  refine⟨Tt,_,rfl,A9.of A5,rfl,_,_,rfl,_,_,rfl,rfl,?_⟩
  generalize upd H' Tt (.tup [V.int (i:Int),x])=H2 at e2 hy2 ay2
  refine⟨_,rfl,_,rfl,Af rfl,fun t1 ht1=>?_⟩
  have s3:=A7 ht1 (.tup [V.int (i:Int)])
  refine⟨pa,t1,_,[V.int (i:Int)],rfl,rfl,s3 _ _ (e2 _ _ hpa),A5,AF (by rw[Al,Au];omega),fun he H3 e3 hhe=>?_⟩
  have hhe:H3 he=some (.tup ((PP++[(i:Int)]).map V.int)):=by rw[B8];exact hhe
  have e23:=s3.trans e3
  have eH3:=e2.trans e23
  have hy3:=e23 _ _ hy2
  have ay3:=ay2.mono fun y v z=>z.over e23
  dsimp only[Ag]
  clear s3 e3 sT
  cases g with
  |nil=>cases hg
  |
   leaf k pl rest=>
   obtain⟨t,pp,zs,z,ht,hpr,hrest⟩:=hg
   cases z
   change AU rest<=n+1 at gdep
   change done++((⟨k,pl,PP++[(i:Int)]⟩,cs)::AO rest PP (i+1) cs)=AO f PP 0 cs at hd
   have tot':done.length+(AO rest PP (i+1) cs).length+1=(AO f PP 0 cs).length:=by rw[←hd,Ap,B5];omega
   refine⟨_,rfl,t,_,0,_,rfl,rfl,A9.of (eH3 _ _ ht),rfl,rfl,_,rfl,C8 (v:=true) (Cw rfl) (C0 ?_)⟩
   refine⟨_,rfl,.inl ⟨rfl,_,A4.of hy3⟩,_,rfl,t,_,1,_,rfl,rfl,A9.of (eH3 _ _ ht),rfl,_,rfl,t,_,2,_,rfl,rfl,A9.of (eH3 _ _ ht),rfl,_,rfl,_,rfl,Af rfl,fun r hr=>?_⟩
   have s4:=A7 hr (.tup [V.int k,V.ref pp,V.ref he,V.ref cu])
   have nr:r≠fo:=fun z=>by rw[z,hy3]at hr;cases hr
   refine⟨fo,_,_,rfl,rfl,s4 _ _ hy3,E8 (by omega),?_⟩
   have tk:=(Aa.tk s4).trans (TK.upd (o:=.lst (ys++[V.ref r])) (s4 _ _ hy3))
   refine⟨rest,done++[(⟨k,pl,PP++[(i:Int)]⟩,cs)],_,_,_,_,rfl,fun a o ha=>by rw[Aw (BA ha hfo)];exact s4 _ _ (eH3 _ _ ha),hrest,gdep,A5,?_,by rw[CV];exact hd⟩
   exact(ay3.mono fun y v z=>z.tk tk).snoc ⟨r,pp,he,cu,rfl,by rw[Aw nr];exact A5,(hpr.over eH3).tk tk,tk _ _ (eH3 _ _ hcu)⟩
  |
   node c w sub rest=>
   obtain⟨t,pp,zs,us,z,ht,hpp,hsub,hrest⟩:=hg
   cases z
   unfold AU at gdep
   change done++(AO sub (PP++[(i:Int)]) 0 (cs++[c])++AO rest PP (i+1) cs)=AO f PP 0 cs at hd
   have tot':done.length+((AO sub (PP++[(i:Int)]) 0 (cs++[c])).length+(AO rest PP (i+1) cs).length)=(AO f PP 0 cs).length:=by rw[←hd,Ap,Ap]
   refine⟨_,rfl,t,_,0,_,rfl,rfl,A9.of (eH3 _ _ ht),rfl,rfl,_,rfl,C8 (v:=false) (dS (by decide +kernel)) (BH ?_)⟩
   refine⟨_,rfl,.inl ⟨rfl,_,A4.of hy3⟩,_,rfl,t,_,3,_,rfl,rfl,A9.of (eH3 _ _ ht),rfl,_,rfl,_,rfl,_,rfl,t,_,1,_,rfl,rfl,A9.of (eH3 _ _ ht),rfl,Af rfl,fun t2 ht2=>?_⟩
   have s4:=A7 ht2 (.tup [V.bl c])
   refine⟨cu,t2,cs.map V.bl,[V.bl c],rfl,rfl,s4 _ _ (eH3 _ _ hcu),A5,AF (by rw[Al,Au];omega),fun cu2 H4 e4 hcu2=>?_⟩
   have hcu2:H4 cu2=some (.tup ((cs++[c]).map V.bl)):=by rw[B8];exact hcu2
   have e34:=s4.trans e4
   have eH4:=eH3.trans e34
   refine⟨pp,he,cu2,sub,PP++[(i:Int)],cs++[c],rfl,⟨zs,eH4 _ _ hpp,AI.over eH4 hsub⟩,e34 _ _ hhe,hcu2,by omega,by rw[Ap,Au];omega,by rw[Ap,Au];omega,by omega,fun r ys2 H5 e5 hr5 ay5=>?_⟩
   have yl5:=ay5.1
   have hy5:=(e34.trans e5) _ _ hy3
   refine⟨fo,r,_,_,rfl,rfl,hy5,hr5,AF (by omega),?_⟩
   have tk:=TK.upd (o:=.lst (ys++ys2)) hy5
   refine⟨rest,done++AO sub (PP++[(i:Int)]) 0 (cs++[c]),_,_,_,_,rfl,fun a o ha=>by rw[Aw (BA ha hfo)];exact e5 _ _ (eH4 _ _ ha),hrest,by omega,A5,?_,by rw[CV];exact hd⟩
   exact((ay3.mono fun y v z=>(z.over (e34.trans e5)).tk tk)).app (ay5.mono fun y v z=>z.tk tk)
theorem Ol (T:Tx K mg a):∀n:Nat,Bz P w K mg base BS (n+1) a.f_has_bare_sweep a.d_has_bare_sweep ["items"] (Oy n)
 |
  0=>by
  have no:∀vs H Q E,¬Oy 0 vs H Q E:=fun vs H Q E h=>by
   obtain⟨_,f,_,_,h1,_⟩:=h
   have:=FO f
   omega
  exact⟨fun vs H Q E h=>absurd h (no vs H Q E),fun A outer s H args us vs Q E _ _ _ _ h=>absurd h (no vs H Q E)⟩
 |
  n+1=>by
  have G_has_bare_sweep:=Ol T n
  refine T.F_has_bare_sweep.ok S7 (fun vs H Q E h=>?_) (fun cdv A outer s H vs Q E hr h=>?_)
  .obtain⟨_,_,rfl,_⟩:=h;rfl
  obtain⟨p,f,rfl,⟨xs,hp,hf⟩,hdep,hc,hb10,q⟩:=h
  refine⟨_,(@Aj _ _ _ (@AX _ _ _ _ (@AE _ _ _ _ _ _ _ _ _ (@UK _ rfl) (by rfl) T.z_any SM (@A0 _ _ _ _ _ (@Fz _ _ _ _ _ _ _ ["item"] [none] _ _ _ _ (by rfl) (@Nu _ _ _ _ (pv 0)) Qz (fun _ _ _ _ _ _=>⟨(Ao (i:=0) QU rfl (Or.inl rfl)),@EG _,(@GV _ _ _ _ _ _ _ (@Cm _ _ _ _ _ _ _ _ Bn (@Ah _ _ _ _ _ _ _ (show CS _ (DM K) from AG) (pv 0) A1 (fun _ _=>rfl)) BL (@Am _ _ (by decide) (by decide))) (@F1 _ _ _ _ _ (@Lw _ _ _ _ _ _ _ (@Cm _ _ _ _ _ _ _ _ (show BE _ _ (FG K false) from GF (@F5 _ _ hr)) (@Ah _ _ _ _ _ _ _ (show CS _ (DM K) from AG) (pv 0) A1 (fun _ _=>rfl)) (@AN _ _ _ _ _ A2) (@Am _ _ (by decide) (by decide))) (@F1 _ _ _ _ _ (@AJ _ _ _ _ _ _ _ _ _ _ _ _ _ _ _ _ G_has_bare_sweep (hr.mono (by omega)) (by rfl) T.m_has_bare_sweep T.F_has_bare_sweep.kp T.b_has_bare_sweep .nil AD (@A0 _ _ _ _ _ (@Ah _ _ _ _ _ _ _ (show CS _ (DM K) from AG) (pv 0) A1 (fun _ _=>rfl)) A2 (by rfl)) (by decide) (by rfl) (by rfl))))))⟩) (by intro _;rfl)) A2 (by rfl)) (by decide) (by decide) (by rfl) (by rfl)))),?_⟩
  have xl:=Kl hf
  refine⟨_,rfl,p,rfl,⟨_,A9.of hp⟩,?_⟩
  refine Qb (xs:=xs) (fun i ys H'=>Aa H H'/\ys.length=i/\∃g,AI H (xs.drop i) g/\AU g<=n+1/\Ax g<=1000/\ys++(Ec g).map V.bl=(Ec f).map V.bl) ⟨Aa.refl _,rfl,f,hf,hdep,hc,rfl⟩ (AF (by omega)) (fun i ys H' hi pp=>⟨A9.of (pp.1 _ _ hp),Ga pp.2.1⟩) (fun i x ys H' hx pp=>?_) (fun ys H' pp r hr'=>?_)
  rotate_left
  .obtain⟨e,_,g,hg,_,_,hb⟩:=pp
   rw[List.drop_of_length_le (Ak _)]at hg
   have hg0:g = .nil:=by
    cases g with
    |nil=>rfl
    |leaf k pl rest=>obtain⟨_,_,_,z,_⟩:=hg;cases z
    |node c w sub rest=>obtain⟨_,_,_,_,z,_⟩:=hg;cases z
   subst hg0
   rw[show(Ec .nil).map V.bl=[] from rfl,EA]at hb
   subst hb
   refine⟨r,_,rfl,A4.of A5,?_⟩
   rw[Jg]
   exact q _ (e.trans (A7 hr' _))
  obtain⟨e,yl,g,hg,dg,cg,hb⟩:=pp
  obtain⟨hi,ex⟩:=Ay.mp hx
  rw[Gh hi,ex]at hg
  have yl':∀v:V,(ys++[v]).length=i+1:=fun v=>by rw[Ap,yl];rfl
  cases g with
  |nil=>cases hg
  |
   leaf k pl rest=>
   obtain⟨t,p1,ys',z,ht,_,hrest⟩:=hg
   cases z
   have no:decide (V.str "deed"=V.str "sweep")=false:=dS (by decide +kernel)
   refine⟨_,rfl,t,_,0,_,rfl,rfl,A9.of (e _ _ ht),rfl,rfl,_,rfl,C8 (v:=false) no (BH ?_)⟩
   refine⟨e,yl' _,rest,hrest,dg,by change Ax rest+1<=1000 at cg;omega,?_⟩
   rw[CV]
   exact hb
  |
   node c w sub rest=>
   obtain⟨t,p1,zs,ys',z,ht,hp1,hsub,hrest⟩:=hg
   cases z
   unfold AU at dg
   change Ax sub+Ax rest+1<=1000 at cg
   refine⟨_,rfl,t,_,0,_,rfl,rfl,A9.of (e _ _ ht),rfl,rfl,_,rfl,C8 (v:=true) (Cw rfl) (C0 ?_)⟩
   refine⟨_,rfl,t,_,3,_,rfl,rfl,A9.of (e _ _ ht),rfl,Af rfl,fun u hu=>?_⟩
   have s1:=A7 hu (.tup [])
   have e1:=e.trans s1
   have tr:BN K (upd H' u (.tup [])) (.ref p1) (.tup (D5 sub)):=(Qe ⟨zs,e1 _ _ hp1,AI.over e1 hsub⟩).tr
   have df:=JT sub
   refine⟨.tup (D5 sub),.tup [],tr,.tup (A9.of A5) .nil,⟨_,rfl⟩,⟨_,rfl⟩,?_,by rw[Bu];omega,_,rfl,?_⟩
   .rw[Ci]
    cases D5 sub<;>rfl
   have rc1:(sub = .nil->False)->Ec (.node c w sub rest)=B9 sub::Ec rest:=fun ne=>by
    cases sub with
    |nil=>exact(ne rfl).elim
    |leaf k pl r=>rfl
    |node c w s r=>rfl
   by_cases ne:sub = .nil
   .subst ne
    refine C8 (v:=true) (by show(if false=true then _ else Br (.tup (D5 .nil)) (.tup []))=true;rw[D5,Br,BI];rfl) (C0 ?_)
    refine⟨e1,yl' _,rest,hrest,by omega,by omega,?_⟩
    rw[CV]
    exact hb
   have ef:Br (.tup (D5 sub)) (.tup [])=false:=by
    rw[Br]
    cases sub with
    |nil=>exact absurd rfl ne
    |leaf k pl r=>rfl
    |node c w s r=>rfl
   refine C8 (v:=false) (by rw[ef];rfl) (BH ?_)
   refine⟨_,rfl,t,_,3,_,rfl,rfl,A9.of (e1 _ _ ht),rfl,p1,sub,rfl,⟨zs,e1 _ _ hp1,AI.over e1 hsub⟩,by omega,by omega,by omega,fun H2 e2=>?_⟩
   refine⟨e1.trans e2,yl' _,rest,hrest,by omega,by omega,?_⟩
   rw[rc1 ne]at hb
   rw[CV]
   exact hb
theorem PN (T:Tx K mg a):Bz P w K mg base BS 1 a.f_well_placed a.d_well_placed ["deed","places","cuts"] (PM a.c_Deed (Ee a)):=by
 refine T.F_well_placed.ok ID (fun vs H Q E h=>?_) (fun cdv A outer s H vs Q E hr h=>?_)
 .obtain⟨_,_,_,_,_,_,rfl,_⟩:=h;rfl
 obtain⟨x,pl,cu,D,ps0,cs,rfl,⟨p,dx,nm,lo,hi,ps,pt,ob,ls,hs,rfl,h0,h1,_⟩,m3,⟨xs,hpl,ap⟩,hcu,p60,q⟩:=h
 refine⟨_,(@A8 _ _ _ _ _ (@Ai _ _ (3) _ _ _ _ ID.nd rfl (Or.inl rfl) (@AE _ _ _ _ _ _ _ _ _ AS (by rfl) T.z_len AR (@A0 _ _ _ _ _ (@La _ _ _ _ _ (pv 0) rfl) A2 (by rfl)) (by decide) (by decide) (by rfl) (by rfl)) (by rfl) (by first|exact .inl rfl|exact .inr rfl|assumption)) (@A8 _ _ _ _ _ (@AY _ _ _ _ _ _ _ _ ((@GX _ _ _ _ _ _ _ (@AA _ _ _ _ _ _ _ _ N7 (@AE _ _ _ _ _ _ _ _ _ AS (by rfl) T.z_len AR (@A0 _ _ _ _ _ (pv 1) A2 (by rfl)) (by decide) (by decide) (by rfl) (by rfl)) (@AE _ _ _ _ _ _ _ _ _ AS (by rfl) T.z_len AR (@A0 _ _ _ _ _ (pv 2) A2 (by rfl)) (by decide) (by decide) (by rfl) (by rfl)) (@Am _ _ (by decide) (by decide))) (@Hv _ _ _ _ (@AA _ _ _ _ _ _ _ _ CW (@AE _ _ _ _ _ _ _ _ _ AS (by rfl) T.z_len AR (@A0 _ _ _ _ _ (pv 1) A2 (by rfl)) (by decide) (by decide) (by rfl) (by rfl)) (@Nd _ _ _ _ _ (by rfl) T.g_MOST_PAIRS T.r_MOST_PAIRS (by decide)) (@Am _ _ (by decide) (by decide)))))).pt (@Aj _ _ _ (@AX _ _ _ _ CD)) Bb) (@A8 _ _ _ _ _ (@F3 _ _ _ _ _ _ _ _ PassesOwn.never rfl (@Nu _ _ _ _ (pv 1)) (Du rfl (Av (Ao (i:=4) ID.nd rfl (Or.inl rfl)) (Av (Ao (i:=5) ID.nd rfl (Or.inl rfl)) Cr))) (@Aj _ _ _ (@AY _ _ _ _ _ _ _ _ ((@GX _ _ _ _ _ _ _ (@AA _ _ _ _ _ _ _ _ Em (pv 4) A1 (@Am _ _ (by decide) (by decide))) (@GX _ _ _ _ _ _ _ (@AA _ _ _ _ _ _ _ _ Sn (pv 4) (pv 3) (@Am _ _ (by decide) (by decide))) (@Hv _ _ _ _ (@AA _ _ _ _ _ _ _ _ CW (@AE _ _ _ _ _ _ _ _ _ QB (by rfl) T.z_abs TQ (@A0 _ _ _ _ _ (pv 5) A2 (by rfl)) (by decide) (by decide) (by rfl) (by rfl)) (@Nd _ _ _ _ _ (by rfl) T.g_MOST_SHIFT T.r_MOST_SHIFT (by decide)) (@Am _ _ (by decide) (by decide))))))).pt (@Aj _ _ _ (@AX _ _ _ _ CD)) Bb)) (by intro _;rfl)) (@A8 _ _ _ _ _ (@GM _ _ _ _ _ _ _ _ _ (6) _ ["place","cut"] [none,none] _ _ _ _ ID.nd rfl (Or.inl rfl) (by rfl) (@Tg _ _ _ _ _ _ _ _ _ (by rfl) T.z_zip (@A0 _ _ _ _ _ (pv 1) (@A0 _ _ _ _ _ (pv 2) A2 (by rfl)) (by rfl)) (by rfl) (by rfl)) Rf (fun _ _ _ _ _ _=>⟨(show PG _ _ (Jw K 2 _) from(Du rfl (Av (Ao (i:=0) Oq rfl (Or.inl rfl)) (Av (Ao (i:=1) Oq rfl (Or.inl rfl)) Cr)))),(@Ja _ _ _ (@GN _ _ _ _ (@Ep _ _ _ (pv 1) (by intro _;rfl)))),(@Ah _ _ _ _ _ _ _ (show CS _ (DM K) from AG) (pv 0) A1 (fun _ _=>rfl))⟩) (by rfl) (by intro _;rfl) (by first|exact .inl rfl|exact .inr rfl|assumption)) (@Aj _ _ _ (@AX _ _ _ _ (@Cm _ _ _ _ _ _ _ _ (@GF _ (@F5 _ _ hr)) (@AE _ _ _ _ _ _ _ _ _ OC (by rfl) T.z_sorted MY (@A0 _ _ _ _ _ (pv 6) A2 (by rfl)) (by decide) (by decide) (by rfl) (by rfl)) (@MW _ _ _ _ _ _ _ rfl (by rfl) T.z_list (by rfl) T.z_range (@A0 _ _ _ _ _ (pv 3) A2 (by rfl)) (by rfl)) (@Am _ _ (by decide) (by decide))))))))),?_⟩
 have nl:(D.loops.map fun t=>V.str t.nm).length=D.loops.length:=Al _
 generalize hm:D.loops.length=m at *
 have xl:=ap.1
 have cl:(cs.map V.bl).length=cs.length:=Al _
 have no:¬C9 m ps0 cs->Q (.bl false) H:=fun h=>by
  have:=q H (Aa.refl _)
  rw[LO h]at this
  exact this
 refine⟨_,rfl,p,_,dx,_,_,rfl,h0,T.cl_Deed,T.n_Deed_names,rfl,nm,_,rfl,.inr (A9.of h1),?_⟩
 rw[nl]
 dsimp only[Ag]
 refine⟨_,rfl,pl,_,rfl,.inr (A9.of hpl),_,rfl,cu,_,rfl,.inr (A9.of hcu),rfl,_,rfl,?_⟩
 by_cases c1:ps0.length=cs.length
 rotate_left
 .refine C8 (v:=true) (KE fun z=>c1 ?_) (C0 ?_)
  .have:=V.int.inj z;omega
  .exact no fun h=>c1 h.1
 refine C8 (L6 (by rw[xl,cl,c1])) (BH ?_)
 refine⟨_,rfl,pl,_,rfl,.inr (A9.of hpl),_,_,rfl,rfl,_,rfl,?_⟩
 by_cases c2:ps0.length<=6
 rotate_left
 .refine C8 (v:=true) (Cw (by rw[xl];omega)) (C0 ?_)
  exact no fun h=>c2 h.2.1
 refine C8 (v:=false) (Cv (by rw[xl];omega)) (BH ?_)
 refine⟨_,rfl,pl,rfl,⟨_,A9.of hpl⟩,?_⟩
 refine Sd (xs:=xs) (fun i σ' H'=>H'=H/\(∀p∈ps0.take i,G9 m p)/\∃o4 o5 o6,σ'=[some (.ref p),some (.ref pl),some (.ref cu),some (.int (m:Int)),o4,o5,o6]) ⟨rfl,(fun p hp=>by rw[List.take_zero]at hp;cases hp),_,_,_,rfl⟩ (fun i σ' H' _ pp=>by rw[pp.1];exact A9.of hpl) (fun i x σ' H' hx pp=>?_) (fun σ' H' pp=>?_)
 .obtain⟨rfl,hin,o4,o5,o6,rfl⟩:=pp
  obtain⟨pr,hpr,t,rfl,ht⟩:=ap.get' hx
  have bad:¬G9 m pr->Q (.bl false) H':=fun h=>no fun z=>h (z.2.2.1 pr (Bf hpr))
  refine⟨t,_,rfl,A9.of ht,rfl,_,_,rfl,_,_,rfl,rfl,?_⟩
  dsimp only[Ag]
  refine⟨_,rfl,_,_,rfl,rfl,_,rfl,?_⟩
  by_cases c3:pr.1<0
  .exact C8 (v:=true) (Cw c3) (C0 (bad fun z=>by have:=z.1;omega))
  refine C8 (v:=false) (Cv c3) (BH ?_)
  refine⟨_,rfl,_,rfl,_,_,rfl,rfl,_,rfl,?_⟩
  by_cases c4:pr.1≥(m:Int)
  .exact C8 (v:=true) (Cw c4) (C0 (bad fun z=>by have:=z.2.1;omega))
  refine C8 (v:=false) (Cv c4) (BH ?_)
  refine⟨_,rfl,_,rfl,_,_,rfl,rfl,_,rfl,?_⟩
  have ab:((1000000000000000000:Int)<if pr.2<0 then -pr.2 else pr.2)↔¬(-1000000000000000000<=pr.2/\pr.2<=1000000000000000000):=by split<;>omega
  by_cases c5:(1000000000000000000:Int)<if pr.2<0 then -pr.2 else pr.2
  .exact C8 (v:=true) (Cw c5) (C0 (bad fun z=>ab.mp c5 z.2.2))
  refine C8 (v:=false) (Cv c5) (BH ?_)
  refine⟨rfl,fun p hp=>?_,_,_,_,rfl⟩
  rw[CY hpr]at hp
  rcases CA.mp hp with z|z
  .exact hin p z
  .rw[CO.mp z]
   have c6:=Classical.not_not.mp (fun z=>c5 (ab.mpr z))
   exact⟨by omega,by omega,c6.1,c6.2⟩
 obtain⟨rfl,hin,o4,o5,o6,rfl⟩:=pp
 rw[xl,P7]at hin
 refine⟨_,rfl,_,rfl,pl,cu,rfl,⟨_,A9.of hpl⟩,⟨_,A9.of hcu⟩,?_⟩
 refine Qd (xs:=xs) (ys:=cs.map V.bl) (by rw[xl,cl,c1]) (fun i zs H2=>Aa H' H2/\zs=(BD (ps0.take i) (cs.take i)).map V.int) ⟨Aa.refl _,rfl⟩ (AF (by omega)) (fun i zs H2 hi pp=>⟨A9.of (pp.1 _ _ hpl),A9.of (pp.1 _ _ hcu),by rw[pp.2,Al];have:=JK (ps0.take i) (cs.take i);rw[Ar]at this;omega⟩) (fun i x y Tt zs H2 hx hy pp hT=>?_) (fun zs H2 pp l hl=>?_)
 .obtain⟨e2,rfl⟩:=pp
  obtain⟨pr,hpr,t,rfl,ht⟩:=ap.get' hx
  have him:i<cs.length:=by have:=(Ay.mp hx).1;omega
  have hci:cs[i]?=some cs[i]:=AH him
  rw[C3,hci]at hy
  cases hy
  generalize cs[i]=cb at hci
  have tl:(ps0.take i).length=(cs.take i).length:=by rw[Ar,Ar];omega
  have ws:=IK (ps0.take i) (cs.take i) pr cb tl
  rw[←CY hpr,←CY hci]at ws
  have sT:=A7 hT (.tup [V.ref t,V.bl cb])
  refine⟨Tt,_,rfl,A9.of A5,rfl,_,_,rfl,_,_,rfl,rfl,Sg (ρ:=[]) _ _,?_⟩
  refine⟨_,rfl,_,rfl,?_⟩
  cases cb with
  |
   true=>
   refine BH ⟨e2.trans sT,?_⟩
   rw[ws,AW rfl,EA]
  |
   false=>
   refine C0 ⟨_,rfl,t,_,0,_,rfl,rfl,A9.of ((e2.trans sT) _ _ ht),rfl,e2.trans sT,?_⟩
   rw[ws,AQ (by decide),B8]
   rfl
 obtain⟨e2,rfl⟩:=pp
 rw[show ps0.take xs.length=ps0 from Dj (by omega),show cs.take xs.length=cs from Dj (by omega)]
 have wl:=JK ps0 cs
 have s3:=A7 hl (.lst ((BD ps0 cs).map V.int))
 have hl3:(upd H2 l (.lst ((BD ps0 cs).map V.int))) l=some (.lst ((BD ps0 cs).map V.int)):=A5
 dsimp only[Ag]
 generalize upd H2 l (.lst ((BD ps0 cs).map V.int))=H3 at s3 hl3
 refine⟨_,rfl,l,BD ps0 cs,rfl,A4.of hl3,by omega,fun l2 ns' hl2 pm so=>?_⟩
 have s4:=A7 hl2 (.lst (ns'.map V.int))
 have hl4:(upd H3 l2 (.lst (ns'.map V.int))) l2=some (.lst (ns'.map V.int)):=A5
 generalize upd H3 l2 (.lst (ns'.map V.int))=H4 at s4 hl4
 refine⟨_,rfl,m,rfl,by omega,fun l5 hl5=>?_⟩
 rw[Ot]
 have s5:=A7 hl5 (.lst ((BB m).map V.int))
 refine O1 (s5 _ _ hl4) A5 ?_
 have ev:decide (ns'=BB m)=FE m ps0 cs:=by
  by_cases c:ns'=BB m
  .rw[Cw c,OF ⟨c1,c2,hin,(Js pm so).mp c⟩]
  .rw[Cv c,LO fun z=>c ((Js pm so).mpr z.2.2.2)]
 show Q (.bl (decide (ns'=BB m))) _
 rw[ev]
 exact q _ (((e2.trans s3).trans s4).trans s5)
theorem Ks (T:Tx K mg a):Bz P w K mg base BS 16 a.f_fits a.d_fits ["program","plan"] (Td a.c_Program a.c_Deed (Ee a)):=by
 have G_deeds_within:=Me (P:=P) (w:=w) (base:=base) T 13
 have G_has_bare_sweep:=Ol (P:=P) (w:=w) (base:=base) T 14
 have G_well_placed:=PN (P:=P) (w:=w) (base:=base) T
 refine T.F_fits.ok O3 (fun vs H Q E h=>?_) (fun cdv A outer s H vs Q E hr h=>?_)
 .obtain⟨_,_,_,_,_,rfl,_⟩:=h;rfl
 obtain⟨v,pt,n,Ds,f,rfl,⟨x,dx,dl,rfl,hx,hDo⟩,n10,D3,hf,hdep,hfc,hdl60,hpl60,q⟩:=h
 refine⟨_,(@A8 _ _ _ _ _ (@Ai _ _ (2) _ _ _ _ O3.nd rfl (Or.inl rfl) (@AJ _ _ _ _ _ _ _ _ _ _ _ _ _ _ _ _ G_deeds_within (hr.mono (by omega)) (by rfl) T.m_deeds_within T.F_deeds_within.kp T.b_deeds_within .nil AD (@A0 _ _ _ _ _ (pv 1) (@A0 _ _ _ _ _ (@AN _ _ _ _ _ A2) (@A0 _ _ _ _ _ (@AN _ _ _ _ _ A2) A2 (by rfl)) (by rfl)) (by rfl)) (by decide) (by rfl) (by rfl)) (by rfl) (by first|exact .inl rfl|exact .inr rfl|assumption)) (@A8 _ _ _ _ _ (@AY _ _ _ _ _ _ _ _ (@AA _ _ _ _ _ _ _ _ (@KQ _ (@F5 _ _ hr)) (@AE _ _ _ _ _ _ _ _ _ OC (by rfl) T.z_sorted MY (@A0 _ _ _ _ _ (@Fz _ _ _ _ _ _ _ ["k","places","path","cuts"] [none,none,none,none] _ _ _ _ (by rfl) (@Eg _ _ _ _ (pv 2)) QM (fun _ _ _ _ _ _=>⟨(show PG _ _ (Jw K 4 _) from(Du rfl (Av (Ao (i:=0) Jz rfl (Or.inl rfl)) (Av (Ao (i:=1) Jz rfl (Or.inl rfl)) (Av (Ao (i:=2) Jz rfl (Or.inl rfl)) (Av (Ao (i:=3) Jz rfl (Or.inl rfl)) Cr)))))),@EG _,(pv 0)⟩) (by intro _;rfl)) A2 (by rfl)) (by decide) (by decide) (by rfl) (by rfl)) (@MW _ _ _ _ _ _ _ rfl (by rfl) T.z_list (by rfl) T.z_range (@A0 _ _ _ _ _ (@AE _ _ _ _ _ _ _ _ _ AS (by rfl) T.z_len AR (@A0 _ _ _ _ _ (@La _ _ _ _ _ (pv 0) rfl) A2 (by rfl)) (by decide) (by decide) (by rfl) (by rfl)) A2 (by rfl)) (by rfl)) (@Am _ _ (by decide) (by decide))) (@Aj _ _ _ (@AX _ _ _ _ CD)) Bb) (@A8 _ _ _ _ _ (@AY _ _ _ _ _ _ _ _ (@Ep _ _ _ (@AJ _ _ _ _ _ _ _ _ _ _ _ _ _ _ _ _ G_has_bare_sweep (hr.mono (by omega)) (by rfl) T.m_has_bare_sweep T.F_has_bare_sweep.kp T.b_has_bare_sweep .nil AD (@A0 _ _ _ _ _ (pv 1) A2 (by rfl)) (by decide) (by rfl) (by rfl)) (by intro _;rfl)) (@Aj _ _ _ (@AX _ _ _ _ CD)) Bb) (@Aj _ _ _ (@AX _ _ _ _ (@AE _ _ _ _ _ _ _ _ _ (@UU _ rfl) (by rfl) T.z_all Qx (@A0 _ _ _ _ _ (@Fz _ _ _ _ _ _ _ ["k","places","path","cuts","program"] [none,none,none,none,some 0] _ _ _ _ (by rfl) (@Eg _ _ _ _ (pv 2)) Qs (fun _ _ _ _ _ _=>⟨(show PG _ _ (Jw K 4 _) from(Du rfl (Av (Ao (i:=0) Ji rfl (Or.inl rfl)) (Av (Ao (i:=1) Ji rfl (Or.inl rfl)) (Av (Ao (i:=2) Ji rfl (Or.inl rfl)) (Av (Ao (i:=3) Ji rfl (Or.inl rfl)) Cr)))))),@EG _,(@AJ _ _ _ _ _ _ _ _ _ _ _ _ _ _ _ _ G_well_placed (hr.mono (by omega)) (by rfl) T.m_well_placed T.F_well_placed.kp T.b_well_placed .nil AD (@A0 _ _ _ _ _ (@Ah _ _ _ _ _ _ _ (show CS _ (Iv K) from Bg) (show PE _ _ (OD K _ "deeds") from La (pv 4) rfl) (pv 0) (fun _ _=>rfl)) (@A0 _ _ _ _ _ (pv 1) (@A0 _ _ _ _ _ (pv 3) A2 (by rfl)) (by rfl)) (by rfl)) (by decide) (by rfl) (by rfl))⟩) (by intro _;rfl)) A2 (by rfl)) (by decide) (by decide) (by rfl) (by rfl))))))),?_⟩
 have no:¬E2 Ds f->∀H',Aa H H'->Q (.bl false) H':=fun h H' e=>by
  have:=q H' e
  rw[Fu h]at this
  exact this
 refine⟨_,rfl,Af rfl,fun t1 ht1=>⟨Af rfl,fun t2 ht2=>?_⟩⟩
 have s1:=A7 ht1 (.tup [])
 have s2:=A7 ht2 (.tup [])
 have e2:=s1.trans s2
 refine⟨pt,t1,t2,f,[],[],rfl,hf.over e2,s2 _ _ A5,A5,by omega,by decide,by decide,by omega,fun st ys H3 e3 hst ay=>?_⟩
 have e23:=e2.trans e3
 have yl:=ay.1
 dsimp only[Ag]
 clear s1 s2 ht1 ht2
 refine⟨_,rfl,st,rfl,⟨_,A4.of hst⟩,?_⟩
 refine MH (xs:=ys) (fun i zs H'=>H'=H3/\zs=(((AO f [] 0 []).take i).map fun e=>e.1.k).map V.int) ⟨rfl,rfl⟩ (AF (by omega)) (fun i zs H' hi pp=>⟨by rw[pp.1];exact A4.of hst,by rw[pp.2,Al,Al,Ar];omega⟩) (fun i y zs H' hy pp=>?_) (fun zs H4 pp l hl=>?_)
 .obtain⟨rfl,rfl⟩:=pp
  obtain⟨en,hen,t,pl,p,cu,rfl,ht,_,_⟩:=ay.get' hy
  refine⟨t,_,rfl,A9.of ht,rfl,_,_,rfl,_,_,rfl,_,_,rfl,_,_,rfl,rfl,Mo (ρ:=[]) _ _ _ _,?_⟩
  refine⟨_,rfl,rfl,?_⟩
  rw[CY hen,B8,B8]
  rfl
 obtain⟨rfl,rfl⟩:=pp
 rw[show(AO f [] 0 []).take ys.length=AO f [] 0 [] from Dj (by omega),show(AO f [] 0 []).map (fun e=>e.1.k)=E9 f from rfl]
 have kl:(E9 f).length=ys.length:=by unfold E9;rw[Al];omega
 have s5:=A7 hl (.lst ((E9 f).map V.int))
 have hl5:(upd H4 l (.lst ((E9 f).map V.int))) l=some (.lst ((E9 f).map V.int)):=A5
 generalize upd H4 l (.lst ((E9 f).map V.int))=H5 at s5 hl5
 refine⟨l,E9 f,rfl,A4.of hl5,by omega,fun l2 ns' hl2 pm so=>?_⟩
 have s6:=A7 hl2 (.lst (ns'.map V.int))
 have hl6:(upd H5 l2 (.lst (ns'.map V.int))) l2=some (.lst (ns'.map V.int)):=A5
 have e36:=s5.trans s6
 generalize upd H5 l2 (.lst (ns'.map V.int))=H6 at s6 hl6 e36
 have eH6:=e23.trans e36
 obtain⟨ds,hdl,ad⟩:=hDo.over eH6
 have dsl:=ad.1
 refine⟨_,rfl,x,_,dx,_,_,rfl,eH6 _ _ hx,T.cl_Program,T.n_Program_deeds,rfl,dl,_,rfl,.inl (A4.of hdl),Ds.length,by rw[dsl],by omega,fun l7 hl7=>?_⟩
 rw[Ot]
 have s7:=A7 hl7 (.lst ((BB Ds.length).map V.int))
 have e37:=e36.trans s7
 refine O1 (s7 _ _ hl6) A5 ⟨_,rfl,?_⟩
 by_cases c1:ns'=BB Ds.length
 rotate_left
 .refine C8 (v:=true) (KE c1) (C0 ?_)
  exact no (fun z=>c1 ((Js pm so).mpr z.1)) _ (e23.trans e37)
 refine C8 (v:=false) (L6 c1) (BH ?_)
 have pk:=(Js pm so).mp c1
 generalize upd H6 l7 (.lst ((BB Ds.length).map V.int))=H7 at s7 e37
 have eH7:=e23.trans e37
 refine⟨_,rfl,pt,f,rfl,hf.over eH7,by omega,by omega,by decide,fun H8 e8=>⟨_,rfl,?_⟩⟩
 have e38:=e37.trans e8
 have eH8:=e23.trans e38
 cases hb:B9 f with
 |true=>exact C0 (no (fun z=>by have:=z.2.1;rw[hb]at this;cases this) _ eH8)
 |false=>
 refine BH ?_
 have ent:∀(i:Nat) (en:Fo.En×List Bool),(AO f [] 0 [])[i]?=some en->∃(k:Nat) (D:Dw),en.1.k=(k:Int)/\Ds[k]?=some D:=fun i en hen=>by
  have hk:en.1.k∈E9 f:=C4.mpr ⟨en,Bf hen,rfl⟩
  obtain⟨k,ek,kn⟩:=ON pk hk
  exact⟨k,Ds[k],ek,AH kn⟩
 refine⟨_,rfl,st,rfl,⟨_,A4.of (e38 _ _ hst)⟩,?_⟩
 refine MH (xs:=ys) (fun i zs H'=>Aa H8 H'/\∃bs:List Bool,zs=bs.map V.bl/\bs.length=i/\∀(j:Nat) (b:Bool) (en:Fo.En×List Bool) (k:Nat) (D:Dw),bs[j]?=some b->(AO f [] 0 [])[j]?=some en->en.1.k=(k:Int)->Ds[k]?=some D->b=FE D.loops.length en.1.pl en.2) ⟨Aa.refl _,[],rfl,rfl,fun j b en k D h=>by cases h⟩ (AF (by omega)) (fun i zs H' hi pp=>⟨A4.of (pp.1 _ _ (e38 _ _ hst)),by obtain⟨_,bs,rfl,h,_⟩:=pp;rw[Al];omega⟩) (fun i y zs H' hy pp=>?_) (fun zs H9 pp l9 hl9=>?_)
 .obtain⟨e9,bs,rfl,bl,hbs⟩:=pp
  have e39:=e38.trans e9
  have eH9:=e23.trans e39
  obtain⟨en,hen,t,pl,p,cu,rfl,ht,hpl,hcu⟩:=ay.get' hy
  obtain⟨k,D,ek,hD⟩:=ent i en hen
  rw[ek]at ht
  obtain⟨ds,hdl,ad⟩:=hDo.over eH9
  obtain⟨vd,hvd,hdo⟩:=ad.get hD
  refine⟨t,_,rfl,A9.of (e39 _ _ ht),rfl,_,_,rfl,_,_,rfl,_,_,rfl,_,_,rfl,rfl,Mo _ _ _ _,?_⟩
  refine⟨_,rfl,x,_,dx,_,_,rfl,eH9 _ _ hx,T.cl_Program,T.n_Program_deeds,rfl,_,rfl,dl,_,_,_,rfl,rfl,A4.of hdl,Bx hvd,_,rfl,_,rfl,vd,pl,cu,D,en.1.pl,en.2,rfl,hdo,D3 D (Bf hD),hpl.over e39,e39 _ _ hcu,hpl60 en (Bf hen),fun H10 e10=>⟨e9.trans e10,bs++[FE D.loops.length en.1.pl en.2],by rw[B8];rfl,by rw[Ap,bl];rfl,fun j b en2 k2 D2 hj hj2 hk2 hD2=>?_⟩⟩
  rcases FM j bs.length with z|z
  .rw[C2 z]at hj
   exact hbs j b en2 k2 D2 hj hj2 hk2 hD2
  .have lj:=(Ay.mp hj).1
   rw[Ap,Au]at lj
   have:j=i:=by omega
   subst this
   rw[BQ (by omega),show j-bs.length=0 by omega]at hj
   cases hj
   rw[hen]at hj2
   cases hj2
   rw[ek]at hk2
   have:k=k2:=by omega
   subst this
   rw[hD]at hD2
   cases hD2
   rfl
 obtain⟨e9,bs,rfl,bl,hbs⟩:=pp
 refine⟨l9,_,rfl,A4.of A5,?_⟩
 have ev:bs.all id=DU Ds f:=by
  by_cases c:E2 Ds f
  .rw[Gq c,K4]
   intro b hb'
   obtain⟨j,hj,e⟩:=FJ.mp hb'
   have hen:(AO f [] 0 [])[j]?=some ((AO f [] 0 [])[j]'(by omega)):=AH (by omega)
   obtain⟨k,D,ek,hD⟩:=ent j _ hen
   rw[hbs j b _ k D (by rw[AH hj,e]) hen ek hD]
   exact OF (c.2.2 _ (Bf hen) k D ek hD)
  .rw[Fu c]
   have:∃e∈AO f [] 0 [],∃(k:Nat) (D:Dw),e.1.k=(k:Int)/\Ds[k]?=some D/\¬C9 D.loops.length e.1.pl e.2:=by
    refine Classical.byContradiction fun z=>c ⟨pk,hb,fun e he k D ek hD=>Classical.byContradiction fun y=>z ⟨e,he,k,D,ek,hD,y⟩⟩
   obtain⟨en,he,k,D,ek,hD,nw⟩:=this
   obtain⟨j,hj,e⟩:=FJ.mp he
   have jl:j<bs.length:=by omega
   have hbj:bs[j]?=some bs[j]:=AH jl
   have:=hbs j _ en k D hbj (by rw[AH hj,e]) ek hD
   rw[LO nw]at this
   rw[List.all_eq_false]
   exact⟨bs[j],Ge jl,by rw[this];decide⟩
 rw[ev]
 exact q _ ((eH8.trans e9).trans (A7 hl9 _))
theorem GI (T:Tx K mg a):Bz P w K mg base BS 1 a.f_l_at a.d_l_at ["_law_script","_law_k"] (PB K):=by
 refine T.F_l_at.ok Ic (fun vs H Q E h=>?_) (fun cdv A outer s H vs Q E hr h=>?_)
 .obtain⟨_,_,_,rfl,_⟩:=h;rfl
 obtain⟨p,ns,k,rfl,hS,h0,h1,q⟩:=h
 refine⟨_,(@A8 _ _ _ _ _ (@Ai _ _ (2) _ _ _ _ Ic.nd rfl (Or.inl rfl) (@A3 _ _ _ _ _ _ _ _ AB (@A3 _ _ _ _ _ _ _ _ Cn A1 (pv 1)) A1) (by rfl) (by first|exact .inl rfl|exact .inr rfl|assumption)) (@A8 _ _ _ _ _ (@AY _ _ _ _ _ _ _ _ (@AA _ _ _ _ _ _ _ _ Em (pv 1) (@AE _ _ _ _ _ _ _ _ _ AS (by rfl) T.z_len AR (@A0 _ _ _ _ _ (pv 0) A2 (by rfl)) (by decide) (by decide) (by rfl) (by rfl)) (@Am _ _ (by decide) (by decide))) (@Aj _ _ _ (@Ai _ _ (2) _ _ _ _ Ic.nd rfl (Or.inl rfl) (@A3 _ _ _ _ _ _ _ _ AB (pv 2) (@Ah _ _ _ _ _ _ _ Bg (pv 0) (pv 1) (fun _ _=>rfl))) (by rfl) (by first|exact .inl rfl|exact .inr rfl|assumption))) (@Aj _ _ _ (@AY _ _ _ _ _ _ _ _ (@AA _ _ _ _ _ _ _ _ CW (@AE _ _ _ _ _ _ _ _ _ AS (by rfl) T.z_len AR (@A0 _ _ _ _ _ (pv 0) A2 (by rfl)) (by decide) (by decide) (by rfl) (by rfl)) A1 (@Am _ _ (by decide) (by decide))) (@Aj _ _ _ (@Ai _ _ (2) _ _ _ _ Ic.nd rfl (Or.inl rfl) (@A3 _ _ _ _ _ _ _ _ AB (@A3 _ _ _ _ _ _ _ _ Cn A1 (pv 2)) (@Ah _ _ _ _ _ _ _ Bg (pv 0) (@A3 _ _ _ _ _ _ _ _ B7 (@A3 _ _ _ _ _ _ _ _ Cn (pv 1) A1) (@AE _ _ _ _ _ _ _ _ _ AS (by rfl) T.z_len AR (@A0 _ _ _ _ _ (pv 0) A2 (by rfl)) (by decide) (by decide) (by rfl) (by rfl))) (fun _ _=>rfl))) (by rfl) (by first|exact .inl rfl|exact .inr rfl|assumption))) Bb))) (@A8 _ _ _ _ _ (@Ai _ _ (2) _ _ _ _ Ic.nd rfl (Or.inl rfl) (@A3 _ _ _ _ _ _ _ _ B7 (@A3 _ _ _ _ _ _ _ _ Cn (pv 2) A1) A1) (by rfl) (by first|exact .inl rfl|exact .inr rfl|assumption)) (@Aj _ _ _ (@AX _ _ _ _ (@A3 _ _ _ _ _ _ _ _ B7 (@A3 _ _ _ _ _ _ _ _ Cn (pv 2) (pv 2)) A1)))))),?_⟩
 have hl:(ns.map V.int).length=ns.length:=Al _
 have p64:(2:Int) ^ 64=18446744073709551616:=by decide
 refine⟨_,rfl,_,_,rfl,rfl,.inl ⟨by decide,by decide⟩,_,_,rfl,rfl,?_⟩
 dsimp only[Ag]
 refine Bk (fun σ' H'=>H'=H/\∃n:Int,σ'=[some (.ref p),some (.int k),some (.int n)]) (fun σ' H' m=>?_) (fun nx=>?_)
 .obtain⟨rfl,n,rfl⟩:=m
  have b0:=BV (n*48271) (show(2147483647:Int)≠0 by decide)
  have b1:=BW (n*48271) (show(0:Int)<2147483647 by decide)
  refine⟨_,rfl,_,_,rfl,rfl,.inr ⟨by decide,by decide⟩,_,_,rfl,rfl,(by show(0:Int)<2147483647;decide),?_⟩
  exact⟨_,rfl,_,rfl,_,_,rfl,rfl,.inl ⟨by omega,by omega⟩,_,_,rfl,rfl,(by show(0:Int)<2147483629;decide),q _ (BV _ (by decide)) (BW _ (by decide))⟩
 refine⟨_,rfl,_,rfl,p,_,rfl,.inl hS,_,_,rfl,rfl,_,rfl,?_⟩
 refine AV (fun c=>?_) (fun c=>?_)
 .have c':=dT c
  rw[hl]at c'
  exact⟨_,rfl,_,rfl,_,rfl,p,_,_,_,rfl,rfl,hS,O6 h0 c',_,_,rfl,rfl,nx _ _ ⟨rfl,_,rfl⟩⟩
 refine⟨_,rfl,p,_,rfl,.inl hS,_,_,rfl,rfl,_,rfl,?_⟩
 refine AV (fun c2=>?_) (fun c2=>nx _ _ ⟨rfl,_,rfl⟩)
 have c2:=dT c2
 have m0:=BV (k*7) (show((ns.map V.int).length:Int)≠0 by omega)
 have m1:=BW (k*7) c2
 exact⟨_,rfl,_,_,rfl,rfl,.inl ⟨by decide,by decide⟩,_,rfl,_,rfl,_,_,rfl,rfl,.inr ⟨by decide,by decide⟩,_,rfl,p,_,rfl,.inl hS,_,_,rfl,rfl,c2,p,_,_,_,rfl,rfl,hS,O6 m0 (by rw[hl]at m1 ⊢;exact m1),_,_,rfl,rfl,nx _ _ ⟨rfl,_,rfl⟩⟩
theorem Gx (T:Tx K mg a):Bz P w K mg base BS 1 a.f_l_digits a.d_l_digits ["_law_cell","_law_sizes"] Sw:=by
 refine T.F_l_digits.ok JL (fun vs H Q E h=>?_) (fun cdv A outer s H vs Q E hr h=>?_)
 .obtain⟨_,_,_,rfl,_⟩:=h;rfl
 obtain⟨c,l,ms,rfl,hl,c0,ml,mb,q⟩:=h
 refine⟨_,(@A8 _ _ _ _ _ (@Ai _ _ (2) _ _ _ _ JL.nd rfl (Or.inl rfl) (@BU _ _ _ _ A2) (by rfl) (by first|exact .inl rfl|exact .inr rfl|assumption)) (@A8 _ _ _ _ _ (@F3 _ _ _ _ _ _ _ _ PassesOwn.never rfl (@Eg _ _ _ _ (pv 1)) (Ao (i:=3) JL.nd rfl (Or.inl rfl)) (@A8 _ _ _ _ _ (@DF _ _ _ _ (@DI _ _ _ _ _ _ _ _ _ _ _ _ Dz EV EW Et (pv 2) (@A0 _ _ _ _ _ (@A3 _ _ _ _ _ _ _ _ B7 (pv 0) (pv 3)) A2 (by rfl)) (by rfl) (by rfl) (by rfl) (by rfl) (by rfl)) (by rfl)) (@Aj _ _ _ (@Ai _ _ (0) _ _ _ _ JL.nd rfl (Or.inl rfl) (@A3 _ _ _ _ _ _ _ _ Dp (pv 0) (pv 3)) (by rfl) (by first|exact .inl rfl|exact .inr rfl|assumption)))) (by intro _;rfl)) (@Aj _ _ _ (@AX _ _ _ _ (pv 2))))),?_⟩
 refine⟨Af rfl,fun r hr'=>?_⟩
 have s1:=A7 hr' (.lst [])
 refine⟨_,rfl,l,rfl,⟨_,A4.of (s1 _ _ hl)⟩,?_⟩
 refine Lm (xs:=ms.map V.int) (fun i σ' H'=>Aa H H'/\∃(x:Int) (ds:List Int) (o3:Option V),σ'=[some (.int x),some (.ref l),some (.ref r),o3]/\0<=x/\H' r=some (.lst (ds.map V.int))/\ds.length=i/\∀(j:Nat) (d m:Int),ds[j]?=some d->ms[j]?=some m->0<=d/\d<m) ⟨s1,c,[],_,rfl,c0,A5,rfl,fun j d m hd=>by simp at hd⟩ (fun i σ' H' _ p=>A4.of (p.1 _ _ hl)) (fun i x σ' H' hx p=>?_) (fun σ' H' p=>?_)
 .obtain⟨e,x0,ds,o3,rfl,x0n,hr2,dl,db⟩:=p
  rw[C3]at hx
  cases hm:ms[i]? with
  |none=>rw[hm]at hx;cases hx
  |
   some m=>
   rw[hm]at hx
   cases hx
   obtain⟨m0,m1⟩:=mb m (Bf hm)
   have hi:=(Ay.mp hm).1
   refine⟨_,rfl,.inl ⟨rfl,_,A4.of hr2⟩,_,rfl,_,rfl,_,_,rfl,rfl,m0,r,_,_,rfl,rfl,hr2,E8 (by rw[Al];omega),?_⟩
   refine⟨_,rfl,_,rfl,_,_,rfl,rfl,⟨m0,m1⟩,?_⟩
   refine⟨fun b o eb=>by rw[Aw (BA eb hr')];exact e _ _ eb,x0/m,ds++[x0%m],_,rfl,Int.ediv_nonneg x0n (Int.le_of_lt m0),by rw[A5,B8];rfl,by rw[Ap,dl];rfl,fun j d m' hd hm'=>?_⟩
   by_cases cj:j<ds.length
   .rw[C2 cj]at hd
    exact db j d m' hd hm'
   .have ej:j=ds.length:=by
     have:=(Ay.mp hd).1
     rw[Ap,Au]at this
     omega
    subst ej
    rw[BQ (Ak _),DJ]at hd
    cases hd
    rw[dl,hm]at hm'
    cases hm'
    exact⟨BV _ (by omega),BW _ m0⟩
 .obtain⟨e,x0,ds,o3,rfl,x0n,hr2,dl,db⟩:=p
  rw[Al]at dl
  exact⟨_,rfl,q r _ ds e hr2 dl db⟩
theorem UN (T:Tx K mg a):Bz P w K mg base BS 2 a.f_l_loop a.d_l_loop ["_law_cell","_law_loops"] Ro:=by
 have G_l_digits:=Gx (P:=P) (w:=w) (base:=base) T
 refine T.F_l_loop.ok Cp (fun vs H Q E h=>?_) (fun cdv A outer s H vs Q E hr h=>?_)
 .obtain⟨_,_,_,rfl,_⟩:=h;rfl
 obtain⟨cell,ll,L,rfl,c0,hL,okL,l2,q⟩:=h
 refine⟨_,(@A8 _ _ _ _ _ (@DK _ _ _ _ _ _ (@AJ _ _ _ _ _ _ _ _ _ _ _ _ _ _ _ _ G_l_digits (hr.mono (by omega)) (by rfl) T.m_l_digits T.F_l_digits.kp T.b_l_digits .nil AD (@A0 _ _ _ _ _ (pv 0) (@A0 _ _ _ _ _ (@Eo _ _ _ _ (@Ae _ _ _ _ _ A1 (@Ae _ _ _ _ _ A1 (@Ae _ _ _ _ _ A1 (@Ae _ _ _ _ _ A1 (@Ae _ _ _ _ _ A1 (@Ae _ _ _ _ _ A1 (@Ae _ _ _ _ _ A1 BF B3) B3) B3) B3) B3) B3) B3)) A2 (by rfl)) (by rfl)) (by decide) (by rfl) (by rfl)) (FP rfl (Av (Ao (i:=2) Cp.nd rfl (Or.inl rfl)) (Av (Ao (i:=3) Cp.nd rfl (Or.inl rfl)) (Av (Ao (i:=4) Cp.nd rfl (Or.inl rfl)) (Av (Ao (i:=5) Cp.nd rfl (Or.inl rfl)) (Av (Ao (i:=6) Cp.nd rfl (Or.inl rfl)) (Av (Ao (i:=7) Cp.nd rfl (Or.inl rfl)) (Av (Ao (i:=8) Cp.nd rfl (Or.inl rfl)) Cr)))))))) (by rfl) (by rfl) (by rfl)) (@A8 _ _ _ _ _ (@Ai _ _ (9) _ _ _ _ Cp.nd rfl (Or.inl rfl) BL (by rfl) (by first|exact .inl rfl|exact .inr rfl|assumption)) (@A8 _ _ _ _ _ (@Ai _ _ (10) _ _ _ _ Cp.nd rfl (Or.inl rfl) (@A3 _ _ _ _ _ _ _ _ Mg (@Ah _ _ _ _ _ _ _ O7 (pv 9) (pv 7) (fun _ _=>rfl)) (@A3 _ _ _ _ _ _ _ _ Ub (@Ah _ _ _ _ _ _ _ O7 (pv 9) (@A3 _ _ _ _ _ _ _ _ B7 (pv 8) A1) (fun _ _=>rfl)) (@A3 _ _ _ _ _ _ _ _ Dp (pv 8) A1))) (by rfl) (by first|exact .inl rfl|exact .inr rfl|assumption)) (@A8 _ _ _ _ _ (@Hu _ _ _ _ _ _ PassesOwn.never (@AA _ _ _ _ _ _ _ _ Ql (pv 10) (@Fz _ _ _ _ _ _ _ ["_law_loop_here"] [none] _ _ _ _ (by rfl) (@Eg _ _ _ _ (pv 1)) V1 (fun _ _ _ _ _ _=>⟨(Ao (i:=0) QZ rfl (Or.inl rfl)),@EG _,(@Ah _ _ _ _ _ _ _ (show CS _ (DM K) from AG) (pv 0) A1 (fun _ _=>rfl))⟩) (by intro _;rfl)) (by with_unfolding_all rfl)) (@Aj _ _ _ (@Ai _ _ (10) _ _ _ _ Cp.nd rfl (Or.inl rfl) (@A3 _ _ _ _ _ _ _ _ Mg (pv 10) BL) (by rfl) (by first|exact .inl rfl|exact .inr rfl|assumption)))) (@A8 _ _ _ _ _ (@Ai _ _ (11) _ _ _ _ Cp.nd rfl (Or.inl rfl) (@A3 _ _ _ _ _ _ _ _ BZ (pv 3) A1) (by rfl) (by first|exact .inl rfl|exact .inr rfl|assumption)) (@A8 _ _ _ _ _ (@AY _ _ _ _ _ _ _ _ (@AA _ _ _ _ _ _ _ _ (@GF _ (@F5 _ _ hr)) (pv 1) (@BU _ _ _ _ A2) (@Am _ _ (by decide) (by decide))) (@A8 _ _ _ _ _ (@Ai _ _ (12) _ _ _ _ Cp.nd rfl (Or.inl rfl) (@A3 _ _ _ _ _ _ _ _ BZ (@A3 _ _ _ _ _ _ _ _ AB (pv 11) (@Ah _ _ _ _ _ _ _ Bg (@Eo _ _ _ _ (@Ae _ _ _ _ _ A1 (@Ae _ _ _ _ _ A1 (@Ae _ _ _ _ _ A1 BF B3) B3) B3)) (pv 4) (fun _ _=>rfl))) (@A3 _ _ _ _ _ _ _ _ Cn A1 (@Dg _ _ _ _ _ _ _ _ _ EJ (by rfl) T.z_int EC (@A0 _ _ _ _ _ (@Cm _ _ _ _ _ _ _ _ Bn (pv 5) A1 (@Am _ _ (by decide) (by decide))) A2 (by rfl)) (by decide) (by decide) (by rfl) (by rfl)))) (by rfl) (by first|exact .inl rfl|exact .inr rfl|assumption)) (@Aj _ _ _ (@AX _ _ _ _ (@Cq _ _ _ _ _ (@Ae _ _ _ _ _ (pv 10) (@Ae _ _ _ _ _ (@AN _ _ _ _ _ (@A0 _ _ _ _ _ BL (@A0 _ _ _ _ _ (pv 11) A2 (by rfl)) (by rfl))) (@Ae _ _ _ _ _ (@AN _ _ _ _ _ (@A0 _ _ _ _ _ BL (@A0 _ _ _ _ _ (pv 12) A2 (by rfl)) (by rfl))) (@Ae _ _ _ _ _ (pv 11) (@Ae _ _ _ _ _ (pv 12) BF Bi) Bi) DC) DC) Bi))))) Bb) (@A8 _ _ _ _ _ (@DK _ _ _ _ _ _ (@Ah _ _ _ _ _ _ _ Bg (pv 1) (@A3 _ _ _ _ _ _ _ _ B7 (pv 6) (@AE _ _ _ _ _ _ _ _ _ AS (by rfl) T.z_len AR (@A0 _ _ _ _ _ (pv 1) A2 (by rfl)) (by decide) (by decide) (by rfl) (by rfl))) (fun _ _=>rfl)) (Du rfl (Av (Ao (i:=13) Cp.nd rfl (Or.inl rfl)) (Av (Ao (i:=14) Cp.nd rfl (Or.inl rfl)) (Av (Ao (i:=12) Cp.nd rfl (Or.inl rfl)) (Av (Ao (i:=15) Cp.nd rfl (Or.inl rfl)) (Av (Ao (i:=16) Cp.nd rfl (Or.inl rfl)) Cr)))))) (by rfl) (by rfl) (by rfl)) (@A8 _ _ _ _ _ (@AY _ _ _ _ _ _ _ _ (@AA _ _ _ _ _ _ _ _ Bn (pv 2) A1 (@Am _ _ (by decide) (by decide))) (@A8 _ _ _ _ _ (@Ai _ _ (12) _ _ _ _ Cp.nd rfl (Or.inl rfl) (@A3 _ _ _ _ _ _ _ _ BZ (@A3 _ _ _ _ _ _ _ _ AB (pv 11) (@A3 _ _ _ _ _ _ _ _ B7 (pv 4) A1)) (@A3 _ _ _ _ _ _ _ _ Cn A1 (@Dg _ _ _ _ _ _ _ _ _ EJ (by rfl) T.z_int EC (@A0 _ _ _ _ _ (@Cm _ _ _ _ _ _ _ _ Bn (pv 5) A1 (@Am _ _ (by decide) (by decide))) A2 (by rfl)) (by decide) (by decide) (by rfl) (by rfl)))) (by rfl) (by first|exact .inl rfl|exact .inr rfl|assumption)) (@Aj _ _ _ (@AX _ _ _ _ (@Cq _ _ _ _ _ (@Ae _ _ _ _ _ (pv 10) (@Ae _ _ _ _ _ (@AN _ _ _ _ _ (@A0 _ _ _ _ _ BL (@A0 _ _ _ _ _ (pv 11) A2 (by rfl)) (by rfl))) (@Ae _ _ _ _ _ (@AN _ _ _ _ _ (@A0 _ _ _ _ _ BL (@A0 _ _ _ _ _ (pv 12) A2 (by rfl)) (by rfl))) (@Ae _ _ _ _ _ (pv 11) (@Ae _ _ _ _ _ (pv 12) BF Bi) Bi) DC) DC) Bi))))) Bb) (@A8 _ _ _ _ _ (@AY _ _ _ _ _ _ _ _ (@AA _ _ _ _ _ _ _ _ Bn (pv 2) A1 (@Am _ _ (by decide) (by decide))) (@A8 _ _ _ _ _ (@Ai _ _ (8) _ _ _ _ Cp.nd rfl (Or.inl rfl) (@A3 _ _ _ _ _ _ _ _ BZ (@Dg _ _ _ _ _ _ _ _ _ EJ (by rfl) T.z_int EC (@A0 _ _ _ _ _ (@GV _ _ _ _ _ _ _ (@Cm _ _ _ _ _ _ _ _ CW (pv 4) A1 (@Am _ _ (by decide) (by decide))) (@F1 _ _ _ _ _ (@Cm _ _ _ _ _ _ _ _ Em (@A3 _ _ _ _ _ _ _ _ BZ (pv 16) (pv 15)) A1 (@Am _ _ (by decide) (by decide))))) A2 (by rfl)) (by decide) (by decide) (by rfl) (by rfl)) (@A3 _ _ _ _ _ _ _ _ Cn A1 (@Dg _ _ _ _ _ _ _ _ _ EJ (by rfl) T.z_int EC (@A0 _ _ _ _ _ (@Cm _ _ _ _ _ _ _ _ Bn (pv 5) A1 (@Am _ _ (by decide) (by decide))) A2 (by rfl)) (by decide) (by decide) (by rfl) (by rfl)))) (by rfl) (by first|exact .inl rfl|exact .inr rfl|assumption)) (@Aj _ _ _ (@AX _ _ _ _ (@Cq _ _ _ _ _ (@Ae _ _ _ _ _ (pv 10) (@Ae _ _ _ _ _ (@AN _ _ _ _ _ (@A0 _ _ _ _ _ (pv 13) (@A0 _ _ _ _ _ (pv 11) A2 (by rfl)) (by rfl))) (@Ae _ _ _ _ _ (@AN _ _ _ _ _ (@A0 _ _ _ _ _ (pv 13) (@A0 _ _ _ _ _ (@A3 _ _ _ _ _ _ _ _ AB (pv 11) (pv 8)) A2 (by rfl)) (by rfl))) (@Ae _ _ _ _ _ (@A3 _ _ _ _ _ _ _ _ AB (pv 15) (pv 11)) (@Ae _ _ _ _ _ (@A3 _ _ _ _ _ _ _ _ AB (@A3 _ _ _ _ _ _ _ _ AB (pv 16) (pv 11)) (pv 8)) BF Ea) Ea) DC) DC) Bi))))) Bb) (@A8 _ _ _ _ _ (@AY _ _ _ _ _ _ _ _ (@AA _ _ _ _ _ _ _ _ Bn (pv 2) A1 (@Am _ _ (by decide) (by decide))) (@A8 _ _ _ _ _ (@Ai _ _ (12) _ _ _ _ Cp.nd rfl (Or.inl rfl) (@A3 _ _ _ _ _ _ _ _ BZ (@A3 _ _ _ _ _ _ _ _ AB (pv 16) (pv 11)) (@Dg _ _ _ _ _ _ _ _ _ EJ (by rfl) T.z_int EC (@A0 _ _ _ _ _ (@Cm _ _ _ _ _ _ _ _ Bn (@A3 _ _ _ _ _ _ _ _ B7 (pv 5) A1) A1 (@Am _ _ (by decide) (by decide))) A2 (by rfl)) (by decide) (by decide) (by rfl) (by rfl))) (by rfl) (by first|exact .inl rfl|exact .inr rfl|assumption)) (@Aj _ _ _ (@AX _ _ _ _ (@Cq _ _ _ _ _ (@Ae _ _ _ _ _ (pv 10) (@Ae _ _ _ _ _ (@AN _ _ _ _ _ (@A0 _ _ _ _ _ (pv 13) (@A0 _ _ _ _ _ (pv 11) A2 (by rfl)) (by rfl))) (@Ae _ _ _ _ _ (@AN _ _ _ _ _ (@A0 _ _ _ _ _ BL (@A0 _ _ _ _ _ (pv 12) A2 (by rfl)) (by rfl))) (@Ae _ _ _ _ _ (@A3 _ _ _ _ _ _ _ _ AB (pv 15) (pv 11)) (@Ae _ _ _ _ _ (pv 12) BF Bi) Ea) DC) DC) Bi))))) Bb) (@A8 _ _ _ _ _ (@AY _ _ _ _ _ _ _ _ (@AA _ _ _ _ _ _ _ _ Bn (pv 2) A1 (@Am _ _ (by decide) (by decide))) (@Aj _ _ _ (@AX _ _ _ _ (@Cq _ _ _ _ _ (@Ae _ _ _ _ _ (pv 10) (@Ae _ _ _ _ _ (@AN _ _ _ _ _ (@A0 _ _ _ _ _ BL (@A0 _ _ _ _ _ (@A3 _ _ _ _ _ _ _ _ AB (pv 15) (pv 11)) A2 (by rfl)) (by rfl))) (@Ae _ _ _ _ _ (@AN _ _ _ _ _ (@A0 _ _ _ _ _ (pv 13) (@A0 _ _ _ _ _ (pv 11) A2 (by rfl)) (by rfl))) (@Ae _ _ _ _ _ (@A3 _ _ _ _ _ _ _ _ AB (pv 15) (pv 11)) (@Ae _ _ _ _ _ (@A3 _ _ _ _ _ _ _ _ AB (pv 16) (pv 11)) BF Ea) Ea) DC) DC) Bi)))) Bb) (@A8 _ _ _ _ _ (@Ai _ _ (17) _ _ _ _ Cp.nd rfl (Or.inl rfl) (@Ah _ _ _ _ _ _ _ Bg (pv 1) (@A3 _ _ _ _ _ _ _ _ B7 (@A3 _ _ _ _ _ _ _ _ AB (pv 6) A1) (@AE _ _ _ _ _ _ _ _ _ AS (by rfl) T.z_len AR (@A0 _ _ _ _ _ (pv 1) A2 (by rfl)) (by decide) (by decide) (by rfl) (by rfl))) (fun _ _=>rfl)) (by rfl) (by first|exact .inl rfl|exact .inr rfl|assumption)) (@A8 _ _ _ _ _ (@Ai _ _ (12) _ _ _ _ Cp.nd rfl (Or.inl rfl) (@A3 _ _ _ _ _ _ _ _ AB (@A3 _ _ _ _ _ _ _ _ AB (@A3 _ _ _ _ _ _ _ _ AB (pv 15) (pv 11)) A1) (pv 4)) (by rfl) (by first|exact .inl rfl|exact .inr rfl|assumption)) (@Aj _ _ _ (@AX _ _ _ _ (@Cq _ _ _ _ _ (@Ae _ _ _ _ _ (pv 10) (@Ae _ _ _ _ _ (@AN _ _ _ _ _ (@A0 _ _ _ _ _ (pv 13) (@A0 _ _ _ _ _ (pv 11) A2 (by rfl)) (by rfl))) (@Ae _ _ _ _ _ (@AN _ _ _ _ _ (@A0 _ _ _ _ _ (@Ah _ _ _ _ _ _ _ AG (pv 17) A1 (fun _ _=>rfl)) (@A0 _ _ _ _ _ (@A3 _ _ _ _ _ _ _ _ BZ (pv 12) (@Ah _ _ _ _ _ _ _ AG (pv 17) A1 (fun _ _=>rfl))) A2 (by rfl)) (by rfl))) (@Ae _ _ _ _ _ (@A3 _ _ _ _ _ _ _ _ AB (pv 15) (pv 11)) (@Ae _ _ _ _ _ (pv 12) BF Bi) Ea) DC) DC) Bi))))))))))))))))),?_⟩
 refine⟨_,rfl,Af rfl,fun d1 hd1=>?_⟩
 have s1:=A7 hd1 (.lst [V.int 5,V.int 5,V.int 3,V.int 12,V.int 3,V.int 26,V.int 40])
 refine⟨cell,d1,[5,5,3,12,3,26,40],rfl,A5,c0,by decide,by decide,fun r1 H1 ds e1 hr1 dl db=>?_⟩
 obtain⟨x0,x1,x2,x3,x4,x5,x6,rfl⟩:∃x0 x1 x2 x3 x4 x5 x6,ds=[x0,x1,x2,x3,x4,x5,x6]:=by
  match ds,dl with
  |[x0,x1,x2,x3,x4,x5,x6],_=>exact⟨x0,x1,x2,x3,x4,x5,x6,rfl⟩
 have b0:=db 0 x0 5 rfl rfl
 have b1:=db 1 x1 5 rfl rfl
 have b2:=db 2 x2 3 rfl rfl
 have b3:=db 3 x3 12 rfl rfl
 have b4:=db 4 x4 3 rfl rfl
 have b5:=db 5 x5 26 rfl rfl
 have b6:=db 6 x6 40 rfl rfl
 clear db dl
 refine⟨r1,_,rfl,hr1,rfl,_,_,rfl,_,_,rfl,_,_,rfl,_,_,rfl,_,_,rfl,_,_,rfl,_,_,rfl,rfl,?_⟩
 dsimp only[Ag]
 have eH1:=s1.trans e1
 clear s1 e1 hr1 hd1
 have at5:C6 (EL Fb) x5=some (GR x5):=by
  have:=NC x5
  rwa [show x5%26=x5 by omega]at this
 refine⟨_,rfl,_,rfl,Fb,_,_,rfl,rfl,NR,at5,_,rfl,_,rfl,_,_,rfl,rfl,(by show(0:Int)<26;decide),Fb,_,_,rfl,rfl,NR,NC x6,_,rfl,_,_,rfl,rfl,⟨by decide,by decide⟩,_,_,rfl,rfl,by omega,by omega,by rw[KN];decide,_,_,rfl,rfl,AF (by rw[KN,Nb];omega),?_⟩
 have z0l:((⟨#[GR x5]⟩:Str)++Txt.mul ⟨#[GR x6]⟩ (x6/26)).length<=2:=by rw[Oc,KN,Nb];omega
 generalize (⟨#[GR x5]⟩:Str)++Txt.mul ⟨#[GR x6]⟩ (x6/26)=z0 at z0l
 obtain⟨xs,hll0,ax0⟩:=hL
 have xl:=ax0.1
 have eq1:("q":Str).length=1:=by decide +kernel
 dsimp only[Ag]
 refine Bk (fun σ' H'=>Aa H H'/\∃nm:Str,σ'=[some (.int cell),some (.ref ll),some (.int x0),some (.int x1),some (.int x2),some (.int x3),some (.int x4),some (.int x5),some (.int x6),some (.str Fb),some (.str nm),none,none,none,none,none,none,none]/\nm.length<=10) (fun σ' H2 pp=>?_) (fun nx=>?_)
 rotate_left
 .refine Iu L.length (fun i σ' H'=>Aa H H'/\σ'=[some (.int cell),some (.ref ll),some (.int x0),some (.int x1),some (.int x2),some (.int x3),some (.int x4),some (.int x5),some (.int x6),some (.str Fb),some (.str (EH z0 i)),none,none,none,none,none,none,none]/\∀j<i,EH z0 j∈L.map (·.nm)) ⟨eH1,rfl,fun j hj=>absurd hj (Nat.not_lt_zero _)⟩ (fun i σ' H' hi pp=>?_) (MT.test (ME.op (MR.isIn _ _) (ME.var _) (ME.comp fun σ H R R' h ⟨v,e,a,r,s,k⟩=>⟨v,e,a,r,s,h _ _ k⟩)))
  obtain⟨e,rfl,hj⟩:=pp
  have gl:=JN z0 i
  refine⟨_,rfl,_,rfl,ll,rfl,⟨_,A4.of (e _ _ hll0)⟩,?_⟩
  refine FN (xs:=xs) (fun k ys H2=>H2=H'/\ys=((L.take k).map (·.nm)).map V.str) ⟨rfl,rfl⟩ (AF (by omega)) (fun k ys H2 hk pp=>⟨by rw[pp.1];exact A4.of (e _ _ hll0),by rw[pp.2,Al,Al,Ar];omega⟩) (fun k x ys H2 hx pp=>?_) (fun ys H2 pp p hp=>?_)
  .obtain⟨rfl,rfl⟩:=pp
   obtain⟨qq,hq,t,ta,tb,rfl,ht,_,_⟩:=ax0.get' hx
   refine⟨_,rfl,t,_,0,_,rfl,rfl,A9.of (e _ _ ht),rfl,rfl,?_⟩
   rw[CY hq,B8,B8]
   rfl
  obtain⟨rfl,rfl⟩:=pp
  rw[Dj (by omega)]
  have s2:=A7 hp (.lst ((L.map (·.nm)).map V.str))
  refine⟨p,_,rfl,.inl (A4.of A5),rfl,?_,_,rfl,?_⟩
  .rw[K4]
   intro y hy
   obtain⟨n,_,rfl⟩:=C4.mp hy
   rfl
  refine AV (fun c=>?_) (fun c=>?_)
  .have c:EH z0 i∈L.map (·.nm):=(T2 _ _).mp c
   have hj':∀j<i+1,EH z0 j∈L.map (·.nm):=fun j hj2=>by
    rcases FM j i with z|z
    .exact hj j z
    .rw[show j=i by omega];exact c
   have few:=So hj'
   rw[Al]at few
   exact⟨by omega,_,rfl,_,_,rfl,rfl,AF (by rw[gl,eq1];omega),e.trans s2,rfl,hj'⟩
  .exact nx _ _ ⟨e.trans s2,EH z0 i,rfl,by omega⟩
 obtain⟨e,nm,rfl,nl⟩:=pp
 refine⟨_,rfl,_,_,rfl,rfl,?_⟩
 dsimp only[Ag]
 have e0l:("":Str).length<=10:=by decide +kernel
 have i01:∀b:Bool,(if b then(1:Int) else 0)=0\/(if b then(1:Int) else 0)=1:=fun b=>by cases b<;>decide
 refine⟨_,rfl,Af rfl,fun z hz=>?_⟩
 have s3:=A7 hz (.lst [])
 have e3:=e.trans s3
 have hll3:=e3 _ _ hll0
 have ax3:=ax0.mono fun _ _ y=>y.over e3
 have dq:=MO L
 refine⟨.lst (L.map qT),.lst [],Kg hll3 ax3,.lst (A4.of A5) .nil,⟨_,rfl⟩,⟨_,rfl⟩,by rw[Ci];exact Kh L [],by rw[Bu];omega,_,rfl,?_⟩
 generalize upd H2 z (.lst [])=H3 at s3 e3 hll3 ax3
 cases L with
 |
  nil=>
  refine C8 (v:=true) rfl (C0 ?_)
  obtain⟨y,hy,ey⟩:=Ou (L:=[1,2,0]) (i:=x2) 3 rfl b2.1 b2.2
  have hy:y=1\/y=2\/y=0:=by simpa using hy
  refine⟨_,rfl,Af rfl,fun l hl=>⟨_,rfl,l,_,_,_,rfl,rfl,A4.of A5,ey,_,_,rfl,rfl,_,rfl,rfl,.inr ⟨_,rfl,_,_,rfl,rfl,.inl ⟨by decide,by decide⟩,_,_,rfl,rfl,?_⟩⟩⟩
  have s4:=A7 hl (.lst [V.int 1,V.int 2,V.int 0])
  have e4:=e3.trans s4
  dsimp only[Ag]
  have k1:=i01 (decide (V.int x3=V.int 5))
  generalize (if decide (V.int x3=V.int 5)=true then(1:Int) else 0)=u at k1
  refine⟨_,rfl,_,rfl,Af rfl,fun ta hta=>⟨_,rfl,Af rfl,fun tb htb=>⟨_,rfl,_,rfl,Af rfl,fun r hr=>?_⟩⟩⟩
  have m:=D7.made (nm:=nm) (f:=x1-2) (l:=x1-2+y-3*u) hta htb hr
  exact q r _ _ (e4.trans m.1) m.2 ⟨GA (Nk (u:=3*u) b1 (by rcases hy with rfl|rfl|rfl<;>decide) (by rcases k1 with rfl|rfl<;>decide)) nl e0l e0l,.inl rfl,.inl rfl,by show -(5+20*(0:Int))<=x1-2/\x1-2<=5+20*(0:Int);omega,by show -(5+20*(0:Int))<=x1-2+y-3*u/\x1-2+y-3*u<=5+20*(0:Int);omega⟩
 |
  cons q0 L'=>
  refine C8 (v:=false) rfl (BH ?_)
  generalize hLL:q0::L'=L at *
  have Lp:0<L.length:=by rw[←hLL];exact K7 _
  clear hLL
  have pick:∀x:Int,∃(io:Nat) (qo:Lq) (t ta tb:Addr),L[io]?=some qo/\C6 xs (x%(xs.length:Int))=some (.ref t)/\H3 t=some (.tup [.str qo.nm,.ref ta,.ref tb,.int qo.fi,.int qo.la])/\io<L.length:=fun x=>by
   have m0:=BV x (show(xs.length:Int)≠0 by omega)
   have m1:=BW x (show(0:Int)<(xs.length:Int) by omega)
   obtain⟨io,hio⟩:∃io:Nat,x%(xs.length:Int)=(io:Int):=⟨(x%(xs.length:Int)).toNat,by omega⟩
   have hil:io<L.length:=by omega
   have hq:L[io]?=some L[io]:=AH hil
   obtain⟨y,hy,t,ta,tb,rfl,ht,_,_⟩:=ax3.get hq
   exact⟨io,L[io],t,ta,tb,hq,by rw[hio];exact Bx hy,ht,hil⟩
  obtain⟨io,qo,t,ta,tb,hqo,ato,ht,hio⟩:=pick x4
  have ok:=okL io qo hqo
  have mqo:=Bf hqo
  have okf:=ok.f
  have oka:=ok.a
  have okn:=ok.n
  have pos:(0:Int)<(xs.length:Int):=by omega
  refine⟨_,rfl,_,rfl,_,rfl,ll,_,rfl,.inl (A4.of hll3),_,_,rfl,rfl,pos,ll,_,_,_,rfl,rfl,A4.of hll3,ato,t,_,rfl,A9.of ht,rfl,_,_,rfl,_,_,rfl,_,_,rfl,_,_,rfl,_,_,rfl,rfl,?_⟩
  dsimp only[Ag]
  have k1:=i01 (decide (V.int x3=V.int 5))
  refine⟨_,rfl,rfl,_,rfl,AV (fun _=>?_) (fun _=>?_)⟩
  .refine⟨_,rfl,_,rfl,_,_,rfl,rfl,(by show(0:Int)<2;decide),_,_,rfl,rfl,_,rfl,rfl,.inr ⟨_,rfl,_,_,rfl,rfl,.inl ⟨by decide,by decide⟩,_,_,rfl,rfl,?_⟩⟩
   dsimp only[Ag]
   generalize (if decide (V.int x3=V.int 5)=true then(1:Int) else 0)=u at k1
   have m2:0<=x2%2/\x2%2<2:=⟨by omega,by omega⟩
   generalize x2%2=y at m2
   refine⟨_,rfl,_,rfl,Af rfl,fun ta hta=>⟨_,rfl,Af rfl,fun tb htb=>⟨_,rfl,_,rfl,Af rfl,fun r hr=>?_⟩⟩⟩
   have m:=D7.made (nm:=nm) (f:=x1-2) (l:=x1-2+y-2*u) hta htb hr
   exact q r _ _ (e3.trans m.1) m.2 ⟨GA (Nk (u:=2*u) b1 ⟨m2.1,Int.le_of_lt m2.2⟩ (by rcases k1 with rfl|rfl<;>decide)) nl e0l e0l,.inl rfl,.inl rfl,by show -(5+20*(L.length:Int))<=x1-2/\x1-2<=5+20*(L.length:Int);omega,by show -(5+20*(L.length:Int))<=x1-2+y-2*u/\x1-2+y-2*u<=5+20*(L.length:Int);omega⟩
  refine⟨_,rfl,rfl,_,rfl,AV (fun _=>?_) (fun _=>?_)⟩
  .refine Bk (fun σ' H'=>H'=H3/\∃u:Int,(-2<=u/\u<=1)/\σ'=[some (.int cell),some (.ref ll),some (.int x0),some (.int x1),some (.int x2),some (.int x3),some (.int x4),some (.int x5),some (.int u),some (.str Fb),some (.str nm),some (.int (x1-2)),some (.ref tb),some (.str qo.nm),some (.ref ta),some (.int qo.fi),some (.int qo.la),none]) (fun σ' H' pp=>?_) (fun nx2=>?_)
   rotate_left
   .generalize hu:(if decide (V.int x3=V.int 5)=true then(1:Int) else 0)=u at k1
    refine⟨_,rfl,_,_,rfl,rfl,_,rfl,AV (fun _=>?_) (fun c=>?_)⟩
    .have k2:=i01 (decide (qo.la-qo.fi<3))
     refine⟨_,rfl,_,rfl,_,_,rfl,rfl,_,_,rfl,rfl,.inr ⟨_,rfl,_,rfl,rfl,.inr ⟨_,rfl,_,_,rfl,rfl,.inl ⟨by decide,by decide⟩,_,_,rfl,rfl,nx2 _ _ ⟨rfl,_,⟨?_,?_⟩,rfl⟩⟩⟩⟩
     .show -2<=(if decide (qo.la-qo.fi<3)=true then(1:Int) else 0)-2*(if decide (V.int x3=V.int 5)=true then(1:Int) else 0)
      rw[hu]
      omega
     .show(if decide (qo.la-qo.fi<3)=true then(1:Int) else 0)-2*(if decide (V.int x3=V.int 5)=true then(1:Int) else 0)<=1
      rw[hu]
      omega
    .have k2:((if false=true then(1:Int) else 0))=0:=rfl
     refine .inr ⟨_,rfl,_,rfl,rfl,.inr ⟨_,rfl,_,_,rfl,rfl,.inl ⟨by decide,by decide⟩,_,_,rfl,rfl,nx2 _ _ ⟨rfl,_,⟨?_,?_⟩,rfl⟩⟩⟩
     .show -2<=(if false=true then(1:Int) else 0)-2*(if decide (V.int x3=V.int 5)=true then(1:Int) else 0)
      rw[hu]
      omega
     .show(if false=true then(1:Int) else 0)-2*(if decide (V.int x3=V.int 5)=true then(1:Int) else 0)<=1
      rw[hu]
      omega
   obtain⟨rfl,u,hu,rfl⟩:=pp
   refine⟨_,rfl,_,rfl,_,rfl,Af rfl,fun a1 ha1=>⟨_,rfl,_,rfl,_,rfl,_,_,rfl,rfl,Af rfl,fun a2 ha2=>⟨_,rfl,_,rfl,_,_,rfl,rfl,_,rfl,_,rfl,_,_,rfl,rfl,_,rfl,_,_,rfl,rfl,Af rfl,fun r hr=>?_⟩⟩⟩
   have m:=D7.made (nm:=nm) (f:=qo.fi+(x1-2)) (l:=qo.la+(x1-2)+u) ha1 ha2 hr
   exact q r _ _ (e3.trans m.1) m.2 ⟨GA (PR b1 hu hio l2 okf oka) nl okn okn,.inr ⟨qo,mqo,rfl⟩,.inr ⟨qo,mqo,rfl⟩,by show -(5+20*(L.length:Int))<=x1-2/\x1-2<=5+20*(L.length:Int);omega,by show -(5+20*(L.length:Int))<=x1-2+u/\x1-2+u<=5+20*(L.length:Int);omega⟩
  refine⟨_,rfl,rfl,_,rfl,AV (fun _=>?_) (fun _=>?_)⟩
  .have k2:=i01 (decide (V.int (x3%3)=V.int 1))
   refine⟨_,rfl,_,rfl,_,_,rfl,rfl,_,rfl,_,_,rfl,rfl,(by show(0:Int)<3;decide),rfl,.inr ⟨_,rfl,_,_,rfl,rfl,?_⟩⟩
   dsimp only[Ag]
   generalize (if decide (V.int (x3%3)=V.int 1)=true then(1:Int) else 0)=u at k2
   refine⟨_,rfl,_,rfl,_,rfl,Af rfl,fun a1 ha1=>⟨_,rfl,Af rfl,fun a2 ha2=>⟨_,rfl,_,rfl,_,_,rfl,rfl,_,rfl,Af rfl,fun r hr=>?_⟩⟩⟩
   have m:=D7.made (nm:=nm) (f:=qo.fi+(x1-2)) (l:=qo.la+(x1-2)-u) ha1 ha2 hr
   exact q r _ _ (e3.trans m.1) m.2 ⟨GA (Pn b1 k2 hio l2 okf oka) nl okn e0l,.inr ⟨qo,mqo,rfl⟩,.inl rfl,by show -(5+20*(L.length:Int))<=x1-2/\x1-2<=5+20*(L.length:Int);omega,by show -(5+20*(L.length:Int))<=qo.la+(x1-2)-u/\qo.la+(x1-2)-u<=5+20*(L.length:Int);omega⟩
  refine⟨_,rfl,rfl,_,rfl,AV (fun _=>?_) (fun _=>?_)⟩
  .refine⟨_,rfl,_,rfl,_,rfl,_,_,rfl,rfl,Af rfl,fun a1 ha1=>⟨_,rfl,_,rfl,Af rfl,fun a2 ha2=>⟨_,rfl,_,rfl,_,_,rfl,rfl,_,rfl,_,rfl,_,_,rfl,rfl,Af rfl,fun r hr=>?_⟩⟩⟩
   have m:=D7.made (nm:=nm) (f:=qo.fi+(x1-2)) (l:=qo.la+(x1-2)) ha1 ha2 hr
   exact q r _ _ (e3.trans m.1) m.2 ⟨GA (Rz b1 hio l2 okf oka) nl e0l okn,.inl rfl,.inr ⟨qo,mqo,rfl⟩,by show -(5+20*(L.length:Int))<=qo.fi+(x1-2)/\qo.fi+(x1-2)<=5+20*(L.length:Int);omega,by show -(5+20*(L.length:Int))<=x1-2/\x1-2<=5+20*(L.length:Int);omega⟩
  obtain⟨i2,q2,t2,ta2,tb2,hq2,at2,ht2,hi2⟩:=pick (x4+1)
  have ok2:=okL i2 q2 hq2
  have mq2:=Bf hq2
  have oka2:=ok2.a
  refine⟨_,rfl,_,rfl,_,_,rfl,rfl,_,rfl,ll,_,rfl,.inl (A4.of hll3),_,_,rfl,rfl,pos,ll,_,_,_,rfl,rfl,A4.of hll3,at2,?_⟩
  dsimp only[Ag]
  refine⟨_,rfl,_,rfl,_,_,rfl,rfl,_,_,rfl,rfl,_,rfl,_,_,rfl,rfl,?_⟩
  dsimp only[Ag]
  refine⟨_,rfl,_,rfl,_,rfl,Af rfl,fun a1 ha1=>?_⟩
  have n1:=A7 ha1 (.tup [V.str qo.nm,V.int (x1-2)])
  refine⟨_,rfl,t2,_,0,_,rfl,rfl,A9.of (n1 _ _ ht2),rfl,_,rfl,_,rfl,t2,_,4,_,rfl,rfl,A9.of (n1 _ _ ht2),rfl,_,_,rfl,rfl,Af rfl,fun a2 ha2=>⟨_,rfl,_,rfl,_,_,rfl,rfl,_,rfl,Af rfl,fun r hr=>?_⟩⟩
  have m:=D7.made (nm:=nm) (f:=qo.fi+(x1-2)) (l:=qo.fi+(x1-2)+1+x2) ha1 ha2 hr
  exact q r _ _ (e3.trans m.1) m.2 ⟨GA (Qv b1 b2 hio hi2 l2 okf oka2) nl okn ok2.n,.inr ⟨qo,mqo,rfl⟩,.inr ⟨q2,mq2,rfl⟩,by show -(5+20*(L.length:Int))<=x1-2/\x1-2<=5+20*(L.length:Int);omega,by show -(5+20*(L.length:Int))<=qo.fi+(x1-2)+1+x2-q2.la/\qo.fi+(x1-2)+1+x2-q2.la<=5+20*(L.length:Int);omega⟩
theorem UF (T:Tx K mg a):Bz P w K mg base BS 1 a.f_l_told a.d_l_told ["_law_spot","_law_scale","_law_base"] Sv:=by
 refine T.F_l_told.ok Up (fun vs H Q E h=>?_) (fun cdv A outer s H vs Q E hr h=>?_)
 .obtain⟨_,_,_,rfl,_⟩:=h;rfl
 obtain⟨x,b,⟨z,n⟩,rfl,⟨t,rfl,ht⟩,q⟩:=h
 refine⟨_,(@A8 _ _ _ _ _ (@AY _ _ _ _ _ _ _ _ (@AA _ _ _ _ _ _ _ _ Bn (@Ah _ _ _ _ _ _ _ AG (pv 0) A1 (fun _ _=>rfl)) BL (@Am _ _ (by decide) (by decide))) (@Aj _ _ _ (@AX _ _ _ _ (@AN _ _ _ _ _ (@A0 _ _ _ _ _ BL (@A0 _ _ _ _ _ (@A3 _ _ _ _ _ _ _ _ AB (@A3 _ _ _ _ _ _ _ _ Cn (pv 1) (@Ah _ _ _ _ _ _ _ AG (pv 0) A1 (fun _ _=>rfl))) (pv 2)) A2 (by rfl)) (by rfl))))) Bb) (@Aj _ _ _ (@AX _ _ _ _ (@AN _ _ _ _ _ (@A0 _ _ _ _ _ (@Ah _ _ _ _ _ _ _ AG (pv 0) A1 (fun _ _=>rfl)) (@A0 _ _ _ _ _ (@A3 _ _ _ _ _ _ _ _ Cn (pv 1) (@Ah _ _ _ _ _ _ _ AG (pv 0) A1 (fun _ _=>rfl))) A2 (by rfl)) (by rfl)))))),?_⟩
 refine⟨_,rfl,t,_,0,_,rfl,rfl,A9.of ht,rfl,rfl,_,rfl,AV (fun c=>?_) (fun c=>?_)⟩
 .have c:z="":=by have:=Hm c;injection this
  refine⟨_,rfl,_,rfl,t,_,1,_,rfl,rfl,A9.of ht,rfl,_,_,rfl,rfl,.inl ⟨by decide,by decide⟩,_,rfl,_,_,rfl,rfl,Af rfl,fun r hr=>?_⟩
  refine q _ _ (A7 hr _) ⟨r,rfl,?_⟩
  unfold Io
  rw[AW c,A5]
  show some (HO.tup [V.str "",V.int (1*n+b)])=_
  rw[Int.one_mul]
 .have c:¬z="":=fun e=>dF c (congrArg V.str e)
  refine⟨_,rfl,t,_,0,_,rfl,rfl,A9.of ht,rfl,_,rfl,_,rfl,t,_,1,_,rfl,rfl,A9.of ht,rfl,_,_,rfl,rfl,.inl ⟨by decide,by decide⟩,Af rfl,fun r hr=>?_⟩
  refine q _ _ (A7 hr _) ⟨r,rfl,?_⟩
  unfold Io
  rw[AQ c,A5]
  show some (HO.tup [V.str z,V.int (1*n)])=_
  rw[Int.one_mul]
theorem SZ (T:Tx K mg a):Bz P w K mg base BS 3 a.f_l_told_deeds a.d_l_told_deeds ["_law_deeds_here","_law_scale","_law_base"] (R4 a.c_Deed (Ee a)):=by
 have G_Deed_init:=MJ (P:=P) (w:=w) (base:=base) T
 have G_Number_init:=NK (P:=P) (w:=w) (base:=base) T
 have G_l_told:=UF (P:=P) (w:=w) (base:=base) T
 refine T.F_l_told_deeds.ok Fy (fun vs H Q E h=>?_) (fun cdv A outer s H vs Q E hr h=>?_)
 .obtain⟨_,_,_,_,rfl,_⟩:=h;rfl
 obtain⟨l,b,xs0,Ds,rfl,hl,aD,n6,D3,q⟩:=h
 refine⟨_,(@A8 _ _ _ _ _ (@Ai _ _ (3) _ _ _ _ Fy.nd rfl (Or.inl rfl) (@BU _ _ _ _ A2) (by rfl) (by first|exact .inl rfl|exact .inr rfl|assumption)) (@A8 _ _ _ _ _ (@F3 _ _ _ _ _ _ _ _ PassesOwn.never rfl (@Eg _ _ _ _ (pv 0)) (Du rfl (Av (Ao (i:=4) Fy.nd rfl (Or.inl rfl)) (Av (Ao (i:=5) Fy.nd rfl (Or.inl rfl)) (Av (Ao (i:=6) Fy.nd rfl (Or.inl rfl)) Cr)))) (@A8 _ _ _ _ _ (@Ai _ _ (7) _ _ _ _ Fy.nd rfl (Or.inl rfl) (@Dg _ _ _ _ _ _ _ _ _ HP (by rfl) T.z_tuple IM (@A0 _ _ _ _ _ (@Fz _ _ _ _ _ _ _ ["_law_loop_here"] [none] _ _ _ _ (by rfl) (@Eg _ _ _ _ (pv 4)) RH (fun _ _ _ _ _ _=>⟨(Ao (i:=0) UJ rfl (Or.inl rfl)),@EG _,(@Ah _ _ _ _ _ _ _ (show CS _ (DM K) from AG) (pv 0) A1 (fun _ _=>rfl))⟩) (by intro _;rfl)) A2 (by rfl)) (by decide) (by decide) (by rfl) (by rfl)) (by rfl) (by first|exact .inl rfl|exact .inr rfl|assumption)) (@A8 _ _ _ _ _ (@Ai _ _ (8) _ _ _ _ Fy.nd rfl (Or.inl rfl) (@Dg _ _ _ _ _ _ _ _ _ HP (by rfl) T.z_tuple IM (@A0 _ _ _ _ _ (@Fz _ _ _ _ _ _ _ ["_law_loop_here","_law_base","_law_scale"] [none,some 2,some 1] _ _ _ _ (by rfl) (@Eg _ _ _ _ (pv 4)) T5 (fun _ _ _ _ _ _=>⟨(Ao (i:=0) Tb rfl (Or.inl rfl)),@EG _,(@AJ _ _ _ _ _ _ _ _ _ _ _ _ _ _ _ _ G_l_told (hr.mono (by omega)) (by rfl) T.m_l_told T.F_l_told.kp T.b_l_told .nil AD (@A0 _ _ _ _ _ (@Ah _ _ _ _ _ _ _ (show CS _ (DM K) from AG) (pv 0) A1 (fun _ _=>rfl)) (@A0 _ _ _ _ _ (pv 2) (@A0 _ _ _ _ _ (pv 1) A2 (by rfl)) (by rfl)) (by rfl)) (by decide) (by rfl) (by rfl))⟩) (by intro _;rfl)) A2 (by rfl)) (by decide) (by decide) (by rfl) (by rfl)) (by rfl) (by first|exact .inl rfl|exact .inr rfl|assumption)) (@A8 _ _ _ _ _ (@Ai _ _ (9) _ _ _ _ Fy.nd rfl (Or.inl rfl) (@Dg _ _ _ _ _ _ _ _ _ HP (by rfl) T.z_tuple IM (@A0 _ _ _ _ _ (@Fz _ _ _ _ _ _ _ ["_law_loop_here","_law_base","_law_scale"] [none,some 2,some 1] _ _ _ _ (by rfl) (@Eg _ _ _ _ (pv 4)) SW (fun _ _ _ _ _ _=>⟨(Ao (i:=0) R1 rfl (Or.inl rfl)),@EG _,(@AJ _ _ _ _ _ _ _ _ _ _ _ _ _ _ _ _ G_l_told (hr.mono (by omega)) (by rfl) T.m_l_told T.F_l_told.kp T.b_l_told .nil AD (@A0 _ _ _ _ _ (@Ah _ _ _ _ _ _ _ (show CS _ (DM K) from AG) (pv 0) A1 (fun _ _=>rfl)) (@A0 _ _ _ _ _ (pv 2) (@A0 _ _ _ _ _ (pv 1) A2 (by rfl)) (by rfl)) (by rfl)) (by decide) (by rfl) (by rfl))⟩) (by intro _;rfl)) A2 (by rfl)) (by decide) (by decide) (by rfl) (by rfl)) (by rfl) (by first|exact .inl rfl|exact .inr rfl|assumption)) (@Aj _ _ _ (@DF _ _ _ _ (@DI _ _ _ _ _ _ _ _ _ _ _ _ Dz EV EW Et (pv 3) (@A0 _ _ _ _ _ (@GO _ _ _ _ _ _ _ _ _ _ _ _ _ _ _ _ _ T.mk_Deed G_Deed_init (hr.mono (by omega)) (by rfl) T.mc_Deed T.b_Deed_init .nil AD (@A0 _ _ _ _ _ (pv 7) (@A0 _ _ _ _ _ (pv 8) (@A0 _ _ _ _ _ (pv 9) (@A0 _ _ _ _ _ BL (@A0 _ _ _ _ _ (@AN _ _ _ _ _ (@A0 _ _ _ _ _ (@AN _ _ _ _ _ (@A0 _ _ _ _ _ BL (@A0 _ _ _ _ _ A1 A2 (by rfl)) (by rfl))) A2 (by rfl))) (@A0 _ _ _ _ _ (@GO _ _ _ _ _ _ _ _ _ _ _ _ _ _ _ _ _ T.mk_Number G_Number_init (hr.mono (by omega)) (by rfl) T.mc_Number T.b_Number_init .nil AD (@A0 _ _ _ _ _ A1 A2 (by rfl)) (by decide) (by rfl) (by rfl)) (@A0 _ _ _ _ _ (pv 5) A2 (by rfl)) (by rfl)) (by rfl)) (by rfl)) (by rfl)) (by rfl)) (by rfl)) (by decide) (by rfl) (by rfl)) A2 (by rfl)) (by rfl) (by rfl) (by rfl) (by rfl) (by rfl)) (by rfl)))))) (by intro _;rfl)) (@Aj _ _ _ (@AX _ _ _ _ (pv 3))))),?_⟩
 have xl0:=aD.1
 refine⟨Af rfl,fun fo hfo=>?_⟩
 have e1:=A7 hfo (.lst [])
 have hfo1:(upd H fo (.lst [])) fo=some (.lst []):=A5
 dsimp only[Ag]
 generalize upd H fo (.lst [])=H1 at e1 hfo1
 refine⟨_,rfl,l,rfl,⟨_,A4.of (e1 _ _ hl)⟩,?_⟩
 refine Lm (xs:=xs0) (fun i σ' H'=>∃(ys:List V) (o4 o5 o6 o7 o8 o9:Option V),σ'=[some (.ref l),some (.int 1),some (.int b),some (.ref fo),o4,o5,o6,o7,o8,o9]/\Aa H H'/\H' fo=some (.lst ys)/\As (CI a.c_Deed (Ee a) H') ys ((Ds.take i).map (CG b))) ⟨[],_,_,_,_,_,_,rfl,e1,hfo1,.nil⟩ (fun i σ' H' _ pp=>by obtain⟨_,_,_,_,_,_,_,_,e,_⟩:=pp;exact A4.of (e _ _ hl)) (fun i x σ' H' hx pp=>?_) (fun σ' H' pp=>?_)
 rotate_left
 .obtain⟨ys,o4,o5,o6,o7,o8,o9,rfl,e,hy,ay⟩:=pp
  rw[Dj (by omega)]at ay
  exact⟨_,rfl,q fo ys _ e hy ay⟩
 obtain⟨ys,o4,o5,o6,o7,o8,o9,rfl,e,hy,ay⟩:=pp
 obtain⟨D,hD,t,o,pt,rfl,ht,⟨vs,hvs,av0⟩,hpt⟩:=aD.get' hx
 have d3:=D3 D (Bf hD)
 have vl:=av0.1
 have yl:=ay.1
 rw[Al,Ar]at yl
 refine⟨t,_,rfl,A9.of (e _ _ ht),rfl,_,_,rfl,_,_,rfl,_,_,rfl,rfl,?_⟩
 dsimp only[Ag]
 have av1:=av0.mono fun _ _ z=>z.over e
 have hvs1:=e _ _ hvs
 have hpt1:=e _ _ hpt
 refine⟨_,rfl,o,rfl,⟨_,A4.of hvs1⟩,?_⟩
 refine FN (xs:=vs) (fun i ys H2=>H2=H'/\ys=(D.L.take i).map fun t=>V.str t.nm) ⟨rfl,rfl⟩ (AF (by omega)) (fun i ys H2 hi pp=>⟨by rw[pp.1];exact A4.of hvs1,by rw[pp.2,Al,Ar];omega⟩) (fun i x ys H2 hc pp=>?_) (fun ys1 H2 pp r1 hr1=>?_)
 .obtain⟨rfl,rfl⟩:=pp
  obtain⟨t,ht,q0,xa,xb,rfl,hq0,_,_⟩:=av1.get' hc
  refine⟨_,rfl,q0,_,0,_,rfl,rfl,A9.of hq0,rfl,rfl,?_⟩
  rw[CY ht,B8]
  rfl
 obtain⟨rfl,rfl⟩:=pp
 rw[Dj (by omega)]
 refine⟨r1,_,rfl,.inl ⟨A4.of A5,fun t1 ht1=>?_⟩⟩
 have s1:=(A7 hr1 (.lst (D.L.map fun t=>V.str t.nm))).trans (A7 ht1 (.tup (D.L.map fun t=>V.str t.nm)))
 have f1:(upd (upd H2 r1 (HO.lst (D.L.map fun t=>V.str t.nm))) t1 (HO.tup (D.L.map fun t=>V.str t.nm))) t1=some (.tup (D.L.map fun t=>V.str t.nm)):=A5
 dsimp only[Ag]
 generalize upd (upd H2 r1 (HO.lst (D.L.map fun t=>V.str t.nm))) t1 (HO.tup (D.L.map fun t=>V.str t.nm))=H3 at s1 f1
 refine⟨_,rfl,o,rfl,⟨_,A4.of (s1 _ _ hvs1)⟩,?_⟩
 refine FN (xs:=vs) (fun i ys H4=>Aa H3 H4/\As (fun v t=>Da H4 v (GH.lo t)) ys ((D.L.take i).map (Gr b))) ⟨Aa.refl _,.nil⟩ (AF (by omega)) (fun i ys H4 hi pp=>⟨A4.of (pp.1 _ _ (s1 _ _ hvs1)),by rw[pp.2.1,Al,Ar];omega⟩) (fun i x ys H4 hc pp=>?_) (fun ys2 H4 pp r2 hr2=>?_)
 .obtain⟨e4,ay4⟩:=pp
  obtain⟨t,ht,q0,xa,xb,rfl,hq0,ha,hb⟩:=av1.get' hc
  have e24:=s1.trans e4
  refine⟨_,rfl,q0,_,1,_,rfl,rfl,A9.of (e24 _ _ hq0),rfl,_,rfl,_,rfl,.ref xa,b,t.lo,rfl,⟨xa,rfl,e24 _ _ ha⟩,fun r H5 e5 hr5=>⟨e4.trans e5,?_⟩⟩
  rw[CY ht,B8]
  exact(ay4.mono fun _ _ z=>Da.tk (Aa.tk e5) z).snoc hr5
 obtain⟨e4,ay2⟩:=pp
 rw[Dj (by omega)]at ay2
 refine⟨r2,_,rfl,.inl ⟨A4.of A5,fun t2 ht2=>?_⟩⟩
 have s2:=(A7 hr2 (.lst ys2)).trans (A7 ht2 (.tup ys2))
 have f2:(upd (upd H4 r2 (HO.lst ys2)) t2 (HO.tup ys2)) t2=some (.tup ys2):=A5
 have ay2:=ay2.mono fun _ _ z=>Da.tk (Aa.tk s2) z
 have e25:=s1.trans (e4.trans s2)
 have f1:=(e4.trans s2) _ _ f1
 dsimp only[Ag]
 generalize upd (upd H4 r2 (HO.lst ys2)) t2 (HO.tup ys2)=H5 at s2 f2 ay2 e25 f1
 refine⟨_,rfl,o,rfl,⟨_,A4.of (e25 _ _ hvs1)⟩,?_⟩
 refine FN (xs:=vs) (fun i ys H6=>Aa H5 H6/\As (fun v t=>Da H6 v (GH.hi t)) ys ((D.L.take i).map (Gr b))) ⟨Aa.refl _,.nil⟩ (AF (by omega)) (fun i ys H6 hi pp=>⟨A4.of (pp.1 _ _ (e25 _ _ hvs1)),by rw[pp.2.1,Al,Ar];omega⟩) (fun i x ys H6 hc pp=>?_) (fun ys3 H6 pp r3 hr3=>?_)
 .obtain⟨e6,ay6⟩:=pp
  obtain⟨t,ht,q0,xa,xb,rfl,hq0,ha,hb⟩:=av1.get' hc
  have e26:=e25.trans e6
  refine⟨_,rfl,q0,_,2,_,rfl,rfl,A9.of (e26 _ _ hq0),rfl,_,rfl,_,rfl,.ref xb,b,t.hi,rfl,⟨xb,rfl,e26 _ _ hb⟩,fun r H7 e7 hr7=>⟨e6.trans e7,?_⟩⟩
  rw[CY ht,B8]
  exact(ay6.mono fun _ _ z=>Da.tk (Aa.tk e7) z).snoc hr7
 obtain⟨e6,ay3⟩:=pp
 rw[Dj (by omega)]at ay3
 refine⟨r3,_,rfl,.inl ⟨A4.of A5,fun t3 ht3=>?_⟩⟩
 have s3:=(A7 hr3 (.lst ys3)).trans (A7 ht3 (.tup ys3))
 have f3:(upd (upd H6 r3 (HO.lst ys3)) t3 (HO.tup ys3)) t3=some (.tup ys3):=A5
 have e57:=e6.trans s3
 have ay2:=ay2.mono fun _ _ z=>Da.tk (Aa.tk e57) z
 have ay3:=ay3.mono fun _ _ z=>Da.tk (Aa.tk s3) z
 have e27:=e25.trans e57
 have f1:=e57 _ _ f1
 have f2:=e57 _ _ f2
 dsimp only[Ag]
 generalize upd (upd H6 r3 (HO.lst ys3)) t3 (HO.tup ys3)=H7 at s3 f3 ay2 ay3 e27 f1 f2
 have hy7:=e27 _ _ hy
 refine⟨_,rfl,.inl ⟨rfl,_,A4.of hy7⟩,_,rfl,_,rfl,_,rfl,Af rfl,fun u1 hu1=>⟨Af rfl,fun u2 hu2=>?_⟩⟩
 have v1:=A7 hu1 (.tup [V.str "",V.int 0])
 have v2:=A7 hu2 (.tup [V.ref u1])
 have g1:(upd (upd H7 u1 (.tup [V.str "",V.int 0])) u2 (.tup [V.ref u1])) u1=some (.tup [V.str "",V.int 0]):=v2 _ _ A5
 have g2:(upd (upd H7 u1 (.tup [V.str "",V.int 0])) u2 (.tup [V.ref u1])) u2=some (.tup [V.ref u1]):=A5
 have e79:=v1.trans v2
 generalize upd (upd H7 u1 (.tup [V.str "",V.int 0])) u2 (.tup [V.ref u1])=H9 at e79 g1 g2
 intro n dn hn hdn hne
 refine⟨n,dn,_,rfl,A5,fun HA kA hnA=>⟨rfl,?_⟩⟩
 obtain⟨dxA,hnA⟩:=hnA
 have e9A:=GY hn hdn kA
 have e7A:=e79.trans e9A
 refine⟨_,rfl,?_⟩
 intro d dd hd hdd hne2
 refine⟨d,dd,_,_,_,_,_,_,_,rfl,A5,fun HB kB hdB=>⟨rfl,?_⟩⟩
 obtain⟨dxB,hdB⟩:=hdB
 have eAB:=GY hd hdd kB
 have e7B:=e7A.trans eAB
 have e2B:=e27.trans e7B
 have hyB:=e7B _ _ hy7
 refine⟨fo,_,_,rfl,rfl,hyB,E8 (by omega),?_⟩
 have nlB:NL HB (upd HB fo (.lst (ys++[V.ref d]))):=NL.upd hyB
 refine⟨ys++[.ref d],_,_,_,_,_,_,rfl,fun a o ha=>by rw[Aw (BA ha hfo)];exact e2B _ _ (e _ _ ha),A5,?_⟩
 rw[CY hD,B8]
 refine((ay.mono fun _ _ z=>CI.over e2B z).snoc (a:=CG b D) ?_).mono fun _ _ z=>CI.nl nlB z
 have e9B:=e9A.trans eAB
 refine⟨d,dxB,t1,t2,t3,u2,pt,_,ys2,ys3,rfl,hdB,?_,e7B _ _ f2,ay2.mono fun _ _ z=>Da.tk (Aa.tk e7B) z,e7B _ _ f3,ay3.mono fun _ _ z=>Da.tk (Aa.tk e7B) z,?_,⟨n,dxA,rfl,eAB _ _ hnA⟩,e2B _ _ hpt1⟩
 .have:=e7B _ _ f1
  rw[this]
  show _=some (HO.tup ((D.L.map (Gr b)).map _))
  rw[IU]
  rfl
 .exact⟨_,e9B _ _ g2,As.one ⟨u1,rfl,e9B _ _ g1⟩⟩
theorem Ti (T:Tx K mg a):Bz P w K mg base BS 3 a.f_l_deeds a.d_l_deeds ["_law_script","_law_first","_law_count"] (R7 K):=by
 have G_l_at:=GI (P:=P) (w:=w) (base:=base) T
 have G_l_digits:=Gx (P:=P) (w:=w) (base:=base) T
 have G_l_loop:=UN (P:=P) (w:=w) (base:=base) T
 refine T.F_l_deeds.ok D4 (fun vs H Q E h=>?_) (fun cdv A outer s H vs Q E hr h=>?_)
 .obtain⟨_,_,_,_,rfl,_⟩:=h;rfl
 obtain⟨p,ns,fi,n,rfl,hp,f0,f1,n6,q⟩:=h
 refine⟨_,(@A8 _ _ _ _ _ (@Ai _ _ (3) _ _ _ _ D4.nd rfl (Or.inl rfl) (@BU _ _ _ _ A2) (by rfl) (by first|exact .inl rfl|exact .inr rfl|assumption)) (@A8 _ _ _ _ _ (@F3 _ _ _ _ _ _ _ _ PassesOwn.never rfl (@Jx _ _ _ _ _ _ (by rfl) T.z_range (@A0 _ _ _ _ _ (pv 2) A2 (by rfl)) (by rfl)) (Ao (i:=4) D4.nd rfl (Or.inl rfl)) (@A8 _ _ _ _ _ (@DK _ _ _ _ _ _ (@AJ _ _ _ _ _ _ _ _ _ _ _ _ _ _ _ _ G_l_digits (hr.mono (by omega)) (by rfl) T.m_l_digits T.F_l_digits.kp T.b_l_digits .nil AD (@A0 _ _ _ _ _ (@AJ _ _ _ _ _ _ _ _ _ _ _ _ _ _ _ _ G_l_at (hr.mono (by omega)) (by rfl) T.m_l_at T.F_l_at.kp T.b_l_at .nil AD (@A0 _ _ _ _ _ (pv 0) (@A0 _ _ _ _ _ (@A3 _ _ _ _ _ _ _ _ AB (pv 1) (@A3 _ _ _ _ _ _ _ _ Cn A1 (pv 4))) A2 (by rfl)) (by rfl)) (by decide) (by rfl) (by rfl)) (@A0 _ _ _ _ _ (@BU _ _ _ _ (@A0 _ _ _ _ _ A1 (@A0 _ _ _ _ _ A1 A2 (by rfl)) (by rfl))) A2 (by rfl)) (by rfl)) (by decide) (by rfl) (by rfl)) (FP rfl (Av (Ao (i:=5) D4.nd rfl (Or.inl rfl)) (Av (Ao (i:=6) D4.nd rfl (Or.inl rfl)) Cr))) (by rfl) (by rfl) (by rfl)) (@A8 _ _ _ _ _ (@Ai _ _ (5) _ _ _ _ D4.nd rfl (Or.inl rfl) (@AE _ _ _ _ _ _ _ _ _ (@N3 _ rfl) (by rfl) T.z_min Kd (@A0 _ _ _ _ _ (@Ah _ _ _ _ _ _ _ Bg (@Eo _ _ _ _ (@Ae _ _ _ _ _ A1 (@Ae _ _ _ _ _ A1 (@Ae _ _ _ _ _ A1 (@Ae _ _ _ _ _ A1 (@Ae _ _ _ _ _ A1 (@Ae _ _ _ _ _ A1 (@Ae _ _ _ _ _ A1 BF B3) B3) B3) B3) B3) B3) B3)) (pv 5) (fun _ _=>rfl)) (@A0 _ _ _ _ _ (@A3 _ _ _ _ _ _ _ _ BZ A1 (@Dg _ _ _ _ _ _ _ _ _ EJ (by rfl) T.z_int EC (@A0 _ _ _ _ _ (@Cm _ _ _ _ _ _ _ _ CW (pv 2) A1 (@Am _ _ (by decide) (by decide))) A2 (by rfl)) (by decide) (by decide) (by rfl) (by rfl))) A2 (by rfl)) (by rfl)) (by decide) (by decide) (by rfl) (by rfl)) (by rfl) (by first|exact .inl rfl|exact .inr rfl|assumption)) (@A8 _ _ _ _ _ (@Ai _ _ (7) _ _ _ _ D4.nd rfl (Or.inl rfl) (@BU _ _ _ _ A2) (by rfl) (by first|exact .inl rfl|exact .inr rfl|assumption)) (@A8 _ _ _ _ _ (@Ai _ _ (8) _ _ _ _ D4.nd rfl (Or.inl rfl) (@AN _ _ _ _ _ (@A0 _ _ _ _ _ A1 A2 (by rfl))) (by rfl) (by first|exact .inl rfl|exact .inr rfl|assumption)) (@A8 _ _ _ _ _ (@Ai _ _ (9) _ _ _ _ D4.nd rfl (Or.inl rfl) (@BU _ _ _ _ A2) (by rfl) (by first|exact .inl rfl|exact .inr rfl|assumption)) (@A8 _ _ _ _ _ (@AY _ _ _ _ _ _ _ _ (@AA _ _ _ _ _ _ _ _ Bn (pv 4) A1 (@Am _ _ (by decide) (by decide))) (@Aj _ _ _ (@Ai _ _ (6) _ _ _ _ D4.nd rfl (Or.inl rfl) A1 (by rfl) (by first|exact .inl rfl|exact .inr rfl|assumption))) (@A8 _ _ _ _ _ (@Ai _ _ (9) _ _ _ _ D4.nd rfl (Or.inl rfl) (@Ah _ _ _ _ _ _ _ AG (@Ah _ _ _ _ _ _ _ Bg (pv 3) (@A3 _ _ _ _ _ _ _ _ BZ (pv 4) A1) (fun _ _=>rfl)) A1 (fun _ _=>rfl)) (by rfl) (by first|exact .inl rfl|exact .inr rfl|assumption)) (@A8 _ _ _ _ _ (@Ai _ _ (6) _ _ _ _ D4.nd rfl (Or.inl rfl) (@AE _ _ _ _ _ _ _ _ _ (@QW _ rfl) (by rfl) T.z_min Kd (@A0 _ _ _ _ _ (pv 6) (@A0 _ _ _ _ _ (@AE _ _ _ _ _ _ _ _ _ AS (by rfl) T.z_len AR (@A0 _ _ _ _ _ (pv 9) A2 (by rfl)) (by decide) (by decide) (by rfl) (by rfl)) (@A0 _ _ _ _ _ (pv 5) A2 (by rfl)) (by rfl)) (by rfl)) (by decide) (by decide) (by rfl) (by rfl)) (by rfl) (by first|exact .inl rfl|exact .inr rfl|assumption)) (@A8 _ _ _ _ _ (@Ai _ _ (7) _ _ _ _ D4.nd rfl (Or.inl rfl) (@Bt _ _ _ _ _ _ _ _ _ _ CT (pv 9) Bv (@Bq _ _ _ (pv 6))) (by rfl) (by first|exact .inl rfl|exact .inr rfl|assumption)) (@Aj _ _ _ (@Ai _ _ (8) _ _ _ _ D4.nd rfl (Or.inl rfl) (@A3 _ _ _ _ _ _ _ _ CJ (@Bt _ _ _ _ _ _ _ _ _ _ CQ (@Ah _ _ _ _ _ _ _ AG (@Ah _ _ _ _ _ _ _ Bg (pv 3) (@A3 _ _ _ _ _ _ _ _ BZ (pv 4) A1) (fun _ _=>rfl)) A1 (fun _ _=>rfl)) Bv (@Bq _ _ _ (pv 6))) (@AN _ _ _ _ _ (@A0 _ _ _ _ _ (@A3 _ _ _ _ _ _ _ _ AB (@Ah _ _ _ _ _ _ _ AG (@Ah _ _ _ _ _ _ _ AG (@Ah _ _ _ _ _ _ _ Bg (pv 3) (@A3 _ _ _ _ _ _ _ _ BZ (pv 4) A1) (fun _ _=>rfl)) A1 (fun _ _=>rfl)) (pv 6) (fun _ _=>rfl)) A1) A2 (by rfl)))) (by rfl) (by first|exact .inl rfl|exact .inr rfl|assumption))))))) (@A8 _ _ _ _ _ (@Hu _ _ _ _ _ _ PassesOwn.never (@AA _ _ _ _ _ _ _ _ Em (@AE _ _ _ _ _ _ _ _ _ AS (by rfl) T.z_len AR (@A0 _ _ _ _ _ (pv 7) A2 (by rfl)) (by decide) (by decide) (by rfl) (by rfl)) (pv 5) (@Am _ _ (by decide) (by decide))) (@A8 _ _ _ _ _ (@Ai _ _ (10) _ _ _ _ D4.nd rfl (Or.inl rfl) (@AJ _ _ _ _ _ _ _ _ _ _ _ _ _ _ _ _ G_l_at (hr.mono (by omega)) (by rfl) T.m_l_at T.F_l_at.kp T.b_l_at .nil AD (@A0 _ _ _ _ _ (pv 0) (@A0 _ _ _ _ _ (@A3 _ _ _ _ _ _ _ _ AB (@A3 _ _ _ _ _ _ _ _ AB (@A3 _ _ _ _ _ _ _ _ AB (pv 1) (@A3 _ _ _ _ _ _ _ _ Cn A1 (pv 4))) A1) (@AE _ _ _ _ _ _ _ _ _ AS (by rfl) T.z_len AR (@A0 _ _ _ _ _ (pv 7) A2 (by rfl)) (by decide) (by decide) (by rfl) (by rfl))) A2 (by rfl)) (by rfl)) (by decide) (by rfl) (by rfl)) (by rfl) (by first|exact .inl rfl|exact .inr rfl|assumption)) (@A8 _ _ _ _ _ (@AY _ _ _ _ _ _ _ _ ((@Ei _ _ _ _ _ _ _ (@AA _ _ _ _ _ _ _ _ (@GF _ (@F5 _ _ hr)) (@Bt _ _ _ _ _ _ _ _ _ _ CT (pv 9) Bv (@Bq _ _ _ (@AE _ _ _ _ _ _ _ _ _ AS (by rfl) T.z_len AR (@A0 _ _ _ _ _ (pv 7) A2 (by rfl)) (by decide) (by decide) (by rfl) (by rfl)))) (pv 7) (@Am _ _ (by decide) (by decide))) (@Ei _ _ _ _ _ _ _ (@AA _ _ _ _ _ _ _ _ CW (@AE _ _ _ _ _ _ _ _ _ AS (by rfl) T.z_len AR (@A0 _ _ _ _ _ (pv 9) A2 (by rfl)) (by decide) (by decide) (by rfl) (by rfl)) (@AE _ _ _ _ _ _ _ _ _ AS (by rfl) T.z_len AR (@A0 _ _ _ _ _ (pv 7) A2 (by rfl)) (by decide) (by decide) (by rfl) (by rfl)) (@Am _ _ (by decide) (by decide))) (@EK _ _ _ _ (@AA _ _ _ _ _ _ _ _ Bn (@A3 _ _ _ _ _ _ _ _ B7 (@A3 _ _ _ _ _ _ _ _ Dp (pv 10) A1) A1) A1 (@Am _ _ (by decide) (by decide))))))).pt (@Aj _ _ _ (@Ai _ _ (7) _ _ _ _ D4.nd rfl (Or.inl rfl) (@A3 _ _ _ _ _ _ _ _ CH (pv 7) (@BU _ _ _ _ (@A0 _ _ _ _ _ (@Ah _ _ _ _ _ _ _ Bg (pv 9) (@AE _ _ _ _ _ _ _ _ _ AS (by rfl) T.z_len AR (@A0 _ _ _ _ _ (pv 7) A2 (by rfl)) (by decide) (by decide) (by rfl) (by rfl)) (fun _ _=>rfl)) A2 (by rfl)))) (by rfl) (by first|exact .inl rfl|exact .inr rfl|assumption))) (@Aj _ _ _ (@Ai _ _ (7) _ _ _ _ D4.nd rfl (Or.inl rfl) (@A3 _ _ _ _ _ _ _ _ CH (pv 7) (@BU _ _ _ _ (@A0 _ _ _ _ _ (@AJ _ _ _ _ _ _ _ _ _ _ _ _ _ _ _ _ G_l_loop (hr.mono (by omega)) (by rfl) T.m_l_loop T.F_l_loop.kp T.b_l_loop .nil AD (@A0 _ _ _ _ _ (pv 10) (@A0 _ _ _ _ _ (pv 7) A2 (by rfl)) (by rfl)) (by decide) (by rfl) (by rfl)) A2 (by rfl)))) (by rfl) (by first|exact .inl rfl|exact .inr rfl|assumption)))) (@Aj _ _ _ (@Ai _ _ (8) _ _ _ _ D4.nd rfl (Or.inl rfl) (@A3 _ _ _ _ _ _ _ _ CJ (pv 8) (@AN _ _ _ _ _ (@A0 _ _ _ _ _ A1 A2 (by rfl)))) (by rfl) (by first|exact .inl rfl|exact .inr rfl|assumption)))))) (@Aj _ _ _ (@DF _ _ _ _ (@DI _ _ _ _ _ _ _ _ _ _ _ _ Dz EV EW Et (pv 3) (@A0 _ _ _ _ _ (@Cq _ _ _ _ _ (@Ae _ _ _ _ _ (pv 7) (@Ae _ _ _ _ _ (pv 8) (@Ae _ _ _ _ _ (pv 6) BF Bi) Bi) Bi)) A2 (by rfl)) (by rfl) (by rfl) (by rfl) (by rfl) (by rfl)) (by rfl)))))))))) (by intro _;rfl)) (@Aj _ _ _ (@AX _ _ _ _ (pv 3))))),?_⟩
 have ne_of_none':∀{HH:Hp} {x y:Addr} {o:HO},HH x=none->HH y=some o->x≠y:=fun h1 h2 z=>by rw[z,h2]at h1;cases h1
 refine⟨Af rfl,fun fo hfo=>?_⟩
 have e1:=A7 hfo (.lst [])
 have hfo1:(upd H fo (.lst [])) fo=some (.lst []):=A5
 dsimp only[Ag]
 generalize upd H fo (.lst [])=H1 at e1 hfo1
 refine⟨_,rfl,(n:Int),rfl,by omega,by omega,?_⟩
 rw[show((n:Nat):Int).toNat=n by omega]
 refine R9 (lo:=0) (n:=n) (fun i σ' H'=>∃(xs:List V) (Ds:List Dq) (o4 o5 o6 o7 o8 o9 o10:Option V),σ'=[some (.ref p),some (.int fi),some (.int (n:Int)),some (.ref fo),o4,o5,o6,o7,o8,o9,o10]/\Aa H H'/\H' fo=some (.lst xs)/\As (GZ (av H' [fo])) xs Ds/\Ds.length=i/\FD Ds) ⟨[],[],_,_,_,_,_,_,_,rfl,e1,hfo1,.nil,rfl,FD.nil⟩ (fun i σ' H' hi pp=>?_) (fun σ' H' pp=>?_)
 rotate_left
 .obtain⟨xs,Ds,o4,o5,o6,o7,o8,o9,o10,rfl,e,hx,ax,dl,rq⟩:=pp
  exact⟨_,rfl,q fo xs _ Ds e hx (ax.mono fun _ _ z=>z.over JD) dl rq⟩
 obtain⟨xs,Ds,o4,o5,o6,o7,o8,o9,o10,rfl,e,hx,ax,dl,rq⟩:=pp
 have xsl:=ax.1
 rw[M4]
 dsimp only[Ag]
 refine⟨_,rfl,_,rfl,_,rfl,_,_,rfl,rfl,.inl ⟨by decide,by decide⟩,_,_,rfl,rfl,p,ns,_,rfl,e.seq hp,by omega,by omega,fun m m0 _=>⟨Af rfl,fun d1 hd1=>?_⟩⟩
 have s2:=A7 hd1 (.lst [V.int 7,V.int 4])
 refine⟨m,d1,[7,4],rfl,A5,m0,by decide,by decide,fun r1 H2 ds e2 hr1 dsl db=>?_⟩
 have e2:=s2.trans e2
 obtain⟨x0,x1,rfl⟩:∃d0 d1,ds=[d0,d1]:=by
  match ds,dsl with
  |[x,y],_=>exact⟨x,y,rfl⟩
 have b0:=db 0 x0 7 rfl rfl
 have b1:=db 1 x1 4 rfl rfl
 clear db dsl
 refine⟨r1,_,rfl,hr1,rfl,_,_,rfl,_,_,rfl,rfl,?_⟩
 dsimp only[Ag]
 obtain⟨v7,at7,v70,v71⟩:=UO b0.1 b0.2
 have i01:∀b:Bool,(if b then(1:Int) else 0)=0\/(if b then(1:Int) else 0)=1:=fun b=>by cases b<;>decide
 refine⟨Af rfl,fun l7 hl7=>⟨_,rfl,l7,_,_,_,rfl,rfl,A4.of A5,at7,_,rfl,_,_,rfl,rfl,.inr ⟨_,rfl,_,_,rfl,rfl,_,_,rfl,?_⟩⟩⟩
 have s3:=A7 hl7 (.lst [V.int 2,V.int 1,V.int 3,V.int 2,V.int 0,V.int 1,V.int 2])
 have e3:=e2.trans s3
 generalize upd H2 l7 (.lst [V.int 2,V.int 1,V.int 3,V.int 2,V.int 0,V.int 1,V.int 2])=H3 at s3 e3
 have k2:=i01 (decide ((n:Int)>3))
 obtain⟨dp,edp,dp3⟩:∃dp:Nat,(if 3-(if decide ((n:Int)>3)=true then(1:Int) else 0)<v7 then 3-(if decide ((n:Int)>3)=true then(1:Int) else 0) else v7)=(dp:Int)/\dp<=3:=by
  generalize (if decide ((n:Int)>3)=true then(1:Int) else 0)=u at k2
  split
  .exact⟨(3-u).toNat,by omega,by omega⟩
  .exact⟨v7.toNat,by omega,by omega⟩
 rw[edp]
 dsimp only[Ag]
 refine⟨Af rfl,fun lo0 hlo0=>?_⟩
 have s4:=A7 hlo0 (.lst [])
 have hlo4:(upd H3 lo0 (.lst [])) lo0=some (.lst []):=A5
 have nlo0:=ne_of_none' hlo0 (e3 _ _ hx)
 dsimp only[Ag]
 generalize upd H3 lo0 (.lst [])=H4 at s4 hlo4
 refine⟨Af rfl,fun pt0 hpt0=>?_⟩
 have s5:=A7 hpt0 (.tup [V.int 0])
 have hpt5:(upd H4 pt0 (.tup [V.int 0])) pt0=some (.tup [V.int 0]):=A5
 have hlo5:=s5 _ _ hlo4
 dsimp only[Ag]
 generalize upd H4 pt0 (.tup [V.int 0])=H5 at s5 hpt5 hlo5
 refine⟨Af rfl,fun ol0 hol0=>?_⟩
 have s6:=A7 hol0 (.lst [])
 have hol6:(upd H5 ol0 (.lst [])) ol0=some (.lst []):=A5
 have hpt6:=s6 _ _ hpt5
 have hlo6:=s6 _ _ hlo5
 have e6:=e3.trans (s4.trans (s5.trans s6))
 dsimp only[Ag]
 generalize upd H5 ol0 (.lst [])=H6 at s6 hol6 hpt6 hlo6 e6
 have hx6:=e6 _ _ hx
 have ax6:=ax.mono fun y v z=>z.over (FF (S:=[fo]) e6)
 have eH6:=e.trans e6
 clear ax s2 s3 s4 s5 s6 hlo5 hlo4 hpt5 e3 e2 at7 k2
 refine Bk (fun σ' H'=>∃(lo pt ol:Addr) (L old:List Lq) (pa:List Int) (sh:Nat),σ'=[some (.ref p),some (.int fi),some (.int (n:Int)),some (.ref fo),some (.int (i:Int)),some (.int (dp:Int)),some (.int (sh:Int)),some (.ref lo),some (.ref pt),some (.ref ol),o10]/\Aa H6 H'/\DW H' lo L/\DW H' ol old/\H' pt=some (.tup (pa.map V.int))/\D8 L/\D8 old/\old.length<=3/\L.length=sh/\sh<=dp/\pa.length=sh+1/\lo≠fo/\(i=0->sh=0)/\∀c,Ds.getLast?=some c->sh<=c.L.length/\c.L.take sh=L/\∃v,c.path[sh]?=some v/\pa=c.path.take sh++[v+1]) (fun σ' HB pp=>?_) (fun nx=>?_)
 rotate_left
 .refine⟨_,rfl,rfl,_,rfl,AV (fun c=>?_) (fun c=>?_)⟩
  .have c:i=0:=by
    have:=Hm c
    injection this with z
    omega
   refine nx _ _ ⟨lo0,pt0,ol0,[],[],[0],0,rfl,Aa.refl _,⟨[],hlo6,.nil⟩,⟨[],hol6,.nil⟩,hpt6,D8.nil,D8.nil,BP _,rfl,BP _,rfl,nlo0,fun _=>rfl,fun c hc=>?_⟩
   have:Ds=[]:=LZ (by omega)
   rw[this]at hc
   cases hc
  .have c:i≠0:=fun z=>dF c (congrArg V.int (by rw[z];rfl))
   obtain⟨i',rfl⟩:∃j,i=j+1:=⟨i-1,by omega⟩
   have hDi:Ds[i']?=some Ds[i']:=AH (by omega)
   have hlast:Ds.getLast?=some Ds[i']:=by rw[Hg,show Ds.length-1=i' by omega];exact hDi
   have okc:=rq.row.ok _ (Bf hDi)
   have okc7:=rq.in7 _ (Bf hDi)
   generalize Ds[i']=cc at hDi hlast okc okc7
   obtain⟨xp,hxp,dq⟩:=ax6.get hDi
   obtain⟨t,ol,pt,rfl,ht,⟨lx,hol,alx⟩,hpt⟩:=dq.over JD
   have aj:C6 xs (((i'+1:Nat):Int)-1)=some (.ref t):=by
    rw[show(((i'+1:Nat):Int)-1)=(i':Int) by omega]
    exact Bx hxp
   have lxl:=alx.1
   have ccl:=okc.ll
   refine⟨_,rfl,_,rfl,_,_,rfl,rfl,fo,_,_,_,rfl,rfl,A4.of hx6,aj,t,_,0,_,rfl,rfl,A9.of ht,rfl,?_⟩
   dsimp only[Ag]
   refine⟨_,rfl,_,rfl,ol,_,rfl,.inl (A4.of hol),_,rfl,_,_,_,rfl,?_⟩
   obtain⟨sh,esh,sh1,sh2⟩:∃sh:Nat,(if(lx.length:Int)<x1 then(if(dp:Int)<(lx.length:Int) then(dp:Int) else(lx.length:Int)) else(if(dp:Int)<x1 then(dp:Int) else x1))=(sh:Int)/\sh<=lx.length/\sh<=dp:=by
    split
    .split
     .exact⟨dp,rfl,by omega,by omega⟩
     .exact⟨lx.length,rfl,by omega,by omega⟩
    .split
     .exact⟨dp,rfl,by omega,by omega⟩
     .exact⟨x1.toNat,by omega,by omega,by omega⟩
   rw[esh]
   dsimp only[Ag]
   refine⟨_,rfl,_,rfl,_,rfl,ol,_,rfl,A4.of hol,fun sl hsl=>?_⟩
   have cy:AL lx none (some (sh:Int))=lx.take sh:=Lu _ _
   rw[cy]
   have s7:=A7 hsl (.lst (lx.take sh))
   have hsl7:(upd H6 sl (.lst (lx.take sh))) sl=some (.lst (lx.take sh)):=A5
   have nsl:=ne_of_none' hsl hx6
   dsimp only[Ag]
   generalize upd H6 sl (.lst (lx.take sh))=H7 at s7 hsl7
   have hlt:sh<cc.path.length:=by have:=okc.pl;omega
   have hcv:cc.path[sh]?=some cc.path[sh]:=AH hlt
   generalize cc.path[sh]=cv at hcv
   refine⟨_,rfl,_,rfl,_,_,rfl,rfl,fo,_,_,_,rfl,rfl,A4.of (s7 _ _ hx6),aj,t,_,1,_,rfl,rfl,A9.of (s7 _ _ ht),rfl,_,rfl,_,rfl,pt,_,rfl,s7 _ _ hpt,fun p2 H8 e8 hp2=>?_⟩
   have e78:=s7.trans e8
   have cp:AL (cc.path.map V.int) none (some (sh:Int))=(cc.path.take sh).map V.int:=by rw[Lu,IW]
   rw[cp]at hp2
   refine⟨_,rfl,_,rfl,_,_,rfl,rfl,fo,_,_,_,rfl,rfl,A4.of (e78 _ _ hx6),aj,t,_,1,_,rfl,rfl,A9.of (e78 _ _ ht),rfl,_,rfl,pt,_,(sh:Int),_,rfl,rfl,A9.of (e78 _ _ hpt),Bx (by rw[C3,hcv];rfl),_,_,rfl,rfl,Af rfl,fun u hu=>?_⟩
   have s9:=A7 hu (.tup [V.int (cv+1)])
   have tl:(cc.path.take sh).length<=3:=by rw[Ar];omega
   refine⟨p2,u,_,_,rfl,rfl,s9 _ _ hp2,A5,AF (by rw[Al,Au];omega),fun p3 H10 e10 hp3=>?_⟩
   have e7A:=e8.trans (s9.trans e10)
   have e6A:=s7.trans e7A
   have tlen:(cc.L.take sh).length=sh:=by rw[Ar];omega
   refine nx _ _ ⟨sl,p3,ol,cc.L.take sh,cc.L,cc.path.take sh++[cv+1],sh,rfl,e6A,⟨_,e7A _ _ hsl7,(alx.take sh).mono fun _ _ z=>z.over e6A⟩,⟨_,e6A _ _ hol,alx.mono fun _ _ z=>z.over e6A⟩,by rw[B8];exact hp3,okc7.take sh,okc7,ccl,tlen,sh2,by rw[Ap,Au,Ar];omega,nsl,fun z=>absurd z (Nat.succ_ne_zero _),fun c hc=>?_⟩
   rw[hlast]at hc
   cases hc
   exact⟨by omega,rfl,cv,hcv,rfl⟩
 obtain⟨lo1,pt1,ol,L1,old,pa1,sh,rfl,eB,hL1,hold,hpt1,okL1,oko,old3,L1l,shd,pa1l,nlo1,sh0,last⟩:=pp
 have hfoB:=eB _ _ hx6
 have axB:=ax6.mono fun y v z=>z.over (FF (S:=[fo]) eB)
 have eHB:=eH6.trans eB
 obtain⟨ox,hox,aox⟩:=hold
 have oxl:=aox.1
 refine Bk (fun σ' H'=>∃(lo pt:Addr) (L:List Lq) (pa:List Int) (o10:Option V),σ'=[some (.ref p),some (.int fi),some (.int (n:Int)),some (.ref fo),some (.int (i:Int)),some (.int (dp:Int)),some (.int (sh:Int)),some (.ref lo),some (.ref pt),some (.ref ol),o10]/\Aa HB H'/\DW H' lo L/\H' pt=some (.tup (pa.map V.int))/\D8 L/\L.length=dp/\pa.length=dp+1/\lo≠fo/\L.take sh=L1/\pa.take (sh+1)=pa1) (fun σ' HC pp=>?_) (fun nx=>?_)
 rotate_left
 .refine Iu (dp-sh) (fun j σ' H'=>∃(lo pt:Addr) (L:List Lq) (pa:List Int) (o10:Option V),σ'=[some (.ref p),some (.int fi),some (.int (n:Int)),some (.ref fo),some (.int (i:Int)),some (.int (dp:Int)),some (.int (sh:Int)),some (.ref lo),some (.ref pt),some (.ref ol),o10]/\Aa HB H'/\DW H' lo L/\H' pt=some (.tup (pa.map V.int))/\D8 L/\L.length=sh+j/\pa.length=L.length+1/\lo≠fo/\L.take sh=L1/\pa.take (sh+1)=pa1) ⟨lo1,pt1,L1,pa1,_,rfl,Aa.refl _,hL1,hpt1,okL1,L1l,by omega,nlo1,Dj (by omega),Dj (by omega)⟩ (fun j σ' HG hj pp=>?_) (MT.test (ME.op (MR.i0 _) (ME.cb MB.len (MA.cons (ME.var _) MA.nil)) (ME.var _)))
  obtain⟨lo,pt,L,pa,o10,rfl,eG,⟨lx,hlo0,alx⟩,hpt,okL,Ll,pal,nlo,Lt,pat⟩:=pp
  have loL:=alx.1
  have hoxG:=eG _ _ hox
  have aoxG:=aox.mono fun _ _ z=>z.over eG
  refine⟨_,rfl,lo,_,rfl,.inl (A4.of hlo0),_,rfl,_,_,rfl,rfl,_,rfl,AV (fun c=>?_) (fun c=>?_)⟩
  rotate_left
  .have c:=dF c
   exact nx _ _ ⟨lo,pt,L,pa,_,rfl,eG,⟨lx,hlo0,alx⟩,hpt,okL,by omega,by omega,nlo,Lt,pat⟩
  have c:=dT c
  refine⟨by omega,?_⟩
  refine⟨_,rfl,_,rfl,_,rfl,_,_,rfl,rfl,.inl ⟨by decide,by decide⟩,_,_,rfl,rfl,_,_,rfl,rfl,_,rfl,lo,_,rfl,.inl (A4.of hlo0),_,_,rfl,rfl,p,ns,_,rfl,(eHB.trans eG).seq hp,by omega,by omega,fun m2 m20 _=>?_⟩
  dsimp only[Ag]
  refine Bk (fun σ' H'=>∃(kl:Addr) (qn:Lq),σ'=[some (.ref p),some (.int fi),some (.int (n:Int)),some (.ref fo),some (.int (i:Int)),some (.int (dp:Int)),some (.int (sh:Int)),some (.ref kl),some (.ref pt),some (.ref ol),some (.int m2)]/\Aa HG H'/\DW H' kl (L++[qn])/\qn.Ok7 L/\kl≠fo) (fun σ' HX pp=>?_) (fun nx2=>?_)
  .obtain⟨kl,qn,rfl,eX,hkl,okq,nkl⟩:=pp
   refine⟨_,rfl,Af rfl,fun u hu=>?_⟩
   have sU:=A7 hu (.tup [V.int 0])
   refine⟨pt,u,_,_,rfl,rfl,(eX.trans sU) _ _ hpt,A5,AF (by rw[Al,Au];omega),fun p3 HY eY hp3=>?_⟩
   have eXY:=sU.trans eY
   exact⟨kl,p3,L++[qn],pa++[0],_,rfl,eG.trans (eX.trans eXY),hkl.over eXY,by rw[B8];exact hp3,okL.snoc okq,by rw[Ap,Au];omega,by rw[Ap,Ap,Au,Au];omega,nkl,by rw[Gk (by omega)];exact Lt,by rw[Gk (by omega)];exact pat⟩
  refine PC (fun H''=>Aa HG H'') (fun H'' eS=>?_) (fun go=>?_)
  .refine⟨_,rfl,_,rfl,_,rfl,m2,lo,L,rfl,m20,⟨lx,eS _ _ hlo0,alx.mono fun _ _ z=>z.over eS⟩,okL.ok,by omega,fun r HX qn eX hqn okq=>⟨Af rfl,fun u hu=>?_⟩⟩
   have sU:=A7 hu (.lst [V.ref r])
   have eE:=(eS).trans (eX.trans sU)
   have huU:(upd HX u (.lst [V.ref r])) u=some (.lst [V.ref r]):=A5
   have hqU:=hqn.over sU
   generalize upd HX u (.lst [V.ref r])=HY at eE huU hqU
   refine⟨lo,u,_,_,rfl,rfl,eE _ _ hlo0,huU,AF (by rw[loL,Au];omega),fun kl hkl=>?_⟩
   have sK:=A7 hkl (.lst (lx++[V.ref r]))
   refine nx2 _ _ ⟨kl,qn,rfl,eE.trans sK,⟨_,A5,((alx.mono fun _ _ z=>z.over (eE.trans sK))).snoc (hqU.over sK)⟩,okq,ne_of_none' hkl ((eG.trans eE) _ _ hfoB)⟩
  refine⟨_,rfl,_,rfl,lo,_,rfl,.inl (A4.of hlo0),_,rfl,ol,_,rfl,A4.of hoxG,fun sl hsl=>?_⟩
  have cy:AL ox none (some (lx.length:Int))=ox.take L.length:=by rw[Lu,loL]
  rw[cy]
  have sS:=A7 hsl (.lst (ox.take L.length))
  have hslS:(upd HG sl (.lst (ox.take L.length))) sl=some (.lst (ox.take L.length)):=A5
  generalize upd HG sl (.lst (ox.take L.length))=HS at sS hslS
  have dq1:=MO (old.take L.length)
  refine⟨_,rfl,_,_,Kg hslS ((aoxG.take L.length).mono fun _ _ z=>z.over sS),Kg (sS _ _ hlo0) (alx.mono fun _ _ z=>z.over sS),⟨_,rfl⟩,⟨_,rfl⟩,by rw[Ci];exact Kh _ _,by rw[Bu];omega,_,rfl,AV (fun cT=>?_) (fun _=>?_)⟩
  rotate_left
  .exact go _ sS
  refine⟨_,rfl,ol,_,rfl,.inl (A4.of (sS _ _ hoxG)),_,rfl,lo,_,rfl,.inl (A4.of (sS _ _ hlo0)),_,_,rfl,rfl,_,rfl,AV (fun c2=>?_) (fun _=>?_)⟩
  rotate_left
  .exact go _ sS
  have c2:=dT c2
  refine⟨_,rfl,_,_,rfl,rfl,⟨by decide,by decide⟩,_,_,rfl,rfl,(by show(0:Int)<3;decide),rfl,_,rfl,AV (fun _=>?_) (fun _=>?_)⟩
  rotate_left
  .exact go _ sS
  have hoq:old[L.length]?=some old[L.length]:=AH (by omega)
  have okq:=oko _ _ hoq
  have eoL:old.take L.length=L:=Om cT
  rw[eoL]at okq
  generalize old[L.length]=qo at hoq okq
  obtain⟨xo,hxo,hqo⟩:=aoxG.get hoq
  refine⟨_,rfl,_,rfl,_,rfl,lo,_,rfl,.inl (A4.of (sS _ _ hlo0)),ol,_,_,_,rfl,rfl,A4.of (sS _ _ hoxG),(by rw[loL];exact Bx hxo),Af rfl,fun u hu=>?_⟩
  have sU:=A7 hu (.lst [xo])
  have eE:=sS.trans sU
  have huU:(upd HS u (.lst [xo])) u=some (.lst [xo]):=A5
  generalize upd HS u (.lst [xo])=HY at eE huU
  refine⟨lo,u,_,_,rfl,rfl,eE _ _ hlo0,huU,AF (by rw[loL,Au];omega),fun kl hkl=>?_⟩
  have sK:=A7 hkl (.lst (lx++[xo]))
  exact nx2 _ _ ⟨kl,qo,rfl,eE.trans sK,⟨_,A5,((alx.mono fun _ _ z=>z.over (eE.trans sK))).snoc (hqo.over (eE.trans sK))⟩,okq,ne_of_none' hkl ((eG.trans eE) _ _ hfoB)⟩
 obtain⟨lo,pt,L,pa,o10',rfl,eC,hL,hpt,okL,Ll,pal,nlo,Lt,pat⟩:=pp
 have hfoC:=eC _ _ hfoB
 refine⟨_,rfl,.inl ⟨rfl,_,A4.of hfoC⟩,_,rfl,_,rfl,_,rfl,Af rfl,fun t ht=>?_⟩
 have sT:=A7 ht (.tup [V.ref lo,V.ref pt,V.int (sh:Int)])
 have htT:(upd HC t (.tup [V.ref lo,V.ref pt,V.int (sh:Int)])) t=some (.tup [V.ref lo,V.ref pt,V.int (sh:Int)]):=A5
 have hfoT:=sT _ _ hfoC
 generalize upd HC t (.tup [V.ref lo,V.ref pt,V.int (sh:Int)])=HT at sT htT hfoT
 refine⟨fo,_,_,rfl,rfl,hfoT,E8 (by omega),?_⟩
 have eT:=eC.trans sT
 refine⟨xs++[.ref t],Ds++[⟨L,pa,sh⟩],_,_,_,_,_,_,_,rfl,fun a o ha=>by rw[Aw (BA ha hfo)];exact eT _ _ (eHB _ _ ha),A5,?_,by rw[Ap,dl];rfl,rq.snoc ⟨okL.ok,by show L.length<=3;omega,by show pa.length=L.length+1;omega,by show sh<=L.length;omega⟩ okL (fun z=>sh0 (by rw[z]at dl;exact dl.symm)) (fun c hc=>?_)⟩
 .rw[Oh (by simp)]
  exact(axB.mono fun y v z=>z.over (FF (S:=[fo]) eT)).snoc ⟨t,lo,pt,rfl,IL hfoT _ _ htT,(hL.over sT).av hfoT nlo,IL hfoT _ _ (sT _ _ hpt)⟩
 .obtain⟨l1,l2,v,l3,l4⟩:=last c hc
  obtain⟨n1,n2⟩:=UY l3 (pat.trans l4)
  exact⟨⟨l1,by rw[l2];exact Lt.symm,n1,n2⟩,SJ l3 (pat.trans l4)⟩
theorem TC (T:Tx K mg a):Bz P w K mg base BS 2 a.f_l_sweeps a.d_l_sweeps ["_law_script","_law_first","_law_depth","_law_old","_law_ways"] (S0 K):=by
 have G_l_at:=GI (P:=P) (w:=w) (base:=base) T
 have G_l_digits:=Gx (P:=P) (w:=w) (base:=base) T
 refine T.F_l_sweeps.ok DG (fun vs H Q E h=>?_) (fun cdv A outer s H vs Q E hr h=>?_)
 .obtain⟨_,_,_,_,_,_,_,rfl,_⟩:=h;rfl
 obtain⟨sc,old,wl,ns,first,n,ws0,rfl,hsc,f0,f1,n3,⟨xs0,hold,hws0⟩,cut0,hwl,q⟩:=h
 refine⟨_,(@A8 _ _ _ _ _ (@Ai _ _ (5) _ _ _ _ DG.nd rfl (Or.inl rfl) (@BU _ _ _ _ A2) (by rfl) (by first|exact .inl rfl|exact .inr rfl|assumption)) (@A8 _ _ _ _ _ (@Ai _ _ (6) _ _ _ _ DG.nd rfl (Or.inl rfl) (pv 2) (by rfl) (by first|exact .inl rfl|exact .inr rfl|assumption)) (@A8 _ _ _ _ _ (@Ai _ _ (7) _ _ _ _ DG.nd rfl (Or.inl rfl) A1 (by rfl) (by first|exact .inl rfl|exact .inr rfl|assumption)) (@A8 _ _ _ _ _ (@F3 _ _ _ _ _ _ _ _ PassesOwn.never rfl (@Eg _ _ _ _ (pv 3)) (Ao (i:=8) DG.nd rfl (Or.inl rfl)) (@A8 _ _ _ _ _ (@AY _ _ _ _ _ _ _ _ ((@Ei _ _ _ _ _ _ _ (@AA _ _ _ _ _ _ _ _ Bn (pv 6) A1 (@Am _ _ (by decide) (by decide))) (@EK _ _ _ _ (@GN _ _ _ _ (@Ep _ _ _ (@Ah _ _ _ _ _ _ _ AG (pv 8) A1 (fun _ _=>rfl)) (by intro _;rfl)))))).pt (@Aj _ _ _ Qy) Bb) (@A8 _ _ _ _ _ (@DF _ _ _ _ (@DI _ _ _ _ _ _ _ _ _ _ _ _ Dz EV EW Et (pv 5) (@A0 _ _ _ _ _ (pv 8) A2 (by rfl)) (by rfl) (by rfl) (by rfl) (by rfl) (by rfl)) (by rfl)) (@A8 _ _ _ _ _ (@Ai _ _ (6) _ _ _ _ DG.nd rfl (Or.inl rfl) (@A3 _ _ _ _ _ _ _ _ BZ (pv 6) (@Dg _ _ _ _ _ _ _ _ _ EJ (by rfl) T.z_int EC (@A0 _ _ _ _ _ (@KY _ _ _ _ (@Ah _ _ _ _ _ _ _ AG (pv 8) A1 (fun _ _=>rfl))) A2 (by rfl)) (by decide) (by decide) (by rfl) (by rfl))) (by rfl) (by first|exact .inl rfl|exact .inr rfl|assumption)) (@Aj _ _ _ (@Ai _ _ (7) _ _ _ _ DG.nd rfl (Or.inl rfl) (@A3 _ _ _ _ _ _ _ _ AB (pv 7) (@Dg _ _ _ _ _ _ _ _ _ EJ (by rfl) T.z_int EC (@A0 _ _ _ _ _ (@Ah _ _ _ _ _ _ _ AG (pv 8) A1 (fun _ _=>rfl)) A2 (by rfl)) (by decide) (by decide) (by rfl) (by rfl))) (by rfl) (by first|exact .inl rfl|exact .inr rfl|assumption)))))) (by intro _;rfl)) (@A8 _ _ _ _ _ (@Ai _ _ (9) _ _ _ _ DG.nd rfl (Or.inl rfl) (@AE _ _ _ _ _ _ _ _ _ AS (by rfl) T.z_len AR (@A0 _ _ _ _ _ (pv 5) A2 (by rfl)) (by decide) (by decide) (by rfl) (by rfl)) (by rfl) (by first|exact .inl rfl|exact .inr rfl|assumption)) (@A8 _ _ _ _ _ (@Ai _ _ (10) _ _ _ _ DG.nd rfl (Or.inl rfl) (@Cm _ _ _ _ _ _ _ _ CW (pv 6) A1 (@Am _ _ (by decide) (by decide))) (by rfl) (by first|exact .inl rfl|exact .inr rfl|assumption)) (@A8 _ _ _ _ _ (@Hu _ _ _ _ _ _ PassesOwn.never (@Ep _ _ _ (pv 10) (by intro _;rfl)) (@A8 _ _ _ _ _ (@DK _ _ _ _ _ _ (@AJ _ _ _ _ _ _ _ _ _ _ _ _ _ _ _ _ G_l_digits (hr.mono (by omega)) (by rfl) T.m_l_digits T.F_l_digits.kp T.b_l_digits .nil AD (@A0 _ _ _ _ _ (@AJ _ _ _ _ _ _ _ _ _ _ _ _ _ _ _ _ G_l_at (hr.mono (by omega)) (by rfl) T.m_l_at T.F_l_at.kp T.b_l_at .nil AD (@A0 _ _ _ _ _ (pv 0) (@A0 _ _ _ _ _ (@A3 _ _ _ _ _ _ _ _ AB (pv 1) (@AE _ _ _ _ _ _ _ _ _ AS (by rfl) T.z_len AR (@A0 _ _ _ _ _ (pv 5) A2 (by rfl)) (by decide) (by decide) (by rfl) (by rfl))) A2 (by rfl)) (by rfl)) (by decide) (by rfl) (by rfl)) (@A0 _ _ _ _ _ (@BU _ _ _ _ (@A0 _ _ _ _ _ A1 (@A0 _ _ _ _ _ A1 A2 (by rfl)) (by rfl))) A2 (by rfl)) (by rfl)) (by decide) (by rfl) (by rfl)) (FP rfl (Av (Ao (i:=11) DG.nd rfl (Or.inl rfl)) (Av (Ao (i:=12) DG.nd rfl (Or.inl rfl)) Cr))) (by rfl) (by rfl) (by rfl)) (@A8 _ _ _ _ _ (@Ai _ _ (12) _ _ _ _ DG.nd rfl (Or.inl rfl) (@GV _ _ _ _ _ _ _ (@Cm _ _ _ _ _ _ _ _ Em (pv 7) A1 (@Am _ _ (by decide) (by decide))) (@F1 _ _ _ _ _ (@Lw _ _ _ _ _ _ _ (@Cm _ _ _ _ _ _ _ _ Bn (pv 6) A1 (@Am _ _ (by decide) (by decide))) (@F1 _ _ _ _ _ (@Cm _ _ _ _ _ _ _ _ Bn (pv 12) A1 (@Am _ _ (by decide) (by decide))))))) (by rfl) (by first|exact .inl rfl|exact .inr rfl|assumption)) (@A8 _ _ _ _ _ (@DF _ _ _ _ (@DI _ _ _ _ _ _ _ _ _ _ _ _ Dz EV EW Et (pv 5) (@A0 _ _ _ _ _ (@AN _ _ _ _ _ (@A0 _ _ _ _ _ (pv 12) (@A0 _ _ _ _ _ (@Ah _ _ _ _ _ _ _ Bg (pv 4) (@A3 _ _ _ _ _ _ _ _ B7 (pv 11) (@AE _ _ _ _ _ _ _ _ _ AS (by rfl) T.z_len AR (@A0 _ _ _ _ _ (pv 4) A2 (by rfl)) (by decide) (by decide) (by rfl) (by rfl))) (fun _ _=>rfl)) A2 (by rfl)) (by rfl))) A2 (by rfl)) (by rfl) (by rfl) (by rfl) (by rfl) (by rfl)) (by rfl)) (@A8 _ _ _ _ _ (@Ai _ _ (6) _ _ _ _ DG.nd rfl (Or.inl rfl) (@A3 _ _ _ _ _ _ _ _ BZ (pv 6) (@Dg _ _ _ _ _ _ _ _ _ EJ (by rfl) T.z_int EC (@A0 _ _ _ _ _ (@KY _ _ _ _ (pv 12)) A2 (by rfl)) (by decide) (by decide) (by rfl) (by rfl))) (by rfl) (by first|exact .inl rfl|exact .inr rfl|assumption)) (@A8 _ _ _ _ _ (@Ai _ _ (7) _ _ _ _ DG.nd rfl (Or.inl rfl) (@A3 _ _ _ _ _ _ _ _ AB (pv 7) (@Dg _ _ _ _ _ _ _ _ _ EJ (by rfl) T.z_int EC (@A0 _ _ _ _ _ (pv 12) A2 (by rfl)) (by decide) (by decide) (by rfl) (by rfl))) (by rfl) (by first|exact .inl rfl|exact .inr rfl|assumption)) (@Aj _ _ _ (@Ai _ _ (10) _ _ _ _ DG.nd rfl (Or.inl rfl) (@Lw _ _ _ _ _ _ _ (@Cm _ _ _ _ _ _ _ _ CW (pv 6) A1 (@Am _ _ (by decide) (by decide))) (@F1 _ _ _ _ _ (@GV _ _ _ _ _ _ _ (@Cm _ _ _ _ _ _ _ _ Em (pv 7) A1 (@Am _ _ (by decide) (by decide))) (@F1 _ _ _ _ _ (@Cm _ _ _ _ _ _ _ _ Bn (@A3 _ _ _ _ _ _ _ _ B7 (@A3 _ _ _ _ _ _ _ _ Dp (@AJ _ _ _ _ _ _ _ _ _ _ _ _ _ _ _ _ G_l_at (hr.mono (by omega)) (by rfl) T.m_l_at T.F_l_at.kp T.b_l_at .nil AD (@A0 _ _ _ _ _ (pv 0) (@A0 _ _ _ _ _ (@A3 _ _ _ _ _ _ _ _ AB (pv 1) (@AE _ _ _ _ _ _ _ _ _ AS (by rfl) T.z_len AR (@A0 _ _ _ _ _ (pv 5) A2 (by rfl)) (by decide) (by decide) (by rfl) (by rfl))) A2 (by rfl)) (by rfl)) (by decide) (by rfl) (by rfl)) A1) A1) A1 (@Am _ _ (by decide) (by decide))))))) (by rfl) (by first|exact .inl rfl|exact .inr rfl|assumption))))))))) (@Aj _ _ _ (@AX _ _ _ _ (@AN _ _ _ _ _ (@A0 _ _ _ _ _ (pv 9) (@A0 _ _ _ _ _ (pv 5) A2 (by rfl)) (by rfl)))))))))))),?_⟩
 have xl:=hws0.1
 have hw3:(GK.length:Int)=3:=rfl
 refine⟨Af rfl,fun sw hsw=>?_⟩
 have e1:=A7 hsw (.lst [])
 have hsw1:(upd H sw (.lst [])) sw=some (.lst []):=A5
 dsimp only[Ag]
 generalize upd H sw (.lst [])=H1 at e1 hsw1
 refine⟨_,rfl,?_⟩
 dsimp only[Ag]
 refine Tn ?_
 refine Bk (fun σ' H'=>∃(i:Nat) (o8:Option V),i<=ws0.length/\σ'=[some (.ref sc),some (.int first),some (.int (n:Int)),some (.ref old),some (.ref wl),some (.ref sw),some (.int ((n:Int)-(Bj (ws0.take i):Int))),some (.int (BM (ws0.take i):Int)),o8,none,none,none,none]/\Aa H H'/\H' sw=some (.lst (xs0.take i))/\As (DV H') (xs0.take i) (ws0.take i)/\Bj (ws0.take i)<=n) (fun σ' H' pp=>?_) (fun nx=>?_)
 rotate_left
 .refine⟨_,rfl,old,rfl,⟨_,A4.of (e1 _ _ hold)⟩,?_⟩
  refine Lm (xs:=xs0) (fun i σ' H'=>∃(o8:Option V),σ'=[some (.ref sc),some (.int first),some (.int (n:Int)),some (.ref old),some (.ref wl),some (.ref sw),some (.int ((n:Int)-(Bj (ws0.take i):Int))),some (.int (BM (ws0.take i):Int)),o8,none,none,none,none]/\Aa H H'/\H' sw=some (.lst (xs0.take i))/\As (DV H') (xs0.take i) (ws0.take i)/\Bj (ws0.take i)<=n) ⟨_,by rw[show((n:Int)-(Bj (ws0.take 0):Int))=(n:Int) by show((n:Int)-((0:Nat):Int))=_;omega];rfl,e1,hsw1,.nil,BP _⟩ (fun i σ' H' _ pp=>by obtain⟨_,_,e,_⟩:=pp;exact A4.of (e _ _ hold)) (fun i x σ' H' hx pp=>?_) (fun σ' H' pp=>by
   obtain⟨o8,rfl,e,h1,h2,h3⟩:=pp
   exact nx _ _ ⟨xs0.length,o8,by omega,rfl,e,h1,h2,h3⟩)
  obtain⟨o8,rfl,e,hs,hay,hle⟩:=pp
  have hix:=(Ay.mp hx).1
  obtain⟨w0,hw0,t,rfl,ht⟩:=hws0.get' hx
  have hiw:=(Ay.mp hw0).1
  have tl:(xs0.take i).length=i:=by rw[Ar];omega
  dsimp only[Ag]
  refine Bk (fun σ2 H2=>σ2=[some (.ref sc),some (.int first),some (.int (n:Int)),some (.ref old),some (.ref wl),some (.ref sw),some (.int ((n:Int)-(Bj (ws0.take i):Int))),some (.int (BM (ws0.take i):Int)),some (.ref t),none,none,none,none]/\H2=H'/\(w0.1=false->Bj (ws0.take i)<n)) (fun σ2 H2 pp=>?_) (fun nx2=>?_)
  rotate_left
  .refine⟨_,rfl,rfl,_,rfl,?_⟩
   refine AV (fun c=>?_) (fun c=>nx2 _ _ ⟨rfl,rfl,fun _=>?_⟩)
   .refine⟨_,rfl,t,_,0,_,rfl,rfl,A9.of (e _ _ ht),rfl,_,rfl,?_⟩
    cases hb:w0.1 with
    |true=>exact BH (nx2 _ _ ⟨rfl,rfl,fun z=>by rw[hb]at z;cases z⟩)
    |false=>exact C0 (nx _ _ ⟨i,_,by omega,rfl,e,hs,hay,hle⟩)
   .have:¬((n:Int)-(Bj (ws0.take i):Int)=0):=fun z=>c (Cw (congrArg V.int z))
    omega
  obtain⟨rfl,rfl,hlt⟩:=pp
  refine⟨_,rfl,.inl ⟨rfl,_,A4.of hs⟩,_,rfl,sw,_,_,rfl,rfl,hs,E8 (by rw[tl];have:=Ls (ws0.take i);have:=Kz ws0 i;rw[Ar]at *;omega),?_⟩
  have ex:xs0.take (i+1)=xs0.take i++[V.ref t]:=CY hx
  have ew:ws0.take (i+1)=ws0.take i++[w0]:=CY hw0
  have tk:=TK.upd (o:=.lst (xs0.take i++[V.ref t])) hs
  have htu:(upd H2 sw (.lst (xs0.take i++[V.ref t]))) t=some (.tup [.bl w0.1,.str w0.2]):=tk _ _ (e _ _ ht)
  refine⟨_,rfl,_,rfl,t,_,0,_,rfl,rfl,A9.of htu,rfl,_,rfl,.inr ⟨_,rfl,_,_,rfl,rfl,?_⟩⟩
  dsimp only[Ag]
  refine⟨_,rfl,_,rfl,t,_,0,_,rfl,rfl,A9.of htu,rfl,.inr ⟨_,rfl,_,_,rfl,rfl,?_⟩⟩
  have c1:=My (ws0.take i) w0
  have c2:=Nf (ws0.take i) w0
  rw[←ew]at c1 c2
  refine⟨some (.ref t),?_,fun a o ha=>by rw[Aw (BA ha hsw)];exact e _ _ ha,by rw[ex];exact A5,?_,?_⟩
  .have i1:(n:Int)-(Bj (ws0.take i):Int)-(if(!w0.1)=true then 1 else 0)=(n:Int)-(Bj (ws0.take (i+1)):Int):=by
    rw[c2];cases w0.1<;>simp<;>omega
   have i2:(BM (ws0.take i):Int)+(if w0.1=true then 1 else 0)=(BM (ws0.take (i+1)):Int):=by
    rw[c1];cases w0.1<;>simp
   rw[←i1,←i2]
   rfl
  .rw[ex,ew]
   exact(hay.mono fun y v z=>z.tk tk).snoc ⟨t,rfl,htu⟩
  .cases hb:w0.1 with
   |true=>rw[hb]at c2;have:Bj (ws0.take (i+1))=Bj (ws0.take i):=c2;omega
   |false=>rw[hb]at c2;have:Bj (ws0.take (i+1))=Bj (ws0.take i)+1:=c2;have:=hlt hb;omega
 obtain⟨sh,o8,hsh,rfl,e,hs,hay,hle⟩:=pp
 have tl:(xs0.take sh).length=sh:=by rw[Ar];omega
 have twl:(ws0.take sh).length=sh:=by rw[Ar];omega
 have c3:=Kz ws0 sh
 refine⟨_,rfl,sw,_,rfl,.inl (A4.of hs),?_⟩
 dsimp only[Ag]
 refine⟨_,rfl,_,_,rfl,rfl,?_⟩
 dsimp only[Ag]
 rw[tl]
 refine Bk (fun σ' H'=>∃(xs:List V) (ws:List B1) (o6 o7 o8 o10 o11 o12:Option V),σ'=[some (.ref sc),some (.int first),some (.int (n:Int)),some (.ref old),some (.ref wl),some (.ref sw),o6,o7,o8,some (.int (sh:Int)),o10,o11,o12]/\Aa H H'/\H' sw=some (.lst xs)/\As (DV H') xs ws/\Bj ws=n/\BM ws<=3/\sh<=ws.length/\ws.take sh=ws0.take sh/\(n=0->ws0=[]->ws=[])) (fun σ' H2 pp=>?_) (fun nx=>?_)
 .obtain⟨xs,ws,o6,o7,o8,o10,o11,o12,rfl,e2,hs2,ay,h1,h2,h3,h4,h5⟩:=pp
  refine⟨_,rfl,_,rfl,Af rfl,fun r hr'=>?_⟩
  have s3:=A7 hr' (.tup [V.int (sh:Int),V.ref sw])
  exact q r sw _ sh ws (e2.trans s3) hsw A5 ⟨xs,s3 _ _ hs2,ay.mono fun y v z=>z.over s3⟩ hsh h3 h4 h2 h1 h5
 refine Iu 7 (fun j σ' H'=>∃(xs:List V) (ws:List B1) (mb:Bool) (o8 o11 o12:Option V),σ'=[some (.ref sc),some (.int first),some (.int (n:Int)),some (.ref old),some (.ref wl),some (.ref sw),some (.int ((n:Int)-(Bj ws:Int))),some (.int (BM ws:Int)),o8,some (.int (sh:Int)),some (.bl mb),o11,o12]/\Aa H H'/\H' sw=some (.lst xs)/\As (DV H') xs ws/\Bj ws<=n/\BM ws<=3/\sh<=ws.length/\ws.take sh=ws0.take sh/\(mb=true->Bj ws<n\/BM ws<3)/\(mb=false->Bj ws=n)/\j<=ws.length/\(n=0->ws0=[]->ws=[]/\mb=false)) ⟨_,ws0.take sh,_,_,_,_,rfl,e,hs,hay,hle,by omega,by omega,by rw[Gi,Nat.min_self],fun z=>.inl (by have:=dT z;omega),fun z=>by have:=of_decide_eq_false z;omega,BP _,fun z1 z2=>⟨by rw[z2];exact List.take_nil,Cv (by omega)⟩⟩ (fun j σ' H' hj pp=>?_) (MT.b (ME.var _))
 obtain⟨xs,ws,mb,o8,o11,o12,rfl,e,hs,hay,hwn,hc3,hsl,htk,m1,m2,hj2,hz0⟩:=pp
 refine⟨_,rfl,_,rfl,?_⟩
 have wlen:=Ls ws
 have xl:=hay.1
 cases mb with
 |false=>exact BH (nx _ _ ⟨xs,ws,_,_,_,_,_,_,rfl,e,hs,hay,m2 rfl,hc3,hsl,htk,fun z1 z2=>(hz0 z1 z2).1⟩)
 |
  true=>
  have m1:=m1 rfl
  have hz0:n=0->ws0=[]->False:=fun z1 z2=>by have:=(hz0 z1 z2).2;cases this
  refine C0 ⟨by omega,?_⟩
  refine⟨_,rfl,_,rfl,_,rfl,sw,_,rfl,.inl (A4.of hs),_,_,rfl,rfl,sc,ns,first+(xs.length:Int),rfl,e.seq hsc,by omega,by omega,fun m m0 _=>?_⟩
  refine⟨Af rfl,fun dl hdl=>?_⟩
  have s3:=A7 hdl (.lst [V.int 3,V.int 2])
  refine⟨m,dl,[3,2],rfl,A5,m0,by decide,by decide,fun r H3 ds e3 hr3 dsl db=>?_⟩
  have e23:=s3.trans e3
  have eH3:=e.trans e23
  have hs3:=e23 _ _ hs
  have ay3:=hay.mono fun y v z=>z.over e23
  obtain⟨d0,d1,rfl⟩:∃d0 d1,ds=[d0,d1]:=by
   match ds,dsl with
   |[x,y],_=>exact⟨x,y,rfl⟩
  have b0:=db 0 d0 3 rfl rfl
  refine⟨r,_,rfl,hr3,rfl,_,_,rfl,_,_,rfl,rfl,?_⟩
  dsimp only[Ag]
  refine Bk (fun σ' H'=>H'=H3/\∃kb:Bool,σ'=[some (.ref sc),some (.int first),some (.int (n:Int)),some (.ref old),some (.ref wl),some (.ref sw),some (.int ((n:Int)-(Bj ws:Int))),some (.int (BM ws:Int)),o8,some (.int (sh:Int)),some (.bl true),some (.int d0),some (.bl kb)]/\(kb=false->Bj ws<n)/\(kb=true->BM ws<3)) (fun σ' H' pp=>?_) (fun nx2=>?_)
  rotate_left
  .refine⟨_,rfl,_,_,rfl,rfl,_,rfl,?_⟩
   refine AV (fun c=>?_) (fun c=>nx2 _ _ ⟨rfl,false,rfl,fun _=>?_,fun z=>by cases z⟩)
   .have c:=dT c
    have c:BM ws<3:=by omega
    refine⟨_,rfl,rfl,_,rfl,?_⟩
    refine AV (fun c2=>nx2 _ _ ⟨rfl,true,rfl,(fun z=>by cases z),fun _=>c⟩) (fun c2=>?_)
    have c2:¬((n:Int)-(Bj ws:Int)=0):=fun z=>c2 (Cw (congrArg V.int z))
    exact⟨_,rfl,rfl,nx2 _ _ ⟨rfl,_,rfl,fun _=>by omega,fun _=>c⟩⟩
   .have c:=dF c
    omega
  obtain⟨rfl,kb,rfl,k1,k2⟩:=pp
  obtain⟨wyS,hat⟩:=O4 (i:=d0%(GK.length:Int)) (by rw[hw3];omega) (by rw[hw3];omega)
  refine⟨_,rfl,.inl ⟨rfl,_,A4.of hs3⟩,_,rfl,_,rfl,_,rfl,_,rfl,wl,_,rfl,.inl (A4.of (eH3 _ _ hwl)),_,_,rfl,rfl,(by show(0:Int)<(GK.length:Int);decide),wl,_,_,_,rfl,rfl,A4.of (eH3 _ _ hwl),hat,Af rfl,fun t ht=>?_⟩
  have s4:=A7 ht (.tup [V.bl kb,V.str wyS])
  have hs4:=s4 _ _ hs3
  have nt:t≠sw:=fun z=>by rw[z,hs3]at ht;cases ht
  refine⟨sw,_,_,rfl,rfl,hs4,E8 (by omega),?_⟩
  have tk:=TK.upd (o:=.lst (xs++[V.ref t])) hs4
  have ht5:(upd (upd H' t (.tup [V.bl kb,V.str wyS])) sw (.lst (xs++[V.ref t]))) t=some (.tup [V.bl kb,V.str wyS]):=by rw[Aw nt];exact A5
  have hs5:(upd (upd H' t (.tup [V.bl kb,V.str wyS])) sw (.lst (xs++[V.ref t]))) sw=some (.lst (xs++[V.ref t])):=A5
  have e5:Aa H (upd (upd H' t (.tup [V.bl kb,V.str wyS])) sw (.lst (xs++[V.ref t]))):=fun a o ha=>by rw[Aw (BA ha hsw)];exact s4 _ _ (eH3 _ _ ha)
  have ay5:As (DV (upd (upd H' t (.tup [V.bl kb,V.str wyS])) sw (.lst (xs++[V.ref t])))) (xs++[V.ref t]) (ws++[(kb,wyS)]):=(ay3.mono fun y v z=>(z.over s4).tk tk).snoc ⟨t,rfl,ht5⟩
  generalize upd (upd H' t (.tup [V.bl kb,V.str wyS])) sw (.lst (xs++[V.ref t]))=H5 at ht5 hs5 e5 ay5
  have c1:=My ws (kb,wyS)
  have c2:=Nf ws (kb,wyS)
  have i1:(n:Int)-(Bj ws:Int)-(if(!kb)=true then 1 else 0)=(n:Int)-(Bj (ws++[(kb,wyS)]):Int):=by
   rw[c2];cases kb<;>simp<;>omega
  have i2:(BM ws:Int)+(if kb=true then 1 else 0)=(BM (ws++[(kb,wyS)]):Int):=by
   rw[c1];cases kb<;>simp
  have hwn':Bj (ws++[(kb,wyS)])<=n:=by
   cases kb with
   |true=>have:Bj (ws++[(true,wyS)])=Bj ws:=c2;omega
   |false=>have:Bj (ws++[(false,wyS)])=Bj ws+1:=c2;have:=k1 rfl;omega
  have hcn':BM (ws++[(kb,wyS)])<=3:=by
   cases kb with
   |false=>have:BM (ws++[(false,wyS)])=BM ws:=c1;omega
   |true=>have:BM (ws++[(true,wyS)])=BM ws+1:=c1;have:=k2 rfl;omega
  refine⟨_,rfl,_,rfl,_,rfl,.inr ⟨_,rfl,_,_,rfl,rfl,?_⟩⟩
  dsimp only[Ag]
  refine⟨_,rfl,_,rfl,.inr ⟨_,rfl,_,_,rfl,rfl,?_⟩⟩
  dsimp only[Ag]
  rw[i1,i2]
  have l1:(ws++[(kb,wyS)]).length=ws.length+1:=by rw[Ap,Au]
  have tk':(ws++[(kb,wyS)]).take sh=ws0.take sh:=by rw[Gk hsl,htk]
  generalize ws++[(kb,wyS)]=ws2 at i1 i2 ay5 hwn' hcn' l1 tk' c1 c2
  refine⟨_,rfl,_,_,rfl,rfl,_,rfl,?_⟩
  refine AV (fun c=>?_) (fun c=>?_)
  .have c:=dT c
   exact⟨_,ws2,true,_,_,_,rfl,e5,hs5,ay5,hwn',hcn',by omega,tk',fun _=>.inl (by omega),(fun z=>by cases z),by omega,fun z1 z2=>(hz0 z1 z2).elim⟩
  have c:=dF c
  refine⟨_,rfl,_,_,rfl,rfl,_,rfl,?_⟩
  refine AV (fun c3=>?_) (fun c3=>⟨_,ws2,false,_,_,_,rfl,e5,hs5,ay5,hwn',hcn',by omega,tk',(fun z=>by cases z),fun _=>by omega,by omega,fun z1 z2=>(hz0 z1 z2).elim⟩)
  have c3:=dT c3
  refine⟨_,rfl,_,rfl,_,rfl,sw,_,rfl,.inl (A4.of hs5),_,_,rfl,rfl,sc,ns,first+((xs++[V.ref t]).length:Int),rfl,e5.seq hsc,by omega,by rw[Ap,Au];omega,fun m' _ _=>?_⟩
  exact⟨_,_,rfl,rfl,⟨by decide,by decide⟩,_,_,rfl,rfl,(by show(0:Int)<5;decide),rfl,_,ws2,_,_,_,_,rfl,e5,hs5,ay5,hwn',hcn',by omega,tk',fun _=>.inr (by omega),fun _=>by omega,by omega,fun z1 z2=>(hz0 z1 z2).elim⟩
theorem TX (T:Tx K mg a):Bz P w K mg base BS 2 a.f_l_places a.d_l_places ["_law_script","_law_first","_law_sweeps_here","_law_loops","_law_far"] (Uq K):=by
 have G_l_at:=GI (P:=P) (w:=w) (base:=base) T
 have G_l_digits:=Gx (P:=P) (w:=w) (base:=base) T
 refine T.F_l_places.ok DQ (fun vs H Q E h=>?_) (fun cdv A outer s H vs Q E hr h=>?_)
 .obtain⟨_,_,_,_,_,_,_,_,rfl,_⟩:=h;rfl
 obtain⟨sc,sw,lo,ns,L,first,ws,M,rfl,hsc,f0,f1,⟨xs,hsw,hws⟩,wl,hlo,L3,who,hne,hLM,q⟩:=h
 refine⟨_,(@A8 _ _ _ _ _ (@Ai _ _ (5) _ _ _ _ DQ.nd rfl (Or.inl rfl) (@BU _ _ _ _ A2) (by rfl) (by first|exact .inl rfl|exact .inr rfl|assumption)) (@A8 _ _ _ _ _ (@Ai _ _ (6) _ _ _ _ DQ.nd rfl (Or.inl rfl) (@Dg _ _ _ _ _ _ _ _ _ MD (by rfl) T.z_list Lk (@A0 _ _ _ _ _ (pv 3) A2 (by rfl)) (by decide) (by decide) (by rfl) (by rfl)) (by rfl) (by first|exact .inl rfl|exact .inr rfl|assumption)) (@A8 _ _ _ _ _ (@F3 _ _ _ _ _ _ _ _ PassesOwn.never rfl (@Kt _ _ _ _ _ _ _ _ (by rfl) T.z_enumerate (@A0 _ _ _ _ _ (pv 2) A2 (by rfl)) (by rfl)) (Du rfl (Av (Ao (i:=7) DQ.nd rfl (Or.inl rfl)) (Av (Ao (i:=8) DQ.nd rfl (Or.inl rfl)) Cr))) (@A8 _ _ _ _ _ (@Ai _ _ (9) _ _ _ _ DQ.nd rfl (Or.inl rfl) (@AJ _ _ _ _ _ _ _ _ _ _ _ _ _ _ _ _ G_l_at (hr.mono (by omega)) (by rfl) T.m_l_at T.F_l_at.kp T.b_l_at .nil AD (@A0 _ _ _ _ _ (pv 0) (@A0 _ _ _ _ _ (@A3 _ _ _ _ _ _ _ _ AB (pv 1) (pv 7)) A2 (by rfl)) (by rfl)) (by decide) (by rfl) (by rfl)) (by rfl) (by first|exact .inl rfl|exact .inr rfl|assumption)) (@A8 _ _ _ _ _ (@DK _ _ _ _ _ _ (@AJ _ _ _ _ _ _ _ _ _ _ _ _ _ _ _ _ G_l_digits (hr.mono (by omega)) (by rfl) T.m_l_digits T.F_l_digits.kp T.b_l_digits .nil AD (@A0 _ _ _ _ _ (@A3 _ _ _ _ _ _ _ _ Dp (pv 9) A1) (@A0 _ _ _ _ _ (@Eo _ _ _ _ (@Ae _ _ _ _ _ A1 (@Ae _ _ _ _ _ A1 (@Ae _ _ _ _ _ A1 BF B3) B3) B3)) A2 (by rfl)) (by rfl)) (by decide) (by rfl) (by rfl)) (FP rfl (Av (Ao (i:=10) DQ.nd rfl (Or.inl rfl)) (Av (Ao (i:=11) DQ.nd rfl (Or.inl rfl)) (Av (Ao (i:=12) DQ.nd rfl (Or.inl rfl)) Cr)))) (by rfl) (by rfl) (by rfl)) (@A8 _ _ _ _ _ (@Ai _ _ (13) _ _ _ _ DQ.nd rfl (Or.inl rfl) (@A3 _ _ _ _ _ _ _ _ BZ (pv 11) A1) (by rfl) (by first|exact .inl rfl|exact .inr rfl|assumption)) (@A8 _ _ _ _ _ (@AY _ _ _ _ _ _ _ _ ((@Ei _ _ _ _ _ _ _ (@Ep _ _ _ (pv 4) (by intro _;rfl)) (@EK _ _ _ _ (@AA _ _ _ _ _ _ _ _ Bn (pv 12) A1 (@Am _ _ (by decide) (by decide)))))).pt (@Aj _ _ _ (@Ai _ _ (13) _ _ _ _ DQ.nd rfl (Or.inl rfl) (@A3 _ _ _ _ _ _ _ _ BZ (@A3 _ _ _ _ _ _ _ _ B7 (@A3 _ _ _ _ _ _ _ _ Cn (pv 9) A1) (@A3 _ _ _ _ _ _ _ _ AB (@A3 _ _ _ _ _ _ _ _ Cn A1 (@A3 _ _ _ _ _ _ _ _ FT A1 A1)) A1)) (@A3 _ _ _ _ _ _ _ _ FT A1 A1)) (by rfl) (by first|exact .inl rfl|exact .inr rfl|assumption))) Bb) (@A8 _ _ _ _ _ (@AY _ _ _ _ _ _ _ _ ((@Ei _ _ _ _ _ _ _ (@Ep _ _ _ (pv 4) (by intro _;rfl)) (@EK _ _ _ _ (@AA _ _ _ _ _ _ _ _ Bn (pv 12) A1 (@Am _ _ (by decide) (by decide)))))).pt (@Aj _ _ _ (@Ai _ _ (13) _ _ _ _ DQ.nd rfl (Or.inl rfl) (@A3 _ _ _ _ _ _ _ _ Cn (@A3 _ _ _ _ _ _ _ _ FT A1 A1) (@A3 _ _ _ _ _ _ _ _ BZ A1 (@A3 _ _ _ _ _ _ _ _ Cn (@A3 _ _ _ _ _ _ _ _ B7 (pv 11) A1) A1))) (by rfl) (by first|exact .inl rfl|exact .inr rfl|assumption))) Bb) (@A8 _ _ _ _ _ (@Ai _ _ (14) _ _ _ _ DQ.nd rfl (Or.inl rfl) (@Ah _ _ _ _ _ _ _ Bg (pv 3) (@A3 _ _ _ _ _ _ _ _ B7 (pv 10) (@AE _ _ _ _ _ _ _ _ _ AS (by rfl) T.z_len AR (@A0 _ _ _ _ _ (pv 3) A2 (by rfl)) (by decide) (by decide) (by rfl) (by rfl))) (fun _ _=>rfl)) (by rfl) (by first|exact .inl rfl|exact .inr rfl|assumption)) (@A8 _ _ _ _ _ (@AY _ _ _ _ _ _ _ _ (@GN _ _ _ _ (@Ep _ _ _ (@Ah _ _ _ _ _ _ _ AG (pv 8) A1 (fun _ _=>rfl)) (by intro _;rfl))) (@Aj _ _ _ (@Ai _ _ (14) _ _ _ _ DQ.nd rfl (Or.inl rfl) (@DI _ _ _ _ _ _ _ _ _ _ _ _ Dz PySem.F.slot_list_pop PySem.F.type_list_pop Mu (pv 6) (@A0 _ _ _ _ _ A1 A2 (by rfl)) (by rfl) (by rfl) (by rfl) (by rfl) (by rfl)) (by rfl) (by first|exact .inl rfl|exact .inr rfl|assumption))) Bb) (@Aj _ _ _ (@DF _ _ _ _ (@DI _ _ _ _ _ _ _ _ _ _ _ _ Dz EV EW Et (pv 5) (@A0 _ _ _ _ _ (@AN _ _ _ _ _ (@A0 _ _ _ _ _ (pv 14) (@A0 _ _ _ _ _ (pv 13) A2 (by rfl)) (by rfl))) A2 (by rfl)) (by rfl) (by rfl) (by rfl) (by rfl) (by rfl)) (by rfl)))))))))) (by intro _;rfl)) (@Aj _ _ _ (@AX _ _ _ _ (@Dg _ _ _ _ _ _ _ _ _ HP (by rfl) T.z_tuple IM (@A0 _ _ _ _ _ (pv 5) A2 (by rfl)) (by decide) (by decide) (by rfl) (by rfl))))))),?_⟩
 have xl:=hws.1
 refine⟨Af rfl,fun pl hpl=>?_⟩
 have e1:=A7 hpl (.lst [])
 have hpl1:(upd H pl (.lst [])) pl=some (.lst []):=A5
 dsimp only[Ag]
 generalize upd H pl (.lst [])=H1 at e1 hpl1
 refine⟨_,rfl,lo,_,rfl,.inl (A4.of (e1 _ _ hlo)),fun le hle=>?_⟩
 have s2:=A7 hle (.lst (L.map V.int))
 have hle2:(upd H1 le (.lst (L.map V.int))) le=some (.lst (L.map V.int)):=A5
 have hpl2:=s2 _ _ hpl1
 have e2:=e1.trans s2
 have nlp:le≠pl:=fun z=>by rw[z,hpl1]at hle;cases hle
 have hle0:=e1.free hle
 dsimp only[Ag]
 generalize upd H1 le (.lst (L.map V.int))=H2 at e2 hpl2 hle2
 refine⟨_,rfl,sw,rfl,⟨_,A4.of (e2 _ _ hsw)⟩,?_⟩
 refine LI (xs:=xs) (fun i σ' H'=>∃(L':List Int) (ys:List V) (ps:List (Int×Int)) (o7 o8 o9 o10 o11 o12 o13 o14:Option V),σ'=[some (.ref sc),some (.int first),some (.ref sw),some (.ref lo),some (.bl true),some (.ref pl),some (.ref le),o7,o8,o9,o10,o11,o12,o13,o14]/\Aa H H'/\H' pl=some (.lst ys)/\H' le=some (.lst (L'.map V.int))/\As (Er H') ys ps/\ps.length=i/\Bj (ws.drop i)<=L'.length/\(∀p∈ps,G9 M p)/\BD ps ((ws.take i).map (·.1))++L'=L) ⟨L,[],[],_,_,_,_,_,_,_,_,rfl,e2,hpl2,hle2,.nil,rfl,by rw[FK];exact Ga who,(fun p hp=>by cases hp),rfl⟩ (fun i σ' H' _ pp=>by obtain⟨_,_,_,_,_,_,_,_,_,_,_,_,e,_⟩:=pp;exact A4.of (e _ _ hsw)) (fun i x Tt σ' H' hx pp hT=>?_) (fun σ' H' pp=>?_)
 rotate_left
 .obtain⟨L',ys,ps,o7,o8,o9,o10,o11,o12,o13,o14,rfl,e,hy,hl,ay,pl',_,hPr,hws'⟩:=pp
  have sz:=ay.1
  have hxl:=hws.1
  rw[Dj (by omega)]at hws'
  have cw:=Ov ps ws (by omega)
  have hL0:L'=[]:=by
   have:=congrArg List.length hws'
   rw[Ap,cw,who]at this
   exact LZ (by omega)
  rw[hL0,EA]at hws'
  refine⟨_,rfl,pl,_,rfl,.inl ⟨A4.of hy,fun r hr'=>?_⟩⟩
  have s3:=A7 hr' (.tup ys)
  exact q r _ ps (e.trans s3) (e.free hr') ⟨ys,A5,ay.mono fun y v z=>z.over s3⟩ (by omega) hPr hws'
 obtain⟨L',ys,ps,o7,o8,o9,o10,o11,o12,o13,o14,rfl,e,hy,hl,ay,pl',hwho,hPr,hws'⟩:=pp
 obtain⟨wy,hwy,t,rfl,ht⟩:=hws.get' hx
 have hi:=(Ay.mp hwy).1
 have hLne:L≠[]:=hne fun z=>by rw[z]at hi;cases hi
 have Lpos:0<L.length:=List.length_pos_iff.mpr hLne
 have yl:=ay.1
 have sT:=A7 hT (.tup [V.int (i:Int),V.ref t])
 have e2:=e.trans sT
 have hy2:=sT _ _ hy
 have hl2:=sT _ _ hl
 have ay2:=ay.mono fun y v z=>z.over sT
 refine⟨Tt,_,rfl,A9.of A5,rfl,_,_,rfl,_,_,rfl,rfl,?_⟩
 generalize upd H' Tt (.tup [V.int (i:Int),V.ref t])=H2 at e2 hy2 ay2 hl2
 dsimp only[Ag]
 refine⟨_,rfl,_,rfl,_,rfl,_,_,rfl,rfl,sc,ns,first+(i:Int),rfl,e2.seq hsc,by omega,by omega,fun m m0 m1=>?_⟩
 dsimp only[Ag]
 refine⟨_,rfl,_,_,rfl,rfl,⟨by decide,by decide⟩,Af rfl,fun dl hdl=>?_⟩
 have s3:=A7 hdl (.lst [V.int 3,V.int 5,V.int 6])
 refine⟨m/30,dl,[3,5,6],rfl,A5,Int.ediv_nonneg m0 (by decide),by decide,by decide,fun r H3 ds e3 hr3 dsl db=>?_⟩
 have e23:=s3.trans e3
 have eH3:=e2.trans e23
 have hy3:=e23 _ _ hy2
 have hl3:=e23 _ _ hl2
 have ay3:=ay2.mono fun y v z=>z.over e23
 obtain⟨d0,d1,d2,rfl⟩:∃d0 d1 d2,ds=[d0,d1,d2]:=by
  match ds,dsl with
  |[x,y,z],_=>exact⟨x,y,z,rfl⟩
 have b0:=db 0 d0 3 rfl rfl
 have b1:=db 1 d1 5 rfl rfl
 refine⟨r,_,rfl,hr3,rfl,_,_,rfl,_,_,rfl,_,_,rfl,rfl,?_⟩
 dsimp only[Ag]
 refine⟨_,rfl,_,_,rfl,rfl,?_⟩
 dsimp only[Ag]
 have p64:(2:Int) ^ 64=18446744073709551616:=by decide
 have p18:(10:Int) ^ (18:Int).toNat=1000000000000000000:=by decide
 refine Bk (fun σ' H'=>H'=H3/\∃sh:Int,σ'=[some (.ref sc),some (.int first),some (.ref sw),some (.ref lo),some (.bl true),some (.ref pl),some (.ref le),some (.int (i:Int)),some (.ref t),some (.int m),some (.int d0),some (.int d1),some (.int d2),some (.int sh),o14]/\-1000000000000000000<=sh/\sh<=1000000000000000000) (fun σ' H' pp=>?_) (fun nx=>?_)
 rotate_left
 .refine⟨_,rfl,_,rfl,C0 ⟨_,rfl,rfl,_,rfl,?_⟩⟩
  refine AV (fun c=>?_) (fun c=>nx _ _ ⟨rfl,_,rfl,by omega,by omega⟩)
  have g1:=BV (m*2000000011) (show(2*10 ^ Int.toNat 18+1:Int)≠0 by decide)
  have g2:=BW (m*2000000011) (show(0:Int)<2*10 ^ Int.toNat 18+1 by decide)
  exact⟨_,rfl,_,_,rfl,rfl,.inr ⟨by decide,by decide⟩,_,_,rfl,rfl,⟨by decide,by decide,by decide⟩,_,_,rfl,rfl,.inl ⟨by decide,by decide⟩,_,_,rfl,rfl,_,_,rfl,rfl,(by show(0:Int)<2*10 ^ Int.toNat 18+1;decide),_,_,rfl,rfl,⟨by decide,by decide,by decide⟩,_,_,rfl,rfl,nx _ _ ⟨rfl,m*2000000011%(2*10 ^ Int.toNat 18+1)-10 ^ Int.toNat 18,rfl,by omega,by omega⟩⟩
 obtain⟨rfl,sh0,rfl,sh1,sh2⟩:=pp
 refine Bk (fun σ' H4=>H4=H'/\∃sh:Int,σ'=[some (.ref sc),some (.int first),some (.ref sw),some (.ref lo),some (.bl true),some (.ref pl),some (.ref le),some (.int (i:Int)),some (.ref t),some (.int m),some (.int d0),some (.int d1),some (.int d2),some (.int sh),o14]/\-1000000000000000000<=sh/\sh<=1000000000000000000) (fun σ' H4 pp=>?_) (fun nx=>?_)
 rotate_left
 .refine⟨_,rfl,_,rfl,C0 ⟨_,rfl,rfl,_,rfl,?_⟩⟩
  refine AV (fun c=>?_) (fun c=>nx _ _ ⟨rfl,sh0,rfl,sh1,sh2⟩)
  have k1:=BV d1 (show(2:Int)≠0 by decide)
  have k2:=BW d1 (show(0:Int)<2 by decide)
  exact⟨_,_,rfl,rfl,⟨by decide,by decide,by decide⟩,_,rfl,_,_,rfl,rfl,(by show(0:Int)<2;decide),_,_,rfl,rfl,.inr ⟨by decide,by decide⟩,_,_,rfl,rfl,_,_,rfl,rfl,.inl ⟨by decide,by decide⟩,nx _ _ ⟨rfl,10 ^ Int.toNat 18*(1-d1%2*2),rfl,by rw[p18];omega,by rw[p18];omega⟩⟩
 obtain⟨rfl,sh,rfl,sh3,sh4⟩:=pp
 have hml:((L.map V.int).length:Int)=(L.length:Int):=by rw[Al]
 obtain⟨z,hzL,hz⟩:=Lz (L:=L) (i:=d0%((L.map V.int).length:Int)) (BV _ (by omega)) (by rw[←hml];exact BW _ (by omega))
 refine⟨_,rfl,_,rfl,_,rfl,lo,_,rfl,.inl (A4.of (eH3 _ _ hlo)),_,_,rfl,rfl,(by show(0:Int)<((L.map V.int).length:Int);omega),lo,_,_,_,rfl,rfl,A4.of (eH3 _ _ hlo),hz,?_⟩
 dsimp only[Ag]
 have hdr:ws.drop i=wy::ws.drop (i+1):=by rw[Gh hi,(Ay.mp hwy).2]
 have hcnt:Bj (ws.drop i)=Bj (ws.drop (i+1))+(if(!wy.1)=true then 1 else 0):=by
  show List.countP _ (ws.drop i)=_
  rw[hdr,K5]
 refine Bk (fun σ' H5=>∃(num:Int) (L'':List Int),σ'=[some (.ref sc),some (.int first),some (.ref sw),some (.ref lo),some (.bl true),some (.ref pl),some (.ref le),some (.int (i:Int)),some (.ref t),some (.int m),some (.int d0),some (.int d1),some (.int d2),some (.int sh),some (.int num)]/\Aa H H5/\H5 pl=some (.lst ys)/\H5 le=some (.lst (L''.map V.int))/\As (Er H5) ys ps/\Bj (ws.drop (i+1))<=L''.length/\(0<=num/\num<(M:Int))/\L'=(if wy.1 then[] else[num])++L'') (fun σ' H5 pp=>?_) (fun nx=>?_)
 rotate_left
 .refine⟨_,rfl,t,_,0,_,rfl,rfl,A9.of (eH3 _ _ ht),rfl,_,rfl,?_⟩
  cases hb:wy.1 with
  |true=>exact BH (nx _ _ ⟨z,L',rfl,eH3,hy3,hl3,ay3,by omega,hLM z hzL,by rw[hb];rfl⟩)
  |
   false=>
   rw[hb]at hcnt
   have hcnt:Bj (ws.drop i)=Bj (ws.drop (i+1))+1:=hcnt
   cases L' with
   |nil=>rw[List.length_nil]at hwho;omega
   |
    cons z0 L0=>
    rw[B5]at hwho
    refine C0 ⟨_,rfl,.inl ⟨rfl,_,A4.of hl3⟩,le,_,0,0,.int z0,rfl,rfl,hl3,by decide,by decide,OH (j:=0) (K7 _),rfl,?_⟩
    have tk:=TK.upd (o:=.lst (((z0::L0).map V.int).eraseIdx 0)) hl3
    refine nx _ _ ⟨z0,L0,rfl,fun a o ha=>by rw[Aw (BA ha hle0)];exact eH3 _ _ ha,by rw[Aw nlp.symm];exact hy3,A5,ay3.mono fun y v z=>z.tk tk,by omega,hLM z0 (by rw[←hws'];exact CM _ Cb),by rw[hb];rfl⟩
 obtain⟨num,L'',rfl,e5,hy5,hl5,ay5,hw5,hnum,hL5⟩:=pp
 refine⟨_,rfl,.inl ⟨rfl,_,A4.of hy5⟩,_,rfl,_,rfl,Af rfl,fun r hr'=>?_⟩
 have s6:=A7 hr' (.tup [V.int num,V.int sh])
 have hy6:=s6 _ _ hy5
 have nr:r≠pl:=fun z=>by rw[z,hy5]at hr';cases hr'
 refine⟨pl,_,_,rfl,rfl,hy6,E8 (by omega),?_⟩
 have tk:=TK.upd (o:=.lst (ys++[V.ref r])) hy6
 refine⟨L'',_,ps++[(num,sh)],_,_,_,_,_,_,_,_,rfl,fun a o ha=>by rw[Aw (BA ha hpl)];exact s6 _ _ (e5 _ _ ha),A5,by rw[Aw nlp];exact s6 _ _ hl5,(ay5.mono fun y v z=>(z.over s6).tk tk).snoc ⟨r,rfl,by rw[Aw nr];exact A5⟩,by rw[Ap,pl'];rfl,hw5,fun p hp=>?_,?_⟩
 .rcases CA.mp hp with z|z
  .exact hPr p z
  .rw[CO.mp z]
   exact⟨hnum.1,hnum.2,sh3,sh4⟩
 .rw[CY hwy,B8,C1,Gd,IK _ _ _ _ (by rw[Al,Ar];omega),CV,←hL5]
  exact hws'
theorem U8 (T:Tx K mg a):Bz P w K mg base BS 3 a.f_l_leaves a.d_l_leaves ["_law_script","_law_first","_law_depths","_law_ways","_law_far"] (Si K):=by
 have G_l_at:=GI (P:=P) (w:=w) (base:=base) T
 have G_l_digits:=Gx (P:=P) (w:=w) (base:=base) T
 have G_l_sweeps:=TC (P:=P) (w:=w) (base:=base) T
 have G_l_places:=TX (P:=P) (w:=w) (base:=base) T
 refine T.F_l_leaves.ok Df (fun vs H Q E h=>?_) (fun cdv A outer s H vs Q E hr h=>?_)
 .obtain⟨_,_,_,_,_,_,rfl,_⟩:=h;rfl
 obtain⟨sc,dl,wl,ns,D,first,rfl,hsc,f0,f1,hdl,hwl,hD,Dpos,D6,q⟩:=h
 refine⟨_,(@A8 _ _ _ _ _ (@DK _ _ _ _ _ _ (@AJ _ _ _ _ _ _ _ _ _ _ _ _ _ _ _ _ G_l_digits (hr.mono (by omega)) (by rfl) T.m_l_digits T.F_l_digits.kp T.b_l_digits .nil AD (@A0 _ _ _ _ _ (@AJ _ _ _ _ _ _ _ _ _ _ _ _ _ _ _ _ G_l_at (hr.mono (by omega)) (by rfl) T.m_l_at T.F_l_at.kp T.b_l_at .nil AD (@A0 _ _ _ _ _ (pv 0) (@A0 _ _ _ _ _ (pv 1) A2 (by rfl)) (by rfl)) (by decide) (by rfl) (by rfl)) (@A0 _ _ _ _ _ (@Eo _ _ _ _ (@Ae _ _ _ _ _ A1 (@Ae _ _ _ _ _ A1 (@Ae _ _ _ _ _ A1 BF B3) B3) B3)) A2 (by rfl)) (by rfl)) (by decide) (by rfl) (by rfl)) (FP rfl (Av (Ao (i:=5) Df.nd rfl (Or.inr rfl)) (Av (Ao (i:=6) Df.nd rfl (Or.inl rfl)) (Av (Ao (i:=7) Df.nd rfl (Or.inl rfl)) Cr)))) (by rfl) (by rfl) (by rfl)) (@A8 _ _ _ _ _ (@GM _ _ _ _ _ _ _ _ _ (8) _ ["_law_n","_law_depths","_law_start"] [none,some 2,some 5] _ _ _ _ Df.nd rfl (Or.inl rfl) (by rfl) (@Jx _ _ _ _ _ _ (by rfl) T.z_range (@A0 _ _ _ _ _ (@AE _ _ _ _ _ _ _ _ _ AS (by rfl) T.z_len AR (@A0 _ _ _ _ _ (pv 2) A2 (by rfl)) (by decide) (by decide) (by rfl) (by rfl)) A2 (by rfl)) (by rfl)) Uw (fun _ _ _ _ _ _=>⟨(Ao (i:=0) Ux rfl (Or.inl rfl)),@EG _,(@A3 _ _ _ _ _ _ _ _ B7 (@A3 _ _ _ _ _ _ _ _ AB (pv 0) (pv 2)) (@AE _ _ _ _ _ _ _ _ _ (show Dh _ _ (Le K) from AS) (by rfl) T.z_len AR (@A0 _ _ _ _ _ (pv 1) A2 (by rfl)) (by decide) (by decide) (by rfl) (by rfl)))⟩) (by rfl) (by intro _;rfl) (by first|exact .inl rfl|exact .inr rfl|assumption)) (@A8 _ _ _ _ _ (@AY _ _ _ _ _ _ _ _ (@AA _ _ _ _ _ _ _ _ Bn (pv 6) A1 (@Am _ _ (by decide) (by decide))) (@Aj _ _ _ (@DF _ _ _ _ (@NF _ _ _ _ _ _ _ _ _ Dz PySem.F.slot_list_reverse PySem.F.type_list_reverse Mz (pv 8) (by rfl) (by rfl)) (by rfl))) Bb) (@A8 _ _ _ _ _ (@DF _ _ _ _ (@DI _ _ _ _ _ _ _ _ _ _ _ _ Dz PySem.F.slot_list_insert PySem.F.type_list_insert UA (pv 8) (@A0 _ _ _ _ _ A1 (@A0 _ _ _ _ _ (@DI _ _ _ _ _ _ _ _ _ _ _ _ Dz PySem.F.slot_list_pop PySem.F.type_list_pop Mu (pv 8) (@A0 _ _ _ _ _ (@A3 _ _ _ _ _ _ _ _ B7 (pv 7) (@AE _ _ _ _ _ _ _ _ _ AS (by rfl) T.z_len AR (@A0 _ _ _ _ _ (pv 8) A2 (by rfl)) (by decide) (by decide) (by rfl) (by rfl))) A2 (by rfl)) (by rfl) (by rfl) (by rfl) (by rfl) (by rfl)) A2 (by rfl)) (by rfl)) (by rfl) (by rfl) (by rfl) (by rfl) (by rfl)) (by rfl)) (@A8 _ _ _ _ _ (@Ai _ _ (9) _ _ _ _ Df.nd rfl (Or.inl rfl) (@BU _ _ _ _ A2) (by rfl) (by first|exact .inl rfl|exact .inr rfl|assumption)) (@A8 _ _ _ _ _ (@F3 _ _ _ _ _ _ _ _ PassesOwn.never rfl (@Kt _ _ _ _ _ _ _ _ (by rfl) T.z_enumerate (@A0 _ _ _ _ _ (pv 8) A2 (by rfl)) (by rfl)) (Du rfl (Av (Ao (i:=10) Df.nd rfl (Or.inl rfl)) (Av (Ao (i:=11) Df.nd rfl (Or.inr rfl)) Cr))) (@A8 _ _ _ _ _ (@Ai _ _ (12) _ _ _ _ Df.nd rfl (Or.inl rfl) (@A3 _ _ _ _ _ _ _ _ AB (@A3 _ _ _ _ _ _ _ _ AB (pv 1) A1) (@A3 _ _ _ _ _ _ _ _ Cn A1 (pv 10))) (by rfl) (by first|exact .inl rfl|exact .inr rfl|assumption)) (@A8 _ _ _ _ _ (@DK _ _ _ _ _ _ (@AJ _ _ _ _ _ _ _ _ _ _ _ _ _ _ _ _ G_l_digits (hr.mono (by omega)) (by rfl) T.m_l_digits T.F_l_digits.kp T.b_l_digits .nil AD (@A0 _ _ _ _ _ (@AJ _ _ _ _ _ _ _ _ _ _ _ _ _ _ _ _ G_l_at (hr.mono (by omega)) (by rfl) T.m_l_at T.F_l_at.kp T.b_l_at .nil AD (@A0 _ _ _ _ _ (pv 0) (@A0 _ _ _ _ _ (@A3 _ _ _ _ _ _ _ _ BZ (pv 12) A1) A2 (by rfl)) (by rfl)) (by decide) (by rfl) (by rfl)) (@A0 _ _ _ _ _ (@Eo _ _ _ _ (@Ae _ _ _ _ _ A1 (@Ae _ _ _ _ _ A1 (@Ae _ _ _ _ _ A1 BF B3) B3) B3)) A2 (by rfl)) (by rfl)) (by decide) (by rfl) (by rfl)) (FP rfl (Av (Ao (i:=13) Df.nd rfl (Or.inl rfl)) (Av (Ao (i:=14) Df.nd rfl (Or.inr rfl)) (Av (Ao (i:=15) Df.nd rfl (Or.inl rfl)) Cr)))) (by rfl) (by rfl) (by rfl)) (@A8 _ _ _ _ _ (@GM _ _ _ _ _ _ _ _ _ (16) _ ["_law_e","_law_depths","_law_k","_law_turn"] [none,some 2,some 11,some 14] _ _ _ _ Df.nd rfl (Or.inl rfl) (by rfl) (@Jx _ _ _ _ _ _ (by rfl) T.z_range (@A0 _ _ _ _ _ (@Ah _ _ _ _ _ _ _ Bg (pv 2) (pv 11) (fun _ _=>rfl)) A2 (by rfl)) (by rfl)) Ss (fun _ _ _ _ _ _=>⟨(Ao (i:=0) Q9 rfl (Or.inl rfl)),@EG _,(@A3 _ _ _ _ _ _ _ _ B7 (@A3 _ _ _ _ _ _ _ _ AB (pv 0) (pv 3)) (@Ah _ _ _ _ _ _ _ (show CS _ (Iv K) from Bg) (pv 1) (pv 2) (fun _ _=>rfl)))⟩) (by rfl) (by intro _;rfl) (by first|exact .inl rfl|exact .inr rfl|assumption)) (@A8 _ _ _ _ _ (@AY _ _ _ _ _ _ _ _ (@AA _ _ _ _ _ _ _ _ Bn (pv 15) A1 (@Am _ _ (by decide) (by decide))) (@Aj _ _ _ (@DF _ _ _ _ (@NF _ _ _ _ _ _ _ _ _ Dz PySem.F.slot_list_reverse PySem.F.type_list_reverse Mz (pv 16) (by rfl) (by rfl)) (by rfl))) Bb) (@A8 _ _ _ _ _ (@Ai _ _ (17) _ _ _ _ Df.nd rfl (Or.inl rfl) (@BU _ _ _ _ A2) (by rfl) (by first|exact .inl rfl|exact .inr rfl|assumption)) (@A8 _ _ _ _ _ (@AY _ _ _ _ _ _ _ _ ((@Ei _ _ _ _ _ _ _ (@AA _ _ _ _ _ _ _ _ CW (pv 10) A1 (@Am _ _ (by decide) (by decide))) (@EK _ _ _ _ (@AA _ _ _ _ _ _ _ _ (@KQ _ (@F5 _ _ hr)) (pv 16) (@BU _ _ _ _ A2) (@Am _ _ (by decide) (by decide)))))).pt (@Aj _ _ _ (@Ai _ _ (17) _ _ _ _ Df.nd rfl (Or.inl rfl) (@Bt _ _ _ _ _ _ _ _ _ _ CT (@Ah _ _ _ _ _ _ _ AG (@Ah _ _ _ _ _ _ _ Bg (pv 9) (@A3 _ _ _ _ _ _ _ _ BZ (pv 10) A1) (fun _ _=>rfl)) A1 (fun _ _=>rfl)) Bv (@Bq _ _ _ (pv 13))) (by rfl) (by first|exact .inl rfl|exact .inr rfl|assumption))) Bb) (@A8 _ _ _ _ _ (@DK _ _ _ _ _ _ (@AJ _ _ _ _ _ _ _ _ _ _ _ _ _ _ _ _ G_l_sweeps (hr.mono (by omega)) (by rfl) T.m_l_sweeps T.F_l_sweeps.kp T.b_l_sweeps .nil AD (@A0 _ _ _ _ _ (pv 0) (@A0 _ _ _ _ _ (pv 12) (@A0 _ _ _ _ _ (@AE _ _ _ _ _ _ _ _ _ AS (by rfl) T.z_len AR (@A0 _ _ _ _ _ (pv 16) A2 (by rfl)) (by decide) (by decide) (by rfl) (by rfl)) (@A0 _ _ _ _ _ (pv 17) (@A0 _ _ _ _ _ (pv 3) A2 (by rfl)) (by rfl)) (by rfl)) (by rfl)) (by rfl)) (by decide) (by rfl) (by rfl)) (Du rfl (Av (Ao (i:=18) Df.nd rfl (Or.inl rfl)) (Av (Ao (i:=19) Df.nd rfl (Or.inl rfl)) Cr))) (by rfl) (by rfl) (by rfl)) (@Aj _ _ _ (@DF _ _ _ _ (@DI _ _ _ _ _ _ _ _ _ _ _ _ Dz EV EW Et (pv 9) (@A0 _ _ _ _ _ (@Cq _ _ _ _ _ (@Ae _ _ _ _ _ (pv 11) (@Ae _ _ _ _ _ (pv 18) (@Ae _ _ _ _ _ (pv 19) (@Ae _ _ _ _ _ (@AJ _ _ _ _ _ _ _ _ _ _ _ _ _ _ _ _ G_l_places (hr.mono (by omega)) (by rfl) T.m_l_places T.F_l_places.kp T.b_l_places .nil AD (@A0 _ _ _ _ _ (pv 0) (@A0 _ _ _ _ _ (pv 12) (@A0 _ _ _ _ _ (pv 19) (@A0 _ _ _ _ _ (pv 16) (@A0 _ _ _ _ _ (pv 4) A2 (by rfl)) (by rfl)) (by rfl)) (by rfl)) (by rfl)) (by decide) (by rfl) (by rfl)) BF Ik) Bi) Bi) Bi)) A2 (by rfl)) (by rfl) (by rfl) (by rfl) (by rfl) (by rfl)) (by rfl)))))))))) (by intro _;rfl)) (@Aj _ _ _ (@AX _ _ _ _ (pv 9))))))))),?_⟩
 have Dml:((D.map V.int).length:Int)=(D.length:Int):=by rw[Al]
 refine⟨_,rfl,_,rfl,sc,ns,first,rfl,hsc,f0,by omega,fun m m0 _=>⟨Af rfl,fun d1 hd1=>?_⟩⟩
 have s1:=A7 hd1 (.lst [V.int 6,V.int 2,V.int 6])
 refine⟨m,d1,[6,2,6],rfl,A5,m0,by decide,by decide,fun r1 H1 ds e1 hr1 dsl db=>?_⟩
 have e1:=s1.trans e1
 obtain⟨x0,x1,x2,rfl⟩:∃d0 d1 d2,ds=[d0,d1,d2]:=by
  match ds,dsl with
  |[x,y,z],_=>exact⟨x,y,z,rfl⟩
 have b0:=db 0 x0 6 rfl rfl
 have b2:=db 2 x2 6 rfl rfl
 refine⟨r1,_,rfl,hr1,rfl,_,_,rfl,_,_,rfl,_,_,rfl,rfl,?_⟩
 dsimp only[Ag]
 refine⟨_,rfl,dl,_,rfl,.inl (A4.of (e1 _ _ hdl)),_,rfl,by omega,by omega,?_⟩
 rw[show((D.map V.int).length:Int).toNat=D.length by omega]
 refine L4 (lo:=0) (n:=D.length) (fun i ys H'=>H'=H1/\ys=(De x0 D.length i).map V.int) ⟨rfl,rfl⟩ (AF (by omega)) (fun i ys H' hi p=>by rw[p.2,Al,JJ];exact Ak _) (fun i ys H' hi pp=>?_) (fun ys H2 pp row hrow=>?_)
 .obtain⟨rfl,rfl⟩:=pp
  refine⟨_,rfl,_,rfl,_,_,rfl,rfl,_,rfl,dl,_,rfl,.inl (A4.of (e1 _ _ hdl)),_,_,rfl,rfl,(by show(0:Int)<((D.map V.int).length:Int);omega),rfl,?_⟩
  rw[NQ,B8,Dml,M4]
  rfl
 obtain⟨rfl,rfl⟩:=pp
 have s2:=A7 hrow (.lst ((De x0 D.length D.length).map V.int))
 have hrow2:(upd H2 row (.lst ((De x0 D.length D.length).map V.int))) row=some (.lst ((De x0 D.length D.length).map V.int)):=A5
 have hrow0:=e1.free hrow
 have e2:=e1.trans s2
 dsimp only[Ag]
 generalize upd H2 row (.lst ((De x0 D.length D.length).map V.int))=H3 at s2 hrow2 e2
 refine Bk (fun σ' H'=>σ'=[some (.ref sc),some (.int first),some (.ref dl),some (.ref wl),some (.bl true),some (.int x0),some (.int x1),some (.int x2),some (.ref row),none,none,none,none,none,none,none,none,none,none,none]/\Aa H H'/\∃R:List Int,H' row=some (.lst (R.map V.int))/\R.Nodup/\R.length=D.length/\∀k∈R,0<=k/\k<(D.length:Int)) (fun σ' H4 pp=>?_) (fun nx=>?_)
 rotate_left
 .have nd:=NA (m:=D.length) b0.1 b0.2 D6
  have rl:=JJ x0 D.length D.length
  have rm:=OI (s:=x0) (i:=D.length) Dpos
  refine⟨_,rfl,rfl,_,rfl,?_⟩
  refine AV (fun c=>?_) (fun c=>nx _ _ ⟨rfl,e2,_,hrow2,nd,rl,rm⟩)
  refine⟨_,rfl,.inl ⟨rfl,_,A4.of hrow2⟩,row,_,rfl,rfl,hrow2,?_⟩
  exact nx _ _ ⟨rfl,fun a o ha=>by rw[Aw (BA ha hrow0)];exact e2 _ _ ha,(De x0 D.length D.length).reverse,by rw[List.map_reverse];exact A5,(List.reverse_perm _).nodup_iff.mpr nd,by rw[OV];exact rl,fun k hk=>rm k (List.mem_reverse.mp hk)⟩
 obtain⟨rfl,e4,R0,hrow4,nd0,R0l,R0m⟩:=pp
 have R0ml:((R0.map V.int).length:Int)=(D.length:Int):=by rw[Al,R0l]
 have j0:=BV x2 (show((R0.map V.int).length:Int)≠0 by omega)
 have j1:=BW x2 (show(0:Int)<((R0.map V.int).length:Int) by omega)
 obtain⟨j,ej⟩:∃j:Nat,x2%((R0.map V.int).length:Int)=(j:Int):=⟨(x2%((R0.map V.int).length:Int)).toNat,by omega⟩
 have jl:j<R0.length:=by omega
 have Rj:R0[j]?=some R0[j]:=AH jl
 have p63:(2:Int) ^ 63=9223372036854775808:=by decide
 refine⟨_,rfl,.inl ⟨rfl,_,A4.of hrow4⟩,_,rfl,.inl ⟨rfl,_,A4.of hrow4⟩,_,rfl,_,rfl,row,_,rfl,.inl (A4.of hrow4),_,_,rfl,rfl,(by show(0:Int)<((R0.map V.int).length:Int);omega),row,_,(j:Int),j,.int R0[j],rfl,by rw[←ej],hrow4,by omega,by omega,OH (by rw[Al];exact jl),by rw[C3,Rj];rfl,?_⟩
 have erm:(R0.map V.int).eraseIdx j=(R0.eraseIdx j).map V.int:=RF R0 j
 have erl:(R0.eraseIdx j).length=R0.length-1:=List.length_eraseIdx_of_lt jl
 rw[erm]
 refine⟨row,_,_,rfl,rfl,A5,E8 (by rw[Al,erl];omega),?_⟩
 have pm:(R0[j]::R0.eraseIdx j).Perm R0:=NO R0 j jl
 have hrow5:(upd (upd H4 row (.lst ((R0.eraseIdx j).map V.int))) row (.lst (V.int R0[j]::(R0.eraseIdx j).map V.int))) row=some (.lst ((R0[j]::R0.eraseIdx j).map V.int)):=A5
 have e5:Aa H (upd (upd H4 row (.lst ((R0.eraseIdx j).map V.int))) row (.lst (V.int R0[j]::(R0.eraseIdx j).map V.int))):=fun a o ha=>by rw[Aw (BA ha hrow0),Aw (BA ha hrow0)];exact e4 _ _ ha
 generalize upd (upd H4 row (.lst ((R0.eraseIdx j).map V.int))) row (.lst (V.int R0[j]::(R0.eraseIdx j).map V.int))=H5 at hrow5 e5
 have nd:=pm.nodup_iff.mpr nd0
 have Rl:(R0[j]::R0.eraseIdx j).length=D.length:=by rw[pm.length_eq];exact R0l
 have Rm:∀k∈R0[j]::R0.eraseIdx j,0<=k/\k<(D.length:Int):=fun k hk=>R0m k (pm.subset hk)
 generalize R0[j]::R0.eraseIdx j=R at hrow5 nd Rl Rm
 refine⟨Af rfl,fun lv hlv=>?_⟩
 have s6:=A7 hlv (.lst [])
 have hlv6:(upd H5 lv (.lst [])) lv=some (.lst []):=A5
 dsimp only[Ag]
 generalize upd H5 lv (.lst [])=H6 at s6 hlv6
 have hlv0:=e5.free hlv
 refine⟨_,rfl,row,rfl,⟨_,A4.of (s6 _ _ hrow5)⟩,?_⟩
 refine LI (xs:=R.map V.int) (fun i σ' H'=>∃(xs:List V) (B:List Ab) (o10 o11 o12 o13 o14 o15 o16 o17 o18 o19:Option V),σ'=[some (.ref sc),some (.int first),some (.ref dl),some (.ref wl),some (.bl true),some (.int x0),some (.int x1),some (.int x2),some (.ref row),some (.ref lv),o10,o11,o12,o13,o14,o15,o16,o17,o18,o19]/\Aa H5 H'/\H' lv=some (.lst xs)/\As (F4 (av H' [lv])) xs B/\J0 B D R i) ⟨[],[],_,_,_,_,_,_,_,_,_,_,rfl,s6,hlv6,.nil,Ew.nil R,fun b hb=>by cases hb⟩ (fun i σ' H' _ pp=>by obtain⟨_,_,_,_,_,_,_,_,_,_,_,_,_,e,_⟩:=pp;exact A4.of (e _ _ hrow5)) (fun i x Tt σ' H' hx pp hT=>?_) (fun σ' H' pp=>?_)
 rotate_left
 .obtain⟨xs,B,o10,o11,o12,o13,o14,o15,o16,o17,o18,o19,rfl,e,hl,ay,st⟩:=pp
  rw[Al]at st
  obtain⟨g1,g2,g3⟩:=st.st.fin (by omega) nd
  have kse:=st.st.ks
  rw[P7]at kse
  exact⟨_,rfl,q lv _ B (e5.trans e) ⟨xs,hl,ay.mono fun y v z=>z.over JD⟩ ⟨g1,by rw[kse];exact Nt nd Rl Rm,st.lf⟩ (by omega)⟩
 obtain⟨xs,B,o10,o11,o12,o13,o14,o15,o16,o17,o18,o19,rfl,e,hl,ay,st⟩:=pp
 have hiR:i<R.length:=by have:=(Ay.mp hx).1;rwa [Al]at this
 have Ri:R[i]?=some R[i]:=AH hiR
 rw[C3,Ri]at hx
 cases hx
 have hk:=Rm _ (Bf Ri)
 generalize R[i]=k at Ri hk
 obtain⟨kk,rfl⟩:∃n:Nat,k=(n:Int):=⟨k.toNat,by omega⟩
 have hkl:kk<D.length:=by omega
 have Dk:D[kk]?=some D[kk]:=AH hkl
 have Db:=hD _ (Bf Dk)
 have atD:C6 (D.map V.int) (kk:Int)=some (.int D[kk]):=Bx (by rw[C3,Dk];rfl)
 generalize D[kk]=dk at Dk Db atD
 obtain⟨dn,rfl⟩:∃n:Nat,dk=(n:Int):=⟨dk.toNat,by omega⟩
 have Bl:=st.st.len (Ez hiR)
 have xsl:=ay.1
 have sT:=A7 hT (.tup [V.int (i:Int),V.int (kk:Int)])
 have eT:=e.trans sT
 have hlT:=sT _ _ hl
 have ayT:=ay.mono fun y v z=>z.over (FF (S:=[lv]) sT)
 refine⟨Tt,_,rfl,A9.of A5,rfl,_,_,rfl,_,_,rfl,rfl,?_⟩
 generalize upd H' Tt (.tup [V.int (i:Int),V.int (kk:Int)])=H7 at eT hlT ayT
 dsimp only[Ag]
 refine⟨_,rfl,_,_,rfl,rfl,_,rfl,_,_,rfl,rfl,.inl ⟨by decide,by decide⟩,_,_,rfl,rfl,?_⟩
 dsimp only[Ag]
 obtain⟨cell,hcell⟩:∃c:Int,c=first+2+7*(i:Int):=⟨_,rfl⟩
 rw[←hcell]
 refine⟨_,rfl,_,rfl,_,_,rfl,rfl,sc,ns,cell-1,rfl,(e5.trans eT).seq hsc,by omega,by omega,fun m' m0' _=>⟨Af rfl,fun d2 hd2=>?_⟩⟩
 have s8:=A7 hd2 (.lst [V.int 7,V.int 3,V.int 2])
 refine⟨m',d2,[7,3,2],rfl,A5,m0',by decide,by decide,fun r2 H8 ds e8 hr2 dsl db=>?_⟩
 have s78:=s8.trans e8
 have e8:=eT.trans s78
 have hl8:=s78 _ _ hlT
 have ay8:=ayT.mono fun y v z=>z.over (FF (S:=[lv]) s78)
 obtain⟨y0,y1,y2,rfl⟩:∃d0 d1 d2,ds=[d0,d1,d2]:=by
  match ds,dsl with
  |[x,y,z],_=>exact⟨x,y,z,rfl⟩
 have c0':=db 0 y0 7 rfl rfl
 refine⟨r2,_,rfl,hr2,rfl,_,_,rfl,_,_,rfl,_,_,rfl,rfl,?_⟩
 dsimp only[Ag]
 have hdl8:=(e5.trans e8) _ _ hdl
 refine⟨_,rfl,_,rfl,dl,_,_,_,rfl,rfl,A4.of hdl8,atD,_,rfl,by omega,by omega,?_⟩
 rw[show((dn:Int)).toNat=dn by omega]
 refine L4 (lo:=0) (n:=dn) (fun i ys H'=>H'=H8/\ys=(De y1 dn i).map V.int) ⟨rfl,rfl⟩ (AF (by omega)) (fun i ys H' hi p=>by rw[p.2,Al,JJ];exact Ak _) (fun i2 ys H' hi pp=>?_) (fun ys H9 pp lo hlo=>?_)
 .obtain⟨rfl,rfl⟩:=pp
  refine⟨_,rfl,_,rfl,_,_,rfl,rfl,_,rfl,_,rfl,dl,_,_,_,rfl,rfl,A4.of hdl8,atD,_,_,rfl,rfl,(by show(0:Int)<(dn:Int);omega),rfl,?_⟩
  rw[NQ,B8,M4]
  rfl
 obtain⟨rfl,rfl⟩:=pp
 have c1':=db 1 y1 3 rfl rfl
 have L0l:=JJ y1 dn dn
 have L0p:(De y1 dn dn).Perm (BB dn):=by
  rcases LY dn with z|z
  .rw[z];exact .refl _
  .exact Nt (NA c1'.1 (by omega) (by omega)) L0l (OI z)
 generalize De y1 dn dn=L0 at L0l L0p hlo
 have s9:=A7 hlo (.lst (L0.map V.int))
 have hlo9:(upd H9 lo (.lst (L0.map V.int))) lo=some (.lst (L0.map V.int)):=A5
 dsimp only[Ag]
 generalize upd H9 lo (.lst (L0.map V.int))=HA at s9 hlo9
 refine Bk (fun σ' H'=>σ'=[some (.ref sc),some (.int first),some (.ref dl),some (.ref wl),some (.bl true),some (.int x0),some (.int x1),some (.int x2),some (.ref row),some (.ref lv),some (.int (i:Int)),some (.int (kk:Int)),some (.int cell),some (.int y0),some (.int y1),some (.int y2),some (.ref lo),o17,o18,o19]/\Aa H9 H'/\∃L:List Int,H' lo=some (.lst (L.map V.int))/\L.length=dn/\L.Perm (BB dn)) (fun σ' HB pp=>?_) (fun nx=>?_)
 rotate_left
 .refine⟨_,rfl,rfl,_,rfl,?_⟩
  refine AV (fun c=>?_) (fun c=>nx _ _ ⟨rfl,s9,L0,hlo9,L0l,L0p⟩)
  refine⟨_,rfl,.inl ⟨rfl,_,A4.of hlo9⟩,lo,_,rfl,rfl,hlo9,?_⟩
  exact nx _ _ ⟨rfl,fun a o ha=>by rw[Aw (BA ha hlo)];exact s9 _ _ ha,L0.reverse,by rw[List.map_reverse];exact A5,by rw[OV];exact L0l,(List.reverse_perm _).trans L0p⟩
 obtain⟨rfl,eB,L,hloB,Ll,Lp⟩:=pp
 have e9:=e8.trans eB
 have hl9:=eB _ _ hl8
 have ay9:=ay8.mono fun y v z=>z.over (FF (S:=[lv]) eB)
 clear ay8 ayT ay
 refine⟨Af rfl,fun ol hol=>?_⟩
 have sC:=A7 hol (.lst [])
 have holC:(upd HB ol (.lst [])) ol=some (.lst []):=A5
 dsimp only[Ag]
 generalize upd HB ol (.lst [])=HC at sC holC
 refine Bk (fun σ' H'=>∃(o:Addr) (ws0:List B1),σ'=[some (.ref sc),some (.int first),some (.ref dl),some (.ref wl),some (.bl true),some (.int x0),some (.int x1),some (.int x2),some (.ref row),some (.ref lv),some (.int (i:Int)),some (.int (kk:Int)),some (.int cell),some (.int y0),some (.int y1),some (.int y2),some (.ref lo),some (.ref o),o18,o19]/\Aa HC H'/\DT H' o ws0/\BM ws0<=3/\(B=[]->ws0=[])/\(dn=0->ws0=[])/\(∀c,B.getLast?=some c->∃j,ws0=c.ways.take j)) (fun σ' HD pp=>?_) (fun nx=>?_)
 rotate_left
 .have none0:∀HX,Aa HC HX->DT HX ol []:=fun HX e=>⟨[],e _ _ holC,.nil⟩
  refine⟨_,rfl,_,_,rfl,rfl,_,rfl,?_⟩
  refine AV (fun c=>?_) (fun c=>nx _ _ ⟨ol,[],rfl,Aa.refl _,none0 _ (Aa.refl _),by decide,fun _=>rfl,fun _=>rfl,fun c _=>⟨0,rfl⟩⟩)
  have c:=dT c
  refine⟨_,rfl,Af rfl,fun z hz=>R6 ((A7 hz (.lst [])) _ _ (sC _ _ hloB)) A5 ⟨_,rfl,?_⟩⟩
  have sz:=A7 hz (.lst [])
  generalize upd HC z (.lst [])=HZ at sz
  cases hL:L with
  |nil=>exact BH (nx _ _ ⟨ol,[],rfl,sz,none0 _ sz,by decide,fun _=>rfl,fun _=>rfl,fun c _=>⟨0,rfl⟩⟩)
  |
   cons l0 L1=>
   refine C0 ?_
   obtain⟨p,rfl⟩:∃p,i=p+1:=⟨i-1,by omega⟩
   have hBp:B[p]?=some B[p]:=AH (by omega)
   have hlast:B.getLast?=some B[p]:=by rw[Hg,show B.length-1=p by omega];exact hBp
   generalize B[p]=c0 at hBp hlast
   obtain⟨xp,hxp,lf⟩:=ay9.get hBp
   obtain⟨t,w0,p0,rfl,ht,⟨wx,hw,haw⟩,_⟩:=(lf.over JD).over (sC.trans sz)
   have aj:C6 xs (((p+1:Nat):Int)-1)=some (.ref t):=by
    rw[show(((p+1:Nat):Int)-1)=(p:Int) by omega]
    exact Bx hxp
   refine⟨_,rfl,_,rfl,_,_,rfl,rfl,lv,_,_,_,rfl,rfl,A4.of ((sC.trans sz) _ _ hl9),aj,t,_,2,_,rfl,rfl,A9.of ht,rfl,_,rfl,_,rfl,w0,_,rfl,A4.of hw,fun sl hsl=>?_⟩
   have s1:=A7 hsl (.lst (AL wx none (some y0)))
   have cy:AL wx none (some y0)=wx.take y0.toNat:=DL _ c0'.1
   refine nx _ _ ⟨sl,c0.ways.take y0.toNat,rfl,sz.trans s1,⟨_,A5,?_⟩,?_,fun z=>?_,fun z=>by rw[hL,B5]at Ll;omega,fun c hc=>?_⟩
   .have hh:=(haw.mono fun y v z=>z.over s1).take y0.toNat
    rw[←cy]at hh
    exact hh
   .have:=Kz c0.ways y0.toNat
    have:=(st.st.way c0 (Bf hBp)).1
    omega
   .rw[z]at hBp;simp at hBp
   .rw[hlast]at hc
    cases hc
    exact⟨_,rfl⟩
 obtain⟨o,ws0,rfl,eD,hws0,cut0,nil0,dn0,last0⟩:=pp
 have eBD:=sC.trans eD
 have eD':=e9.trans eBD
 have hlD:=eBD _ _ hl9
 have hloD:=eBD _ _ hloB
 have ayD:=ay9.mono fun y v z=>z.over (FF (S:=[lv]) eBD)
 have eH:=e5.trans eD'
 refine⟨_,rfl,_,rfl,_,rfl,lo,_,rfl,.inl (A4.of hloD),_,rfl,_,rfl,sc,o,wl,ns,cell,dn,ws0,by rw[Al,Ll];rfl,eH.seq hsc,by omega,by omega,by omega,hws0,cut0,eH _ _ hwl,fun r w HE sh ws eE hwn hrE hwE h1 h2 h3 h4 h5 h6=>?_⟩
 refine⟨r,_,rfl,A9.of hrE,rfl,_,_,rfl,_,_,rfl,rfl,?_⟩
 dsimp only[Ag]
 have nw:w≠lv:=fun z=>by rw[z,hlD]at hwn;cases hwn
 have hlE:=eE _ _ hlD
 have wlen:=Ls ws
 have eHE:=eH.trans eE
 have hLm:∀z∈L,0<=z/\z<(dn:Int):=fun z hz=>by
  obtain⟨k,e,l⟩:=ON Lp hz
  omega
 have neL:ws≠[]->L≠[]:=fun z zz=>by
  have d0:dn=0:=by rw[zz]at Ll;exact Ll.symm
  exact z (h6 d0 (dn0 d0))
 refine⟨_,rfl,.inl ⟨rfl,_,A4.of hlE⟩,_,rfl,_,rfl,_,rfl,_,rfl,_,rfl,_,rfl,_,rfl,_,rfl,sc,w,lo,ns,L,cell,ws,dn,rfl,eHE.seq hsc,by omega,by omega,hwE,by omega,eE _ _ hloD,by omega,by omega,neL,hLm,fun pr HF ps eF hpn hps psl hPr hwh=>⟨Af rfl,fun t ht=>?_⟩⟩
 have sG:=A7 ht (.tup [V.int (kk:Int),V.int (sh:Int),V.ref w,V.ref pr])
 have htG:(upd HF t (.tup [V.int (kk:Int),V.int (sh:Int),V.ref w,V.ref pr])) t=some (.tup [V.int (kk:Int),V.int (sh:Int),V.ref w,V.ref pr]):=A5
 have hlG:=sG _ _ (eF _ _ hlE)
 have ntl:t≠lv:=fun z=>by rw[z,eF _ _ hlE]at ht;cases ht
 have eFG:=eF.trans sG
 generalize upd HF t (.tup [V.int (kk:Int),V.int (sh:Int),V.ref w,V.ref pr])=HG at sG htG hlG eFG
 refine⟨lv,_,_,rfl,rfl,hlG,E8 (by omega),?_⟩
 refine⟨xs++[.ref t],B++[⟨(kk:Int),sh,ws,ps⟩],_,_,_,_,_,_,_,_,_,_,rfl,fun a o ha=>by rw[Aw (BA ha hlv)];exact(eE.trans eFG) _ _ (eD' _ _ ha),A5,?_,?_⟩
 .rw[Oh (by simp)]
  refine(ayD.mono fun y v z=>z.over (FF (S:=[lv]) (eE.trans eFG))).snoc ⟨t,w,pr,rfl,by rw[JB (by rw[CO];exact ntl)];exact htG,(hwE.over eFG).av hlG nw,(hps.over sG).tk (IL hlG)⟩
 .refine st.snoc Ri h2 (fun z=>?_) (fun c hc=>?_) ⟨h4,by show ws.length<=6;omega⟩ psl ⟨kk,dn,rfl,Dk,⟨by unfold AK;rw[Al];exact psl,by show ps.length<=6;omega,hPr,by show(BD ps (ws.map (·.1))).Perm _;rw[hwh];exact Lp⟩,fun z=>h6 z (dn0 z)⟩
  .have:=nil0 z
   rw[this]at h1
   exact Nat.le_zero.mp h1
  .obtain⟨j,rfl⟩:=last0 c hc
   rw[Ar]at h1
   refine⟨by show sh<=_;omega,?_⟩
   show ws.take sh=c.ways.take sh
   rw[h3,Gi,show min sh j=sh by omega]
theorem KP (T:Tx K mg a):∀n:Nat,Bz P w K mg base BS (n+2) a.f_l_items a.d_l_items ["_law_leaves_here","_law_level"] (MC n)
 |
  0=>by
  have no:∀vs H Q E,¬MC 0 vs H Q E:=fun vs H Q E h=>by
   obtain⟨l,d,m,B,_,_,_,hm,_⟩:=h
   omega
  exact⟨fun vs H Q E h=>absurd h (no vs H Q E),fun A outer s H args us vs Q E _ _ _ _ h=>absurd h (no vs H Q E)⟩
 |
  n+1=>by
  have G_l_items:=KP T n
  refine T.F_l_items.ok G1 (fun vs H Q E h=>?_) (fun cdv A outer s H vs Q E hr h=>?_)
  .obtain⟨_,_,_,_,rfl,_⟩:=h;rfl
  obtain⟨l,d,mm,B,rfl,⟨xs0,hl,hB⟩,hF,hmn,hd,q⟩:=h
  refine⟨_,(@A8 _ _ _ _ _ (@Ai _ _ (2) _ _ _ _ G1.nd rfl (Or.inl rfl) (@BU _ _ _ _ A2) (by rfl) (by first|exact .inl rfl|exact .inr rfl|assumption)) (@A8 _ _ _ _ _ (@Ai _ _ (3) _ _ _ _ G1.nd rfl (Or.inl rfl) A1 (by rfl) (by first|exact .inl rfl|exact .inr rfl|assumption)) (@A8 _ _ _ _ _ (@Hu _ _ _ _ _ _ PassesOwn.never (@AA _ _ _ _ _ _ _ _ Em (pv 3) (@AE _ _ _ _ _ _ _ _ _ AS (by rfl) T.z_len AR (@A0 _ _ _ _ _ (pv 0) A2 (by rfl)) (by decide) (by decide) (by rfl) (by rfl)) (@Am _ _ (by decide) (by decide))) (@A8 _ _ _ _ _ (@Ai _ _ (4) _ _ _ _ G1.nd rfl (Or.inl rfl) (@A3 _ _ _ _ _ _ _ _ AB (pv 3) A1) (by rfl) (by first|exact .inl rfl|exact .inr rfl|assumption)) (@A8 _ _ _ _ _ (@AY _ _ _ _ _ _ _ _ (@AA _ _ _ _ _ _ _ _ Bn (@AE _ _ _ _ _ _ _ _ _ AS (by rfl) T.z_len AR (@A0 _ _ _ _ _ (@Ah _ _ _ _ _ _ _ AG (@Ah _ _ _ _ _ _ _ Bg (pv 0) (pv 3) (fun _ _=>rfl)) A1 (fun _ _=>rfl)) A2 (by rfl)) (by decide) (by decide) (by rfl) (by rfl)) (pv 1) (@Am _ _ (by decide) (by decide))) (@Aj _ _ _ (@DF _ _ _ _ (@DI _ _ _ _ _ _ _ _ _ _ _ _ Dz EV EW Et (pv 2) (@A0 _ _ _ _ _ (@Cq _ _ _ _ _ (@Ae _ _ _ _ _ BL (@Ae _ _ _ _ _ (@Ah _ _ _ _ _ _ _ AG (@Ah _ _ _ _ _ _ _ Bg (pv 0) (pv 3) (fun _ _=>rfl)) A1 (fun _ _=>rfl)) (@Ae _ _ _ _ _ (@Ah _ _ _ _ _ _ _ AG (@Ah _ _ _ _ _ _ _ Bg (pv 0) (pv 3) (fun _ _=>rfl)) A1 (fun _ _=>rfl)) BF EI) EI) B3)) A2 (by rfl)) (by rfl) (by rfl) (by rfl) (by rfl) (by rfl)) (by rfl))) (@A8 _ _ _ _ _ (@Hu _ _ _ _ _ _ PassesOwn.never ((@Ei _ _ _ _ _ _ _ (@AA _ _ _ _ _ _ _ _ Em (pv 4) (@AE _ _ _ _ _ _ _ _ _ AS (by rfl) T.z_len AR (@A0 _ _ _ _ _ (pv 0) A2 (by rfl)) (by decide) (by decide) (by rfl) (by rfl)) (@Am _ _ (by decide) (by decide))) (@EK _ _ _ _ (@AA _ _ _ _ _ _ _ _ CW (@Ah _ _ _ _ _ _ _ AG (@Ah _ _ _ _ _ _ _ Bg (pv 0) (pv 4) (fun _ _=>rfl)) A1 (fun _ _=>rfl)) (pv 1) (@Am _ _ (by decide) (by decide)))))).pt (@Aj _ _ _ (@Ai _ _ (4) _ _ _ _ G1.nd rfl (Or.inl rfl) (@A3 _ _ _ _ _ _ _ _ AB (pv 4) A1) (by rfl) (by first|exact .inl rfl|exact .inr rfl|assumption)))) (@A8 _ _ _ _ _ (@Ai _ _ (5) _ _ _ _ G1.nd rfl (Or.inl rfl) (@Ah _ _ _ _ _ _ _ Bg (@Ah _ _ _ _ _ _ _ AG (@Ah _ _ _ _ _ _ _ Bg (pv 0) (pv 3) (fun _ _=>rfl)) A1 (fun _ _=>rfl)) (pv 1) (fun _ _=>rfl)) (by rfl) (by first|exact .inl rfl|exact .inr rfl|assumption)) (@Aj _ _ _ (@DF _ _ _ _ (@DI _ _ _ _ _ _ _ _ _ _ _ _ Dz EV EW Et (pv 2) (@A0 _ _ _ _ _ (@Cq _ _ _ _ _ (@Ae _ _ _ _ _ BL (@Ae _ _ _ _ _ (@Ah _ _ _ _ _ _ _ AG (pv 5) A1 (fun _ _=>rfl)) (@Ae _ _ _ _ _ (@Ah _ _ _ _ _ _ _ AG (pv 5) A1 (fun _ _=>rfl)) (@Ae _ _ _ _ _ (@AJ _ _ _ _ _ _ _ _ _ _ _ _ _ _ _ _ G_l_items (hr.mono (by omega)) (by rfl) T.m_l_items T.F_l_items.kp T.b_l_items .nil AD (@A0 _ _ _ _ _ (@Bt _ _ _ _ _ _ _ _ _ _ CT (pv 0) (@Bq _ _ _ (pv 3)) (@Bq _ _ _ (pv 4))) (@A0 _ _ _ _ _ (@A3 _ _ _ _ _ _ _ _ AB (pv 1) A1) A2 (by rfl)) (by rfl)) (by decide) (by rfl) (by rfl)) BF Ik) EI) EI) B3)) A2 (by rfl)) (by rfl) (by rfl) (by rfl) (by rfl) (by rfl)) (by rfl)))))) (@Aj _ _ _ (@Ai _ _ (3) _ _ _ _ G1.nd rfl (Or.inl rfl) (pv 4) (by rfl) (by first|exact .inl rfl|exact .inr rfl|assumption)))))) (@Aj _ _ _ (@AX _ _ _ _ (@Dg _ _ _ _ _ _ _ _ _ HP (by rfl) T.z_tuple IM (@A0 _ _ _ _ _ (pv 2) A2 (by rfl)) (by decide) (by decide) (by rfl) (by rfl))))))),?_⟩
  have xl:=hB.1
  have Bl:=hF.len
  refine⟨Af rfl,fun it hit=>?_⟩
  have e1:=A7 hit (.lst [])
  have hit1:(upd H it (.lst [])) it=some (.lst []):=A5
  dsimp only[Ag]
  generalize upd H it (.lst [])=H1 at e1 hit1
  show Jj (LF _ _) (Nm _) _ _ _
  refine Bk (fun σ' H'=>∃(xs:List V) (f:Ac) (o3 o4 o5:Option V),σ'=[some (.ref l),some (.int (d:Int)),some (.ref it),o3,o4,o5]/\Aa H H'/\H' it=some (.lst xs)/\AI H' xs f/\Fo.Is f B d/\xs.length<=1000) (fun σ' H' pp=>?_) (fun nx=>?_)
  .obtain⟨xs,f,o3,o4,o5,rfl,e,hx,hf,hI,xl⟩:=pp
   refine⟨_,rfl,it,_,rfl,.inl ⟨A4.of hx,fun t ht=>?_⟩⟩
   have s1:=A7 ht (.tup xs)
   exact q t _ f (e.trans s1) ⟨xs,A5,AI.over s1 hf⟩ hI
  refine Iu (B.length+1) (fun j σ' H'=>∃(at':Nat) (xs:List V) (f:Ac) (o4 o5:Option V),σ'=[some (.ref l),some (.int (d:Int)),some (.ref it),some (.int (at':Int)),o4,o5]/\Aa H H'/\H' it=some (.lst xs)/\AI H' xs f/\Fo.Is f (B.take at') d/\at'<=B.length/\j<=at'/\xs.length<=at'/\(0<at'->∀c,B[at']?=some c->c.sh=d)) ⟨0,[],.nil,none,none,rfl,e1,hit1,rfl,rfl,BP _,Ak _,Ak _,fun z=>absurd z (E4 _)⟩ (fun j σ' H' hj pp=>?_) (MT.test (ME.op (MR.i0 _) (ME.var _) (ME.cb MB.len (MA.cons (ME.var _) MA.nil))))
  obtain⟨at',xs,f,o4,o5,rfl,e,hx,hf,hI,hat,hja,xsl,hhd⟩:=pp
  have hl':=e _ _ hl
  refine⟨_,rfl,_,rfl,l,_,rfl,.inl (A4.of hl'),_,_,rfl,rfl,_,rfl,?_⟩
  refine AV (fun c=>?_) (fun c=>?_)
  rotate_left
  .have c:=dF c
   have:at'=B.length:=by omega
   subst this
   rw[P7]at hI
   exact nx _ _ ⟨xs,f,_,_,_,rfl,e,hx,hf,hI,by omega⟩
  have c:=dT c
  have hlt:at'<B.length:=by rw[xl]at c;exact Int.ofNat_lt.mp c
  refine⟨by omega,?_⟩
  have Ba:B[at']?=some B[at']:=AH hlt
  generalize hb:B[at']=b at Ba
  obtain⟨x0,hx0,hbo⟩:=hB.get Ba
  obtain⟨t,w0,p0,rfl,ht,⟨wx,hw,haw⟩,⟨px,hp,hap⟩⟩:=hbo.over e
  have at0:C6 xs0 (at':Int)=some (.ref t):=Bx hx0
  have wxl:=haw.1
  have memb:b∈B:=Bf Ba
  refine⟨_,rfl,_,_,rfl,rfl,?_⟩
  dsimp only[Ag]
  refine Bk (fun σ' H'=>∃(m:Nat) (xs:List V) (f:Ac) (o5:Option V),σ'=[some (.ref l),some (.int (d:Int)),some (.ref it),some (.int (at':Int)),some (.int (m:Int)),o5]/\Aa H H'/\H' it=some (.lst xs)/\AI H' xs f/\Fo.Is f (B.take m) d/\at'<m/\m<=B.length/\xs.length<=m/\(∀c,B[m]?=some c->c.sh=d)) (fun σ' H2 pp=>?_) (fun nx2=>?_)
  .obtain⟨m,xs2,f2,o5',rfl,e2,hx2,hf2,hI2,hm1,hm2,xl2,hh2⟩:=pp
   exact⟨_,rfl,m,xs2,f2,_,_,rfl,e2,hx2,hf2,hI2,hm2,by omega,xl2,fun _=>hh2⟩
  refine⟨_,rfl,_,rfl,l,_,_,_,rfl,rfl,A4.of hl',at0,t,_,2,_,rfl,rfl,A9.of ht,rfl,w0,_,rfl,.inl (A4.of hw),_,rfl,rfl,_,rfl,?_⟩
  rw[wxl]
  by_cases cd:b.ways.length=d
  .refine C8 (v:=true) (Cw (congrArg (fun n:Nat=>V.int (n:Int)) cd)) (C0 ?_)
   refine⟨_,rfl,.inl ⟨rfl,_,A4.of hx⟩,_,rfl,_,rfl,l,_,_,_,rfl,rfl,A4.of hl',at0,t,_,0,_,rfl,rfl,A9.of ht,rfl,_,rfl,_,rfl,l,_,_,_,rfl,rfl,A4.of hl',at0,t,_,3,_,rfl,rfl,A9.of ht,rfl,Af rfl,fun r hr=>?_⟩
   have s1:=A7 hr (.tup [V.str "deed",V.int b.k,V.ref p0])
   have hr1:(upd H' r (.tup [V.str "deed",V.int b.k,V.ref p0])) r=some (.tup [V.str "deed",V.int b.k,V.ref p0]):=A5
   have hpt1:=s1 _ _ hp
   generalize upd H' r (.tup [V.str "deed",V.int b.k,V.ref p0])=H2 at s1 hr1 hpt1
   have hx2:=s1 _ _ hx
   refine⟨it,_,_,rfl,rfl,hx2,E8 (by omega),?_⟩
   have tk:TK H2 (upd H2 it (.lst (xs++[V.ref r]))):=TK.upd hx2
   refine nx2 _ _ ⟨at'+1,xs++[.ref r],Fo.app f (.leaf b.k b.pl .nil),_,rfl,fun a o ha=>by rw[Aw (BA ha hit)];exact s1 _ _ (e _ _ ha),A5,?_,?_,Gb _,hlt,by rw[Ap,Au];omega,fun c hc=>?_⟩
   .exact AI.tk tk (AI.app (AI.over s1 hf) ⟨r,p0,[],rfl,hr1,⟨px,hpt1,hap.mono fun x v z=>z.over s1⟩,rfl⟩)
   .rw[CY Ba]
    refine Mi hI (Fo.Is.leaf1 cd) (fun z c hc=>?_)
    cases hc
    exact hhd (by rcases LY at' with z0|z0;exact absurd (by rw[z0];rfl) z;exact z0) b Ba
   .have h1:=hF.ok.ln at' b c Ba hc
    have h2:=hF.sh at' c hc
    omega
  .refine C8 (v:=false) (Cv fun z=>cd (Tq z)) (BH ?_)
   have hlo:=hF.lo b memb
   have hhi:=hF.hi b memb
   obtain⟨mn,rfl⟩:∃k,mm=k+1:=⟨mm-1,by omega⟩
   refine Bk (fun σ' H2=>H2=H'/\∃(m:Nat),σ'=[some (.ref l),some (.int (d:Int)),some (.ref it),some (.int (at':Int)),some (.int (m:Int)),o5]/\at'<m/\m<=B.length/\(∀i c,at'<i->i<m->B[i]?=some c->d<c.sh)/\(∀c,B[m]?=some c->c.sh<=d)) (fun σ' H2 pp=>?_) (fun nx3=>?_)
   rotate_left
   .refine Iu B.length (fun j σ' H2=>H2=H'/\∃(m:Nat),σ'=[some (.ref l),some (.int (d:Int)),some (.ref it),some (.int (at':Int)),some (.int (m:Int)),o5]/\m=at'+1+j/\m<=B.length/\(∀i c,at'<i->i<m->B[i]?=some c->d<c.sh)) ⟨rfl,at'+1,rfl,rfl,hlt,fun i c h1 h2=>absurd h2 (Nat.not_lt.mpr h1)⟩ (fun j σ' H2 hj pp=>?_) (MT.and (MT.test (ME.op (MR.i0 _) (ME.var _) (ME.cb MB.len (MA.cons (ME.var _) MA.nil)))) (MT.test (ME.op (MR.i0 _) (ME.op (MR.ixT _) (ME.op (MR.ixL _) (ME.var _) (ME.var _)) (ME.c _)) (ME.var _))))
    obtain⟨rfl,m,rfl,hm,hmB,hG⟩:=pp
    refine⟨_,rfl,_,rfl,l,_,rfl,.inl (A4.of hl'),_,_,rfl,rfl,_,rfl,?_⟩
    refine AV (fun c=>?_) (fun c=>nx3 _ _ ⟨rfl,m,rfl,by omega,hmB,hG,fun c' hc'=>?_⟩)
    .have c:=dT c
     have hmlt:m<B.length:=by rw[xl]at c;exact Int.ofNat_lt.mp c
     have Bm:B[m]?=some B[m]:=AH hmlt
     obtain⟨x1,hx1,hbo1⟩:=hB.get Bm
     obtain⟨t1,w1,p1,rfl,ht1,_,_⟩:=hbo1.over e
     refine⟨_,rfl,_,rfl,l,_,_,_,rfl,rfl,A4.of hl',Bx hx1,t1,_,1,_,rfl,rfl,A9.of ht1,rfl,_,rfl,_,_,rfl,rfl,_,rfl,?_⟩
     refine AV (fun c=>?_) (fun c=>nx3 _ _ ⟨rfl,m,rfl,by omega,hmB,hG,fun c' hc'=>?_⟩)
     .have c:=dT c
      refine⟨by omega,_,rfl,_,_,rfl,rfl,rfl,m+1,rfl,by omega,hmlt,fun i c' h1 h2 h3=>?_⟩
      by_cases z:i=m
      .subst z
       rw[Bm]at h3
       cases h3
       omega
      .exact hG i c' h1 (by omega) h3
     .have c:=dF c
      rw[Bm]at hc'
      cases hc'
      omega
    .have c:=dF c
     have:=(Ay.mp hc').1
     omega
   obtain⟨rfl,m,rfl,hm1,hm2,hG,hend⟩:=pp
   have hwd:d<b.ways.length:=Nat.lt_of_le_of_ne hlo (Ne.symm cd)
   have Wd:b.ways[d]?=some b.ways[d]:=AH hwd
   obtain⟨xw,hxw,tw,rfl,htw⟩:=haw.get Wd
   refine⟨_,rfl,_,rfl,l,_,_,_,rfl,rfl,A4.of hl',at0,t,_,2,_,rfl,rfl,A9.of ht,rfl,_,rfl,w0,_,_,_,rfl,rfl,A4.of hw,Bx hxw,?_⟩
   refine⟨_,rfl,.inl ⟨rfl,_,A4.of hx⟩,_,rfl,tw,_,0,_,rfl,rfl,A9.of htw,rfl,_,rfl,tw,_,1,_,rfl,rfl,A9.of htw,rfl,?_⟩
   have cy:AL xs0 (some (at':Int)) (some (m:Int))=(xs0.drop at').take (m-at'):=by
    have:AL xs0 (some (at':Int)) (some (m:Int))=(xs0.drop (at':Int).toNat).take ((m:Int).toNat-(at':Int).toNat):=Tu xs0 (E5 _) (E5 _) (by rw[xl];exact Int.ofNat_le.mpr hm2) (Int.ofNat_le.mpr (Ez hm1))
    rw[this,Gc,Gc]
   refine⟨_,rfl,_,rfl,_,rfl,_,rfl,_,rfl,l,_,rfl,A4.of hl',fun sl hsl=>?_⟩
   have s1:=A7 hsl (.lst (AL xs0 (some (at':Int)) (some (m:Int))))
   have hsl1:(upd H2 sl (.lst (AL xs0 (some (at':Int)) (some (m:Int))))) sl=some (.lst ((xs0.drop at').take (m-at'))):=by rw[←cy];exact A5
   generalize upd H2 sl (.lst (AL xs0 (some (at':Int)) (some (m:Int))))=H3 at s1 hsl1
   refine⟨_,rfl,_,_,rfl,rfl,sl,d+1,mn,(B.drop at').take (m-at'),rfl,⟨_,hsl1,((hB.mono fun x v z=>z.over (e.trans s1)).drop at').take (m-at')⟩,hF.group Ba cd hm1 hG,by omega,by omega,fun r H4 f' e4 hf' hI'=>⟨Af rfl,fun r2 hr2=>?_⟩⟩
   have s5:=A7 hr2 (.tup [V.str "sweep",V.bl (b.ways[d]).1,V.str (b.ways[d]).2,V.ref r])
   have hr5:(upd H4 r2 (.tup [V.str "sweep",V.bl (b.ways[d]).1,V.str (b.ways[d]).2,V.ref r])) r2=some (.tup [V.str "sweep",V.bl (b.ways[d]).1,V.str (b.ways[d]).2,V.ref r]):=A5
   have e5:=(s1.trans e4).trans s5
   have hf5:=hf'.over s5
   generalize upd H4 r2 (.tup [V.str "sweep",V.bl (b.ways[d]).1,V.str (b.ways[d]).2,V.ref r])=H5 at e5 hr5 hf5
   have hx5:=e5 _ _ hx
   refine⟨it,_,_,rfl,rfl,hx5,E8 (by omega),?_⟩
   have tk:TK H5 (upd H5 it (.lst (xs++[V.ref r2]))):=TK.upd hx5
   obtain⟨zs,hz1,hz2⟩:=hf5
   refine nx2 _ _ ⟨m,xs++[.ref r2],Fo.app f (.node (b.ways[d]).1 (b.ways[d]).2 f' .nil),_,rfl,fun a o ha=>by rw[Aw (BA ha hit)];exact e5 _ _ (e _ _ ha),A5,?_,?_,hm1,hm2,by rw[Ap,Au];omega,fun c hc=>?_⟩
   .exact AI.tk tk (AI.app (AI.over e5 hf) ⟨r2,r,zs,[],rfl,hr5,hz1,hz2,rfl⟩)
   .rw[←Ud B (Ez hm1)]
    have sl1:(B.drop at').take (m-at')=b::(B.drop (at'+1)).take (m-at'-1):=by
     rw[Gh hlt,hb]
     obtain⟨k,hk⟩:∃k,m-at'=k+1:=⟨m-at'-1,by omega⟩
     rw[hk]
     rfl
    rw[sl1]at hI' ⊢
    refine Mi hI (Fo.Is.node1 Wd (fun c hc=>?_) hI') (fun z c hc=>?_)
    .obtain⟨i,hi⟩:=P2.mp hc
     have l2:=(Ay.mp hi).1
     rw[Ar]at l2
     rw[Dy (by omega),FL]at hi
     exact hG (at'+1+i) c (by omega) (by omega) hi
    .cases hc
     exact hhd (by rcases LY at' with z0|z0;exact absurd (by rw[z0];rfl) z;exact z0) b Ba
   .have h1:=hend c hc
    have h2:=hF.sh (m-1) c (by rw[show m-1+1=m by omega];exact hc)
    omega
theorem RN (T:Tx K mg a):Bz P w K mg base BS 1 a.f_l_without a.d_l_without ["_law_leaves_here","_law_n"] Sl:=by
 refine T.F_l_without.ok FY (fun vs H Q E h=>?_) (fun cdv A outer s H vs Q E hr h=>?_)
 .obtain⟨_,_,_,_,rfl,_⟩:=h;rfl
 obtain⟨l,n,B,b,rfl,⟨xs,hl,ax⟩,hb,B10,q⟩:=h
 refine⟨_,(@A8 _ _ _ _ _ (@Ai _ _ (2) _ _ _ _ FY.nd rfl (Or.inl rfl) (@Bt _ _ _ _ _ _ _ _ _ _ CT (pv 0) (@Bq _ _ _ (@A3 _ _ _ _ _ _ _ _ AB (pv 1) A1)) Bv) (by rfl) (by first|exact .inl rfl|exact .inr rfl|assumption)) (@A8 _ _ _ _ _ (@AY _ _ _ _ _ _ _ _ (@AA _ _ _ _ _ _ _ _ (@KQ _ (@F5 _ _ hr)) (pv 2) (@BU _ _ _ _ A2) (@Am _ _ (by decide) (by decide))) (@A8 _ _ _ _ _ (@DK _ _ _ _ _ _ (@Ah _ _ _ _ _ _ _ Bg (pv 2) A1 (fun _ _=>rfl)) (Du rfl (Av (Ao (i:=3) FY.nd rfl (Or.inl rfl)) (Av (Ao (i:=4) FY.nd rfl (Or.inl rfl)) (Av (Ao (i:=5) FY.nd rfl (Or.inl rfl)) (Av (Ao (i:=6) FY.nd rfl (Or.inl rfl)) Cr))))) (by rfl) (by rfl) (by rfl)) (@Aj _ _ _ (@Ai _ _ (2) _ _ _ _ FY.nd rfl (Or.inl rfl) (@A3 _ _ _ _ _ _ _ _ CH (@BU _ _ _ _ (@A0 _ _ _ _ _ (@Cq _ _ _ _ _ (@Ae _ _ _ _ _ (pv 3) (@Ae _ _ _ _ _ (@AE _ _ _ _ _ _ _ _ _ (@N3 _ rfl) (by rfl) T.z_min Kd (@A0 _ _ _ _ _ (pv 4) (@A0 _ _ _ _ _ (@Ah _ _ _ _ _ _ _ AG (@Ah _ _ _ _ _ _ _ Bg (pv 0) (pv 1) (fun _ _=>rfl)) A1 (fun _ _=>rfl)) A2 (by rfl)) (by rfl)) (by decide) (by decide) (by rfl) (by rfl)) (@Ae _ _ _ _ _ (pv 5) (@Ae _ _ _ _ _ (pv 6) BF Bi) Bi) Ik) Bi)) A2 (by rfl))) (@Bt _ _ _ _ _ _ _ _ _ _ CT (pv 2) (@Bq _ _ _ A1) Bv)) (by rfl) (by first|exact .inl rfl|exact .inr rfl|assumption)))) Bb) (@Aj _ _ _ (@AX _ _ _ _ (@A3 _ _ _ _ _ _ _ _ CH (@Bt _ _ _ _ _ _ _ _ _ _ CT (pv 0) Bv (@Bq _ _ _ (pv 1))) (pv 2)))))),?_⟩
 have xl:=ax.1
 refine⟨_,rfl,_,rfl,_,_,rfl,rfl,_,rfl,l,_,rfl,A4.of hl,fun r1 hr1=>?_⟩
 have c1:AL xs (some ((n:Int)+1)) none=xs.drop (n+1):=by rw[show AL xs (some ((n:Int)+1)) none=xs.drop ((n:Int)+1).toNat from Es _ (by omega),show((n:Int)+1).toNat=n+1 by omega]
 rw[c1]
 have s1:=A7 hr1 (.lst (xs.drop (n+1)))
 have h1:(upd H r1 (.lst (xs.drop (n+1)))) r1=some (.lst (xs.drop (n+1))):=A5
 have ax1:=ax.mono fun _ _ z=>z.over s1
 dsimp only[Ag]
 generalize upd H r1 (.lst (xs.drop (n+1)))=H1 at s1 h1 ax1
 have c2:AL xs none (some (n:Int))=xs.take n:=DL _ (E5 _)
 refine Bk (fun σ' H'=>∃(r:Addr) (zs:List V) (o3 o4 o5 o6:Option V),σ'=[some (.ref l),some (.int (n:Int)),some (.ref r),o3,o4,o5,o6]/\Aa H H'/\H' r=some (.lst zs)/\As (F4 H') zs (Iw (B.drop (n+1)) b.sh)) (fun σ' H2 pp=>?_) (fun nx=>?_)
 .obtain⟨r,zs,o3,o4,o5,o6,rfl,e,hr2,az⟩:=pp
  have nl:n<B.length:=(Ay.mp hb).1
  have zl:=az.1
  rw[OA,Ck]at zl
  refine⟨_,rfl,_,rfl,_,rfl,l,_,rfl,A4.of (e _ _ hl),fun r3 hr3=>?_⟩
  rw[c2]
  have s3:=A7 hr3 (.lst (xs.take n))
  refine⟨_,rfl,r3,r,_,_,rfl,rfl,A5,s3 _ _ hr2,AF (by rw[Ar];omega),fun r4 hr4=>?_⟩
  have s4:=A7 hr4 (.lst (xs.take n++zs))
  refine q r4 _ (e.trans (s3.trans s4)) ⟨_,A5,?_⟩
  exact((ax.take n).mono fun _ _ z=>z.over (e.trans (s3.trans s4))).app (az.mono fun _ _ z=>z.over (s3.trans s4))
 .have axd:=As.drop ax1 (n+1)
  have xdl:=axd.1
  refine⟨_,rfl,Af rfl,fun z hz=>?_⟩
  have sz:=A7 hz (.lst [])
  refine UQ (neg:=true) (sz _ _ h1) (axd.mono fun _ _ z=>z.over sz) A5 ⟨_,rfl,?_⟩
  have e2:=s1.trans sz
  generalize upd H1 z (.lst [])=H2 at sz e2
  cases hd:B.drop (n+1) with
  |
   nil=>
   rw[hd]at nx axd
   exact BH (nx _ _ ⟨r1,_,_,_,_,_,rfl,e2,sz _ _ h1,axd.mono fun _ _ z=>z.over sz⟩)
  |
   cons c C=>
   rw[hd]at nx axd
   refine C0 ?_
   obtain⟨x0,hx0,t,w0,p0,rfl,ht,hw,hp⟩:=axd.get (i:=0) (a:=c) rfl
   have hr1':=sz _ _ h1
   refine⟨_,rfl,r1,_,0,_,rfl,rfl,A4.of hr1',Bx (j:=0) hx0,t,_,rfl,A9.of (sz _ _ ht),rfl,_,_,rfl,_,_,rfl,_,_,rfl,_,_,rfl,rfl,?_⟩
   dsimp only[Ag]
   obtain⟨xb,hxb,tb,wb,pb,rfl,htb,_,_⟩:=(ax.mono fun _ _ z=>z.over e2).get hb
   have mn:(if((b.sh:Nat):Int)<((c.sh:Nat):Int) then((b.sh:Nat):Int) else((c.sh:Nat):Int))=((min c.sh b.sh:Nat):Int):=by split<;>omega
   refine⟨_,rfl,_,rfl,_,rfl,_,rfl,l,_,_,_,rfl,rfl,A4.of (e2 _ _ hl),Bx hxb,tb,_,1,_,rfl,rfl,A9.of htb,rfl,_,_,rfl,?_⟩
   rw[mn]
   refine⟨_,rfl,_,rfl,Af rfl,fun t1 ht1=>⟨Af rfl,fun l1 hl1=>?_⟩⟩
   have s3:=A7 ht1 (.tup [V.int c.k,V.int ((min c.sh b.sh:Nat):Int),V.ref w0,V.ref p0])
   have s4:=A7 hl1 (.lst [V.ref t1])
   have e24:=s3.trans s4
   refine⟨_,rfl,_,rfl,r1,_,rfl,A4.of (e24 _ _ hr1'),fun r5 hr5=>?_⟩
   have c5:AL (xs.drop (n+1)) (some 1) none=(xs.drop (n+1)).drop 1:=Es _ (by decide)
   rw[c5]
   have s5:=A7 hr5 (.lst ((xs.drop (n+1)).drop 1))
   have e25:=e24.trans s5
   refine⟨l1,r5,_,_,rfl,rfl,s5 _ _ A5,A5,AF (by rw[Au,Ck,Ck];omega),fun r6 hr6=>?_⟩
   have s6:=A7 hr6 (.lst ([V.ref t1]++(xs.drop (n+1)).drop 1))
   have e26:=e25.trans s6
   refine nx _ _ ⟨r6,_,_,_,_,_,rfl,e2.trans e26,A5,?_⟩
   have ht6:=(s4.trans (s5.trans s6)) _ _ (show(upd H2 t1 (.tup [V.int c.k,V.int ((min c.sh b.sh:Nat):Int),V.ref w0,V.ref p0])) t1=some _ from A5)
   exact(As.one ⟨t1,w0,p0,rfl,ht6,hw.over (sz.trans e26),hp.over (sz.trans e26)⟩).app ((As.drop axd 1).mono fun _ _ z=>z.over (sz.trans e26))
theorem Sf (T:Tx K mg a):Bz P w K mg base BS 1 a.f_l_spoilt_places a.d_l_spoilt_places ["_law_leaf","_law_depth","_law_kind","_law_at_here","_law_much"] Pg:=by
 refine T.F_l_spoilt_places.ok Di (fun vs H Q E h=>?_) (fun cdv A outer s H vs Q E hr h=>?_)
 .obtain⟨_,_,_,_,_,_,rfl,_⟩:=h;rfl
 obtain⟨x,b,m,kind,at',much,rfl,⟨t,w0,p0,rfl,ht,⟨wx,hw,aw⟩,⟨px,hp,ap⟩⟩,wp,m3,hk,at0,mu0,qn,q⟩:=h
 refine⟨_,(@A8 _ _ _ _ _ (@DK _ _ _ _ _ _ (pv 0) (Du rfl (Av (Ao (i:=5) Di.nd rfl (Or.inl rfl)) (Av (Ao (i:=6) Di.nd rfl (Or.inl rfl)) (Av (Ao (i:=7) Di.nd rfl (Or.inr rfl)) (Av (Ao (i:=8) Di.nd rfl (Or.inl rfl)) Cr))))) (by rfl) (by rfl) (by rfl)) (@A8 _ _ _ _ _ (@AY _ _ _ _ _ _ _ _ (@AA _ _ _ _ _ _ _ _ Bn (pv 2) A1 (@Am _ _ (by decide) (by decide))) (@A8 _ _ _ _ _ (@Ai _ _ (3) _ _ _ _ Di.nd rfl (Or.inl rfl) (@A3 _ _ _ _ _ _ _ _ B7 (pv 3) (@A3 _ _ _ _ _ _ _ _ AB (@AE _ _ _ _ _ _ _ _ _ AS (by rfl) T.z_len AR (@A0 _ _ _ _ _ (pv 8) A2 (by rfl)) (by decide) (by decide) (by rfl) (by rfl)) A1)) (by rfl) (by first|exact .inl rfl|exact .inr rfl|assumption)) (@Aj _ _ _ (@AX _ _ _ _ (@A3 _ _ _ _ _ _ _ _ CJ (@A3 _ _ _ _ _ _ _ _ CJ (@Bt _ _ _ _ _ _ _ _ _ _ CQ (pv 8) Bv (@Bq _ _ _ (pv 3))) (@AN _ _ _ _ _ (@A0 _ _ _ _ _ (@AN _ _ _ _ _ (@A0 _ _ _ _ _ (@A3 _ _ _ _ _ _ _ _ B7 (pv 4) (@AE _ _ _ _ _ _ _ _ _ (@S5 _ rfl) (by rfl) T.z_max Pr (@A0 _ _ _ _ _ A1 (@A0 _ _ _ _ _ (pv 1) A2 (by rfl)) (by rfl)) (by decide) (by decide) (by rfl) (by rfl))) (@A0 _ _ _ _ _ A1 A2 (by rfl)) (by rfl))) A2 (by rfl)))) (@Bt _ _ _ _ _ _ _ _ _ _ CQ (pv 8) (@Bq _ _ _ (pv 3)) Bv))))) Bb) (@A8 _ _ _ _ _ (@AY _ _ _ _ _ _ _ _ (@AA _ _ _ _ _ _ _ _ (@GF _ (@F5 _ _ hr)) (pv 8) (@AN _ _ _ _ _ A2) (@Am _ _ (by decide) (by decide))) (@Aj _ _ _ (@AX _ _ _ _ KS)) Bb) (@A8 _ _ _ _ _ (@Ai _ _ (9) _ _ _ _ Di.nd rfl (Or.inl rfl) (@A3 _ _ _ _ _ _ _ _ B7 (pv 3) (@AE _ _ _ _ _ _ _ _ _ AS (by rfl) T.z_len AR (@A0 _ _ _ _ _ (pv 8) A2 (by rfl)) (by decide) (by decide) (by rfl) (by rfl))) (by rfl) (by first|exact .inl rfl|exact .inr rfl|assumption)) (@A8 _ _ _ _ _ (@DK _ _ _ _ _ _ (@Ah _ _ _ _ _ _ _ AG (pv 8) (pv 9) (fun _ _=>rfl)) (Du rfl (Av (Ao (i:=10) Di.nd rfl (Or.inl rfl)) (Av (Ao (i:=11) Di.nd rfl (Or.inl rfl)) Cr))) (by rfl) (by rfl) (by rfl)) (@A8 _ _ _ _ _ (@AY _ _ _ _ _ _ _ _ (@AA _ _ _ _ _ _ _ _ Bn (pv 2) A1 (@Am _ _ (by decide) (by decide))) (@Aj _ _ _ (@AX _ _ _ _ (@A3 _ _ _ _ _ _ _ _ CJ (@Bt _ _ _ _ _ _ _ _ _ _ CQ (pv 8) Bv (@Bq _ _ _ (pv 9))) (@Bt _ _ _ _ _ _ _ _ _ _ CQ (pv 8) (@Bq _ _ _ (@A3 _ _ _ _ _ _ _ _ AB (pv 9) A1)) Bv)))) Bb) (@A8 _ _ _ _ _ (@AY _ _ _ _ _ _ _ _ (@AA _ _ _ _ _ _ _ _ Bn (pv 2) A1 (@Am _ _ (by decide) (by decide))) (@Aj _ _ _ (@Ai _ _ (10) _ _ _ _ Di.nd rfl (Or.inl rfl) (@Ah _ _ _ _ _ _ _ Bg (@Eo _ _ _ _ (@Ae _ _ _ _ _ (@A3 _ _ _ _ _ _ _ _ AB (pv 1) (@A3 _ _ _ _ _ _ _ _ B7 (pv 4) A1)) (@Ae _ _ _ _ _ (@A3 _ _ _ _ _ _ _ _ BZ (@A3 _ _ _ _ _ _ _ _ BZ A1 A1) (@A3 _ _ _ _ _ _ _ _ B7 (pv 4) A1)) (@Ae _ _ _ _ _ (@A3 _ _ _ _ _ _ _ _ FT A1 A1) BF Ea) Ea) Ea)) (@A3 _ _ _ _ _ _ _ _ B7 (@A3 _ _ _ _ _ _ _ _ Dp (pv 4) A1) A1) (fun _ _=>rfl)) (by rfl) (by first|exact .inl rfl|exact .inr rfl|assumption))) Bb) (@A8 _ _ _ _ _ (@AY _ _ _ _ _ _ _ _ (@AA _ _ _ _ _ _ _ _ Bn (pv 2) A1 (@Am _ _ (by decide) (by decide))) (@Aj _ _ _ (@Ai _ _ (11) _ _ _ _ Di.nd rfl (Or.inl rfl) (@A3 _ _ _ _ _ _ _ _ Cn (@A3 _ _ _ _ _ _ _ _ AB (@A3 _ _ _ _ _ _ _ _ AB (@A3 _ _ _ _ _ _ _ _ FT A1 A1) A1) (@A3 _ _ _ _ _ _ _ _ Cn (@A3 _ _ _ _ _ _ _ _ B7 (@A3 _ _ _ _ _ _ _ _ Dp (pv 4) A1) A1) (@A3 _ _ _ _ _ _ _ _ FT A1 A1))) (@A3 _ _ _ _ _ _ _ _ BZ A1 (@A3 _ _ _ _ _ _ _ _ Cn (@A3 _ _ _ _ _ _ _ _ B7 (pv 4) A1) A1))) (by rfl) (by first|exact .inl rfl|exact .inr rfl|assumption))) Bb) (@A8 _ _ _ _ _ (@AY _ _ _ _ _ _ _ _ (@AA _ _ _ _ _ _ _ _ Bn (pv 2) A1 (@Am _ _ (by decide) (by decide))) (@A8 _ _ _ _ _ (@GM _ _ _ _ _ _ _ _ _ (12) _ ["_law_x","_law_sweeps_here"] [none,some 7] _ _ _ _ Di.nd rfl (Or.inl rfl) (by rfl) (@Jx _ _ _ _ _ _ (by rfl) T.z_range (@A0 _ _ _ _ _ (@AE _ _ _ _ _ _ _ _ _ AS (by rfl) T.z_len AR (@A0 _ _ _ _ _ (pv 7) A2 (by rfl)) (by decide) (by decide) (by rfl) (by rfl)) A2 (by rfl)) (by rfl)) Qq (fun _ _ _ _ _ _=>⟨(Ao (i:=0) QN rfl (Or.inl rfl)),(@Ja _ _ _ (@GN _ _ _ _ (@Ep _ _ _ (@Ah _ _ _ _ _ _ _ (show CS _ (DM K) from AG) (@Ah _ _ _ _ _ _ _ (show CS _ (Iv K) from Bg) (pv 1) (pv 0) (fun _ _=>rfl)) A1 (fun _ _=>rfl)) (by intro _;rfl)))),(pv 0)⟩) (by rfl) (by intro _;rfl) (by first|exact .inl rfl|exact .inr rfl|assumption)) (@A8 _ _ _ _ _ (@AY _ _ _ _ _ _ _ _ (@AA _ _ _ _ _ _ _ _ Em (@AE _ _ _ _ _ _ _ _ _ AS (by rfl) T.z_len AR (@A0 _ _ _ _ _ (pv 12) A2 (by rfl)) (by decide) (by decide) (by rfl) (by rfl)) A1 (@Am _ _ (by decide) (by decide))) (@Aj _ _ _ (@AX _ _ _ _ KS)) Bb) (@A8 _ _ _ _ _ (@Ai _ _ (9) _ _ _ _ Di.nd rfl (Or.inl rfl) (@Ah _ _ _ _ _ _ _ Bg (pv 12) (@A3 _ _ _ _ _ _ _ _ B7 (pv 3) (@AE _ _ _ _ _ _ _ _ _ AS (by rfl) T.z_len AR (@A0 _ _ _ _ _ (pv 12) A2 (by rfl)) (by decide) (by decide) (by rfl) (by rfl))) (fun _ _=>rfl)) (by rfl) (by first|exact .inl rfl|exact .inr rfl|assumption)) (@A8 _ _ _ _ _ (@Ai _ _ (10) _ _ _ _ Di.nd rfl (Or.inl rfl) (@Ah _ _ _ _ _ _ _ AG (@Ah _ _ _ _ _ _ _ AG (pv 8) (@Ah _ _ _ _ _ _ _ Bg (pv 12) (@A3 _ _ _ _ _ _ _ _ B7 (@A3 _ _ _ _ _ _ _ _ AB (pv 3) A1) (@AE _ _ _ _ _ _ _ _ _ AS (by rfl) T.z_len AR (@A0 _ _ _ _ _ (pv 12) A2 (by rfl)) (by decide) (by decide) (by rfl) (by rfl))) (fun _ _=>rfl)) (fun _ _=>rfl)) A1 (fun _ _=>rfl)) (by rfl) (by first|exact .inl rfl|exact .inr rfl|assumption)) (@Aj _ _ _ (@Ai _ _ (11) _ _ _ _ Di.nd rfl (Or.inl rfl) (@Ah _ _ _ _ _ _ _ AG (@Ah _ _ _ _ _ _ _ AG (pv 8) (pv 9) (fun _ _=>rfl)) A1 (fun _ _=>rfl)) (by rfl) (by first|exact .inl rfl|exact .inr rfl|assumption))))))) Bb) (@A8 _ _ _ _ _ (@AY _ _ _ _ _ _ _ _ (@AA _ _ _ _ _ _ _ _ Bn (pv 2) A1 (@Am _ _ (by decide) (by decide))) (@Aj _ _ _ (@Ai _ _ (11) _ _ _ _ Di.nd rfl (Or.inl rfl) (@A3 _ _ _ _ _ _ _ _ Cn (@A3 _ _ _ _ _ _ _ _ FT A1 A1) (@A3 _ _ _ _ _ _ _ _ BZ A1 (@A3 _ _ _ _ _ _ _ _ Cn (@A3 _ _ _ _ _ _ _ _ B7 (pv 4) A1) A1))) (by rfl) (by first|exact .inl rfl|exact .inr rfl|assumption))) Bb) (@A8 _ _ _ _ _ (@AY _ _ _ _ _ _ _ _ ((@Ei _ _ _ _ _ _ _ (@AA _ _ _ _ _ _ _ _ Bn (pv 2) A1 (@Am _ _ (by decide) (by decide))) (@EK _ _ _ _ (@Ep _ _ _ (@Ah _ _ _ _ _ _ _ AG (@Ah _ _ _ _ _ _ _ Bg (pv 7) (pv 9) (fun _ _=>rfl)) A1 (fun _ _=>rfl)) (by intro _;rfl))))).pt (@Aj _ _ _ (@Ai _ _ (10) _ _ _ _ Di.nd rfl (Or.inl rfl) (@A3 _ _ _ _ _ _ _ _ B7 (pv 4) (pv 1)) (by rfl) (by first|exact .inl rfl|exact .inr rfl|assumption))) Bb) (@Aj _ _ _ (@AX _ _ _ _ (@A3 _ _ _ _ _ _ _ _ CJ (@A3 _ _ _ _ _ _ _ _ CJ (@Bt _ _ _ _ _ _ _ _ _ _ CQ (pv 8) Bv (@Bq _ _ _ (pv 9))) (@AN _ _ _ _ _ (@A0 _ _ _ _ _ (@AN _ _ _ _ _ (@A0 _ _ _ _ _ (pv 10) (@A0 _ _ _ _ _ (pv 11) A2 (by rfl)) (by rfl))) A2 (by rfl)))) (@Bt _ _ _ _ _ _ _ _ _ _ CQ (pv 8) (@Bq _ _ _ (@A3 _ _ _ _ _ _ _ _ AB (pv 9) A1)) Bv))))))))))))))),?_⟩
 have wl:=aw.1
 have pl:=ap.1
 have wp1:=wp.1
 have wp2:=wp.2.1
 have cl:(AK b).length=b.ways.length:=by unfold AK;rw[Al]
 refine⟨_,rfl,t,_,rfl,A9.of ht,rfl,_,_,rfl,_,_,rfl,_,_,rfl,_,_,rfl,rfl,?_⟩
 dsimp only[Ag]
 refine Bk (fun σ' H'=>H'=H/\kind≠3/\σ'=[some (.ref t),some (.int (m:Int)),some (.int kind),some (.int at'),some (.int much),some (.int b.k),some (.int (b.sh:Int)),some (.ref w0),some (.ref p0),none,none,none,none]) (fun σ' H' pp=>?_) (fun nx=>?_)
 rotate_left
 .refine⟨_,rfl,rfl,_,rfl,AV (fun c=>?_) (fun c=>nx _ _ ⟨rfl,fun z=>c (Cw (congrArg V.int z)),rfl⟩)⟩
  have c:kind=3:=V.int.inj (Hm c)
  have l1:(0:Int)<(px.length:Int)+1:=by omega
  refine⟨_,rfl,_,rfl,p0,_,rfl,.inr (A9.of hp),_,_,rfl,rfl,_,_,rfl,rfl,l1,?_⟩
  have a0:=BV at' (show(px.length:Int)+1≠0 by omega)
  have a1:=BW at' l1
  dsimp only[Ag]
  obtain⟨e,he⟩:∃e:Nat,at'%((px.length:Int)+1)=(e:Int):=⟨(at'%((px.length:Int)+1)).toNat,by omega⟩
  rw[he]
  have c1:AL px none (some (e:Int))=px.take e:=DL _ (E5 _)
  have c2:AL px (some (e:Int)) none=px.drop e:=Es _ (E5 _)
  refine⟨_,rfl,_,rfl,_,rfl,p0,_,rfl,hp,fun r1 H1 e1 h1=>?_⟩
  rw[c1]at h1
  have mp:(0:Int)<if(m:Int)>1 then(m:Int) else 1:=by split<;>omega
  refine⟨_,rfl,_,rfl,_,_,rfl,_,_,rfl,rfl,mp,Af rfl,fun t1 ht1=>⟨Af rfl,fun t2 ht2=>?_⟩⟩
  have s2:=A7 ht1 (.tup [V.int (much%(if(m:Int)>1 then(m:Int) else 1)),V.int 0])
  have s3:=A7 ht2 (.tup [V.ref t1])
  have s23:=s2.trans s3
  refine⟨r1,t2,_,_,rfl,rfl,s23 _ _ h1,A5,AF (by rw[Ar,Au];omega),fun r3 H3 e3 h3=>?_⟩
  have e13:=e1.trans (s23.trans e3)
  refine⟨_,rfl,_,rfl,_,rfl,p0,_,rfl,e13 _ _ hp,fun r4 H4 e4 h4=>?_⟩
  rw[c2]at h4
  refine⟨r3,r4,_,_,rfl,rfl,e4 _ _ h3,h4,AF (by rw[Ap,Ar,Au,Ck];omega),fun r5 H5 e5 h5=>?_⟩
  have e15:=(e13.trans e4).trans e5
  have ht5:=(s3.trans (e3.trans (e4.trans e5))) _ _ (show(upd H1 t1 (.tup [V.int (much%(if(m:Int)>1 then(m:Int) else 1)),V.int 0])) t1=some _ from A5)
  have ln:(b.pl.take e++[(((much%(if(m:Int)>1 then(m:Int) else 1)),0):Int×Int)]++b.pl.drop e).length=b.pl.length+1:=by rw[Ap,Ap,Ar,Ck,Au];omega
  refine q r5 _ (b.pl.take e++[((much%(if(m:Int)>1 then(m:Int) else 1)),0)]++b.pl.drop e) e15 ⟨_,h5,?_⟩ (by omega) ⟨fun z=>absurd z (Np wp (by omega)),fun z=>by omega⟩
  exact(((ap.take e).mono fun _ _ z=>z.over e15).snoc ⟨t1,rfl,ht5⟩).app (As.drop (ap.mono fun _ _ z=>z.over e15) e)
 obtain⟨rfl,k3,rfl⟩:=pp
 refine Bk (fun σ' H2=>Aa H' H2/\b.pl≠[]/\σ'=[some (.ref t),some (.int (m:Int)),some (.int kind),some (.int at'),some (.int much),some (.int b.k),some (.int (b.sh:Int)),some (.ref w0),some (.ref p0),none,none,none,none]) (fun σ' H2 pp=>?_) (fun nx=>?_)
 rotate_left
 .refine⟨_,rfl,Af rfl,fun z hz=>?_⟩
  have sz:=A7 hz (.tup [])
  refine⟨.tup (b.pl.map Gs),.tup [],.tup (A9.of (sz _ _ hp)) (L9 (ap.mono fun _ _ z=>z.over sz)),.tup (A9.of A5) .nil,⟨_,rfl⟩,⟨_,rfl⟩,by rw[Ci];cases b.pl<;>rfl,by rw[Bu];have:=LB b.pl;omega,_,rfl,?_⟩
  cases hb:b.pl with
  |nil=>exact C8 (v:=true) (by rw[Gd,Br,BI];rfl) (C0 (qn _ sz))
  |cons p0' pl'=>exact C8 (v:=false) (by rw[C1,Br,GU (by simp)];rfl) (BH (nx _ _ ⟨sz,by rw[hb];simp,rfl⟩))
 obtain⟨e2,pne,rfl⟩:=pp
 have ppos:0<b.pl.length:=List.length_pos_iff.mpr pne
 have hp2:=e2 _ _ hp
 have hw2:=e2 _ _ hw
 have ap2:=ap.mono fun _ _ z=>z.over e2
 have aw2:=aw.mono fun _ _ z=>z.over e2
 have q2:∀(r:Addr) (H3:Hp) (ps:List (Int×Int)),Aa H2 H3->DN H3 r ps->ps.length<=7->(C9 m ps (AK b)↔11<kind)->Q (.ref r) H3:=fun r H3 ps e=>q r H3 ps (e2.trans e)
 have qn2:∀H3,Aa H2 H3->Q .non H3:=fun H3 e=>qn H3 (e2.trans e)
 clear q qn e2 hp hw ap aw ht
 have lp0:(0:Int)<(px.length:Int):=by omega
 refine⟨_,rfl,_,rfl,p0,_,rfl,.inr (A9.of hp2),_,_,rfl,rfl,lp0,?_⟩
 have a0:=BV at' (show(px.length:Int)≠0 by omega)
 have a1:=BW at' lp0
 dsimp only[Ag]
 obtain⟨e,he⟩:∃e:Nat,at'%(px.length:Int)=(e:Int):=⟨(at'%(px.length:Int)).toNat,by omega⟩
 rw[he]
 have el:e<b.pl.length:=by omega
 have hpe:b.pl[e]?=some b.pl[e]:=AH el
 have gpe:b.pl.getD e (0,0)=b.pl[e]:=by rw[Cc,hpe];rfl
 have pin:=wp.2.2.1 _ (Bf hpe)
 generalize b.pl[e]=pe at hpe gpe pin
 obtain⟨xe,hxe,te,rfl,hte⟩:=ap2.get hpe
 refine⟨_,rfl,_,rfl,p0,_,_,_,rfl,rfl,A9.of hp2,Bx hxe,te,_,rfl,A9.of hte,rfl,_,_,rfl,_,_,rfl,rfl,?_⟩
 dsimp only[Ag]
 have c1:∀e:Nat,AL px none (some (e:Int))=px.take e:=fun e=>DL _ (E5 _)
 have c2:∀e:Nat,AL px (some ((e:Int)+1)) none=px.drop (e+1):=fun e=>by rw[show AL px (some ((e:Int)+1)) none=px.drop ((e:Int)+1).toNat from Es _ (by omega),show((e:Int)+1).toNat=e+1 by omega]
 have fin:∀(e:Nat) (lp sh:Int) (H3:Hp) (σ:St),e<b.pl.length->σ[8]?=some (some (.ref p0))->σ[9]?=some (some (.int (e:Int)))->σ[10]?=some (some (.int lp))->σ[11]?=some (some (.int sh))->Aa H2 H3->(C9 m (Az b.pl e (lp,sh)) (AK b)↔11<kind)->
   Ft LA (Ft LA (Lh Kr (Fk 8) KH (Ke (Fk 9))) (Jq (GS (Jq (GS (Fk 10) (GS (Fk 11) IE))) IE))) (Lh Kr (Fk 8) (Ke (Ft (Fc fun i j=>V.int (i+j)) (Fk 9) (tC (V.int 1)))) KH) σ H3 fun v H=>Q v H:=fun e lp sh H3 σ el h8 h9 h10 h11 e3 hw=>by
  refine⟨_,h8,_,h9,_,rfl,p0,_,rfl,e3 _ _ hp2,fun r1 H4 e4 h4=>?_⟩
  rw[c1]at h4
  refine⟨_,h10,_,h11,Af rfl,fun t1 ht1=>⟨Af rfl,fun t2 ht2=>?_⟩⟩
  have s2:=A7 ht1 (.tup [V.int lp,V.int sh])
  have s3:=A7 ht2 (.tup [V.ref t1])
  have s23:=s2.trans s3
  refine⟨r1,t2,_,_,rfl,rfl,s23 _ _ h4,A5,AF (by rw[Ar,Au];omega),fun r5 H5 e5 h5=>?_⟩
  have e35:=(e3.trans e4).trans (s23.trans e5)
  refine⟨_,h8,_,h9,_,_,rfl,rfl,_,rfl,p0,_,rfl,e35 _ _ hp2,fun r6 H6 e6 h6=>?_⟩
  rw[c2]at h6
  refine⟨r5,r6,_,_,rfl,rfl,e6 _ _ h5,h6,AF (by rw[Ap,Ar,Au,Ck];omega),fun r7 H7 e7 h7=>?_⟩
  have e37:=(e35.trans e6).trans e7
  have ht7:=(s3.trans (e5.trans (e6.trans e7))) _ _ (show(upd H4 t1 (.tup [V.int lp,V.int sh])) t1=some _ from A5)
  refine q2 r7 _ (Az b.pl e (lp,sh)) e37 ⟨_,h7,?_⟩ (by rw[EM el];omega) hw
  unfold Az
  exact(((ap2.take e).mono fun _ _ z=>z.over e37).snoc ⟨t1,rfl,ht7⟩).app (As.drop (ap2.mono fun _ _ z=>z.over e37) (e+1))
 have kne:∀{n:Int},¬decide (V.int kind=V.int n)=true->kind≠n:=fun h z=>h (Cw (congrArg V.int z))
 have keq:∀{n:Int},decide (V.int kind=V.int n)=true->kind=n:=fun h=>V.int.inj (Hm h)
 have p18:(10:Int) ^ (18:Int).toNat=1000000000000000000:=by decide
 have p6:(10:Int) ^ (6:Int).toNat=1000000:=by decide
 have u3:=BV much (show(3:Int)≠0 by decide)
 have v3:=BW much (show(0:Int)<3 by decide)
 have u2:=BV much (show(2:Int)≠0 by decide)
 have v2:=BW much (show(0:Int)<2 by decide)
 refine Bk (fun σ' H3=>H3=H2/\kind≠4/\σ'=[some (.ref t),some (.int (m:Int)),some (.int kind),some (.int at'),some (.int much),some (.int b.k),some (.int (b.sh:Int)),some (.ref w0),some (.ref p0),some (.int (e:Int)),some (.int pe.1),some (.int pe.2),none]) (fun σ' H3 pp=>?_) (fun nx=>?_)
 rotate_left
 .refine⟨_,rfl,rfl,_,rfl,AV (fun c=>?_) (fun c=>nx _ _ ⟨rfl,kne c,rfl⟩)⟩
  have c:=keq c
  refine⟨_,rfl,_,rfl,_,rfl,p0,_,rfl,hp2,fun r1 H1 e1 h1=>?_⟩
  rw[c1]at h1
  refine⟨_,rfl,_,rfl,_,_,rfl,rfl,_,rfl,p0,_,rfl,e1 _ _ hp2,fun r3 H3 e3 h3=>?_⟩
  rw[c2]at h3
  refine⟨r1,r3,_,_,rfl,rfl,e3 _ _ h1,h3,AF (by rw[Ar,Ck];omega),fun r4 H4 e4 h4=>?_⟩
  have e14:=(e1.trans e3).trans e4
  have ln:(b.pl.take e++b.pl.drop (e+1)).length=b.pl.length-1:=by rw[Ap,Ar,Ck];omega
  exact q2 r4 _ (b.pl.take e++b.pl.drop (e+1)) e14 ⟨_,h4,((ap2.take e).mono fun _ _ z=>z.over e14).app (As.drop (ap2.mono fun _ _ z=>z.over e14) (e+1))⟩ (by omega) ⟨fun z=>absurd z (Np wp (by omega)),fun z=>by omega⟩
 obtain⟨rfl,k4,rfl⟩:=pp
 refine Bk (fun σ' H4=>∃lp:Int,Aa H3 H4/\(kind=5->lp<0\/(m:Int)<=lp)/\(kind≠5->lp=pe.1)/\σ'=[some (.ref t),some (.int (m:Int)),some (.int kind),some (.int at'),some (.int much),some (.int b.k),some (.int (b.sh:Int)),some (.ref w0),some (.ref p0),some (.int (e:Int)),some (.int lp),some (.int pe.2),none]) (fun σ' H4 pp=>?_) (fun nx=>?_)
 rotate_left
 .refine⟨_,rfl,rfl,_,rfl,AV (fun c=>?_) (fun c=>nx _ _ ⟨pe.1,Aa.refl _,fun z=>absurd z (kne c),fun _=>rfl,rfl⟩)⟩
  have c:=keq c
  refine⟨_,rfl,_,rfl,_,_,rfl,rfl,(by show(0:Int)<3;decide),_,_,rfl,rfl,_,_,rfl,rfl,_,rfl,_,_,rfl,rfl,(by show(0:Int)<3;decide),_,_,rfl,rfl,_,_,rfl,rfl,⟨by decide,by decide,by decide⟩,Af rfl,fun l hl=>?_⟩
  obtain⟨z,hz,ez⟩:=Ou (L:=[(m:Int)+much%3,0-1-much%3,10 ^ (18:Int).toNat]) (i:=much/3%3) 3 rfl (BV _ (by decide)) (BW _ (by decide))
  simp only[Bw,He,or_false]at hz
  exact⟨_,rfl,_,_,rfl,rfl,⟨by decide,by decide⟩,_,_,rfl,rfl,(by show(0:Int)<3;decide),l,_,_,_,rfl,rfl,A4.of A5,ez,nx _ _ ⟨z,A7 hl _,fun _=>by omega,fun y=>absurd c y,rfl⟩⟩
 obtain⟨lp,e4,l5,l5',rfl⟩:=pp
 refine Bk (fun σ' H5=>∃sh:Int,H5=H4/\(kind=6->sh < -1000000000000000000\/1000000000000000000<sh)/\(kind≠6->sh=pe.2)/\σ'=[some (.ref t),some (.int (m:Int)),some (.int kind),some (.int at'),some (.int much),some (.int b.k),some (.int (b.sh:Int)),some (.ref w0),some (.ref p0),some (.int (e:Int)),some (.int lp),some (.int sh),none]) (fun σ' H5 pp=>?_) (fun nx=>?_)
 rotate_left
 .refine⟨_,rfl,rfl,_,rfl,AV (fun c=>?_) (fun c=>nx _ _ ⟨pe.2,rfl,fun z=>absurd z (kne c),fun _=>rfl,rfl⟩)⟩
  have c:=keq c
  have w1:=BV (much/2) (show(3:Int)≠0 by decide)
  have w2:=BW (much/2) (show(0:Int)<3 by decide)
  refine⟨_,_,rfl,rfl,⟨by decide,by decide,by decide⟩,_,_,rfl,rfl,_,rfl,_,_,rfl,rfl,⟨by decide,by decide⟩,_,_,rfl,rfl,(by show(0:Int)<3;decide),_,_,rfl,rfl,⟨by decide,by decide,by decide⟩,_,_,rfl,rfl,.inr ⟨by decide,by decide⟩,_,_,rfl,rfl,_,rfl,_,_,rfl,rfl,(by show(0:Int)<2;decide),_,_,rfl,rfl,.inr ⟨by decide,by decide⟩,_,_,rfl,rfl,_,_,rfl,rfl,.inl ⟨by rw[p18,p6];omega,by rw[p18,p6];omega⟩,nx _ _ ⟨(10 ^ (18:Int).toNat+1+much/2%3*10 ^ (6:Int).toNat)*(1-much%2*2),rfl,fun _=>?_,fun y=>absurd c y,rfl⟩⟩
  rw[p18,p6]
  have:much%2=0\/much%2=1:=by omega
  rcases this with z|z<;>rw[z]<;>omega
 obtain⟨sh,rfl,s6,s6',rfl⟩:=pp
 have way:∀x:Nat,x<b.ways.length->∃(tw:Addr) (wy:B1),b.ways[x]?=some wy/\wx[x]?=some (.ref tw)/\H3 tw=some (.tup [.bl wy.1,.str wy.2])/\(AK b).getD x false=wy.1:=fun x hx=>by
  have h1:b.ways[x]?=some b.ways[x]:=AH hx
  obtain⟨v,hv,tw,rfl,htw⟩:=aw2.get h1
  refine⟨tw,_,h1,hv,htw,?_⟩
  unfold AK
  rw[Cc,C3,h1]
  rfl
 refine Bk (fun σ' H6=>∃(f1:Nat) (lp1 sh1:Int) (o:Option V),Aa H5 H6/\f1<b.pl.length/\(kind=7->¬C9 m (Az b.pl f1 (lp1,sh1)) (AK b))/\(kind≠7->f1=e/\lp1=lp/\sh1=sh)/\σ'=[some (.ref t),some (.int (m:Int)),some (.int kind),some (.int at'),some (.int much),some (.int b.k),some (.int (b.sh:Int)),some (.ref w0),some (.ref p0),some (.int (f1:Int)),some (.int lp1),some (.int sh1),o]) (fun σ' H6 pp=>?_) (fun nx=>?_)
 rotate_left
 .refine⟨_,rfl,rfl,_,rfl,AV (fun c=>?_) (fun c=>nx _ _ ⟨e,lp,sh,_,Aa.refl _,el,fun z=>absurd z (kne c),fun _=>⟨rfl,rfl,rfl⟩,rfl⟩)⟩
  have c:=keq c
  have hw5:=e4 _ _ hw2
  have hp5:=e4 _ _ hp2
  refine⟨_,rfl,w0,_,rfl,.inl (A4.of hw5),_,rfl,by omega,by omega,?_⟩
  rw[show((wx.length:Int)).toNat=b.ways.length by omega]
  refine L4 (lo:=0) (n:=b.ways.length) (fun i zs H'=>H'=H5/\zs=(((List.range i).filter fun x=>!((AK b).getD x false)).map fun n:Nat=>(n:Int)).map V.int) ⟨rfl,rfl⟩ (AF (by omega)) (fun i zs H' hi pp=>by rw[pp.2,Al,Al];have:=List.length_filter_le (fun x=>!((AK b).getD x false)) (List.range i);rw[IT]at this;exact this) (fun i zs H' hi pp=>?_) (fun zs H' pp wh hwh=>?_)
  .obtain⟨rfl,rfl⟩:=pp
   obtain⟨tw,wy,g1,g2,g3,g4⟩:=way i hi
   have gn:(List.range (i+1)).filter (fun x=>!((AK b).getD x false))=(List.range i).filter (fun x=>!((AK b).getD x false))++(if wy.1 then[] else[i]):=by
    rw[LU,List.filter_append,List.filter_cons,g4]
    cases wy.1<;>rfl
   rw[gn,M4]
   refine⟨_,rfl,_,rfl,w0,_,_,_,rfl,rfl,A4.of hw5,Bx g2,tw,_,0,_,rfl,rfl,A9.of (e4 _ _ g3),rfl,_,rfl,?_⟩
   cases wy.1 with
   |true=>exact BH ⟨rfl,by rw[AW rfl,EA]⟩
   |false=>exact C0 ⟨_,rfl,rfl,by rw[AQ (by decide),B8,B8];rfl⟩
  obtain⟨rfl,rfl⟩:=pp
  have ewi:(List.range b.ways.length).filter (fun x=>!((AK b).getD x false))=Bp (AK b):=by unfold Bp;rw[cl]
  rw[ewi]
  have wlen:(Bp (AK b)).length<=6:=by
   have:=List.length_filter_le (fun x=>!((AK b).getD x false)) (List.range (AK b).length)
   rw[IT]at this
   show((List.range (AK b).length).filter _).length<=6
   omega
  have s6:=A7 hwh (.lst (((Bp (AK b)).map fun n:Nat=>(n:Int)).map V.int))
  have hwh6:(upd H' wh (.lst (((Bp (AK b)).map fun n:Nat=>(n:Int)).map V.int))) wh=some (.lst (((Bp (AK b)).map fun n:Nat=>(n:Int)).map V.int)):=A5
  dsimp only[Ag]
  generalize upd H' wh (.lst (((Bp (AK b)).map fun n:Nat=>(n:Int)).map V.int))=H7 at s6 hwh6
  have wln:((((Bp (AK b)).map fun n:Nat=>(n:Int)).map V.int).length:Int)=((Bp (AK b)).length:Int):=by rw[Al,Al]
  refine⟨_,rfl,wh,_,rfl,.inl (A4.of hwh6),_,_,rfl,rfl,_,rfl,AV (fun _=>qn2 _ (e4.trans s6)) (fun cw=>?_)⟩
  have cw:=dF cw
  rw[wln]at cw
  have W2:2<=(Bp (AK b)).length:=by omega
  have wpos:(0:Int)<((((Bp (AK b)).map fun n:Nat=>(n:Int)).map V.int).length:Int):=by rw[wln];omega
  have pick:∀z:Int,∃(i:Nat) (f:Nat),z%((((Bp (AK b)).map fun n:Nat=>(n:Int)).map V.int).length:Int)=(i:Int)/\(Bp (AK b))[i]?=some f/\C6 (((Bp (AK b)).map fun n:Nat=>(n:Int)).map V.int) (z%((((Bp (AK b)).map fun n:Nat=>(n:Int)).map V.int).length:Int))=some (.int (f:Int))/\f<b.pl.length:=fun z=>by
   have z0:=BV z (show((((Bp (AK b)).map fun n:Nat=>(n:Int)).map V.int).length:Int)≠0 by omega)
   have z1:=BW z wpos
   obtain⟨i,hi⟩:∃i:Nat,z%((((Bp (AK b)).map fun n:Nat=>(n:Int)).map V.int).length:Int)=(i:Int):=⟨(z%((((Bp (AK b)).map fun n:Nat=>(n:Int)).map V.int).length:Int)).toNat,by omega⟩
   have il:i<(Bp (AK b)).length:=by rw[wln]at z1 hi;omega
   have hg:(Bp (AK b))[i]?=some (Bp (AK b))[i]:=AH il
   refine⟨i,_,hi,hg,?_,?_⟩
   .rw[hi]
    exact Bx (by rw[C3,C3,hg];rfl)
   .have:=Kj (Bf hg)
    omega
  obtain⟨i1,f1,m1,g1,a1',b1⟩:=pick at'
  obtain⟨i2,f2,m2,g2,a2',b2⟩:=pick (at'+1)
  have i12:i1≠i2:=fun z=>by
   rw[wln]at m1 m2
   have:(Bp (AK b)).length=2\/(Bp (AK b)).length=3\/(Bp (AK b)).length=4\/(Bp (AK b)).length=5\/(Bp (AK b)).length=6:=by omega
   rcases this with y|y|y|y|y<;>rw[y]at m1 m2<;>omega
  have pl5:∀x:Nat,x<b.pl.length->∃(tp:Addr) (pp:Int×Int),b.pl[x]?=some pp/\px[x]?=some (.ref tp)/\H7 tp=some (.tup [.int pp.1,.int pp.2]):=fun x hx=>by
   have h1:b.pl[x]?=some b.pl[x]:=AH hx
   obtain⟨v,hv,tp,rfl,htp⟩:=ap2.get h1
   exact⟨tp,_,h1,hv,s6 _ _ (e4 _ _ htp)⟩
  obtain⟨tp1,pp1,k1,k2,k3'⟩:=pl5 f1 b1
  obtain⟨tp2,pp2,n1,n2,n3⟩:=pl5 f2 b2
  have hp7:=s6 _ _ hp5
  refine⟨_,rfl,_,rfl,_,rfl,wh,_,rfl,.inl (A4.of hwh6),_,_,rfl,rfl,wpos,wh,_,_,_,rfl,rfl,A4.of hwh6,a1',?_⟩
  dsimp only[Ag]
  refine⟨_,rfl,_,rfl,_,rfl,_,_,rfl,rfl,_,rfl,wh,_,rfl,.inl (A4.of hwh6),_,_,rfl,rfl,wpos,wh,_,_,_,rfl,rfl,A4.of hwh6,a2',p0,_,_,_,rfl,rfl,A9.of hp7,Bx n2,tp2,_,0,_,rfl,rfl,A9.of n3,rfl,?_⟩
  dsimp only[Ag]
  refine⟨_,rfl,_,rfl,p0,_,_,_,rfl,rfl,A9.of hp7,Bx k2,tp1,_,1,_,rfl,rfl,A9.of k3',rfl,?_⟩
  refine nx _ _ ⟨f1,pp2.1,pp1.2,_,s6,b1,fun _=>Rp wp g1 g2 i12 ?_,fun y=>absurd c y,rfl⟩
  rw[Cc,n1]
  rfl
 obtain⟨f1,lp1,sh1,o7,e6,f1l,ill7,same7,rfl⟩:=pp
 refine Bk (fun σ' H7=>∃sh2:Int,H7=H6/\(kind=12->-1000000000000000000<=sh2/\sh2<=1000000000000000000)/\(kind≠12->sh2=sh1)/\σ'=[some (.ref t),some (.int (m:Int)),some (.int kind),some (.int at'),some (.int much),some (.int b.k),some (.int (b.sh:Int)),some (.ref w0),some (.ref p0),some (.int (f1:Int)),some (.int lp1),some (.int sh2),o7]) (fun σ' H7 pp=>?_) (fun nx=>?_)
 rotate_left
 .refine⟨_,rfl,rfl,_,rfl,AV (fun c=>?_) (fun c=>nx _ _ ⟨sh1,rfl,fun z=>absurd z (kne c),fun _=>rfl,rfl⟩)⟩
  have c:=keq c
  refine⟨_,_,rfl,rfl,⟨by decide,by decide,by decide⟩,_,rfl,_,_,rfl,rfl,(by show(0:Int)<2;decide),_,_,rfl,rfl,.inr ⟨by decide,by decide⟩,_,_,rfl,rfl,_,_,rfl,rfl,.inl ⟨by decide,by decide⟩,nx _ _ ⟨10 ^ (18:Int).toNat*(1-much%2*2),rfl,fun _=>by rw[p18];omega,fun y=>absurd c y,rfl⟩⟩
 obtain⟨sh2,rfl,s12,s12',rfl⟩:=pp
 have mpos:0<m:=by have:=pin.1;have:=pin.2.1;omega
 refine Bk (fun σ' H8=>∃lp2:Int,H8=H7/\(lp2=lp1\/(kind=13/\(AK b).getD f1 false=true/\0<=lp2/\lp2<(m:Int)))/\σ'=[some (.ref t),some (.int (m:Int)),some (.int kind),some (.int at'),some (.int much),some (.int b.k),some (.int (b.sh:Int)),some (.ref w0),some (.ref p0),some (.int (f1:Int)),some (.int lp2),some (.int sh2),o7]) (fun σ' H8 pp=>?_) (fun nx=>?_)
 rotate_left
 .refine⟨_,rfl,rfl,_,rfl,AV (fun c=>?_) (fun c=>BH (nx _ _ ⟨lp1,rfl,.inl rfl,rfl⟩))⟩
  have c:=keq c
  obtain⟨tw,wy,g1,g2,g3,g4⟩:=way f1 (by omega)
  refine⟨_,rfl,_,rfl,w0,_,_,_,rfl,rfl,A4.of ((e4.trans e6) _ _ hw2),Bx g2,tw,_,0,_,rfl,rfl,A9.of ((e4.trans e6) _ _ g3),rfl,_,rfl,?_⟩
  cases hwy:wy.1 with
  |false=>exact BH (nx _ _ ⟨lp1,rfl,.inl rfl,rfl⟩)
  |
   true=>
   refine C0 ⟨_,rfl,_,rfl,_,_,rfl,rfl,(by show(0:Int)<(m:Int);omega),nx _ _ ⟨much%(m:Int),rfl,.inr ⟨c,by rw[g4];exact hwy,BV _ (by omega),BW _ (by omega)⟩,rfl⟩⟩
 obtain⟨lp2,rfl,h13,rfl⟩:=pp
 refine fin f1 lp2 sh2 _ _ f1l rfl rfl rfl rfl (e4.trans e6) ?_
 have lpe:∀{n:Int},kind=n->n≠13->lp2=lp1:=fun h1 h2=>by
  rcases h13 with z|z
  .exact z
  .exact absurd (h1.symm.trans z.1) h2
 rcases hk with c|c|c|c|c|c|c
 .exact absurd c k3
 .exact absurd c k4
 .refine⟨fun z=>absurd z (MM fun y=>?_),fun z=>by omega⟩
  have x1:=lpe c (by decide)
  obtain⟨_,x2,_⟩:=same7 (by omega)
  have x3:=l5 c
  have y1:=y.1
  have y2:=y.2.1
  simp only at y1 y2
  omega
 .refine⟨fun z=>absurd z (MM fun y=>?_),fun z=>by omega⟩
  obtain⟨_,_,x2⟩:=same7 (by omega)
  have x1:=s12' (by omega)
  have x3:=s6 c
  have y1:=y.2.2.1
  have y2:=y.2.2.2
  simp only at y1 y2
  omega
 .have x1:=lpe c (by decide)
  have x2:=s12' (by omega)
  rw[x1,x2]
  exact⟨fun z=>absurd z (ill7 c),fun z=>by omega⟩
 .refine⟨fun _=>by omega,fun _=>?_⟩
  obtain⟨x1,x2,x3⟩:=same7 (by omega)
  have x4:=lpe c (by decide)
  have x5:=l5' (by omega)
  have x6:=s12 c
  have y1:=pin.1
  have y2:=pin.2.1
  rw[x1]
  exact KF wp el ⟨by show 0<=lp2;omega,by show lp2<_;omega,x6.1,x6.2⟩ (fun _=>by rw[gpe];show lp2=pe.1;omega)
 .refine⟨fun _=>by omega,fun _=>?_⟩
  obtain⟨x1,x2,x3⟩:=same7 (by omega)
  have x5:=l5' (by omega)
  have x6:=s12' (by omega)
  have x7:=s6' (by omega)
  have y1:=pin.1
  have y2:=pin.2.1
  have y3:=pin.2.2.1
  have y4:=pin.2.2.2
  rw[x1]at h13 ⊢
  rcases h13 with z|⟨_,z1,z2,z3⟩
  .exact KF wp el ⟨by show 0<=lp2;omega,by show lp2<_;omega,by show _<=sh2;omega,by show sh2<=_;omega⟩ (fun _=>by rw[gpe];show lp2=pe.1;omega)
  .exact KF wp el ⟨z2,z3,by show _<=sh2;omega,by show sh2<=_;omega⟩ (fun y=>by rw[z1]at y;cases y)
theorem QX (T:Tx K mg a):Bz P w K mg base BS 2 a.f_l_spoilt a.d_l_spoilt ["_law_leaves_here","_law_depths","_law_kind","_law_n","_law_at_here","_law_much"] SA:=by
 have G_l_without:=RN (P:=P) (w:=w) (base:=base) T
 have G_l_spoilt_places:=Sf (P:=P) (w:=w) (base:=base) T
 refine T.F_l_spoilt.ok F6 (fun vs H Q E h=>?_) (fun cdv A outer s H vs Q E hr h=>?_)
 .obtain⟨_,_,_,_,_,_,_,_,rfl,_⟩:=h;rfl
 obtain⟨l,dl,B,D,kind,n,at',much,rfl,⟨xs,hl,ax⟩,hdl,lv,hD,Bl,nl,k0,k13,k10,at0,mu0,q⟩:=h
 refine⟨_,(@A8 _ _ _ _ _ (@DK _ _ _ _ _ _ (@Ah _ _ _ _ _ _ _ Bg (pv 0) (pv 3) (fun _ _=>rfl)) (Du rfl (Av (Ao (i:=6) F6.nd rfl (Or.inr rfl)) (Av (Ao (i:=7) F6.nd rfl (Or.inl rfl)) (Av (Ao (i:=8) F6.nd rfl (Or.inl rfl)) (Av (Ao (i:=9) F6.nd rfl (Or.inl rfl)) Cr))))) (by rfl) (by rfl) (by rfl)) (@A8 _ _ _ _ _ (@AY _ _ _ _ _ _ _ _ (@AA _ _ _ _ _ _ _ _ Bn (pv 2) A1 (@Am _ _ (by decide) (by decide))) (@Aj _ _ _ (@AX _ _ _ _ (@A3 _ _ _ _ _ _ _ _ CH (pv 0) (@BU _ _ _ _ (@A0 _ _ _ _ _ (@Cq _ _ _ _ _ (@Ae _ _ _ _ _ (pv 6) (@Ae _ _ _ _ _ A1 (@Ae _ _ _ _ _ (pv 8) (@Ae _ _ _ _ _ (pv 9) BF Bi) Bi) B3) Bi)) A2 (by rfl)))))) Bb) (@A8 _ _ _ _ _ (@AY _ _ _ _ _ _ _ _ (@AA _ _ _ _ _ _ _ _ Bn (pv 2) A1 (@Am _ _ (by decide) (by decide))) (@Aj _ _ _ (@AX _ _ _ _ (@A3 _ _ _ _ _ _ _ _ CH (@A3 _ _ _ _ _ _ _ _ CH (@Bt _ _ _ _ _ _ _ _ _ _ CT (pv 0) Bv (@Bq _ _ _ (@A3 _ _ _ _ _ _ _ _ AB (pv 3) A1))) (@BU _ _ _ _ (@A0 _ _ _ _ _ (@Cq _ _ _ _ _ (@Ae _ _ _ _ _ (pv 6) (@Ae _ _ _ _ _ (@AE _ _ _ _ _ _ _ _ _ AS (by rfl) T.z_len AR (@A0 _ _ _ _ _ (pv 8) A2 (by rfl)) (by decide) (by decide) (by rfl) (by rfl)) (@Ae _ _ _ _ _ (pv 8) (@Ae _ _ _ _ _ (pv 9) BF Bi) Bi) Ik) Bi)) A2 (by rfl)))) (@Bt _ _ _ _ _ _ _ _ _ _ CT (pv 0) (@Bq _ _ _ (@A3 _ _ _ _ _ _ _ _ AB (pv 3) A1)) Bv)))) Bb) (@A8 _ _ _ _ _ (@AY _ _ _ _ _ _ _ _ (@AA _ _ _ _ _ _ _ _ Bn (pv 2) A1 (@Am _ _ (by decide) (by decide))) (@A8 _ _ _ _ _ (@Ai _ _ (10) _ _ _ _ F6.nd rfl (Or.inl rfl) (@A3 _ _ _ _ _ _ _ _ CH (@BU _ _ _ _ (@A0 _ _ _ _ _ (@A3 _ _ _ _ _ _ _ _ AB (@AE _ _ _ _ _ _ _ _ _ AS (by rfl) T.z_len AR (@A0 _ _ _ _ _ (pv 0) A2 (by rfl)) (by decide) (by decide) (by rfl) (by rfl)) (@A3 _ _ _ _ _ _ _ _ B7 (pv 5) A1)) (@A0 _ _ _ _ _ (@A3 _ _ _ _ _ _ _ _ BZ (@A3 _ _ _ _ _ _ _ _ BZ A1 A1) (@A3 _ _ _ _ _ _ _ _ B7 (pv 5) A1)) A2 (by rfl)) (by rfl))) (@Fz _ _ _ _ _ _ _ ["_law_leaf","_law_k"] [none,some 6] _ _ _ _ (by rfl) (@Eg _ _ _ _ (pv 0)) Sh (fun _ _ _ _ _ _=>⟨(Ao (i:=0) Rq rfl (Or.inl rfl)),(@Ja _ _ _ (@AA _ _ _ _ _ _ _ _ N7 (@Ah _ _ _ _ _ _ _ (show CS _ (DM K) from AG) (pv 0) A1 (fun _ _=>rfl)) (pv 1) (@Am _ _ (by decide) (by decide)))),(@Ah _ _ _ _ _ _ _ (show CS _ (DM K) from AG) (pv 0) A1 (fun _ _=>rfl))⟩) (by intro _;rfl))) (by rfl) (by first|exact .inl rfl|exact .inr rfl|assumption)) (@Aj _ _ _ (@AX _ _ _ _ (@A3 _ _ _ _ _ _ _ _ CH (@A3 _ _ _ _ _ _ _ _ CH (@Bt _ _ _ _ _ _ _ _ _ _ CT (pv 0) Bv (@Bq _ _ _ (pv 3))) (@BU _ _ _ _ (@A0 _ _ _ _ _ (@Cq _ _ _ _ _ (@Ae _ _ _ _ _ (@Ah _ _ _ _ _ _ _ Bg (pv 10) (@A3 _ _ _ _ _ _ _ _ B7 (@A3 _ _ _ _ _ _ _ _ Dp (pv 5) A1) (@AE _ _ _ _ _ _ _ _ _ AS (by rfl) T.z_len AR (@A0 _ _ _ _ _ (pv 10) A2 (by rfl)) (by decide) (by decide) (by rfl) (by rfl))) (fun _ _=>rfl)) (@Ae _ _ _ _ _ (pv 7) (@Ae _ _ _ _ _ (pv 8) (@Ae _ _ _ _ _ (pv 9) BF Bi) Bi) Bi) EI)) A2 (by rfl)))) (@Bt _ _ _ _ _ _ _ _ _ _ CT (pv 0) (@Bq _ _ _ (@A3 _ _ _ _ _ _ _ _ AB (pv 3) A1)) Bv))))) Bb) (@A8 _ _ _ _ _ (@AY _ _ _ _ _ _ _ _ ((@Ei _ _ _ _ _ _ _ (@AA _ _ _ _ _ _ _ _ Bn (pv 2) A1 (@Am _ _ (by decide) (by decide))) (@EK _ _ _ _ (@AA _ _ _ _ _ _ _ _ CW (@AE _ _ _ _ _ _ _ _ _ AS (by rfl) T.z_len AR (@A0 _ _ _ _ _ (pv 8) A2 (by rfl)) (by decide) (by decide) (by rfl) (by rfl)) (pv 7) (@Am _ _ (by decide) (by decide)))))).pt (@A8 _ _ _ _ _ (@Ai _ _ (11) _ _ _ _ F6.nd rfl (Or.inl rfl) (@A3 _ _ _ _ _ _ _ _ AB (pv 7) (@A3 _ _ _ _ _ _ _ _ B7 (pv 4) (@A3 _ _ _ _ _ _ _ _ BZ (@AE _ _ _ _ _ _ _ _ _ AS (by rfl) T.z_len AR (@A0 _ _ _ _ _ (pv 8) A2 (by rfl)) (by decide) (by decide) (by rfl) (by rfl)) (pv 7)))) (by rfl) (by first|exact .inl rfl|exact .inr rfl|assumption)) (@A8 _ _ _ _ _ (@Ai _ _ (8) _ _ _ _ F6.nd rfl (Or.inl rfl) (@A3 _ _ _ _ _ _ _ _ CH (@A3 _ _ _ _ _ _ _ _ CH (@Bt _ _ _ _ _ _ _ _ _ _ CT (pv 8) Bv (@Bq _ _ _ (pv 11))) (@BU _ _ _ _ (@A0 _ _ _ _ _ (@AN _ _ _ _ _ (@A0 _ _ _ _ _ (@KY _ _ _ _ (@Ah _ _ _ _ _ _ _ AG (@Ah _ _ _ _ _ _ _ Bg (pv 8) (pv 11) (fun _ _=>rfl)) A1 (fun _ _=>rfl))) (@A0 _ _ _ _ _ (@Ah _ _ _ _ _ _ _ AG (@Ah _ _ _ _ _ _ _ Bg (pv 8) (pv 11) (fun _ _=>rfl)) A1 (fun _ _=>rfl)) A2 (by rfl)) (by rfl))) A2 (by rfl)))) (@Bt _ _ _ _ _ _ _ _ _ _ CT (pv 8) (@Bq _ _ _ (@A3 _ _ _ _ _ _ _ _ AB (pv 11) A1)) Bv)) (by rfl) (by first|exact .inl rfl|exact .inr rfl|assumption)) (@Aj _ _ _ (@AX _ _ _ _ (@A3 _ _ _ _ _ _ _ _ CH (@A3 _ _ _ _ _ _ _ _ CH (@Bt _ _ _ _ _ _ _ _ _ _ CT (pv 0) Bv (@Bq _ _ _ (pv 3))) (@BU _ _ _ _ (@A0 _ _ _ _ _ (@Cq _ _ _ _ _ (@Ae _ _ _ _ _ (pv 6) (@Ae _ _ _ _ _ (pv 7) (@Ae _ _ _ _ _ (pv 8) (@Ae _ _ _ _ _ (pv 9) BF Bi) Bi) Bi) Bi)) A2 (by rfl)))) (@Bt _ _ _ _ _ _ _ _ _ _ CT (pv 0) (@Bq _ _ _ (@A3 _ _ _ _ _ _ _ _ AB (pv 3) A1)) Bv)))))) Bb) (@A8 _ _ _ _ _ (@AY _ _ _ _ _ _ _ _ ((@GX _ _ _ _ _ _ _ ((@Ei _ _ _ _ _ _ _ (@AA _ _ _ _ _ _ _ _ CW (pv 2) A1 (@Am _ _ (by decide) (by decide))) (@EK _ _ _ _ (@AA _ _ _ _ _ _ _ _ Em (pv 2) A1 (@Am _ _ (by decide) (by decide)))))).pt (@Hv _ _ _ _ (@AA _ _ _ _ _ _ _ _ CW (pv 2) A1 (@Am _ _ (by decide) (by decide)))))).pt (@A8 _ _ _ _ _ (@Ai _ _ (12) _ _ _ _ F6.nd rfl (Or.inl rfl) (@AJ _ _ _ _ _ _ _ _ _ _ _ _ _ _ _ _ G_l_spoilt_places (hr.mono (by omega)) (by rfl) T.m_l_spoilt_places T.F_l_spoilt_places.kp T.b_l_spoilt_places .nil AD (@A0 _ _ _ _ _ (@Ah _ _ _ _ _ _ _ Bg (pv 0) (pv 3) (fun _ _=>rfl)) (@A0 _ _ _ _ _ (@Ah _ _ _ _ _ _ _ Bg (pv 1) (pv 6) (fun _ _=>rfl)) (@A0 _ _ _ _ _ (pv 2) (@A0 _ _ _ _ _ (pv 4) (@A0 _ _ _ _ _ (pv 5) A2 (by rfl)) (by rfl)) (by rfl)) (by rfl)) (by rfl)) (by decide) (by rfl) (by rfl)) (by rfl) (by first|exact .inl rfl|exact .inr rfl|assumption)) (@A8 _ _ _ _ _ (@AY _ _ _ _ _ _ _ _ (@AA _ _ _ _ _ _ _ _ Q6 (pv 12) KS (@Am _ _ (by decide) (by decide))) (@Aj _ _ _ (@AX _ _ _ _ (@A3 _ _ _ _ _ _ _ _ CH (@A3 _ _ _ _ _ _ _ _ CH (@Bt _ _ _ _ _ _ _ _ _ _ CT (pv 0) Bv (@Bq _ _ _ (pv 3))) (@BU _ _ _ _ (@A0 _ _ _ _ _ (@Cq _ _ _ _ _ (@Ae _ _ _ _ _ (pv 6) (@Ae _ _ _ _ _ (pv 7) (@Ae _ _ _ _ _ (pv 8) (@Ae _ _ _ _ _ (pv 12) BF Bi) Bi) Bi) Bi)) A2 (by rfl)))) (@Bt _ _ _ _ _ _ _ _ _ _ CT (pv 0) (@Bq _ _ _ (@A3 _ _ _ _ _ _ _ _ AB (pv 3) A1)) Bv)))) Bb) (@Aj _ _ _ (@AY _ _ _ _ _ _ _ _ (@AA _ _ _ _ _ _ _ _ CW (pv 2) A1 (@Am _ _ (by decide) (by decide))) (@Aj _ _ _ (@AX _ _ _ _ (pv 0))) Bb)))) Bb) (@Aj _ _ _ (@AX _ _ _ _ (@AJ _ _ _ _ _ _ _ _ _ _ _ _ _ _ _ _ G_l_without (hr.mono (by omega)) (by rfl) T.m_l_without T.F_l_without.kp T.b_l_without .nil AD (@A0 _ _ _ _ _ (pv 0) (@A0 _ _ _ _ _ (pv 3) A2 (by rfl)) (by rfl)) (by decide) (by rfl) (by rfl)))))))))),?_⟩
 have xl:=ax.1
 have B6:=lv.lv.len
 have hb:B[n]?=some B[n]:=AH nl
 generalize B[n]=b at hb
 have bm:=Bf hb
 obtain⟨x0,hx0,t,w0,p0,rfl,ht,wb,pb⟩:=ax.get hb
 obtain⟨wx,hwx,awx⟩:=id wb
 have wxl:=awx.1
 have bsh:=lv.lv.ok.sh b bm
 have b6:=lv.lv.way b bm
 obtain⟨kk,mm,ek,eD,wpb,_⟩:=lv.lf b bm
 have dm:=hD _ (Bf eD)
 have kne:∀{n:Int},¬decide (V.int kind=V.int n)=true->kind≠n:=fun h z=>h (Cw (congrArg V.int z))
 have keq:∀{n:Int},decide (V.int kind=V.int n)=true->kind=n:=fun h=>V.int.inj (Hm h)
 have cT:AL xs none (some (n:Int))=xs.take n:=DL _ (E5 _)
 have cT1:AL xs none (some ((n:Int)+1))=xs.take (n+1):=by rw[show AL xs none (some ((n:Int)+1))=xs.take ((n:Int)+1).toNat from DL _ (by omega),show((n:Int)+1).toNat=n+1 by omega]
 have cD:AL xs (some ((n:Int)+1)) none=xs.drop (n+1):=by rw[show AL xs (some ((n:Int)+1)) none=xs.drop ((n:Int)+1).toNat from Es _ (by omega),show((n:Int)+1).toNat=n+1 by omega]
 have u3:=BV much (show(3:Int)≠0 by decide)
 have v3:=BW much (show(0:Int)<3 by decide)
 refine⟨_,rfl,_,rfl,l,_,_,_,rfl,rfl,A4.of hl,Bx hx0,t,_,rfl,A9.of ht,rfl,_,_,rfl,_,_,rfl,_,_,rfl,_,_,rfl,rfl,?_⟩
 dsimp only[Ag]
 have e0:=Aa.refl H
 refine Bk (fun σ' H'=>H'=H/\kind≠1/\σ'=[some (.ref l),some (.ref dl),some (.int kind),some (.int (n:Int)),some (.int at'),some (.int much),some (.int b.k),some (.int (b.sh:Int)),some (.ref w0),some (.ref p0),none,none,none]) (fun σ' H' pp=>?_) (fun nx=>?_)
 rotate_left
 .refine⟨_,rfl,rfl,_,rfl,AV (fun c=>?_) (fun c=>nx _ _ ⟨rfl,kne c,rfl⟩)⟩
  have c:=keq c
  refine⟨_,rfl,_,rfl,_,rfl,_,rfl,Af rfl,fun t1 ht1=>⟨Af rfl,fun l1 hl1=>?_⟩⟩
  have q2:=A7 ht1 (.tup [V.int b.k,V.int 0,V.ref w0,V.ref p0])
  have q3:=A7 hl1 (.lst [V.ref t1])
  have q23:=q2.trans q3
  refine⟨l,l1,_,_,rfl,rfl,q23 _ _ hl,A5,AF (by rw[Au];omega),fun s2 hs2=>?_⟩
  have q4:=A7 hs2 (.lst (xs++[V.ref t1]))
  have q24:=q23.trans q4
  have htt:=(q3.trans q4) t1 _ (show(upd _ t1 (.tup [V.int b.k,V.int 0,V.ref w0,V.ref p0])) t1=some _ from A5)
  exact q s2 _ (B++[⟨b.k,0,b.ways,b.pl⟩]) q24 ⟨_,A5,(ax.mono fun _ _ z=>z.over q24).snoc ⟨t1,w0,p0,rfl,htt,wb.over q24,pb.over q24⟩⟩ (by rw[c];exact Tf lv Bl hb)
 obtain⟨rfl,k1,rfl⟩:=pp
 refine Bk (fun σ' H2=>H2=H'/\kind≠2/\σ'=[some (.ref l),some (.ref dl),some (.int kind),some (.int (n:Int)),some (.int at'),some (.int much),some (.int b.k),some (.int (b.sh:Int)),some (.ref w0),some (.ref p0),none,none,none]) (fun σ' H2 pp=>?_) (fun nx=>?_)
 rotate_left
 .refine⟨_,rfl,rfl,_,rfl,AV (fun c=>?_) (fun c=>nx _ _ ⟨rfl,kne c,rfl⟩)⟩
  have c:=keq c
  refine⟨_,rfl,_,rfl,_,_,rfl,rfl,_,rfl,l,_,rfl,A4.of hl,fun s1 hs1=>?_⟩
  rw[cT1]
  have q1:=A7 hs1 (.lst (xs.take (n+1)))
  refine⟨_,rfl,_,rfl,w0,_,rfl,.inl (A4.of (q1 _ _ hwx)),_,rfl,_,rfl,Af rfl,fun t1 ht1=>⟨Af rfl,fun l1 hl1=>?_⟩⟩
  rw[wxl]at *
  have q2:=A7 ht1 (.tup [V.int b.k,V.int (b.ways.length:Int),V.ref w0,V.ref p0])
  have q3:=A7 hl1 (.lst [V.ref t1])
  have q13:=(q1.trans q2).trans q3
  refine⟨s1,l1,_,_,rfl,rfl,(q2.trans q3) _ _ A5,A5,AF (by rw[Ar,Au];omega),fun s2 hs2=>?_⟩
  have q4:=A7 hs2 (.lst (xs.take (n+1)++[V.ref t1]))
  have q14:=q13.trans q4
  refine⟨_,rfl,_,rfl,_,_,rfl,rfl,_,rfl,l,_,rfl,A4.of (q14 _ _ hl),fun s3 hs3=>?_⟩
  rw[cD]
  have q5:=A7 hs3 (.lst (xs.drop (n+1)))
  refine⟨s2,s3,_,_,rfl,rfl,q5 _ _ A5,A5,AF (by rw[Ap,Ar,Au,Ck];omega),fun s4 hs4=>?_⟩
  have q6:=A7 hs4 (.lst (xs.take (n+1)++[V.ref t1]++xs.drop (n+1)))
  have q16:=(q14.trans q5).trans q6
  have htt:=((q3.trans q4).trans (q5.trans q6)) t1 _ (show(upd _ t1 (.tup [V.int b.k,V.int (b.ways.length:Int),V.ref w0,V.ref p0])) t1=some _ from A5)
  refine q s4 _ (B.take (n+1)++[⟨b.k,b.ways.length,b.ways,b.pl⟩]++B.drop (n+1)) q16 ⟨_,A5,?_⟩ (by rw[c];exact R8 lv Bl hb)
  exact(((ax.take (n+1)).mono fun _ _ z=>z.over q16).snoc (a:=(⟨b.k,b.ways.length,b.ways,b.pl⟩:Ab)) ⟨t1,w0,p0,rfl,htt,wb.over q16,pb.over q16⟩).app (As.drop (ax.mono fun _ _ z=>z.over q16) (n+1))
 obtain⟨rfl,k2,rfl⟩:=pp
 refine Bk (fun σ' H3=>H3=H2/\kind≠8/\σ'=[some (.ref l),some (.ref dl),some (.int kind),some (.int (n:Int)),some (.int at'),some (.int much),some (.int b.k),some (.int (b.sh:Int)),some (.ref w0),some (.ref p0),none,none,none]) (fun σ' H3 pp=>?_) (fun nx=>?_)
 rotate_left
 .refine⟨_,rfl,rfl,_,rfl,AV (fun c=>?_) (fun c=>nx _ _ ⟨rfl,kne c,rfl⟩)⟩
  have c:=keq c
  refine⟨_,rfl,l,_,rfl,.inl (A4.of hl),_,rfl,_,_,rfl,rfl,(by show(0:Int)<3;decide),_,_,rfl,rfl,_,_,rfl,rfl,_,rfl,_,_,rfl,rfl,(by show(0:Int)<3;decide),_,_,rfl,rfl,Af rfl,fun l5 hl5=>?_⟩
  have r1:=A7 hl5 (.lst [V.int ((xs.length:Int)+much%3),V.int (0-1-much%3)])
  have hl5':(upd H2 l5 (.lst [V.int ((xs.length:Int)+much%3),V.int (0-1-much%3)])) l5=some (.lst [V.int ((xs.length:Int)+much%3),V.int (0-1-much%3)]):=A5
  generalize upd H2 l5 (.lst [V.int ((xs.length:Int)+much%3),V.int (0-1-much%3)])=H5 at r1 hl5'
  refine⟨_,rfl,l,rfl,⟨_,A4.of (r1 _ _ hl)⟩,?_⟩
  refine FN (xs:=xs) (fun i zs H'=>H'=H5/\∃Z:List Int,zs=Z.map V.int/\Z.length<=i/\∀z∈Z,z≠b.k) ⟨rfl,[],rfl,Ak _,fun z hz=>by cases hz⟩ (AF (by omega)) (fun i zs H' hi pp=>⟨by rw[pp.1];exact A4.of (r1 _ _ hl),by obtain⟨_,Z,rfl,h,_⟩:=pp;rw[Al];exact h⟩) (fun i y zs H' hy pp=>?_) (fun zs H' pp l6 hl6=>?_)
  .obtain⟨rfl,Z,rfl,Zl,hZ⟩:=pp
   obtain⟨c',hc',ty,_,_,rfl,hty,_,_⟩:=ax.get' hy
   refine⟨_,rfl,ty,_,0,_,rfl,rfl,A9.of (r1 _ _ hty),rfl,_,rfl,rfl,_,rfl,AV (fun d=>?_) (fun d=>⟨rfl,Z,rfl,by omega,hZ⟩)⟩
   refine⟨_,rfl,ty,_,0,_,rfl,rfl,A9.of (r1 _ _ hty),rfl,rfl,Z++[c'.k],by rw[B8];rfl,by rw[Ap,Au];omega,fun z hz=>?_⟩
   rcases CA.mp hz with y|y
   .exact hZ z y
   .rw[CO.mp y]
    intro w
    rw[w]at d
    simp at d
  obtain⟨rfl,Z,rfl,Zl,hZ⟩:=pp
  have r2:=A7 hl6 (.lst (Z.map V.int))
  refine⟨l5,l6,_,_,rfl,rfl,r2 _ _ hl5',A5,AF (by rw[Al];show 2+Z.length<=1000000;omega),fun l7 hl7=>?_⟩
  have r3:=A7 hl7 (.lst ([V.int ((xs.length:Int)+much%3),V.int (0-1-much%3)]++Z.map V.int))
  have e0:=r1.trans (r2.trans r3)
  have hO:(upd (upd H' l6 (.lst (Z.map V.int))) l7 (.lst ([V.int ((xs.length:Int)+much%3),V.int (0-1-much%3)]++Z.map V.int))) l7=some (.lst ((((xs.length:Int)+much%3)::(0-1-much%3)::Z).map V.int)):=A5
  generalize upd (upd H' l6 (.lst (Z.map V.int))) l7 (.lst ([V.int ((xs.length:Int)+much%3),V.int (0-1-much%3)]++Z.map V.int))=H6 at e0 hO
  have hO2:∀z∈((xs.length:Int)+much%3)::(0-1-much%3)::Z,z≠b.k:=fun z hz=>by
   rcases Bw.mp hz with y|hz
   .have:=(Ay.mp eD).1
    omega
   .rcases Bw.mp hz with y|hz
    .omega
    .exact hZ z hz
  generalize hOL:((xs.length:Int)+much%3)::(0-1-much%3)::Z=O at hO hO2
  have Opos:(0:Int)<((O.map V.int).length:Int):=by rw[Al,←hOL,B5];omega
  have oml:((O.map V.int).length:Int)=(O.length:Int):=by rw[Al]
  dsimp only[Ag]
  obtain⟨z,hz,ez⟩:=Lz (L:=O) (i:=much/3%((O.map V.int).length:Int)) (BV _ (by omega)) (by rw[←oml];exact BW _ Opos)
  refine⟨_,rfl,_,rfl,_,rfl,l,_,rfl,A4.of (e0 _ _ hl),fun s1 hs1=>?_⟩
  rw[cT]
  have q1:=A7 hs1 (.lst (xs.take n))
  refine⟨_,rfl,_,rfl,_,_,rfl,rfl,⟨by decide,by decide⟩,_,rfl,l7,_,rfl,.inl (A4.of (q1 _ _ hO)),_,_,rfl,rfl,Opos,l7,_,_,_,rfl,rfl,A4.of (q1 _ _ hO),ez,_,rfl,_,rfl,_,rfl,Af rfl,fun t1 ht1=>⟨Af rfl,fun l1 hl1=>?_⟩⟩
  have q2:=A7 ht1 (.tup [V.int z,V.int (b.sh:Int),V.ref w0,V.ref p0])
  have q3:=A7 hl1 (.lst [V.ref t1])
  have q13:=(q1.trans q2).trans q3
  refine⟨s1,l1,_,_,rfl,rfl,(q2.trans q3) _ _ A5,A5,AF (by rw[Ar,Au];omega),fun s2 hs2=>?_⟩
  have q4:=A7 hs2 (.lst (xs.take n++[V.ref t1]))
  have q14:=q13.trans q4
  refine⟨_,rfl,_,rfl,_,_,rfl,rfl,_,rfl,l,_,rfl,A4.of ((e0.trans q14) _ _ hl),fun s3 hs3=>?_⟩
  rw[cD]
  have q5:=A7 hs3 (.lst (xs.drop (n+1)))
  refine⟨s2,s3,_,_,rfl,rfl,q5 _ _ A5,A5,AF (by rw[Ap,Ar,Au,Ck];omega),fun s4 hs4=>?_⟩
  have q6:=A7 hs4 (.lst (xs.take n++[V.ref t1]++xs.drop (n+1)))
  have q16:=(q14.trans q5).trans q6
  have htt:=((q3.trans q4).trans (q5.trans q6)) t1 _ (show(upd _ t1 (.tup [V.int z,V.int (b.sh:Int),V.ref w0,V.ref p0])) t1=some _ from A5)
  refine q s4 _ (Az B n ⟨z,b.sh,b.ways,b.pl⟩) (e0.trans q16) ⟨_,A5,?_⟩ (by rw[c];exact V2 lv hb (hO2 z hz))
  unfold Az
  exact(((ax.take n).mono fun _ _ z=>z.over (e0.trans q16)).snoc (a:=(⟨z,b.sh,b.ways,b.pl⟩:Ab)) ⟨t1,w0,p0,rfl,htt,wb.over (e0.trans q16),pb.over (e0.trans q16)⟩).app (As.drop (ax.mono fun _ _ z=>z.over (e0.trans q16)) (n+1))
 obtain⟨rfl,k8,rfl⟩:=pp
 refine Bk (fun σ' H4=>H4=H3/\σ'=[some (.ref l),some (.ref dl),some (.int kind),some (.int (n:Int)),some (.int at'),some (.int much),some (.int b.k),some (.int (b.sh:Int)),some (.ref w0),some (.ref p0),none,none,none]) (fun σ' H4 pp=>?_) (fun nx=>?_)
 rotate_left
 .refine⟨_,rfl,rfl,_,rfl,AV (fun c=>?_) (fun c=>BH (nx _ _ ⟨rfl,rfl⟩))⟩
  have c:=keq c
  refine⟨_,rfl,w0,_,rfl,.inl (A4.of hwx),_,rfl,_,_,rfl,rfl,_,rfl,AV (fun c2=>?_) (fun c2=>nx _ _ ⟨rfl,rfl⟩)⟩
  have c2:=dT c2
  have lp:(0:Int)<(wx.length:Int)-(b.sh:Int):=by omega
  refine⟨_,rfl,_,rfl,_,rfl,w0,_,rfl,.inl (A4.of hwx),_,rfl,_,_,rfl,rfl,_,_,rfl,rfl,lp,_,_,rfl,rfl,?_⟩
  have a0:=BV at' (show(wx.length:Int)-(b.sh:Int)≠0 by omega)
  have a1:=BW at' lp
  dsimp only[Ag]
  obtain⟨e,he⟩:∃e:Nat,(b.sh:Int)+at'%((wx.length:Int)-(b.sh:Int))=(e:Int):=⟨((b.sh:Int)+at'%((wx.length:Int)-(b.sh:Int))).toNat,by omega⟩
  rw[he]
  have el:e<b.ways.length:=by omega
  have hwy:b.ways[e]?=some b.ways[e]:=AH el
  generalize b.ways[e]=wy at hwy
  obtain⟨xw,hxw,tw,rfl,htw⟩:=awx.get hwy
  have c1w:AL wx none (some (e:Int))=wx.take e:=DL _ (E5 _)
  have c2w:AL wx (some ((e:Int)+1)) none=wx.drop (e+1):=by rw[show AL wx (some ((e:Int)+1)) none=wx.drop ((e:Int)+1).toNat from Es _ (by omega),show((e:Int)+1).toNat=e+1 by omega]
  refine⟨_,rfl,_,rfl,_,rfl,w0,_,rfl,A4.of hwx,fun z1 hz1=>?_⟩
  rw[c1w]
  have y1:=A7 hz1 (.lst (wx.take e))
  refine⟨_,rfl,_,rfl,w0,_,_,_,rfl,rfl,A4.of (y1 _ _ hwx),Bx hxw,tw,_,0,_,rfl,rfl,A9.of (y1 _ _ htw),rfl,_,rfl,_,rfl,_,rfl,w0,_,_,_,rfl,rfl,A4.of (y1 _ _ hwx),Bx hxw,tw,_,1,_,rfl,rfl,A9.of (y1 _ _ htw),rfl,Af rfl,fun z2 hz2=>⟨Af rfl,fun z3 hz3=>?_⟩⟩
  have y2:=A7 hz2 (.tup [V.bl (!wy.1),V.str wy.2])
  have y3:=A7 hz3 (.lst [V.ref z2])
  refine⟨z1,z3,_,_,rfl,rfl,(y2.trans y3) _ _ A5,A5,AF (by rw[Ar,Au];omega),fun z4 hz4=>?_⟩
  have y4:=A7 hz4 (.lst (wx.take e++[V.ref z2]))
  have y14:=((y1.trans y2).trans y3).trans y4
  refine⟨_,rfl,_,rfl,_,_,rfl,rfl,_,rfl,w0,_,rfl,A4.of (y14 _ _ hwx),fun z5 hz5=>?_⟩
  rw[c2w]
  have y5:=A7 hz5 (.lst (wx.drop (e+1)))
  refine⟨z4,z5,_,_,rfl,rfl,y5 _ _ A5,A5,AF (by rw[Ap,Ar,Au,Ck];omega),fun z6 hz6=>?_⟩
  have y6:=A7 hz6 (.lst (wx.take e++[V.ref z2]++wx.drop (e+1)))
  have e0:=(y14.trans y5).trans y6
  have hz26:=((y3.trans y4).trans (y5.trans y6)) z2 _ (show(upd _ z2 (.tup [V.bl (!wy.1),V.str wy.2])) z2=some _ from A5)
  have hW:DT _ z6 (Az b.ways e (!wy.1,wy.2)):=⟨_,(A5:(upd _ z6 (.lst (wx.take e++[V.ref z2]++wx.drop (e+1)))) z6=_),by
   unfold Az
   exact(((awx.take e).mono fun _ _ z=>z.over e0).snoc (a:=((!wy.1,wy.2):B1)) ⟨z2,rfl,hz26⟩).app (As.drop (awx.mono fun _ _ z=>z.over e0) (e+1))⟩
  dsimp only[Ag]
  generalize upd (upd (upd (upd (upd (upd H3 z1 (.lst (wx.take e))) z2 (.tup [V.bl (!wy.1),V.str wy.2])) z3 (.lst [V.ref z2])) z4 (.lst (wx.take e++[V.ref z2]))) z5 (.lst (wx.drop (e+1)))) z6 (.lst (wx.take e++[V.ref z2]++wx.drop (e+1)))=H6 at e0 hW
  clear y1 y2 y3 y4 y14 y5 y6 hz26
  refine⟨_,rfl,_,rfl,_,rfl,l,_,rfl,A4.of (e0 _ _ hl),fun s1 hs1=>?_⟩
  rw[cT]
  have q1:=A7 hs1 (.lst (xs.take n))
  refine⟨_,rfl,_,rfl,_,rfl,_,rfl,Af rfl,fun t1 ht1=>⟨Af rfl,fun l1 hl1=>?_⟩⟩
  have q2:=A7 ht1 (.tup [V.int b.k,V.int (b.sh:Int),V.ref z6,V.ref p0])
  have q3:=A7 hl1 (.lst [V.ref t1])
  have q13:=(q1.trans q2).trans q3
  refine⟨s1,l1,_,_,rfl,rfl,(q2.trans q3) _ _ A5,A5,AF (by rw[Ar,Au];omega),fun s2 hs2=>?_⟩
  have q4:=A7 hs2 (.lst (xs.take n++[V.ref t1]))
  have q14:=q13.trans q4
  refine⟨_,rfl,_,rfl,_,_,rfl,rfl,_,rfl,l,_,rfl,A4.of ((e0.trans q14) _ _ hl),fun s3 hs3=>?_⟩
  rw[cD]
  have q5:=A7 hs3 (.lst (xs.drop (n+1)))
  refine⟨s2,s3,_,_,rfl,rfl,q5 _ _ A5,A5,AF (by rw[Ap,Ar,Au,Ck];omega),fun s4 hs4=>?_⟩
  have q6:=A7 hs4 (.lst (xs.take n++[V.ref t1]++xs.drop (n+1)))
  have q16:=(q14.trans q5).trans q6
  have htt:=((q3.trans q4).trans (q5.trans q6)) t1 _ (show(upd _ t1 (.tup [V.int b.k,V.int (b.sh:Int),V.ref z6,V.ref p0])) t1=some _ from A5)
  refine q s4 _ (Az B n ⟨b.k,b.sh,Az b.ways e (!wy.1,wy.2),b.pl⟩) (e0.trans q16) ⟨_,A5,?_⟩ (by rw[c];exact T6 lv hb (by omega) hwy)
  unfold Az
  exact(((ax.take n).mono fun _ _ z=>z.over (e0.trans q16)).snoc (a:=(⟨b.k,b.sh,Az b.ways e (!wy.1,wy.2),b.pl⟩:Ab)) ⟨t1,z6,p0,rfl,htt,hW.over q16,pb.over (e0.trans q16)⟩).app (As.drop (ax.mono fun _ _ z=>z.over (e0.trans q16)) (n+1))
 obtain⟨rfl,rfl⟩:=pp
 refine Bk (fun σ' H5=>∃o12,Aa H4 H5/\¬11<kind/\σ'=[some (.ref l),some (.ref dl),some (.int kind),some (.int (n:Int)),some (.int at'),some (.int much),some (.int b.k),some (.int (b.sh:Int)),some (.ref w0),some (.ref p0),none,none,o12]) (fun σ' H5 pp=>?_) (fun nx=>?_)
 .obtain⟨o12,e5,k11,rfl⟩:=pp
  exact⟨_,rfl,_,rfl,l,n,B,b,rfl,⟨xs,e5 _ _ hl,ax.mono fun _ _ z=>z.over e5⟩,hb,by omega,fun r H6 e6 hr6=>q r H6 _ (e5.trans e6) hr6 (UT k11 lv Bl hb)⟩
 refine QY (fun H''=>H''=H4/\((2<kind/\kind<8)\/11<kind)) (fun H'' hh=>?_) (fun go=>?_)
 rotate_left
 .refine⟨_,rfl,_,_,rfl,rfl,_,rfl,AV (fun c1=>?_) (fun c1=>BH ?_)⟩
  .have c1:=dT c1
   refine⟨_,rfl,_,_,rfl,rfl,_,rfl,AV (fun c2=>C0 (go _ ⟨rfl,.inl ⟨c1,dT c2⟩⟩)) (fun c2=>?_)⟩
   have c2:=dF c2
   refine⟨_,rfl,_,_,rfl,rfl,_,rfl,AV (fun c3=>go _ ⟨rfl,.inr (dT c3)⟩) (fun c3=>nx _ _ ⟨_,Aa.refl _,dF c3,rfl⟩)⟩
  .refine⟨_,rfl,_,_,rfl,rfl,_,rfl,AV (fun c3=>go _ ⟨rfl,.inr (dT c3)⟩) (fun c3=>nx _ _ ⟨_,Aa.refl _,dF c3,rfl⟩)⟩
 obtain⟨rfl,hkd⟩:=hh
 have atD:C6 (D.map V.int) b.k=some (.int (mm:Int)):=by rw[ek];exact Bx (by rw[C3,eD];rfl)
 refine⟨_,rfl,_,rfl,l,_,_,_,rfl,rfl,A4.of hl,Bx hx0,_,rfl,_,rfl,dl,_,_,_,rfl,rfl,A4.of hdl,atD,_,rfl,_,rfl,_,rfl,.ref t,b,mm,kind,at',much,rfl,⟨t,w0,p0,rfl,ht,wb,pb⟩,wpb,by omega,by omega,at0,mu0,fun H5 e5=>?_,fun r5 H5 ps e5 hps p7 hw5=>?_⟩
 .dsimp only[Ag]
  refine⟨_,rfl,rfl,_,rfl,C8 (v:=false) (L6 rfl) (BH ?_)⟩
  refine⟨_,rfl,_,_,rfl,rfl,_,rfl,AV (fun c3=>?_) (fun c3=>nx _ _ ⟨_,e5,dF c3,rfl⟩)⟩
  exact⟨_,rfl,q l H5 B e5 ⟨xs,e5 _ _ hl,ax.mono fun _ _ z=>z.over e5⟩ (TB (dT c3) lv)⟩
 .dsimp only[Ag]
  have e0:=e5
  refine⟨_,rfl,rfl,_,rfl,C8 (v:=true) (KE (by intro z;cases z)) (C0 ?_)⟩
  refine⟨_,rfl,_,rfl,_,rfl,l,_,rfl,A4.of (e0 _ _ hl),fun s1 hs1=>?_⟩
  rw[cT]
  have q1:=A7 hs1 (.lst (xs.take n))
  refine⟨_,rfl,_,rfl,_,rfl,_,rfl,Af rfl,fun t1 ht1=>⟨Af rfl,fun l1 hl1=>?_⟩⟩
  have q2:=A7 ht1 (.tup [V.int b.k,V.int (b.sh:Int),V.ref w0,V.ref r5])
  have q3:=A7 hl1 (.lst [V.ref t1])
  have q13:=(q1.trans q2).trans q3
  refine⟨s1,l1,_,_,rfl,rfl,(q2.trans q3) _ _ A5,A5,AF (by rw[Ar,Au];omega),fun s2 hs2=>?_⟩
  have q4:=A7 hs2 (.lst (xs.take n++[V.ref t1]))
  have q14:=q13.trans q4
  refine⟨_,rfl,_,rfl,_,_,rfl,rfl,_,rfl,l,_,rfl,A4.of ((e0.trans q14) _ _ hl),fun s3 hs3=>?_⟩
  rw[cD]
  have q5:=A7 hs3 (.lst (xs.drop (n+1)))
  refine⟨s2,s3,_,_,rfl,rfl,q5 _ _ A5,A5,AF (by rw[Ap,Ar,Au,Ck];omega),fun s4 hs4=>?_⟩
  have q6:=A7 hs4 (.lst (xs.take n++[V.ref t1]++xs.drop (n+1)))
  have q16:=(q14.trans q5).trans q6
  have htt:=((q3.trans q4).trans (q5.trans q6)) t1 _ (show(upd _ t1 (.tup [V.int b.k,V.int (b.sh:Int),V.ref w0,V.ref r5])) t1=some _ from A5)
  refine q s4 _ (Az B n ⟨b.k,b.sh,b.ways,ps⟩) (e0.trans q16) ⟨_,A5,?_⟩ (T9 lv hb ek eD p7 hw5)
  unfold Az
  exact(((ax.take n).mono fun _ _ z=>z.over (e0.trans q16)).snoc (a:=(⟨b.k,b.sh,b.ways,ps⟩:Ab)) ⟨t1,w0,r5,rfl,htt,wb.over (e0.trans q16),hps.over q16⟩).app (As.drop (ax.mono fun _ _ z=>z.over (e0.trans q16)) (n+1))
theorem Pb (T:Tx K mg a):Bz P w K mg base BS 1 a.f_l_deeper a.d_l_deeper ["_law_leaves_here","_law_n","_law_many","_law_way"] Pe:=by
 refine T.F_l_deeper.ok GG (fun vs H Q E h=>?_) (fun cdv A outer s H vs Q E hr h=>?_)
 .obtain⟨_,_,_,_,_,_,rfl,_⟩:=h;rfl
 obtain⟨l,B,b,n,j,wy,rfl,⟨xs,hl,ax⟩,hb,B6,w6,p6,j8,q⟩:=h
 refine⟨_,(@A8 _ _ _ _ _ (@DK _ _ _ _ _ _ (@Ah _ _ _ _ _ _ _ Bg (pv 0) (pv 1) (fun _ _=>rfl)) (Du rfl (Av (Ao (i:=4) GG.nd rfl (Or.inl rfl)) (Av (Ao (i:=5) GG.nd rfl (Or.inl rfl)) (Av (Ao (i:=6) GG.nd rfl (Or.inl rfl)) (Av (Ao (i:=7) GG.nd rfl (Or.inl rfl)) Cr))))) (by rfl) (by rfl) (by rfl)) (@A8 _ _ _ _ _ (@Ai _ _ (8) _ _ _ _ GG.nd rfl (Or.inl rfl) (@A3 _ _ _ _ _ _ _ _ BZ (pv 2) (@AE _ _ _ _ _ _ _ _ _ AS (by rfl) T.z_len AR (@A0 _ _ _ _ _ (pv 6) A2 (by rfl)) (by decide) (by decide) (by rfl) (by rfl))) (by rfl) (by first|exact .inl rfl|exact .inr rfl|assumption)) (@Aj _ _ _ (@AX _ _ _ _ (@A3 _ _ _ _ _ _ _ _ CH (@A3 _ _ _ _ _ _ _ _ CH (@Bt _ _ _ _ _ _ _ _ _ _ CT (pv 0) Bv (@Bq _ _ _ (pv 1))) (@BU _ _ _ _ (@A0 _ _ _ _ _ (@Cq _ _ _ _ _ (@Ae _ _ _ _ _ (pv 4) (@Ae _ _ _ _ _ (pv 5) (@Ae _ _ _ _ _ (@A3 _ _ _ _ _ _ _ _ CH (pv 6) (@A3 _ _ _ _ _ _ _ _ Re (@BU _ _ _ _ (@A0 _ _ _ _ _ (@AN _ _ _ _ _ (@A0 _ _ _ _ _ CD (@A0 _ _ _ _ _ (pv 3) A2 (by rfl)) (by rfl))) A2 (by rfl))) (pv 8))) (@Ae _ _ _ _ _ (@A3 _ _ _ _ _ _ _ _ CJ (pv 7) (@A3 _ _ _ _ _ _ _ _ Ko (@AN _ _ _ _ _ (@A0 _ _ _ _ _ (@AN _ _ _ _ _ (@A0 _ _ _ _ _ A1 (@A0 _ _ _ _ _ A1 A2 (by rfl)) (by rfl))) A2 (by rfl))) (pv 8))) BF Ea) Ea) Bi) Bi)) A2 (by rfl)))) (@Bt _ _ _ _ _ _ _ _ _ _ CT (pv 0) (@Bq _ _ _ (@A3 _ _ _ _ _ _ _ _ AB (pv 1) A1)) Bv)))))),?_⟩
 have xl:=ax.1
 have nl:=(Ay.mp hb).1
 obtain⟨x0,hx0,t,w0,p0,rfl,ht,⟨wx,hwx,awx⟩,⟨px,hpx,apx⟩⟩:=ax.get hb
 have wxl:=awx.1
 have pxl:=apx.1
 have cT:AL xs none (some (n:Int))=xs.take n:=DL _ (E5 _)
 have cD:AL xs (some ((n:Int)+1)) none=xs.drop (n+1):=by rw[show AL xs (some ((n:Int)+1)) none=xs.drop ((n:Int)+1).toNat from Es _ (by omega),show((n:Int)+1).toNat=n+1 by omega]
 refine⟨_,rfl,_,rfl,l,_,_,_,rfl,rfl,A4.of hl,Bx hx0,t,_,rfl,A9.of ht,rfl,_,_,rfl,_,_,rfl,_,_,rfl,_,_,rfl,rfl,?_⟩
 dsimp only[Ag]
 refine⟨_,rfl,_,rfl,w0,_,rfl,.inl (A4.of hwx),_,_,rfl,rfl,?_⟩
 dsimp only[Ag]
 have ej:((b.ways.length+j:Nat):Int)-(wx.length:Int)=(j:Int):=by omega
 rw[ej]
 refine⟨_,rfl,_,rfl,_,rfl,l,_,rfl,A4.of hl,fun s1 hs1=>?_⟩
 rw[cT]
 have q1:=A7 hs1 (.lst (xs.take n))
 refine⟨_,rfl,_,rfl,_,rfl,_,rfl,Af rfl,fun a1 ha1=>⟨Af rfl,fun a2 ha2=>?_⟩⟩
 have q2:=A7 ha1 (.tup [V.bl true,V.str wy])
 have q3:=A7 ha2 (.lst [V.ref a1])
 have fl:(List.replicate (j:Int).toNat [V.ref a1]).flatten=List.replicate j (V.ref a1):=by
  rw[Gc]
  have:∀(v:V) (k:Nat),(List.replicate k [v]).flatten=List.replicate k v:=fun v k=>by
   induction k with
   |zero=>rfl
   |succ k ih=>rw[Hc,K3,ih];rfl
  exact this _ _
 refine⟨_,rfl,a2,_,_,rfl,rfl,A5,by omega,by omega,AF (by rw[Au,Gc];omega),fun a3 ha3=>?_⟩
 rw[fl]
 have q4:=A7 ha3 (.lst (List.replicate j (V.ref a1)))
 have q14:=((q1.trans q2).trans q3).trans q4
 refine⟨w0,a3,_,_,rfl,rfl,q14 _ _ hwx,A5,AF (by rw[CN];omega),fun a4 ha4=>?_⟩
 have q5:=A7 ha4 (.lst (wx++List.replicate j (V.ref a1)))
 have q15:=q14.trans q5
 refine⟨_,rfl,Af rfl,fun b1 hb1=>⟨Af rfl,fun b2 hb2=>?_⟩⟩
 have q6:=A7 hb1 (.tup [V.int 0,V.int 1])
 have q7:=A7 hb2 (.tup [V.ref b1])
 have q17:=(q15.trans q6).trans q7
 refine⟨_,rfl,b2,j,.ref b1,rfl,rfl,A5,j8,fun b3 H3 e3 h3=>?_⟩
 have q18:=q17.trans e3
 refine⟨p0,b3,_,_,rfl,rfl,q18 _ _ hpx,h3,AF (by rw[CN];omega),fun b4 H4 e4 h4=>?_⟩
 have q19:=q18.trans e4
 have t14:=((q3.trans q4).trans (q5.trans (q6.trans (q7.trans (e3.trans e4))))) a1 _ (show(upd _ a1 (.tup [V.bl true,V.str wy])) a1=some _ from A5)
 have l44:=(q6.trans (q7.trans (e3.trans e4))) a4 _ (show(upd _ a4 (.lst (wx++List.replicate j (V.ref a1)))) a4=some _ from A5)
 have b14:=(q7.trans (e3.trans e4)) b1 _ (show(upd _ b1 (.tup [V.int 0,V.int 1])) b1=some _ from A5)
 have s14:=(q2.trans (q3.trans (q4.trans (q5.trans (q6.trans (q7.trans (e3.trans e4))))))) s1 _ (show(upd H s1 (.lst (xs.take n))) s1=some _ from A5)
 have reps:∀{α:Type} {R:V->α->Prop} {v:V} {x:α} (j:Nat),R v x->As R (List.replicate j v) (List.replicate j x):=fun{α R v x} j h=>by
  refine⟨by rw[CN,CN],fun i y z hy hz=>?_⟩
  have:=K6.mp (Bf hy)
  have:=K6.mp (Bf hz)
  simp_all
 refine⟨Af rfl,fun t1 ht1=>⟨Af rfl,fun l1 hl1=>?_⟩⟩
 have r2:=A7 ht1 (.tup [V.int b.k,V.int (b.sh:Int),V.ref a4,V.ref b4])
 have r3:=A7 hl1 (.lst [V.ref t1])
 have r13:=q19.trans (r2.trans r3)
 refine⟨s1,l1,_,_,rfl,rfl,(r2.trans r3) _ _ s14,A5,AF (by rw[Ar,Au];omega),fun s2 hs2=>?_⟩
 have r4:=A7 hs2 (.lst (xs.take n++[V.ref t1]))
 have r14:=r13.trans r4
 refine⟨_,rfl,_,rfl,_,_,rfl,rfl,_,rfl,l,_,rfl,A4.of (r14 _ _ hl),fun s3 hs3=>?_⟩
 rw[cD]
 have r5:=A7 hs3 (.lst (xs.drop (n+1)))
 refine⟨s2,s3,_,_,rfl,rfl,r5 _ _ A5,A5,AF (by rw[Ap,Ar,Au,Ck];omega),fun s4 hs4=>?_⟩
 have r6:=A7 hs4 (.lst (xs.take n++[V.ref t1]++xs.drop (n+1)))
 have r16:=(r14.trans r5).trans r6
 have r26:=((r2.trans r3).trans r4).trans (r5.trans r6)
 have htt:=((r3.trans r4).trans (r5.trans r6)) t1 _ (show(upd _ t1 (.tup [V.int b.k,V.int (b.sh:Int),V.ref a4,V.ref b4])) t1=some _ from A5)
 refine q s4 _ r16 ⟨_,A5,?_⟩
 unfold Az
 refine(((ax.take n).mono fun _ _ z=>z.over r16).snoc (a:=Dt b j wy) ⟨t1,a4,b4,rfl,htt,⟨_,r26 _ _ l44,?_⟩,⟨_,r26 _ _ h4,?_⟩⟩).app (As.drop (ax.mono fun _ _ z=>z.over r16) (n+1))
 .exact(awx.mono fun _ _ z=>z.over r16).app (reps j ⟨a1,rfl,r26 _ _ t14⟩)
 .exact(apx.mono fun _ _ z=>z.over r16).app (reps j ⟨b1,rfl,r26 _ _ b14⟩)
theorem KB (T:Tx K mg a):∀n:Nat,Bz P w K mg base BS (n+1) a.f_l_put a.d_l_put ["_law_items_here","_law_path","_law_item"] (Og n)
 |
  0=>by
  have no:∀vs H Q E,¬Og 0 vs H Q E:=fun vs H Q E h=>by
   obtain⟨_,_,_,_,_,P,_,_,_,_,hP,h1,_⟩:=h
   cases hP<;>exact absurd h1 (M0 _)
  exact⟨fun vs H Q E h=>absurd h (no vs H Q E),fun A outer s H args us vs Q E _ _ _ _ h=>absurd h (no vs H Q E)⟩
 |
  n+1=>by
  have G_l_put:=KB T n
  refine T.F_l_put.ok J1 (fun vs H Q E h=>?_) (fun cdv A outer s H vs Q E hr h=>?_)
  .obtain⟨_,_,_,_,_,_,_,rfl,_⟩:=h;rfl
  obtain⟨it,pa,y,f,g,PP,mk,rfl,⟨xs,hit,hf⟩,hpa,hP,hPl,hn,hy,fc,q⟩:=h
  refine⟨_,(@A8 _ _ _ _ _ (@Ai _ _ (3) _ _ _ _ J1.nd rfl (Or.inl rfl) (@Ah _ _ _ _ _ _ _ AG (pv 1) A1 (fun _ _=>rfl)) (by rfl) (by first|exact .inl rfl|exact .inr rfl|assumption)) (@A8 _ _ _ _ _ (@AY _ _ _ _ _ _ _ _ (@AA _ _ _ _ _ _ _ _ Bn (@AE _ _ _ _ _ _ _ _ _ AS (by rfl) T.z_len AR (@A0 _ _ _ _ _ (pv 1) A2 (by rfl)) (by decide) (by decide) (by rfl) (by rfl)) A1 (@Am _ _ (by decide) (by decide))) (@Aj _ _ _ (@AX _ _ _ _ (@A3 _ _ _ _ _ _ _ _ CJ (@A3 _ _ _ _ _ _ _ _ CJ (@Bt _ _ _ _ _ _ _ _ _ _ CQ (pv 0) Bv (@Bq _ _ _ (pv 3))) (@AN _ _ _ _ _ (@A0 _ _ _ _ _ (pv 2) A2 (by rfl)))) (@Bt _ _ _ _ _ _ _ _ _ _ CQ (pv 0) (@Bq _ _ _ (pv 3)) Bv)))) Bb) (@A8 _ _ _ _ _ (@Ai _ _ (4) _ _ _ _ J1.nd rfl (Or.inl rfl) (@Ah _ _ _ _ _ _ _ AG (pv 0) (pv 3) (fun _ _=>rfl)) (by rfl) (by first|exact .inl rfl|exact .inr rfl|assumption)) (@A8 _ _ _ _ _ (@Ai _ _ (5) _ _ _ _ J1.nd rfl (Or.inl rfl) (@AJ _ _ _ _ _ _ _ _ _ _ _ _ _ _ _ _ G_l_put (hr.mono (by omega)) (by rfl) T.m_l_put T.F_l_put.kp T.b_l_put .nil AD (@A0 _ _ _ _ _ (@Ah _ _ _ _ _ _ _ AG (pv 4) A1 (fun _ _=>rfl)) (@A0 _ _ _ _ _ (@Bt _ _ _ _ _ _ _ _ _ _ CQ (pv 1) (@Bq _ _ _ A1) Bv) (@A0 _ _ _ _ _ (pv 2) A2 (by rfl)) (by rfl)) (by rfl)) (by decide) (by rfl) (by rfl)) (by rfl) (by first|exact .inl rfl|exact .inr rfl|assumption)) (@Aj _ _ _ (@AX _ _ _ _ (@A3 _ _ _ _ _ _ _ _ CJ (@A3 _ _ _ _ _ _ _ _ CJ (@Bt _ _ _ _ _ _ _ _ _ _ CQ (pv 0) Bv (@Bq _ _ _ (pv 3))) (@AN _ _ _ _ _ (@A0 _ _ _ _ _ (@Cq _ _ _ _ _ (@Ae _ _ _ _ _ BL (@Ae _ _ _ _ _ (@Ah _ _ _ _ _ _ _ AG (pv 4) A1 (fun _ _=>rfl)) (@Ae _ _ _ _ _ (@Ah _ _ _ _ _ _ _ AG (pv 4) A1 (fun _ _=>rfl)) (@Ae _ _ _ _ _ (pv 5) BF Bi) EI) EI) B3)) A2 (by rfl)))) (@Bt _ _ _ _ _ _ _ _ _ _ CQ (pv 0) (@Bq _ _ _ (@A3 _ _ _ _ _ _ _ _ AB (pv 3) A1)) Bv)))))))),?_⟩
  have xl:=Jc f xs hf
  have il:=Jh f
  have c1:∀i:Nat,AL xs none (some (i:Int))=xs.take i:=fun i=>DL _ (E5 _)
  have c2:∀i:Nat,AL xs (some (i:Int)) none=xs.drop i:=fun i=>Es _ (E5 _)
  have c3:∀i:Nat,AL xs (some ((i:Int)+1)) none=xs.drop (i+1):=fun i=>by rw[show AL xs (some ((i:Int)+1)) none=xs.drop ((i:Int)+1).toNat from Es _ (by omega),show((i:Int)+1).toNat=i+1 by omega]
  cases hP with
  |
   @here _ i hi=>
   refine⟨_,rfl,pa,_,0,_,rfl,rfl,A9.of hpa,rfl,?_⟩
   dsimp only[Ag]
   refine⟨_,rfl,pa,_,rfl,.inr (A9.of hpa),rfl,_,rfl,C8 (v:=true) (Cw rfl) (C0 ?_)⟩
   refine⟨_,rfl,_,rfl,_,rfl,it,_,rfl,hit,fun r1 H1 e1 h1=>?_⟩
   rw[c1]at h1
   refine⟨_,rfl,Af rfl,fun t1 ht1=>?_⟩
   have s1:=A7 ht1 (.tup [y])
   refine⟨r1,t1,_,_,rfl,rfl,s1 _ _ h1,A5,AF (by rw[Ar,Au];omega),fun r2 H2 e2 h2=>?_⟩
   have e12:=e1.trans (s1.trans e2)
   refine⟨_,rfl,_,rfl,_,rfl,it,_,rfl,e12 _ _ hit,fun r3 H3 e3 h3=>?_⟩
   rw[c2]at h3
   refine⟨r2,r3,_,_,rfl,rfl,e3 _ _ h2,h3,AF (by rw[Ap,Ar,Au,Ck];omega),fun r4 H4 e4 h4=>?_⟩
   have e14:=(e12.trans e3).trans e4
   exact q r4 H4 e14 ⟨_,h4,JW (hy H4 e14) f xs i (AI.over e14 hf) (by omega)⟩
  |
   @down _ s' s2 i p c wy hit' hP2=>
   have ilt:=Ii f i hit'
   have icn:=Ku f i hit'
   obtain⟨t,p1,zs,hx,ht,hp1,hz⟩:=Ky f xs i hf hit'
   have pne:0<p.length:=by cases hP2<;>exact K7 _
   refine⟨_,rfl,pa,_,0,.int (i:Int),rfl,rfl,A9.of hpa,Bx (j:=0) rfl,?_⟩
   dsimp only[Ag]
   refine⟨_,rfl,pa,_,rfl,.inr (A9.of hpa),rfl,_,rfl,C8 (v:=false) (Cv ?_) (BH ?_)⟩
   .intro z
    have:=V.int.inj z
    rw[Al,Al,B5]at this
    omega
   refine⟨_,rfl,_,rfl,it,_,_,_,rfl,rfl,A9.of hit,Bx hx,?_⟩
   dsimp only[Ag]
   refine⟨_,rfl,t,_,3,_,rfl,rfl,A9.of ht,rfl,_,rfl,_,rfl,pa,_,rfl,hpa,fun pb H1 e1 h1=>?_⟩
   have c4:AL (((i::p).map fun i:Nat=>(i:Int)).map V.int) (some 1) none=(p.map fun i:Nat=>(i:Int)).map V.int:=by
    rw[show AL (((i::p).map fun i:Nat=>(i:Int)).map V.int) (some 1) none=((((i::p).map fun i:Nat=>(i:Int)).map V.int)).drop 1 from Es _ (by decide)]
    rfl
   rw[c4]at h1
   refine⟨_,rfl,p1,pb,y,s',s2,p,mk,rfl,⟨zs,e1 _ _ hp1,AI.over e1 hz⟩,h1,hP2,by rw[B5]at hPl;omega,by omega,fun H' e'=>hy H' (e1.trans e'),by omega,fun r2 H2 e2 h2=>?_⟩
   dsimp only[Ag]
   have e12:=e1.trans e2
   refine⟨_,rfl,_,rfl,_,rfl,it,_,rfl,e12 _ _ hit,fun r3 H3 e3 h3=>?_⟩
   rw[c1]at h3
   have e13:=e12.trans e3
   refine⟨_,rfl,t,_,1,_,rfl,rfl,A9.of (e13 _ _ ht),rfl,_,rfl,t,_,2,_,rfl,rfl,A9.of (e13 _ _ ht),rfl,_,rfl,Af rfl,fun t1 ht1=>⟨Af rfl,fun t2 ht2=>?_⟩⟩
   have s1:=A7 ht1 (.tup [V.str "sweep",V.bl c,V.str wy,V.ref r2])
   have s2':=A7 ht2 (.tup [V.ref t1])
   have s12:=s1.trans s2'
   refine⟨r3,t2,_,_,rfl,rfl,s12 _ _ h3,A5,AF (by rw[Ar,Au];omega),fun r4 H4 e4 h4=>?_⟩
   have e14:=e13.trans (s12.trans e4)
   refine⟨_,rfl,_,rfl,_,_,rfl,rfl,_,rfl,it,_,rfl,e14 _ _ hit,fun r5 H5 e5 h5=>?_⟩
   rw[c3]at h5
   refine⟨r4,r5,_,_,rfl,rfl,e5 _ _ h4,h5,AF (by rw[Ap,Ar,Au,Ck];omega),fun r6 H6 e6 h6=>?_⟩
   have e16:=(e14.trans e5).trans e6
   have e26:=e3.trans ((s12.trans e4).trans (e5.trans e6))
   have ht6:=(s2'.trans (e4.trans (e5.trans e6))) t1 _ (show(upd H3 t1 (.tup [V.str "sweep",V.bl c,V.str wy,V.ref r2])) t1=some _ from A5)
   obtain⟨zs2,hz2,fz2⟩:=h2
   refine q r6 H6 e16 ⟨_,h6,Kn f xs i (AI.over e16 hf) hit' fun ys g hg=>?_⟩
   exact⟨t1,r2,zs2,ys,rfl,ht6,e26 _ _ hz2,AI.over e26 fz2,hg⟩
theorem Oi (T:Tx K mg a):Bz P w K mg base BS 1 a.f_l_paths a.d_l_paths ["_law_leaves_here"] SC:=by
 refine T.F_l_paths.ok GD (fun vs H Q E h=>?_) (fun cdv A outer s H vs Q E hr h=>?_)
 .obtain⟨_,_,rfl,_⟩:=h;rfl
 obtain⟨l,B,rfl,⟨xs0,hl,hB⟩,ok,q⟩:=h
 refine⟨_,(@A8 _ _ _ _ _ (@Ai _ _ (1) _ _ _ _ GD.nd rfl (Or.inl rfl) (@BU _ _ _ _ A2) (by rfl) (by first|exact .inl rfl|exact .inr rfl|assumption)) (@A8 _ _ _ _ _ (@F3 _ _ _ _ _ _ _ _ PassesOwn.never rfl (@Kt _ _ _ _ _ _ _ _ (by rfl) T.z_enumerate (@A0 _ _ _ _ _ (pv 0) A2 (by rfl)) (by rfl)) (Du rfl (Av (Ao (i:=2) GD.nd rfl (Or.inl rfl)) (Av (Ao (i:=3) GD.nd rfl (Or.inl rfl)) Cr))) (@A8 _ _ _ _ _ (@Ai _ _ (4) _ _ _ _ GD.nd rfl (Or.inl rfl) (@AN _ _ _ _ _ (@A0 _ _ _ _ _ A1 A2 (by rfl))) (by rfl) (by first|exact .inl rfl|exact .inr rfl|assumption)) (@A8 _ _ _ _ _ (@AY _ _ _ _ _ _ _ _ (@AA _ _ _ _ _ _ _ _ CW (pv 2) A1 (@Am _ _ (by decide) (by decide))) (@Aj _ _ _ (@Ai _ _ (4) _ _ _ _ GD.nd rfl (Or.inl rfl) (@A3 _ _ _ _ _ _ _ _ CJ (@Bt _ _ _ _ _ _ _ _ _ _ CQ (@Ah _ _ _ _ _ _ _ Bg (pv 1) (@A3 _ _ _ _ _ _ _ _ BZ (pv 2) A1) (fun _ _=>rfl)) Bv (@Bq _ _ _ (@Ah _ _ _ _ _ _ _ AG (pv 3) A1 (fun _ _=>rfl)))) (@AN _ _ _ _ _ (@A0 _ _ _ _ _ (@A3 _ _ _ _ _ _ _ _ AB (@Ah _ _ _ _ _ _ _ AG (@Ah _ _ _ _ _ _ _ Bg (pv 1) (@A3 _ _ _ _ _ _ _ _ BZ (pv 2) A1) (fun _ _=>rfl)) (@Ah _ _ _ _ _ _ _ AG (pv 3) A1 (fun _ _=>rfl)) (fun _ _=>rfl)) A1) A2 (by rfl)))) (by rfl) (by first|exact .inl rfl|exact .inr rfl|assumption))) Bb) (@Aj _ _ _ (@DF _ _ _ _ (@DI _ _ _ _ _ _ _ _ _ _ _ _ Dz EV EW Et (pv 1) (@A0 _ _ _ _ _ (@A3 _ _ _ _ _ _ _ _ CJ (pv 4) (@A3 _ _ _ _ _ _ _ _ Ko (@AN _ _ _ _ _ (@A0 _ _ _ _ _ A1 A2 (by rfl))) (@A3 _ _ _ _ _ _ _ _ BZ (@AE _ _ _ _ _ _ _ _ _ AS (by rfl) T.z_len AR (@A0 _ _ _ _ _ (@Ah _ _ _ _ _ _ _ AG (pv 3) A1 (fun _ _=>rfl)) A2 (by rfl)) (by decide) (by decide) (by rfl) (by rfl)) (@Ah _ _ _ _ _ _ _ AG (pv 3) A1 (fun _ _=>rfl))))) A2 (by rfl)) (by rfl) (by rfl) (by rfl) (by rfl) (by rfl)) (by rfl))))) (by intro _;rfl)) (@Aj _ _ _ (@AX _ _ _ _ (pv 1))))),?_⟩
 have xl:=hB.1
 have Bl:=ok.len
 refine⟨Af rfl,fun fo hfo=>?_⟩
 have e1:=A7 hfo (.lst [])
 have hfo1:(upd H fo (.lst [])) fo=some (.lst []):=A5
 dsimp only[Ag]
 generalize upd H fo (.lst [])=H1 at e1 hfo1
 refine⟨_,rfl,l,rfl,⟨_,A4.of (e1 _ _ hl)⟩,?_⟩
 refine LI (xs:=xs0) (fun i σ' H'=>∃(ys:List V) (o2 o3 o4:Option V),σ'=[some (.ref l),some (.ref fo),o2,o3,o4]/\Aa H H'/\H' fo=some (.lst ys)/\As (E7 H') ys ((CL B).take i)) ⟨[],_,_,_,rfl,e1,hfo1,.nil⟩ (fun i σ' H' _ pp=>by obtain⟨_,_,_,_,_,e,_⟩:=pp;exact A4.of (e _ _ hl)) (fun i x Tt σ' H' hx pp hT=>?_) (fun σ' H' pp=>?_)
 rotate_left
 .obtain⟨ys,o2,o3,o4,rfl,e,hy,ay⟩:=pp
  rw[Dj (by rw[Ej,xl];exact Ak _)]at ay
  exact⟨_,rfl,q fo ys _ e hy ay⟩
 obtain⟨ys,o2,o3,o4,rfl,e,hy,ay⟩:=pp
 obtain⟨b,hb,lf⟩:=hB.get' hx
 have hi:=(Ay.mp hb).1
 have hPi:(CL B)[i]?=some ((CL B)[i]'(by rw[Ej];exact hi)):=AH _
 generalize (CL B)[i]'(by rw[Ej];exact hi)=pi at hPi
 have hsh:=ok.ok.sh b (Bf hb)
 have hw6:=ok.way b (Bf hb)
 have pil:=Km ok i b pi hPi hb
 have yl:=ay.1
 rw[Ar,Ej]at yl
 have sT:=A7 hT (.tup [V.int (i:Int),x])
 have e2:=e.trans sT
 have hy2:=sT _ _ hy
 have ay2:=ay.mono fun y v z=>z.over sT
 obtain⟨t,w0,p0,rfl,ht,⟨wx,hw,haw⟩,_⟩:=lf
 have wxl:=haw.1
 refine⟨Tt,_,rfl,A9.of A5,rfl,_,_,rfl,_,_,rfl,rfl,?_⟩
 generalize upd H' Tt (.tup [V.int (i:Int),V.ref t])=H2 at e2 hy2 ay2
 refine⟨Af rfl,fun t0 ht0=>?_⟩
 have s3:=A7 ht0 (.tup [V.int 0])
 have h03:(upd H2 t0 (.tup [V.int 0])) t0=some (.tup [V.int 0]):=A5
 dsimp only[Ag]
 generalize upd H2 t0 (.tup [V.int 0])=H3 at s3 h03
 have e3:=e2.trans s3
 have hy3:=s3 _ _ hy2
 have ay3:=ay2.mono fun y v z=>z.over s3
 refine Bk (fun σ' H4=>∃(pt:Addr) (pre:List Int),σ'=[some (.ref l),some (.ref fo),some (.int (i:Int)),some (.ref t),some (.ref pt)]/\Aa H3 H4/\H4 pt=some (.tup (pre.map V.int))/\pre++List.replicate (b.ways.length-b.sh) 0=pi) (fun σ' H4 pp=>?_) (fun nx=>?_)
 .obtain⟨pt,pre,rfl,e4,hpt,epi⟩:=pp
  have eH4:=e3.trans e4
  have hy4:=e4 _ _ hy3
  have ht4:=eH4 _ _ ht
  have prl:pre.length<=10:=by
   have:=congrArg List.length epi
   rw[Ap,CN]at this
   omega
  refine⟨_,rfl,.inl ⟨rfl,_,A4.of hy4⟩,_,rfl,Af rfl,fun t1 ht1=>?_⟩
  have s5:=A7 ht1 (.tup [V.int 0])
  refine⟨_,rfl,t,_,2,_,rfl,rfl,A9.of (s5 _ _ ht4),rfl,w0,_,rfl,.inl (A4.of ((eH4.trans s5) _ _ hw)),_,rfl,t,_,1,_,rfl,rfl,A9.of (s5 _ _ ht4),rfl,_,_,rfl,rfl,?_⟩
  refine⟨t1,b.ways.length-b.sh,.int 0,rfl,by rw[wxl];exact congrArg V.int (by omega),A5,by omega,fun tz H5 e5 htz=>?_⟩
  have e45:=s5.trans e5
  refine⟨pt,tz,_,_,rfl,rfl,e45 _ _ hpt,htz,AF (by rw[Al,CN];omega),fun np H6 e6 hnp=>?_⟩
  have e46:=e45.trans e6
  have hy6:=e46 _ _ hy4
  have hnp:H6 np=some (.tup (pi.map V.int)):=by rw[←epi,B8,List.map_replicate];exact hnp
  refine⟨fo,_,_,rfl,rfl,hy6,E8 (by omega),?_⟩
  have tk:=TK.upd (o:=.lst (ys++[V.ref np])) hy6
  refine⟨_,_,_,_,rfl,fun a o ha=>by rw[Aw (BA ha hfo)];exact e46 _ _ (eH4 _ _ ha),A5,?_⟩
  rw[CY hPi]
  exact(ay3.mono fun y v z=>(z.over (e4.trans e46)).tk tk).snoc ⟨np,rfl,tk _ _ hnp⟩
 refine⟨_,rfl,_,_,rfl,rfl,_,rfl,?_⟩
 refine AV (fun c=>?_) (fun c=>?_)
 .have c:=dT c
  obtain⟨j,rfl⟩:∃j,i=j+1:=⟨i-1,by omega⟩
  have hb0:B[j]?=some B[j]:=AH (by omega)
  have hp0:(CL B)[j]?=some ((CL B)[j]'(by rw[Ej];omega)):=AH _
  generalize hpp:(CL B)[j]'(by rw[Ej];omega)=pj at hp0
  have pl:=Km ok j _ _ hp0 hb0
  have o:=(ok.ok.ln j _ b hb0 hb).1
  rw[O0 hp0 hb]at hPi
  cases hPi
  obtain⟨xj,hxj,tj,rfl,htj⟩:=(ay3.mono fun y v z=>z).get (i:=j) (a:=pj) (by rw[Dy (Gb j)];exact hp0)
  have aj:C6 ys (((j+1:Nat):Int)-1)=some (.ref tj):=by
   rw[show(((j+1:Nat):Int)-1)=(j:Int) by omega]
   exact Bx hxj
  have ash:(pj.map V.int)[b.sh]?=some (.int (pj.getD b.sh 0)):=by
   rw[C3,Cc,AH (by omega:b.sh<pj.length)]
   rfl
  refine⟨_,rfl,_,rfl,_,_,rfl,rfl,fo,_,_,_,rfl,rfl,A4.of hy3,aj,?_⟩
  refine⟨_,rfl,t,_,1,_,rfl,rfl,A9.of (e3 _ _ ht),rfl,_,rfl,tj,_,rfl,htj,fun sl H4 e4 hsl=>?_⟩
  have ct:AL (pj.map V.int) none (some (b.sh:Int))=(pj.take b.sh).map V.int:=by
   have:AL (pj.map V.int) none (some (b.sh:Int))=(pj.map V.int).take ((b.sh:Int)).toNat:=DL _ (E5 _)
   rw[this,Gc,IW]
  have hsl:H4 sl=some (.tup ((pj.take b.sh).map V.int)):=by rw[←ct];exact hsl
  refine⟨_,rfl,_,rfl,_,_,rfl,rfl,fo,_,_,_,rfl,rfl,A4.of (e4 _ _ hy3),aj,_,rfl,t,_,1,_,rfl,rfl,A9.of (e4 _ _ (e3 _ _ ht)),rfl,tj,_,_,_,rfl,rfl,A9.of (e4 _ _ htj),Bx ash,_,_,rfl,rfl,Af rfl,fun tq htq=>?_⟩
  have s5:=A7 htq (.tup [V.int (pj.getD b.sh 0+1)])
  refine⟨sl,tq,_,_,rfl,rfl,s5 _ _ hsl,A5,AF (by rw[Al,Ar,Au];omega),fun np H6 e6 hnp=>?_⟩
  refine nx _ _ ⟨np,pj.take b.sh++[pj.getD b.sh 0+1],rfl,(e4.trans s5).trans e6,by rw[B8];exact hnp,rfl⟩
 .have c:=dF c
  have:i=0:=by omega
  subst this
  have z0:b.sh=0:=ok.fst b (by rw[EU];exact hb)
  refine nx _ _ ⟨t0,[0],rfl,Aa.refl _,h03,?_⟩
  cases B with
  |nil=>cases hb
  |
   cons b0 B=>
   cases hb
   cases hPi
   rw[z0]
   rfl
theorem Qc (T:Tx K mg a):Bz P w K mg base BS 12 a.f_l_hollow a.d_l_hollow ["_law_plan","_law_leaves_here","_law_n","_law_at_here","_law_much"] QF:=by
 have G_l_paths:=Oi (P:=P) (w:=w) (base:=base) T
 have G_l_put:=KB (P:=P) (w:=w) (base:=base) T 9
 refine T.F_l_hollow.ok HV (fun vs H Q E h=>?_) (fun cdv A outer s H vs Q E hr h=>?_)
 .obtain⟨_,_,_,_,_,_,_,rfl,_⟩:=h;rfl
 obtain⟨pt,l,f,B,n,at',much,rfl,hf,hI,hB,lv,nl,at0,mu0,q⟩:=h
 refine⟨_,(@A8 _ _ _ _ _ (@Ai _ _ (5) _ _ _ _ HV.nd rfl (Or.inl rfl) (@Cq _ _ _ _ _ (@Ae _ _ _ _ _ BL (@Ae _ _ _ _ _ (@Cm _ _ _ _ _ _ _ _ Bn (@A3 _ _ _ _ _ _ _ _ B7 (pv 4) A1) A1 (@Am _ _ (by decide) (by decide))) (@Ae _ _ _ _ _ (@Ah _ _ _ _ _ _ _ Bg (@Eo _ _ _ _ (@Ae _ _ _ _ _ BL (@Ae _ _ _ _ _ BL (@Ae _ _ _ _ _ BL BF B3) B3) B3)) (@A3 _ _ _ _ _ _ _ _ B7 (@A3 _ _ _ _ _ _ _ _ Dp (pv 4) A1) A1) (fun _ _=>rfl)) (@Ae _ _ _ _ _ (@AN _ _ _ _ _ A2) BF DC) EI) Uk) B3)) (by rfl) (by first|exact .inl rfl|exact .inr rfl|assumption)) (@A8 _ _ _ _ _ (@AY _ _ _ _ _ _ _ _ (@AA _ _ _ _ _ _ _ _ Bn (@A3 _ _ _ _ _ _ _ _ B7 (@A3 _ _ _ _ _ _ _ _ Dp (pv 4) A1) A1) A1 (@Am _ _ (by decide) (by decide))) (@Aj _ _ _ (@Ai _ _ (5) _ _ _ _ HV.nd rfl (Or.inl rfl) (@Cq _ _ _ _ _ (@Ae _ _ _ _ _ BL (@Ae _ _ _ _ _ CD (@Ae _ _ _ _ _ BL (@Ae _ _ _ _ _ (@AN _ _ _ _ _ (@A0 _ _ _ _ _ (pv 5) A2 (by rfl))) BF DC) B3) B3) B3)) (by rfl) (by first|exact .inl rfl|exact .inr rfl|assumption))) Bb) (@A8 _ _ _ _ _ (@Ai _ _ (6) _ _ _ _ HV.nd rfl (Or.inl rfl) (@Ah _ _ _ _ _ _ _ Bg (@AJ _ _ _ _ _ _ _ _ _ _ _ _ _ _ _ _ G_l_paths (hr.mono (by omega)) (by rfl) T.m_l_paths T.F_l_paths.kp T.b_l_paths .nil AD (@A0 _ _ _ _ _ (pv 1) A2 (by rfl)) (by decide) (by rfl) (by rfl)) (pv 2) (fun _ _=>rfl)) (by rfl) (by first|exact .inl rfl|exact .inr rfl|assumption)) (@A8 _ _ _ _ _ (@Ai _ _ (6) _ _ _ _ HV.nd rfl (Or.inl rfl) (@Bt _ _ _ _ _ _ _ _ _ _ CQ (pv 6) Bv (@Bq _ _ _ (@A3 _ _ _ _ _ _ _ _ AB A1 (@A3 _ _ _ _ _ _ _ _ B7 (pv 3) (@AE _ _ _ _ _ _ _ _ _ AS (by rfl) T.z_len AR (@A0 _ _ _ _ _ (pv 6) A2 (by rfl)) (by decide) (by decide) (by rfl) (by rfl)))))) (by rfl) (by first|exact .inl rfl|exact .inr rfl|assumption)) (@Aj _ _ _ (@AX _ _ _ _ (@AJ _ _ _ _ _ _ _ _ _ _ _ _ _ _ _ _ G_l_put (hr.mono (by omega)) (by rfl) T.m_l_put T.F_l_put.kp T.b_l_put .nil AD (@A0 _ _ _ _ _ (pv 0) (@A0 _ _ _ _ _ (@A3 _ _ _ _ _ _ _ _ CJ (@Bt _ _ _ _ _ _ _ _ _ _ CQ (pv 6) Bv (@Bq _ _ _ (@Hr _ _ _ _ _ _ Ie A1))) (@AN _ _ _ _ _ (@A0 _ _ _ _ _ (@A3 _ _ _ _ _ _ _ _ AB (@Ah _ _ _ _ _ _ _ AG (pv 6) (@Hr _ _ _ _ _ _ Ie A1) (fun _ _=>rfl)) (@A3 _ _ _ _ _ _ _ _ B7 (@A3 _ _ _ _ _ _ _ _ Dp (pv 4) A1) A1)) A2 (by rfl)))) (@A0 _ _ _ _ _ (pv 5) A2 (by rfl)) (by rfl)) (by rfl)) (by decide) (by rfl) (by rfl)))))))),?_⟩
 have ways:∀i:Int,0<=i->i<3->∃z:Str,C6 [V.str "up",V.str "any",V.str "down"] i=some (.str z):=fun i h0 h1=>by
  have:i=0\/i=1\/i=2:=by omega
  rcases this with rfl|rfl|rfl
  .exact⟨"up",rfl⟩
  .exact⟨"any",rfl⟩
  .exact⟨"down",rfl⟩
 obtain⟨wy,hwy⟩:=ways (much/2%3) (BV _ (by decide)) (BW _ (by decide))
 refine⟨_,rfl,_,_,rfl,rfl,(by show(0:Int)<2;decide),rfl,Af rfl,fun l1 hl1=>?_⟩
 have s1:=A7 hl1 (.lst [V.str "up",V.str "any",V.str "down"])
 refine⟨_,rfl,_,_,rfl,rfl,⟨by decide,by decide⟩,_,_,rfl,rfl,(by show(0:Int)<3;decide),l1,_,_,_,rfl,rfl,A4.of A5,hwy,Af rfl,fun u1 hu1=>⟨Af rfl,fun t1 ht1=>?_⟩⟩
 have s2:=A7 hu1 (.tup [])
 have s3:=A7 ht1 (.tup [V.str "sweep",V.bl (decide (V.int (much%2)=V.int 0)),V.str wy,V.ref u1])
 have e3:=s1.trans (s2.trans s3)
 have ht3:(upd (upd (upd H l1 (.lst [V.str "up",V.str "any",V.str "down"])) u1 (.tup [])) t1 (.tup [V.str "sweep",V.bl (decide (V.int (much%2)=V.int 0)),V.str wy,V.ref u1])) t1=some (.tup [V.str "sweep",V.bl (decide (V.int (much%2)=V.int 0)),V.str wy,V.ref u1]):=A5
 have hu3:=s3 _ _ (show(upd (upd H l1 (.lst [V.str "up",V.str "any",V.str "down"])) u1 (.tup [])) u1=some (.tup []) from A5)
 dsimp only[Ag]
 generalize upd (upd (upd H l1 (.lst [V.str "up",V.str "any",V.str "down"])) u1 (.tup [])) t1 (.tup [V.str "sweep",V.bl (decide (V.int (much%2)=V.int 0)),V.str wy,V.ref u1])=H3 at e3 ht3 hu3
 generalize decide (V.int (much%2)=V.int 0)=cb at ht3
 refine Bk (fun σ' H'=>∃(y:V) (mk:Ac->Ac),Aa H H'/\N2 mk/\(∀H2,Aa H' H2->∀ys g,AI H2 ys g->AI H2 (y::ys) (mk g))/\σ'=[some (.ref pt),some (.ref l),some (.int (n:Int)),some (.int at'),some (.int much),some y,none]) (fun σ' H4 pp=>?_) (fun nx=>?_)
 rotate_left
 .refine⟨_,rfl,_,_,rfl,rfl,⟨by decide,by decide⟩,_,_,rfl,rfl,(by show(0:Int)<3;decide),rfl,_,rfl,AV (fun _=>?_) (fun _=>?_)⟩
  .refine⟨_,rfl,Af rfl,fun u2 hu2=>⟨Af rfl,fun t2 ht2=>?_⟩⟩
   have s4:=A7 hu2 (.tup [V.ref t1])
   have s5:=A7 ht2 (.tup [V.str "sweep",V.bl false,V.str "up",V.ref u2])
   refine nx _ _ ⟨.ref t2,fun r=>.node false "up" (.node cb wy .nil .nil) r,e3.trans (s4.trans s5),⟨fun r=>rfl,⟨2,Ak _,fun r=>?_⟩,fun r=>rfl,fun r=>by have:=FO r;simp only[AU];omega⟩,fun H2 e2 ys g hg=>?_,rfl⟩
   .show 0+0+1+Ax r+1=_
    omega
   .exact⟨t2,u2,[.ref t1],ys,rfl,e2 _ _ A5,e2 _ _ (s5 _ _ A5),⟨t1,u1,[],[],rfl,e2 _ _ ((s4.trans s5) _ _ ht3),e2 _ _ ((s4.trans s5) _ _ hu3),rfl,rfl⟩,hg⟩
  .refine nx _ _ ⟨.ref t1,fun r=>.node cb wy .nil r,e3,⟨fun r=>rfl,⟨1,by decide,fun r=>?_⟩,fun r=>rfl,fun r=>by have:=FO r;simp only[AU];omega⟩,fun H2 e2 ys g hg=>⟨t1,u1,[],ys,rfl,e2 _ _ ht3,e2 _ _ hu3,rfl,hg⟩,rfl⟩
   show 0+Ax r+1=_
   omega
 obtain⟨y,mk,e4,hm,hy,rfl⟩:=pp
 have Bpos:0<B.length:=by omega
 have hbn:B[n]?=some B[n]:=AH nl
 have hpi:(CL B)[n]?=some ((CL B)[n]'(by rw[Ej];exact nl)):=AH _
 generalize (CL B)[n]'(by rw[Ej];exact nl)=pi at hpi
 obtain⟨en,hen,_,_⟩:=MX hI hbn
 have epa:=Oe hI Bpos hen hpi
 obtain⟨r,rs,er,hd⟩:=Fo.deeds_down f B 0 [] 0 n en B[n] hI (fun _ _ _=>BP _) lv.ok (fun _ _=>BP _) hen hbn
 rw[epa,Hd,Nat.zero_add]at er
 have er:pi=(r::rs).map fun i:Nat=>(i:Int):=er
 refine⟨_,rfl,l,B,rfl,hB.over e4,lv,fun pl px H5 e5 hpl aP=>?_⟩
 obtain⟨x0,hx0,tp,rfl,htp⟩:=aP.get hpi
 refine⟨_,rfl,pl,_,_,_,rfl,rfl,A4.of hpl,Bx hx0,?_⟩
 dsimp only[Ag]
 have pl1:(pi.map V.int).length=rs.length+1:=by rw[Al,er,Al,B5]
 have lp:(0:Int)<((pi.map V.int).length:Int):=by omega
 have k0:=BV at' (show((pi.map V.int).length:Int)≠0 by omega)
 have k1:=BW at' lp
 obtain⟨k,hk⟩:∃k:Nat,at'%((pi.map V.int).length:Int)=(k:Int):=⟨(at'%((pi.map V.int).length:Int)).toNat,by omega⟩
 have kr:k<=rs.length:=by omega
 refine⟨_,rfl,_,rfl,_,rfl,tp,_,rfl,.inr (A9.of htp),_,_,rfl,rfl,lp,_,_,rfl,rfl,_,rfl,tp,_,rfl,htp,fun tp2 H6 e6 h6=>?_⟩
 have c1:AL (pi.map V.int) none (some (1+at'%((pi.map V.int).length:Int)))=(((r::rs).take (k+1)).map fun i:Nat=>(i:Int)).map V.int:=by
  rw[show AL (pi.map V.int) none (some (1+at'%((pi.map V.int).length:Int)))=(pi.map V.int).take (1+at'%((pi.map V.int).length:Int)).toNat from DL _ (by omega),hk,show(1+(k:Int)).toNat=k+1 by omega,er,IW,IW]
 rw[c1]at h6
 dsimp only[Ag]
 have tke:(r::rs).take (k+1)=(r::rs).take k++[(r::rs).getD k 0]:=by
  have:(r::rs)[k]?=some ((r::rs).getD k 0):=by
   rw[Cc,AH (by rw[B5];omega)]
   rfl
  exact CY this
 obtain⟨rk,hrk⟩:∃rk,rk=(r::rs).getD k 0:=⟨_,rfl⟩
 rw[←hrk]at tke
 have m0:=BV (much/18) (show(2:Int)≠0 by decide)
 have m1:=BW (much/18) (show(0:Int)<2 by decide)
 obtain⟨d,hd1⟩:∃d:Nat,much/18%2=(d:Int):=⟨(much/18%2).toNat,by omega⟩
 rw[tke,B8,B8]at h6
 have h6:H6 tp2=some (.tup ((((r::rs).take k).map fun i:Nat=>(i:Int)).map V.int++[V.int (rk:Int)])):=h6
 refine⟨_,rfl,_,rfl,_,rfl,_,rfl,tp2,_,rfl,h6,fun r1 H7 e7 h7=>?_⟩
 rw[O8]at h7
 refine⟨_,rfl,_,rfl,tp2,_,_,_,rfl,rfl,A9.of (e7 _ _ h6),LD _ _,_,rfl,_,_,rfl,rfl,⟨by decide,by decide⟩,_,_,rfl,rfl,(by show(0:Int)<2;decide),_,_,rfl,rfl,Af rfl,fun t7 ht7=>?_⟩
 have s7:=A7 ht7 (.tup [V.int ((rk:Int)+much/18%2)])
 have tkl:((((r::rs).take k).map fun i:Nat=>(i:Int)).map V.int).length<=10:=by
  have:=lv.way B[n] (Ge nl)
  have dl:=JA hd
  rw[FK]at dl
  rw[Al,Al,Ar]
  simp only[B5]at dl ⊢
  omega
 refine⟨r1,t7,_,_,rfl,rfl,s7 _ _ h7,A5,AF (by rw[Au];omega),fun r2 H8 e8 h8=>?_⟩
 have e58:=e5.trans (e6.trans (e7.trans (s7.trans e8)))
 have e48:=e4.trans e58
 have epath:(((r::rs).take k).map fun i:Nat=>(i:Int)).map V.int++[V.int ((rk:Int)+much/18%2)]=((((r::rs).take k++[rk+d])).map fun i:Nat=>(i:Int)).map V.int:=by
  rw[B8,B8,hd1]
  rfl
 rw[epath]at h8
 obtain⟨g,hg⟩:=KL (mk:=mk) k f r rs _ d hd kr (by omega)
 have fc:=FC f B 0 6 hI (fun b hb=>by have:=lv.way b hb;omega)
 have lb:=lv.len
 rw[←hrk]at hg
 have pl9:((r::rs).take k++[rk+d]).length<=9:=by
  have:=lv.way B[n] (Ge nl)
  have dl:=JA hd
  rw[FK]at dl
  rw[Ap,Ar,Au]
  simp only[B5]at dl ⊢
  omega
 have fcl:Ax f<=1000:=Ey fc (by omega)
 exact⟨_,rfl,pt,r2,y,f,g,_,mk,rfl,hf.over e48,h8,hg,pl9,by decide,fun H' e'=>hy H' (e58.trans e'),fcl,fun r9 H9 e9 h9=>q r9 H9 g mk _ (e48.trans e9) h9 hm hg⟩
theorem Ut (T:Tx K mg a):Bz P w K mg base BS 17 a.f_l_asked a.d_l_asked ["_law_program","_law_leaves_here","_law_depths","_law_plan","_law_script"] (UI K a.c_Program a.c_Deed (Ee a)):=by
 have G_l_at:=GI (P:=P) (w:=w) (base:=base) T
 have G_l_digits:=Gx (P:=P) (w:=w) (base:=base) T
 have G_l_hollow:=Qc (P:=P) (w:=w) (base:=base) T
 have G_l_deeper:=Pb (P:=P) (w:=w) (base:=base) T
 have G_l_spoilt:=QX (P:=P) (w:=w) (base:=base) T
 have G_l_items:=KP (P:=P) (w:=w) (base:=base) T 10
 have G_fits:=Ks (P:=P) (w:=w) (base:=base) T
 refine T.F_l_asked.ok Fv (fun vs H Q E h=>?_) (fun cdv A outer s H vs Q E hr h=>?_)
 .obtain⟨_,_,_,_,_,_,_,_,_,_,_,rfl,_⟩:=h;rfl
 obtain⟨v,l,dl,pt,sc,N,Ds,B,D,f,ns,rfl,hP,n10,D3,hB,lv,hdl,hD,Bl,Bpos,hf,hI,hsc,q⟩:=h
 refine⟨_,(@A8 _ _ _ _ _ (@DK _ _ _ _ _ _ (@AJ _ _ _ _ _ _ _ _ _ _ _ _ _ _ _ _ G_l_digits (hr.mono (by omega)) (by rfl) T.m_l_digits T.F_l_digits.kp T.b_l_digits .nil AD (@A0 _ _ _ _ _ (@AJ _ _ _ _ _ _ _ _ _ _ _ _ _ _ _ _ G_l_at (hr.mono (by omega)) (by rfl) T.m_l_at T.F_l_at.kp T.b_l_at .nil AD (@A0 _ _ _ _ _ (pv 4) (@A0 _ _ _ _ _ A1 A2 (by rfl)) (by rfl)) (by decide) (by rfl) (by rfl)) (@A0 _ _ _ _ _ (@Eo _ _ _ _ (@Ae _ _ _ _ _ A1 (@Ae _ _ _ _ _ A1 (@Ae _ _ _ _ _ A1 (@Ae _ _ _ _ _ A1 BF B3) B3) B3) B3)) A2 (by rfl)) (by rfl)) (by decide) (by rfl) (by rfl)) (FP rfl (Av (Ao (i:=5) Fv.nd rfl (Or.inl rfl)) (Av (Ao (i:=6) Fv.nd rfl (Or.inl rfl)) (Av (Ao (i:=7) Fv.nd rfl (Or.inl rfl)) (Av (Ao (i:=8) Fv.nd rfl (Or.inl rfl)) Cr))))) (by rfl) (by rfl) (by rfl)) (@A8 _ _ _ _ _ (@Ai _ _ (6) _ _ _ _ Fv.nd rfl (Or.inl rfl) (@A3 _ _ _ _ _ _ _ _ B7 (pv 6) (@AE _ _ _ _ _ _ _ _ _ AS (by rfl) T.z_len AR (@A0 _ _ _ _ _ (pv 1) A2 (by rfl)) (by decide) (by decide) (by rfl) (by rfl))) (by rfl) (by first|exact .inl rfl|exact .inr rfl|assumption)) (@A8 _ _ _ _ _ (@AY _ _ _ _ _ _ _ _ (@AA _ _ _ _ _ _ _ _ Bn (pv 5) A1 (@Am _ _ (by decide) (by decide))) (@Aj _ _ _ (@AX _ _ _ _ (@Cm _ _ _ _ _ _ _ _ Jr (@AJ _ _ _ _ _ _ _ _ _ _ _ _ _ _ _ _ G_fits (hr.mono (by omega)) (by rfl) T.m_fits T.F_fits.kp T.b_fits .nil AD (@A0 _ _ _ _ _ (pv 0) (@A0 _ _ _ _ _ (@AJ _ _ _ _ _ _ _ _ _ _ _ _ _ _ _ _ G_l_hollow (hr.mono (by omega)) (by rfl) T.m_l_hollow T.F_l_hollow.kp T.b_l_hollow .nil AD (@A0 _ _ _ _ _ (pv 3) (@A0 _ _ _ _ _ (pv 1) (@A0 _ _ _ _ _ (pv 6) (@A0 _ _ _ _ _ (pv 7) (@A0 _ _ _ _ _ (pv 8) A2 (by rfl)) (by rfl)) (by rfl)) (by rfl)) (by rfl)) (by decide) (by rfl) (by rfl)) A2 (by rfl)) (by rfl)) (by decide) (by rfl) (by rfl)) CD (@Am _ _ (by decide) (by decide))))) Bb) (@A8 _ _ _ _ _ (@AY _ _ _ _ _ _ _ _ ((@Ei _ _ _ _ _ _ _ (@AA _ _ _ _ _ _ _ _ Bn (pv 5) A1 (@Am _ _ (by decide) (by decide))) (@EK _ _ _ _ (@AA _ _ _ _ _ _ _ _ CW (@Ah _ _ _ _ _ _ _ Bg (pv 2) (@Ah _ _ _ _ _ _ _ AG (@Ah _ _ _ _ _ _ _ Bg (pv 1) (pv 6) (fun _ _=>rfl)) A1 (fun _ _=>rfl)) (fun _ _=>rfl)) A1 (@Am _ _ (by decide) (by decide)))))).pt (@A8 _ _ _ _ _ (@Ai _ _ (9) _ _ _ _ Fv.nd rfl (Or.inl rfl) (@Ah _ _ _ _ _ _ _ Bg (@Eo _ _ _ _ (@Ae _ _ _ _ _ BL (@Ae _ _ _ _ _ BL (@Ae _ _ _ _ _ BL BF B3) B3) B3)) (@A3 _ _ _ _ _ _ _ _ B7 (pv 8) A1) (fun _ _=>rfl)) (by rfl) (by first|exact .inl rfl|exact .inr rfl|assumption)) (@A8 _ _ _ _ _ (@AY _ _ _ _ _ _ _ _ (@AA _ _ _ _ _ _ _ _ Ki (@AJ _ _ _ _ _ _ _ _ _ _ _ _ _ _ _ _ G_fits (hr.mono (by omega)) (by rfl) T.m_fits T.F_fits.kp T.b_fits .nil AD (@A0 _ _ _ _ _ (pv 0) (@A0 _ _ _ _ _ (@AJ _ _ _ _ _ _ _ _ _ _ _ _ _ _ _ _ G_l_items (hr.mono (by omega)) (by rfl) T.m_l_items T.F_l_items.kp T.b_l_items .nil AD (@A0 _ _ _ _ _ (@AJ _ _ _ _ _ _ _ _ _ _ _ _ _ _ _ _ G_l_deeper (hr.mono (by omega)) (by rfl) T.m_l_deeper T.F_l_deeper.kp T.b_l_deeper .nil AD (@A0 _ _ _ _ _ (pv 1) (@A0 _ _ _ _ _ (pv 6) (@A0 _ _ _ _ _ A1 (@A0 _ _ _ _ _ (pv 9) A2 (by rfl)) (by rfl)) (by rfl)) (by rfl)) (by decide) (by rfl) (by rfl)) (@A0 _ _ _ _ _ A1 A2 (by rfl)) (by rfl)) (by decide) (by rfl) (by rfl)) A2 (by rfl)) (by rfl)) (by decide) (by rfl) (by rfl)) CD (@Am _ _ (by decide) (by decide))) (@Aj _ _ _ (@AX _ _ _ _ CD)) Bb) (@Aj _ _ _ (@AX _ _ _ _ (@Cm _ _ _ _ _ _ _ _ Jr (@AJ _ _ _ _ _ _ _ _ _ _ _ _ _ _ _ _ G_fits (hr.mono (by omega)) (by rfl) T.m_fits T.F_fits.kp T.b_fits .nil AD (@A0 _ _ _ _ _ (pv 0) (@A0 _ _ _ _ _ (@AJ _ _ _ _ _ _ _ _ _ _ _ _ _ _ _ _ G_l_items (hr.mono (by omega)) (by rfl) T.m_l_items T.F_l_items.kp T.b_l_items .nil AD (@A0 _ _ _ _ _ (@AJ _ _ _ _ _ _ _ _ _ _ _ _ _ _ _ _ G_l_deeper (hr.mono (by omega)) (by rfl) T.m_l_deeper T.F_l_deeper.kp T.b_l_deeper .nil AD (@A0 _ _ _ _ _ (pv 1) (@A0 _ _ _ _ _ (pv 6) (@A0 _ _ _ _ _ (@A3 _ _ _ _ _ _ _ _ AB A1 (@A3 _ _ _ _ _ _ _ _ B7 (@A3 _ _ _ _ _ _ _ _ Dp (pv 8) A1) A1)) (@A0 _ _ _ _ _ (pv 9) A2 (by rfl)) (by rfl)) (by rfl)) (by rfl)) (by decide) (by rfl) (by rfl)) (@A0 _ _ _ _ _ A1 A2 (by rfl)) (by rfl)) (by decide) (by rfl) (by rfl)) A2 (by rfl)) (by rfl)) (by decide) (by rfl) (by rfl)) CD (@Am _ _ (by decide) (by decide))))))) Bb) (@A8 _ _ _ _ _ (@Ai _ _ (10) _ _ _ _ Fv.nd rfl (Or.inl rfl) (@AJ _ _ _ _ _ _ _ _ _ _ _ _ _ _ _ _ G_fits (hr.mono (by omega)) (by rfl) T.m_fits T.F_fits.kp T.b_fits .nil AD (@A0 _ _ _ _ _ (pv 0) (@A0 _ _ _ _ _ (@AJ _ _ _ _ _ _ _ _ _ _ _ _ _ _ _ _ G_l_items (hr.mono (by omega)) (by rfl) T.m_l_items T.F_l_items.kp T.b_l_items .nil AD (@A0 _ _ _ _ _ (@AJ _ _ _ _ _ _ _ _ _ _ _ _ _ _ _ _ G_l_spoilt (hr.mono (by omega)) (by rfl) T.m_l_spoilt T.F_l_spoilt.kp T.b_l_spoilt .nil AD (@A0 _ _ _ _ _ (pv 1) (@A0 _ _ _ _ _ (pv 2) (@A0 _ _ _ _ _ (pv 5) (@A0 _ _ _ _ _ (pv 6) (@A0 _ _ _ _ _ (pv 7) (@A0 _ _ _ _ _ (pv 8) A2 (by rfl)) (by rfl)) (by rfl)) (by rfl)) (by rfl)) (by rfl)) (by decide) (by rfl) (by rfl)) (@A0 _ _ _ _ _ A1 A2 (by rfl)) (by rfl)) (by decide) (by rfl) (by rfl)) A2 (by rfl)) (by rfl)) (by decide) (by rfl) (by rfl)) (by rfl) (by first|exact .inl rfl|exact .inr rfl|assumption)) (@Aj _ _ _ (@AX _ _ _ _ (@GV _ _ _ _ _ _ _ (@AE _ _ _ _ _ _ _ _ _ Su (by rfl) T.z_isinstance Qw (@A0 _ _ _ _ _ (pv 10) (@A0 _ _ _ _ _ (@Us _ _ (.ty "bool") _ _ (by rfl) T.z_bool QD rfl (by decide) (by decide)) A2 (by rfl)) (by rfl)) (by decide) (by decide) (by rfl) (by rfl)) (@F1 _ _ _ _ _ (@Cm _ _ _ _ _ _ _ _ Bn (pv 10) (@Cm _ _ _ _ _ _ _ _ CW (pv 5) A1 (@Am _ _ (by decide) (by decide))) (@Am _ _ (by decide) (by decide)))))))))))),?_⟩
 have B6:=lv.lv.len
 refine⟨_,rfl,sc,ns,1,rfl,hsc,by decide,by decide,fun m m0 _=>⟨Af rfl,fun d1 hd1=>?_⟩⟩
 have s1:=A7 hd1 (.lst [V.int 14,V.int 6,V.int 6,V.int 1000])
 refine⟨m,d1,[14,6,6,1000],rfl,A5,m0,by decide,by decide,fun r1 H1 ds e1 hr1 dsl db=>?_⟩
 have e1:=s1.trans e1
 obtain⟨kind,x1,at',much,rfl⟩:∃d0 d1 d2 d3,ds=[d0,d1,d2,d3]:=by
  match ds,dsl with
  |[x,y,z,u],_=>exact⟨x,y,z,u,rfl⟩
 have b0:=db 0 kind 14 rfl rfl
 have b2:=db 2 at' 6 rfl rfl
 have b3:=db 3 much 1000 rfl rfl
 refine⟨r1,_,rfl,hr1,rfl,_,_,rfl,_,_,rfl,_,_,rfl,_,_,rfl,rfl,?_⟩
 dsimp only[Ag]
 obtain⟨xs,hl,ax⟩:=id hB
 have xl:=ax.1
 have lp:(0:Int)<(xs.length:Int):=by omega
 refine⟨_,rfl,_,rfl,l,_,rfl,.inl (A4.of (e1 _ _ hl)),_,_,rfl,rfl,lp,?_⟩
 have n0:=BV x1 (show(xs.length:Int)≠0 by omega)
 have n1:=BW x1 lp
 dsimp only[Ag]
 obtain⟨n,hn⟩:∃n:Nat,x1%(xs.length:Int)=(n:Int):=⟨(x1%(xs.length:Int)).toNat,by omega⟩
 rw[hn]
 have nl:n<B.length:=by omega
 have hb:B[n]?=some B[n]:=AH nl
 generalize B[n]=b at hb
 have bm:=Bf hb
 obtain⟨kk,mm,ek,eD,wpb,wz⟩:=lv.lf b bm
 obtain⟨x0,hx0,tb,wb,pb,rfl,htb,_,_⟩:=(ax.mono fun _ _ z=>z.over e1).get hb
 have P1:∀HX,Aa H1 HX->Fq a.c_Program a.c_Deed (Ee a) HX v N Ds:=fun HX e=>by
  obtain⟨x,dx,dl',rfl,hx,ds',hds,ads⟩:=hP
  exact⟨x,dx,dl',rfl,e _ _ (e1 _ _ hx),ds',e _ _ (e1 _ _ hds),ads.mono fun _ _ z=>CI.over (e1.trans e) z⟩
 have kne:∀{n:Int},¬decide (V.int kind=V.int n)=true->kind≠n:=fun h z=>h (Cw (congrArg V.int z))
 have keq:∀{n:Int},decide (V.int kind=V.int n)=true->kind=n:=fun h=>V.int.inj (Hm h)
 refine Bk (fun σ' H2=>H2=H1/\kind≠10/\σ'=[some v,some (.ref l),some (.ref dl),some (.ref pt),some (.ref sc),some (.int kind),some (.int (n:Int)),some (.int at'),some (.int much),none,none]) (fun σ' H2 pp=>?_) (fun nx=>?_)
 rotate_left
 .refine⟨_,rfl,rfl,_,rfl,AV (fun c=>?_) (fun c=>nx _ _ ⟨rfl,kne c,rfl⟩)⟩
  refine⟨_,rfl,_,rfl,_,rfl,_,rfl,_,rfl,_,rfl,pt,l,f,B,n,at',much,rfl,hf.over e1,hI,hB.over e1,lv.lv,nl,b2.1,b3.1,fun r2 H2 g mk PP e2 h2 hm hp=>?_⟩
  obtain⟨z1,z2,z3,z4⟩:=Hy (w:=6) hI (ED lv.lv.ok) lv.lv.fst (by omega) (fun b hb=>by have:=Dv lv b hb;omega) (by decide)
  have dd:=G8 f B 0 6 hI fun b hb=>by have:=lv.lv.way b hb;omega
  obtain⟨m1,⟨a2,a2l,m2⟩,m3,m4⟩:=hm
  have g1:=L5 m4 hp
  have g2:=Lf m2 hp
  have g3:=S8 m3 hp
  have dlen:(AO g [] 0 []).length<=60:=by
   have x1:=congrArg List.length (G5 g [] 0 [])
   have x2:=congrArg List.length (G5 f [] 0 [])
   rw[Al]at x1 x2
   rw[g3]at x1
   omega
  refine⟨v,r2,N,Ds,g,rfl,P1 _ e2,n10,D3,h2,by omega,by have:=FC f B 0 6 hI (fun b hb=>by have:=lv.lv.way b hb;omega);have:(6+1)*B.length<=7*6:=M3 (by decide) B6;omega,dlen,fun e he=>?_,fun H3 e3=>?_⟩
  .have:e.1.pl∈Bs g:=by rw[←G5 g [] 0 []];exact C4.mpr ⟨e,he,rfl⟩
   rw[g3,←G5 f [] 0 []]at this
   obtain⟨e',he',eq⟩:=C4.mp this
   rw[←eq]
   exact z4 e' he'
  .rw[To m1 hp]
   exact⟨false,rfl,rfl,q _ (e1.trans (e2.trans e3))⟩
 obtain⟨rfl,k10,rfl⟩:=pp
 refine Bk (fun σ' H3=>H3=H2/\σ'=[some v,some (.ref l),some (.ref dl),some (.ref pt),some (.ref sc),some (.int kind),some (.int (n:Int)),some (.int at'),some (.int much),none,none]) (fun σ' H3 pp=>?_) (fun nx=>?_)
 rotate_left
 .refine⟨_,rfl,rfl,_,rfl,AV (fun c=>?_) (fun c=>BH (nx _ _ ⟨rfl,rfl⟩))⟩
  have atD:C6 (D.map V.int) b.k=some (.int (mm:Int)):=by rw[ek];exact Bx (by rw[C3,eD];rfl)
  refine⟨_,rfl,_,rfl,_,rfl,l,_,_,_,rfl,rfl,A4.of (e1 _ _ hl),Bx hx0,tb,_,0,_,rfl,rfl,A9.of htb,rfl,dl,_,_,_,rfl,rfl,A4.of (e1 _ _ hdl),atD,_,_,rfl,rfl,_,rfl,AV (fun c2=>?_) (fun c2=>nx _ _ ⟨rfl,rfl⟩)⟩
  have m0':0<mm:=by have:=dT c2;omega
  obtain⟨wy,hwy⟩:=O4 (i:=much%3) (BV _ (by decide)) (BW _ (by decide))
  refine⟨Af rfl,fun l3 hl3=>?_⟩
  have s3:=A7 hl3 (.lst [V.str "up",V.str "down",V.str "any"])
  refine⟨_,rfl,_,_,rfl,rfl,(by show(0:Int)<3;decide),l3,_,_,_,rfl,rfl,A4.of A5,hwy,?_⟩
  dsimp only[Ag]
  generalize upd H2 l3 (.lst [V.str "up",V.str "down",V.str "any"])=H3 at s3
  have bw6:=lv.lv.way b bm
  have bpl:=lv.lv.pll b bm
  have one:1<=b.ways.length:=by
   have x1:=JK b.pl (AK b)
   have x2:=wpb.2.2.2.length_eq
   rw[Il]at x2
   omega
  have ask:∀(many:Nat),6<=many->many<=9->FX (Az B n (Dt b (many-b.ways.length) wy)) 0 9/\∀g,Fo.Is g (Az B n (Dt b (many-b.ways.length) wy)) 0->(AU g<=13/\Ax g<=900/\(AO g [] 0 []).length<=60/\∀e∈AO g [] 0 [],e.1.pl.length<=60)/\DU Ds g=decide (many<=6):=fun many h6 h9=>by
   obtain⟨o1,o2,o3⟩:=Ug (j:=many-b.ways.length) (w:=wy) lv hb ek eD m0'
   have sl:=EM (p:=Dt b (many-b.ways.length) wy) nl
   have sw:∀c∈Az B n (Dt b (many-b.ways.length) wy),c.ways.length<=9/\c.pl.length<=60:=fun c hc=>by
    rcases Fp hc with rfl|z
    .show(b.ways++List.replicate (many-b.ways.length) (true,wy)).length<=9/\(b.pl++List.replicate (many-b.ways.length) ((0,1):Int×Int)).length<=60
     rw[Ap,Ap,CN,CN]
     omega
    .have:=Dv lv c z
     omega
   refine⟨⟨ED o1,fun _ _ _=>BP _,fun _ _=>BP _,fun c hc=>by have:=(sw c hc).1;omega,fun c hc=>(sw c hc).2,by rw[sl];omega⟩,fun g hg=>⟨Hy (w:=9) hg (ED o1) o2 (by rw[sl];omega) sw (by decide),?_⟩⟩
   have x1:=Os hD hg (ED o1) o2
   rw[Kw o1 o2,o3]at x1
   by_cases c:many<=6
   .rw[Cw c,Gq (x1.mpr (by omega))]
   .rw[Cv c,Fu fun z=>c (by have:=x1.mp z;omega)]
  obtain⟨w6,a6⟩:=ask 6 (by decide) (by decide)
  refine⟨_,rfl,_,rfl,_,rfl,_,rfl,l,B,b,n,6-b.ways.length,wy,by rw[show b.ways.length+(6-b.ways.length)=6 by omega];rfl,hB.over (e1.trans s3),hb,B6,bw6,by omega,by omega,fun r6 H6 e6 h6'=>?_⟩
  refine⟨r6,0,9,_,rfl,h6',w6,by decide,by decide,fun r7 H7 g e7 h7 hg=>?_⟩
  obtain⟨⟨z1,z2,z3,z4⟩,ev⟩:=a6 g hg
  refine⟨v,r7,N,Ds,g,rfl,P1 _ (s3.trans (e6.trans e7)),n10,D3,h7,z1,z2,z3,z4,fun H8 e8=>?_⟩
  rw[ev]
  refine⟨true,rfl,rfl,_,rfl,BH ?_⟩
  have e68:=e6.trans (e7.trans e8)
  have v0:=BV (much/3) (show(3:Int)≠0 by decide)
  have v1:=BW (much/3) (show(0:Int)<3 by decide)
  obtain⟨d,hd⟩:∃d:Nat,7+much/3%3=(d:Int):=⟨(7+much/3%3).toNat,by omega⟩
  obtain⟨w7,a7⟩:=ask d (by omega) (by omega)
  refine⟨_,rfl,_,rfl,_,rfl,_,rfl,_,_,rfl,rfl,⟨by decide,by decide⟩,_,_,rfl,rfl,(by show(0:Int)<3;decide),_,_,rfl,rfl,_,rfl,l,B,b,n,d-b.ways.length,wy,by rw[show b.ways.length+(d-b.ways.length)=d by omega,←hd];rfl,hB.over (e1.trans (s3.trans e68)),hb,B6,bw6,by omega,by omega,fun r9 H9 e9 h9'=>?_⟩
  refine⟨r9,0,9,_,rfl,h9',w7,by decide,by decide,fun r10 H10 g2 e10 h10 hg2=>?_⟩
  obtain⟨⟨z1,z2,z3,z4⟩,ev⟩:=a7 g2 hg2
  refine⟨v,r10,N,Ds,g2,rfl,P1 _ (s3.trans (e68.trans (e9.trans e10))),n10,D3,h10,z1,z2,z3,z4,fun H11 e11=>?_⟩
  rw[ev,Cv (by omega)]
  exact⟨false,rfl,rfl,q _ (e1.trans (s3.trans (e68.trans (e9.trans (e10.trans e11)))))⟩
 obtain⟨rfl,rfl⟩:=pp
 refine⟨_,rfl,_,rfl,_,rfl,_,rfl,_,rfl,_,rfl,_,rfl,l,dl,B,D,kind,n,at',much,rfl,hB.over e1,e1 _ _ hdl,lv,fun d hd=>?_,Bl,nl,b0.1,by have:=b0.2;omega,k10,b2.1,b3.1,fun r2 H2' B' e2 hB' sp=>?_⟩
 .rw[hD]at hd
  obtain⟨x,hx,rfl⟩:=C4.mp hd
  have:=D3 x hx
  omega
 refine⟨r2,0,6,B',rfl,hB',sp.from,by decide,by decide,fun r3 H4 f' e4 hf' hI'=>?_⟩
 obtain⟨z1,z2,z3,z4⟩:=Hy (w:=6) hI' sp.ok sp.hd sp.len (fun b hb=>by have:=sp.way b hb;omega) (by decide)
 refine⟨v,r3,N,Ds,f',rfl,P1 _ (e2.trans e4),n10,D3,hf',z1,z2,z3,z4,fun H5 e5=>?_⟩
 rw[Q3 sp hI' hD]
 dsimp only[Ag]
 refine⟨_,rfl,_,_,_,_,_,rfl,rfl,.bl _,rfl,_,rfl,C0 ?_⟩
 refine⟨_,rfl,_,rfl,_,_,rfl,rfl,rfl,?_⟩
 rw[Cw rfl]
 exact q _ (e1.trans (e2.trans (e4.trans e5)))
theorem Uh (T:Tx K mg a):Bz P w K mg base BS 17 a.f_l_housed a.d_l_housed ["_law_longer","_law_plan","_law_leaves_here","_law_number","_law_cell"] (RB a.c_Program a.c_Deed (Ee a)):=by
 have G_l_paths:=Oi (P:=P) (w:=w) (base:=base) T
 have G_l_put:=KB (P:=P) (w:=w) (base:=base) T 9
 have G_fits:=Ks (P:=P) (w:=w) (base:=base) T
 refine T.F_l_housed.ok GJ (fun vs H Q E h=>?_) (fun cdv A outer s H vs Q E hr h=>?_)
 .obtain⟨_,_,_,_,_,_,_,_,_,rfl,_⟩:=h;rfl
 obtain⟨v,pt,l,N,Ds,D0,B,f,cell,rfl,hP,hD0,n6,D3,hB,lv,Bpos,hf,hI,c0,q⟩:=h
 refine⟨_,(@A8 _ _ _ _ _ (@GM _ _ _ _ _ _ _ _ _ (5) _ ["_law_path"] [none] _ _ _ _ GJ.nd rfl (Or.inl rfl) (by rfl) (@Eg _ _ _ _ (@AJ _ _ _ _ _ _ _ _ _ _ _ _ _ _ _ _ G_l_paths (hr.mono (by omega)) (by rfl) T.m_l_paths T.F_l_paths.kp T.b_l_paths .nil AD (@A0 _ _ _ _ _ (pv 2) A2 (by rfl)) (by decide) (by rfl) (by rfl))) TU (fun _ _ _ _ _ _=>⟨(Ao (i:=0) S9 rfl (Or.inl rfl)),(@Ja _ _ _ (@AA _ _ _ _ _ _ _ _ CW (@AE _ _ _ _ _ _ _ _ _ (show Dh _ _ (Le K) from AS) (by rfl) T.z_len AR (@A0 _ _ _ _ _ (pv 0) A2 (by rfl)) (by decide) (by decide) (by rfl) (by rfl)) A1 (@Am _ _ (by decide) (by decide)))),(pv 0)⟩) (by rfl) (by intro _;rfl) (by first|exact .inl rfl|exact .inr rfl|assumption)) (@A8 _ _ _ _ _ (@AY _ _ _ _ _ _ _ _ (@AA _ _ _ _ _ _ _ _ (@GF _ (@F5 _ _ hr)) (pv 5) (@BU _ _ _ _ A2) (@Am _ _ (by decide) (by decide))) (@Aj _ _ _ (@AX _ _ _ _ CD)) Bb) (@A8 _ _ _ _ _ (@Ai _ _ (6) _ _ _ _ GJ.nd rfl (Or.inl rfl) (@Ah _ _ _ _ _ _ _ Bg (pv 5) (@A3 _ _ _ _ _ _ _ _ B7 (pv 4) (@AE _ _ _ _ _ _ _ _ _ AS (by rfl) T.z_len AR (@A0 _ _ _ _ _ (pv 5) A2 (by rfl)) (by decide) (by decide) (by rfl) (by rfl))) (fun _ _=>rfl)) (by rfl) (by first|exact .inl rfl|exact .inr rfl|assumption)) (@A8 _ _ _ _ _ (@Ai _ _ (6) _ _ _ _ GJ.nd rfl (Or.inl rfl) (@Bt _ _ _ _ _ _ _ _ _ _ CQ (pv 6) Bv (@Bq _ _ _ (@A3 _ _ _ _ _ _ _ _ AB A1 (@A3 _ _ _ _ _ _ _ _ B7 (@A3 _ _ _ _ _ _ _ _ Dp (pv 4) A1) (@A3 _ _ _ _ _ _ _ _ BZ (@AE _ _ _ _ _ _ _ _ _ AS (by rfl) T.z_len AR (@A0 _ _ _ _ _ (pv 6) A2 (by rfl)) (by decide) (by decide) (by rfl) (by rfl)) A1))))) (by rfl) (by first|exact .inl rfl|exact .inr rfl|assumption)) (@A8 _ _ _ _ _ (@Ai _ _ (6) _ _ _ _ GJ.nd rfl (Or.inl rfl) (@A3 _ _ _ _ _ _ _ _ CJ (@Bt _ _ _ _ _ _ _ _ _ _ CQ (pv 6) Bv (@Bq _ _ _ (@Hr _ _ _ _ _ _ Ie A1))) (@AN _ _ _ _ _ (@A0 _ _ _ _ _ (@A3 _ _ _ _ _ _ _ _ AB (@Ah _ _ _ _ _ _ _ AG (pv 6) (@Hr _ _ _ _ _ _ Ie A1) (fun _ _=>rfl)) (@A3 _ _ _ _ _ _ _ _ B7 (@A3 _ _ _ _ _ _ _ _ Dp (pv 4) A1) A1)) A2 (by rfl)))) (by rfl) (by first|exact .inl rfl|exact .inr rfl|assumption)) (@A8 _ _ _ _ _ (@Ai _ _ (7) _ _ _ _ GJ.nd rfl (Or.inl rfl) (@Cq _ _ _ _ _ (@Ae _ _ _ _ _ BL (@Ae _ _ _ _ _ (pv 3) (@Ae _ _ _ _ _ (@A3 _ _ _ _ _ _ _ _ Ko (@AN _ _ _ _ _ (@A0 _ _ _ _ _ (@AN _ _ _ _ _ (@A0 _ _ _ _ _ A1 (@A0 _ _ _ _ _ A1 A2 (by rfl)) (by rfl))) A2 (by rfl))) (@A3 _ _ _ _ _ _ _ _ Cn (@A3 _ _ _ _ _ _ _ _ B7 (@A3 _ _ _ _ _ _ _ _ Dp (pv 4) A1) A1) (@A3 _ _ _ _ _ _ _ _ BZ (@AE _ _ _ _ _ _ _ _ _ AS (by rfl) T.z_len AR (@A0 _ _ _ _ _ (pv 6) A2 (by rfl)) (by decide) (by decide) (by rfl) (by rfl)) A1))) BF Ea) Bi) B3)) (by rfl) (by first|exact .inl rfl|exact .inr rfl|assumption)) (@Aj _ _ _ (@AX _ _ _ _ (@Cm _ _ _ _ _ _ _ _ Jr (@AJ _ _ _ _ _ _ _ _ _ _ _ _ _ _ _ _ G_fits (hr.mono (by omega)) (by rfl) T.m_fits T.F_fits.kp T.b_fits .nil AD (@A0 _ _ _ _ _ (pv 0) (@A0 _ _ _ _ _ (@AJ _ _ _ _ _ _ _ _ _ _ _ _ _ _ _ _ G_l_put (hr.mono (by omega)) (by rfl) T.m_l_put T.F_l_put.kp T.b_l_put .nil AD (@A0 _ _ _ _ _ (pv 1) (@A0 _ _ _ _ _ (pv 6) (@A0 _ _ _ _ _ (pv 7) A2 (by rfl)) (by rfl)) (by rfl)) (by decide) (by rfl) (by rfl)) A2 (by rfl)) (by rfl)) (by decide) (by rfl) (by rfl)) CD (@Am _ _ (by decide) (by decide))))))))))),?_⟩
 refine⟨_,rfl,l,B,rfl,hB,lv,fun pl px H1 e1 hpl aP=>?_⟩
 have pxl:=aP.1
 rw[Ej]at pxl
 have B6:=lv.len
 refine⟨pl,rfl,⟨_,A4.of hpl⟩,?_⟩
 refine FN (xs:=px) (fun i zs H'=>H'=H1/\∃Z:List (List Int),As (E7 H1) zs Z/\Z.length<=i/\∀p∈Z,2<=p.length/\∃n:Nat,(CL B)[n]?=some p) ⟨rfl,[],.nil,Ak _,fun z hz=>by cases hz⟩ (AF (by omega)) (fun i zs H' hi pp=>⟨by rw[pp.1];exact A4.of hpl,by obtain⟨_,Z,aZ,h,_⟩:=pp;rw[aZ.1];exact h⟩) (fun i y zs H' hy pp=>?_) (fun zs H' pp ph hph=>?_)
 .obtain⟨rfl,Z,aZ,Zl,hZ⟩:=pp
  obtain⟨p0,hp0,tp,rfl,htp⟩:=aP.get' hy
  refine⟨_,rfl,tp,_,rfl,.inr (A9.of htp),_,_,rfl,rfl,_,rfl,AV (fun d=>?_) (fun d=>⟨rfl,Z,aZ,by omega,hZ⟩)⟩
  refine⟨_,rfl,rfl,Z++[p0],aZ.snoc ⟨tp,rfl,htp⟩,by rw[Ap,Au];omega,fun z hz=>?_⟩
  rcases CA.mp hz with y|y
  .exact hZ z y
  .rw[CO.mp y]
   have:=dT d
   rw[Al]at this
   exact⟨by omega,i,hp0⟩
 obtain⟨rfl,Z,aZ,Zl,hZ⟩:=pp
 have zl:=aZ.1
 have s2:=A7 hph (.lst zs)
 have hph2:(upd H' ph (.lst zs)) ph=some (.lst zs):=A5
 have aZ2:=aZ.mono fun _ _ z=>z.over s2
 dsimp only[Ag]
 generalize upd H' ph (.lst zs)=H2 at s2 hph2 aZ2
 have e2:=e1.trans s2
 refine⟨_,rfl,Af rfl,fun z0 hz0=>?_⟩
 have s3:=A7 hz0 (.lst [])
 refine UM (s3 _ _ hph2) (aZ2.mono fun _ _ z=>z.over s3) A5 ⟨_,rfl,?_⟩
 cases Z with
 |nil=>exact C0 (q _ (e2.trans s3))
 |cons z1 Z=>
 refine BH ?_
 have e3:=e2.trans s3
 have hph3:=s3 _ _ hph2
 have aZ3:=aZ2.mono fun _ _ z=>z.over s3
 dsimp only[Ag]
 generalize upd H2 z0 (.lst [])=H3 at s3 e3 hph3 aZ3
 have zpos:(0:Int)<(zs.length:Int):=by rw[zl,B5];omega
 have k0:=BV cell (show(zs.length:Int)≠0 by omega)
 have k1:=BW cell zpos
 obtain⟨i,hi⟩:∃i:Nat,cell%(zs.length:Int)=(i:Int):=⟨(cell%(zs.length:Int)).toNat,by omega⟩
 have il:i<zs.length:=by omega
 have hzi:zs[i]?=some zs[i]:=AH il
 obtain⟨pi,hpi,tp,ezi,htp⟩:=aZ3.get' hzi
 rw[ezi]at hzi
 obtain⟨pl2,n,hn⟩:=hZ pi (Bf hpi)
 have nl:n<B.length:=by have:=(Ay.mp hn).1;rwa [Ej]at this
 have hbn:B[n]?=some B[n]:=AH nl
 obtain⟨en,hen,_,_⟩:=MX hI hbn
 have epa:=Oe hI Bpos hen hn
 obtain⟨r,rs,er,hd⟩:=Fo.deeds_down f B 0 [] 0 n en B[n] hI (fun _ _ _=>BP _) lv.ok (fun _ _=>BP _) hen hbn
 rw[epa,Hd,Nat.zero_add]at er
 have er:pi=(r::rs).map fun i:Nat=>(i:Int):=er
 refine⟨_,rfl,_,rfl,_,rfl,ph,_,rfl,.inl (A4.of hph3),_,_,rfl,rfl,zpos,ph,_,_,_,rfl,rfl,A4.of hph3,by rw[hi];exact Bx hzi,?_⟩
 dsimp only[Ag]
 have pl1:(pi.map V.int).length=rs.length+1:=by rw[Al,er,Al,B5]
 have rs1:1<=rs.length:=by rw[Al]at pl1;omega
 have lp:(0:Int)<((pi.map V.int).length:Int)-1:=by omega
 have k2:=BV (cell/6) (show((pi.map V.int).length:Int)-1≠0 by omega)
 have k3:=BW (cell/6) lp
 obtain⟨k,hk⟩:∃k:Nat,cell/6%(((pi.map V.int).length:Int)-1)=(k:Int):=⟨(cell/6%(((pi.map V.int).length:Int)-1)).toNat,by omega⟩
 have kr:k+1<=rs.length:=by omega
 refine⟨_,rfl,_,rfl,_,_,rfl,rfl,⟨by decide,by decide⟩,_,rfl,tp,_,rfl,.inr (A9.of htp),_,_,rfl,rfl,_,_,rfl,rfl,lp,_,_,rfl,rfl,_,rfl,tp,_,rfl,htp,fun tp2 H6 e6 h6=>?_⟩
 have c1:AL (pi.map V.int) none (some (2+cell/6%(((pi.map V.int).length:Int)-1)))=(((r::rs).take (k+2)).map fun i:Nat=>(i:Int)).map V.int:=by
  rw[show AL (pi.map V.int) none (some (2+cell/6%(((pi.map V.int).length:Int)-1)))=(pi.map V.int).take (2+cell/6%(((pi.map V.int).length:Int)-1)).toNat from DL _ (by omega),hk,show(2+(k:Int)).toNat=k+2 by omega,er,IW,IW]
 rw[c1]at h6
 dsimp only[Ag]
 have tke:(r::rs).take (k+1+1)=(r::rs).take (k+1)++[(r::rs).getD (k+1) 0]:=by
  have:(r::rs)[k+1]?=some ((r::rs).getD (k+1) 0):=by
   rw[Cc,AH (by rw[B5];omega)]
   rfl
  exact CY this
 obtain⟨rk,hrk⟩:∃rk,rk=(r::rs).getD (k+1) 0:=⟨_,rfl⟩
 rw[←hrk]at tke
 have m0:=BV (cell/36) (show(2:Int)≠0 by decide)
 have m1:=BW (cell/36) (show(0:Int)<2 by decide)
 obtain⟨d,hd1⟩:∃d:Nat,cell/36%2=(d:Int):=⟨(cell/36%2).toNat,by omega⟩
 rw[show k+2=k+1+1 from rfl,tke,B8,B8]at h6
 have h6:H6 tp2=some (.tup ((((r::rs).take (k+1)).map fun i:Nat=>(i:Int)).map V.int++[V.int (rk:Int)])):=h6
 refine⟨_,rfl,_,rfl,_,rfl,tp2,_,rfl,h6,fun r1 H7 e7 h7=>?_⟩
 rw[O8]at h7
 refine⟨_,rfl,_,rfl,tp2,_,_,_,rfl,rfl,A9.of (e7 _ _ h6),LD _ _,_,rfl,_,_,rfl,rfl,⟨by decide,by decide⟩,_,_,rfl,rfl,(by show(0:Int)<2;decide),_,_,rfl,rfl,Af rfl,fun t7 ht7=>?_⟩
 have s7:=A7 ht7 (.tup [V.int ((rk:Int)+cell/36%2)])
 have w6:=lv.way B[n] (Ge nl)
 have dl:=JA hd
 rw[FK]at dl
 have rs6:rs.length<=6:=by simp only[B5]at dl;omega
 have tkl:((((r::rs).take (k+1)).map fun i:Nat=>(i:Int)).map V.int).length=k+1:=by
  rw[Al,Al,Ar,B5]
  omega
 refine⟨r1,t7,_,_,rfl,rfl,s7 _ _ h7,A5,AF (by rw[Au];omega),fun r2 H8 e8 h8=>?_⟩
 have e38:=e6.trans (e7.trans (s7.trans e8))
 have epath:(((r::rs).take (k+1)).map fun i:Nat=>(i:Int)).map V.int++[V.int ((rk:Int)+cell/36%2)]=((((r::rs).take (k+1)++[rk+d])).map fun i:Nat=>(i:Int)).map V.int:=by
  rw[B8,B8,hd1]
  rfl
 rw[epath]at h8
 dsimp only[Ag]
 obtain⟨PP,hPP⟩:∃PP,PP=(r::rs).take (k+1)++[rk+d]:=⟨_,rfl⟩
 have ppl:PP.length=k+2:=by
  rw[hPP,Ap,Ar,Au,B5]
  omega
 rw[←hPP]at h8
 have p0:=BV (cell/72) (show(2:Int)≠0 by decide)
 have p1:=BW (cell/72) (show(0:Int)<2 by decide)
 have ppv:((PP.map fun i:Nat=>(i:Int)).map V.int).length=k+2:=by rw[Al,Al,ppl]
 obtain⟨j,hj,j8⟩:∃j:Nat,cell/72%2*((((PP.map fun i:Nat=>(i:Int)).map V.int).length:Int)-1)=(j:Int)/\j<=8:=by
  rw[ppv]
  have:cell/72%2=0\/cell/72%2=1:=by omega
  rcases this with z|z
  .exact⟨0,by rw[z,Int.zero_mul];rfl,by decide⟩
  .exact⟨k+1,by rw[z,Int.one_mul];omega,by omega⟩
 refine⟨_,rfl,Af rfl,fun b1 hb1=>⟨Af rfl,fun b2 hb2=>?_⟩⟩
 have q6:=A7 hb1 (.tup [V.int 0,V.int 0])
 have q7:=A7 hb2 (.tup [V.ref b1])
 have q67:=q6.trans q7
 refine⟨_,rfl,_,_,rfl,rfl,⟨by decide,by decide⟩,_,_,rfl,rfl,(by show(0:Int)<2;decide),_,rfl,r2,_,rfl,.inr (A9.of (q67 _ _ h8)),_,_,rfl,rfl,_,_,rfl,rfl,.inl ⟨by omega,by omega⟩,?_⟩
 refine⟨b2,j,.ref b1,rfl,by show V.int (cell/72%2*((((PP.map fun i:Nat=>(i:Int)).map V.int).length:Int)-1))=_;rw[hj],A5,j8,fun b3 H9 e9 h9=>⟨Af rfl,fun it hit=>?_⟩⟩
 have s9:=A7 hit (.tup [V.str "deed",V.int (Ds.length:Int),V.ref b3])
 have e89:=(q67.trans e9).trans s9
 have b19:=(q7.trans (e9.trans s9)) b1 _ (show(upd _ b1 (.tup [V.int 0,V.int 0])) b1=some _ from A5)
 dsimp only[Ag]
 generalize hHX:upd H9 it (.tup [V.str "deed",V.int (Ds.length:Int),V.ref b3])=HX at s9 e89 b19
 have hitX:HX it=some (.tup [V.str "deed",V.int (Ds.length:Int),V.ref b3]):=by rw[←hHX];exact A5
 have h9X:=s9 _ _ h9
 have reps:∀(k:Nat),As (Er HX) (List.replicate k (V.ref b1)) (List.replicate k ((0,0):Int×Int)):=fun k=>by
  refine⟨by rw[CN,CN],fun i y z hy hz=>?_⟩
  rw[(K6.mp (Bf hy)).2,(K6.mp (Bf hz)).2]
  exact⟨b1,rfl,b19⟩
 have aPX:=reps j
 have e3X:=e38.trans e89
 have eX:=e3.trans e3X
 obtain⟨g,hg⟩:=KL (mk:=Dd (Ds.length:Int) (List.replicate j (0,0))) (k+1) f r rs _ d hd kr (by omega)
 rw[←hrk,←hPP]at hg
 have fc:Ax f<=42:=by
  have:=FC f B 0 6 hI (fun b hb=>by have:=lv.way b hb;omega)
  have:(6+1)*B.length<=7*6:=M3 (by decide) B6
  omega
 obtain⟨z1,z2,z3,z4⟩:=Hy (w:=6) hI (ED lv.ok) lv.fst (by omega) (fun b hb=>by have:=lv.way b hb;have:=lv.pll b hb;omega) (by decide)
 have dd:=G8 f B 0 6 hI fun b hb=>by have:=lv.way b hb;omega
 have P1:∀HY,Aa HX HY->Fq a.c_Program a.c_Deed (Ee a) HY v N (Ds++[D0]):=fun HY e=>by
  obtain⟨x,dx,dl',rfl,hx,ds',hds,ads⟩:=hP
  exact⟨x,dx,dl',rfl,e _ _ (eX _ _ hx),ds',e _ _ (eX _ _ hds),ads.mono fun _ _ z=>CI.over (eX.trans e) z⟩
 refine⟨_,rfl,_,rfl,_,rfl,_,rfl,pt,r2,.ref it,f,g,PP,_,rfl,hf.over eX,e89 _ _ h8,hg,by omega,by decide,fun HY eY ys g hg=>show AI HY (.ref it::ys) (.leaf _ (List.replicate j (0,0)) g) from⟨it,b3,ys,rfl,eY _ _ hitX,⟨_,eY _ _ h9X,aPX.mono fun _ _ z=>z.over eY⟩,hg⟩,by omega,fun rY HY eY hY=>?_⟩
 have y1:=L5 (fun r=>by show AU r<=_;omega) hg
 have y2:=Lf (a:=1) (fun r=>rfl) hg
 have y3:=Hs g [] 0 []
 have y4:=Nq hg (by rw[CN];omega) z4
 refine⟨v,rY,N,_,g,rfl,P1 _ eY,by rw[Ap,Au];omega,fun x hx=>?_,hY,by omega,by omega,by omega,y4,fun HZ eZ=>?_⟩
 .rcases CA.mp hx with z|z
  .exact D3 x z
  .rw[CO.mp z,hD0];decide
 rw[RV hD0 hg (by omega)]
 exact⟨false,rfl,rfl,q _ (eX.trans (eY.trans eZ))⟩
theorem ok_law (T:Tx K mg a):Bz P w K mg base BS 18 a.f_law a.d_law ["_law_script"] (KZ K):=by
 have G_l_at:=GI (P:=P) (w:=w) (base:=base) T
 have G_l_deeds:=Ti (P:=P) (w:=w) (base:=base) T
 have G_l_told_deeds:=SZ (P:=P) (w:=w) (base:=base) T
 have G_Program_init:=TR (P:=P) (w:=w) (base:=base) T
 have G_Deed_init:=MJ (P:=P) (w:=w) (base:=base) T
 have G_Number_init:=NK (P:=P) (w:=w) (base:=base) T
 have G_l_leaves:=U8 (P:=P) (w:=w) (base:=base) T
 have G_l_items:=KP (P:=P) (w:=w) (base:=base) T 10
 have G_fits:=Ks (P:=P) (w:=w) (base:=base) T
 have G_l_asked:=Ut (P:=P) (w:=w) (base:=base) T
 have G_l_housed:=Uh (P:=P) (w:=w) (base:=base) T
 refine T.F_law.ok Ex (fun vs H Q E h=>?_) (fun cdv A outer s H vs Q E hr h=>?_)
 .obtain⟨_,_,rfl,_⟩:=h;rfl
 obtain⟨p,ns,rfl,hp,h63,_,q⟩:=h
 refine⟨_,(@A8 _ _ _ _ _ (@Ai _ _ (1) _ _ _ _ Ex.nd rfl (Or.inl rfl) (@AJ _ _ _ _ _ _ _ _ _ _ _ _ _ _ _ _ G_l_deeds (hr.mono (by omega)) (by rfl) T.m_l_deeds T.F_l_deeds.kp T.b_l_deeds .nil AD (@A0 _ _ _ _ _ (pv 0) (@A0 _ _ _ _ _ A1 (@A0 _ _ _ _ _ (@A3 _ _ _ _ _ _ _ _ AB A1 (@A3 _ _ _ _ _ _ _ _ B7 (@AJ _ _ _ _ _ _ _ _ _ _ _ _ _ _ _ _ G_l_at (hr.mono (by omega)) (by rfl) T.m_l_at T.F_l_at.kp T.b_l_at .nil AD (@A0 _ _ _ _ _ (pv 0) (@A0 _ _ _ _ _ A1 A2 (by rfl)) (by rfl)) (by decide) (by rfl) (by rfl)) A1)) A2 (by rfl)) (by rfl)) (by rfl)) (by decide) (by rfl) (by rfl)) (by rfl) (by first|exact .inl rfl|exact .inr rfl|assumption)) (@A8 _ _ _ _ _ (@Ai _ _ (2) _ _ _ _ Ex.nd rfl (Or.inl rfl) (@AJ _ _ _ _ _ _ _ _ _ _ _ _ _ _ _ _ G_l_told_deeds (hr.mono (by omega)) (by rfl) T.m_l_told_deeds T.F_l_told_deeds.kp T.b_l_told_deeds .nil AD (@A0 _ _ _ _ _ (pv 1) (@A0 _ _ _ _ _ A1 (@A0 _ _ _ _ _ A1 A2 (by rfl)) (by rfl)) (by rfl)) (by decide) (by rfl) (by rfl)) (by rfl) (by first|exact .inl rfl|exact .inr rfl|assumption)) (@A8 _ _ _ _ _ (@Ai _ _ (3) _ _ _ _ Ex.nd rfl (Or.inl rfl) (@GO _ _ _ _ _ _ _ _ _ _ _ _ _ _ _ _ _ T.mk_Program G_Program_init (hr.mono (by omega)) (by rfl) T.mc_Program T.b_Program_init .nil AD (@A0 _ _ _ _ _ A1 (@A0 _ _ _ _ _ (pv 2) A2 (by rfl)) (by rfl)) (by decide) (by rfl) (by rfl)) (by rfl) (by first|exact .inl rfl|exact .inr rfl|assumption)) (@A8 _ _ _ _ _ (@GM _ _ _ _ _ _ _ _ _ (4) _ ["_law_deed"] [none] _ _ _ _ Ex.nd rfl (Or.inl rfl) (by rfl) (@Eg _ _ _ _ (pv 1)) Sb (fun _ _ _ _ _ _=>⟨(Ao (i:=0) Ur rfl (Or.inl rfl)),@EG _,(@AE _ _ _ _ _ _ _ _ _ (show Dh _ _ (Le K) from AS) (by rfl) T.z_len AR (@A0 _ _ _ _ _ (@Ah _ _ _ _ _ _ _ (show CS _ (DM K) from AG) (pv 0) A1 (fun _ _=>rfl)) A2 (by rfl)) (by decide) (by decide) (by rfl) (by rfl))⟩) (by rfl) (by intro _;rfl) (by first|exact .inl rfl|exact .inr rfl|assumption)) (@A8 _ _ _ _ _ (@Ai _ _ (5) _ _ _ _ Ex.nd rfl (Or.inl rfl) (@AJ _ _ _ _ _ _ _ _ _ _ _ _ _ _ _ _ G_l_leaves (hr.mono (by omega)) (by rfl) T.m_l_leaves T.F_l_leaves.kp T.b_l_leaves .nil AD (@A0 _ _ _ _ _ (pv 0) (@A0 _ _ _ _ _ (@A3 _ _ _ _ _ _ _ _ AB A1 (@A3 _ _ _ _ _ _ _ _ Cn A1 (@AE _ _ _ _ _ _ _ _ _ AS (by rfl) T.z_len AR (@A0 _ _ _ _ _ (pv 1) A2 (by rfl)) (by decide) (by decide) (by rfl) (by rfl)))) (@A0 _ _ _ _ _ (pv 4) (@A0 _ _ _ _ _ (@Eo _ _ _ _ (@Ae _ _ _ _ _ BL (@Ae _ _ _ _ _ BL (@Ae _ _ _ _ _ BL BF B3) B3) B3)) (@A0 _ _ _ _ _ CD A2 (by rfl)) (by rfl)) (by rfl)) (by rfl)) (by rfl)) (by decide) (by rfl) (by rfl)) (by rfl) (by first|exact .inl rfl|exact .inr rfl|assumption)) (@A8 _ _ _ _ _ (@Ai _ _ (6) _ _ _ _ Ex.nd rfl (Or.inl rfl) (@AJ _ _ _ _ _ _ _ _ _ _ _ _ _ _ _ _ G_l_items (hr.mono (by omega)) (by rfl) T.m_l_items T.F_l_items.kp T.b_l_items .nil AD (@A0 _ _ _ _ _ (pv 5) (@A0 _ _ _ _ _ A1 A2 (by rfl)) (by rfl)) (by decide) (by rfl) (by rfl)) (by rfl) (by first|exact .inl rfl|exact .inr rfl|assumption)) (@A8 _ _ _ _ _ (@AY _ _ _ _ _ _ _ _ ((@GX _ _ _ _ _ _ _ (@AA _ _ _ _ _ _ _ _ Ki (@AJ _ _ _ _ _ _ _ _ _ _ _ _ _ _ _ _ G_fits (hr.mono (by omega)) (by rfl) T.m_fits T.F_fits.kp T.b_fits .nil AD (@A0 _ _ _ _ _ (pv 3) (@A0 _ _ _ _ _ (pv 6) A2 (by rfl)) (by rfl)) (by decide) (by rfl) (by rfl)) CD (@Am _ _ (by decide) (by decide))) (@Hv _ _ _ _ (@GN _ _ _ _ (@Ep _ _ _ (@AJ _ _ _ _ _ _ _ _ _ _ _ _ _ _ _ _ G_l_asked (hr.mono (by omega)) (by rfl) T.m_l_asked T.F_l_asked.kp T.b_l_asked .nil AD (@A0 _ _ _ _ _ (pv 3) (@A0 _ _ _ _ _ (pv 5) (@A0 _ _ _ _ _ (pv 4) (@A0 _ _ _ _ _ (pv 6) (@A0 _ _ _ _ _ (pv 0) A2 (by rfl)) (by rfl)) (by rfl)) (by rfl)) (by rfl)) (by decide) (by rfl) (by rfl)) (by intro _;rfl)))))).pt (@Aj _ _ _ (@AX _ _ _ _ CD)) Bb) (@A8 _ _ _ _ _ (@AY _ _ _ _ _ _ _ _ (@AA _ _ _ _ _ _ _ _ Em (@AE _ _ _ _ _ _ _ _ _ AS (by rfl) T.z_len AR (@A0 _ _ _ _ _ (pv 2) A2 (by rfl)) (by decide) (by decide) (by rfl) (by rfl)) A1 (@Am _ _ (by decide) (by decide))) (@A8 _ _ _ _ _ (@Ai _ _ (7) _ _ _ _ Ex.nd rfl (Or.inl rfl) (@GO _ _ _ _ _ _ _ _ _ _ _ _ _ _ _ _ _ T.mk_Deed G_Deed_init (hr.mono (by omega)) (by rfl) T.mc_Deed T.b_Deed_init .nil AD (@A0 _ _ _ _ _ (@AN _ _ _ _ _ A2) (@A0 _ _ _ _ _ (@AN _ _ _ _ _ A2) (@A0 _ _ _ _ _ (@AN _ _ _ _ _ A2) (@A0 _ _ _ _ _ BL (@A0 _ _ _ _ _ (@AN _ _ _ _ _ (@A0 _ _ _ _ _ (@AN _ _ _ _ _ (@A0 _ _ _ _ _ BL (@A0 _ _ _ _ _ A1 A2 (by rfl)) (by rfl))) A2 (by rfl))) (@A0 _ _ _ _ _ (@GO _ _ _ _ _ _ _ _ _ _ _ _ _ _ _ _ _ T.mk_Number G_Number_init (hr.mono (by omega)) (by rfl) T.mc_Number T.b_Number_init .nil AD (@A0 _ _ _ _ _ A1 A2 (by rfl)) (by decide) (by rfl) (by rfl)) (@A0 _ _ _ _ _ (@AN _ _ _ _ _ (@A0 _ _ _ _ _ (@A3 _ _ _ _ _ _ _ _ AB (@Ah _ _ _ _ _ _ _ AG (@Ah _ _ _ _ _ _ _ AG (@Ah _ _ _ _ _ _ _ Bg (pv 1) (@Hr _ _ _ _ _ _ Ie A1) (fun _ _=>rfl)) A1 (fun _ _=>rfl)) A1 (fun _ _=>rfl)) A1) A2 (by rfl))) A2 (by rfl)) (by rfl)) (by rfl)) (by rfl)) (by rfl)) (by rfl)) (by rfl)) (by decide) (by rfl) (by rfl)) (by rfl) (by first|exact .inl rfl|exact .inr rfl|assumption)) (@A8 _ _ _ _ _ (@Ai _ _ (8) _ _ _ _ Ex.nd rfl (Or.inl rfl) (@GO _ _ _ _ _ _ _ _ _ _ _ _ _ _ _ _ _ T.mk_Program G_Program_init (hr.mono (by omega)) (by rfl) T.mc_Program T.b_Program_init .nil AD (@A0 _ _ _ _ _ A1 (@A0 _ _ _ _ _ (@A3 _ _ _ _ _ _ _ _ CH (pv 2) (@BU _ _ _ _ (@A0 _ _ _ _ _ (pv 7) A2 (by rfl)))) A2 (by rfl)) (by rfl)) (by decide) (by rfl) (by rfl)) (by rfl) (by first|exact .inl rfl|exact .inr rfl|assumption)) (@A8 _ _ _ _ _ (@Ai _ _ (9) _ _ _ _ Ex.nd rfl (Or.inl rfl) (@A3 _ _ _ _ _ _ _ _ B7 (@AJ _ _ _ _ _ _ _ _ _ _ _ _ _ _ _ _ G_l_at (hr.mono (by omega)) (by rfl) T.m_l_at T.F_l_at.kp T.b_l_at .nil AD (@A0 _ _ _ _ _ (pv 0) (@A0 _ _ _ _ _ A1 A2 (by rfl)) (by rfl)) (by decide) (by rfl) (by rfl)) (@A3 _ _ _ _ _ _ _ _ AB (@AE _ _ _ _ _ _ _ _ _ AS (by rfl) T.z_len AR (@A0 _ _ _ _ _ (pv 6) A2 (by rfl)) (by decide) (by decide) (by rfl) (by rfl)) A1)) (by rfl) (by first|exact .inl rfl|exact .inr rfl|assumption)) (@A8 _ _ _ _ _ (@Ai _ _ (10) _ _ _ _ Ex.nd rfl (Or.inl rfl) (@Cq _ _ _ _ _ (@Ae _ _ _ _ _ BL (@Ae _ _ _ _ _ (@AE _ _ _ _ _ _ _ _ _ AS (by rfl) T.z_len AR (@A0 _ _ _ _ _ (pv 2) A2 (by rfl)) (by decide) (by decide) (by rfl) (by rfl)) (@Ae _ _ _ _ _ (@AN _ _ _ _ _ A2) BF DC) Ik) B3)) (by rfl) (by first|exact .inl rfl|exact .inr rfl|assumption)) (@A8 _ _ _ _ _ (@AY _ _ _ _ _ _ _ _ ((@GX _ _ _ _ _ _ _ (@AA _ _ _ _ _ _ _ _ Sk (@AJ _ _ _ _ _ _ _ _ _ _ _ _ _ _ _ _ G_fits (hr.mono (by omega)) (by rfl) T.m_fits T.F_fits.kp T.b_fits .nil AD (@A0 _ _ _ _ _ (pv 8) (@A0 _ _ _ _ _ (pv 6) A2 (by rfl)) (by rfl)) (by decide) (by rfl) (by rfl)) CD (@Am _ _ (by decide) (by decide))) (@Hv _ _ _ _ (@AA _ _ _ _ _ _ _ _ Ki (@AJ _ _ _ _ _ _ _ _ _ _ _ _ _ _ _ _ G_fits (hr.mono (by omega)) (by rfl) T.m_fits T.F_fits.kp T.b_fits .nil AD (@A0 _ _ _ _ _ (pv 8) (@A0 _ _ _ _ _ (@A3 _ _ _ _ _ _ _ _ CJ (@A3 _ _ _ _ _ _ _ _ CJ (@Bt _ _ _ _ _ _ _ _ _ _ CQ (pv 6) Bv (@Bq _ _ _ (pv 9))) (@AN _ _ _ _ _ (@A0 _ _ _ _ _ (pv 10) A2 (by rfl)))) (@Bt _ _ _ _ _ _ _ _ _ _ CQ (pv 6) (@Bq _ _ _ (pv 9)) Bv)) A2 (by rfl)) (by rfl)) (by decide) (by rfl) (by rfl)) CD (@Am _ _ (by decide) (by decide)))))).pt (@Aj _ _ _ (@AX _ _ _ _ CD)) Bb) (@Aj _ _ _ (@AY _ _ _ _ _ _ _ _ (@GN _ _ _ _ (@Ep _ _ _ (@AJ _ _ _ _ _ _ _ _ _ _ _ _ _ _ _ _ G_l_housed (hr.mono (by omega)) (by rfl) T.m_l_housed T.F_l_housed.kp T.b_l_housed .nil AD (@A0 _ _ _ _ _ (pv 8) (@A0 _ _ _ _ _ (pv 6) (@A0 _ _ _ _ _ (pv 5) (@A0 _ _ _ _ _ (@AE _ _ _ _ _ _ _ _ _ AS (by rfl) T.z_len AR (@A0 _ _ _ _ _ (pv 2) A2 (by rfl)) (by decide) (by decide) (by rfl) (by rfl)) (@A0 _ _ _ _ _ (@A3 _ _ _ _ _ _ _ _ Dp (@AJ _ _ _ _ _ _ _ _ _ _ _ _ _ _ _ _ G_l_at (hr.mono (by omega)) (by rfl) T.m_l_at T.F_l_at.kp T.b_l_at .nil AD (@A0 _ _ _ _ _ (pv 0) (@A0 _ _ _ _ _ A1 A2 (by rfl)) (by rfl)) (by decide) (by rfl) (by rfl)) A1) A2 (by rfl)) (by rfl)) (by rfl)) (by rfl)) (by rfl)) (by decide) (by rfl) (by rfl)) (by intro _;rfl))) (@Aj _ _ _ (@AX _ _ _ _ CD)) Bb))))))) Bb) (@Aj _ _ _ (@AX _ _ _ _ (@GV _ _ _ _ _ _ _ (@Cm _ _ _ _ _ _ _ _ Qm (@AJ _ _ _ _ _ _ _ _ _ _ _ _ _ _ _ _ G_fits (hr.mono (by omega)) (by rfl) T.m_fits T.F_fits.kp T.b_fits .nil AD (@A0 _ _ _ _ _ (pv 3) (@A0 _ _ _ _ _ (pv 6) A2 (by rfl)) (by rfl)) (by decide) (by rfl) (by rfl)) CD (@Am _ _ (by decide) (by decide))) (@F1 _ _ _ _ _ (@Cm _ _ _ _ _ _ _ _ Jr (@AJ _ _ _ _ _ _ _ _ _ _ _ _ _ _ _ _ G_fits (hr.mono (by omega)) (by rfl) T.m_fits T.F_fits.kp T.b_fits .nil AD (@A0 _ _ _ _ _ (pv 3) (@A0 _ _ _ _ _ (@AN _ _ _ _ _ A2) A2 (by rfl)) (by rfl)) (by decide) (by rfl) (by rfl)) CD (@Am _ _ (by decide) (by decide))))))))))))))),?_⟩
 refine⟨_,rfl,_,rfl,p,ns,0,rfl,hp,by decide,by decide,fun m m0 _=>⟨_,_,rfl,rfl,(by show(0:Int)<6;decide),_,_,rfl,rfl,?_⟩⟩
 obtain⟨n,hn,n1,n6⟩:∃n:Nat,1+m%6=(n:Int)/\1<=n/\n<=6:=⟨(1+m%6).toNat,by omega,by omega,by omega⟩
 refine⟨p,ns,3,n,by show[V.ref p,V.int 3,V.int (1+m%6)]=_;rw[hn],hp,by decide,by decide,n6,fun dl xs H1 Ds e1 hdl axd Dsl rq=>?_⟩
 have xl:=axd.1
 dsimp only[Ag]
 refine⟨_,rfl,dl,0,xs,Ds,rfl,hdl,axd,by omega,fun D hD=>(rq.row.ok D hD).ll,fun tl ws H2 e2 htl aw=>?_⟩
 have wl:=aw.1
 rw[Al]at wl
 dsimp only[Ag]
 refine⟨_,rfl,?_⟩
 intro x dx hx hdx hxd
 have ntx:tl≠x:=BA htl hx
 have ntd:tl≠dx:=BA htl hdx
 refine⟨x,dx,_,tl,ws,rfl,A5,A4.of (by rw[Aw ntx,Aw ntd];exact htl),fun d5 H3 hd5 k6 hd6 hx6=>⟨rfl,?_⟩⟩
 obtain⟨dx6,hx6⟩:=hx6
 have e3:=GY hx hdx k6
 have aw3:=aw.mono fun y R z=>CI.over e3 z
 have hP:∀HX,Aa H3 HX->Fq a.c_Program a.c_Deed (Ee a) HX (.ref x) 97 (Ds.map (CG 0)):=fun HX e=>⟨x,dx6,d5,rfl,e _ _ hx6,ws,e _ _ hd6,aw3.mono fun _ _ z=>CI.over e z⟩
 dsimp only[Ag]
 have e13:=e2.trans e3
 have axd3:=axd.mono fun _ _ z=>z.over e13
 have hdl3:=e13 _ _ hdl
 have eH3:=e1.trans e13
 refine⟨_,rfl,dl,rfl,⟨_,A4.of hdl3⟩,?_⟩
 refine FN (xs:=xs) (fun i ys H'=>H'=H3/\ys=((Ds.take i).map fun D=>(D.L.length:Int)).map V.int) ⟨rfl,rfl⟩ (AF (by omega)) (fun i ys H' hi pp=>⟨by rw[pp.1];exact A4.of hdl3,by rw[pp.2,Al,Al,Ar];omega⟩) (fun i y ys H' hy pp=>?_) (fun ys H' pp dp hdp=>?_)
 .obtain⟨rfl,rfl⟩:=pp
  obtain⟨D,hD,t,o,pt,rfl,ht,⟨lx,hlx,alx⟩,hpt⟩:=axd3.get' hy
  refine⟨_,rfl,t,_,0,_,rfl,rfl,A9.of ht,rfl,o,_,rfl,.inl (A4.of hlx),rfl,?_⟩
  rw[CY hD,B8,B8,alx.1]
  rfl
 obtain⟨rfl,rfl⟩:=pp
 rw[Dj (by omega)]
 have s4:=A7 hdp (.lst ((Ds.map fun D=>(D.L.length:Int)).map V.int))
 have hdp4:(upd H' dp (.lst ((Ds.map fun D=>(D.L.length:Int)).map V.int))) dp=some (.lst ((Ds.map fun D=>(D.L.length:Int)).map V.int)):=A5
 obtain⟨D,hD⟩:∃D,D=Ds.map fun D=>(D.L.length:Int):=⟨_,rfl⟩
 rw[←hD]at s4 hdp4
 dsimp only[Ag]
 rw[←hD]
 generalize upd H' dp (.lst (D.map V.int))=H4 at s4 hdp4
 have Dl:D.length=Ds.length:=by rw[hD,Al]
 have hD':D=(Ds.map (CG 0)).map fun x=>(x.loops.length:Int):=by
  rw[hD,IU]
  refine LV fun x _=>?_
  show(x.L.length:Int)=((x.L.map (Gr 0)).length:Int)
  rw[Al]
 have D3:∀x∈Ds.map (CG 0),x.loops.length<=3:=fun x hx=>by
  obtain⟨y,hy,rfl⟩:=C4.mp hx
  have:=(rq.row.ok y hy).ll
  show(y.L.map (Gr 0)).length<=3
  rw[Al];exact this
 have D03:∀d∈D,0<=d/\d<=3:=fun d hd=>by
  rw[hD]at hd
  obtain⟨y,hy,rfl⟩:=C4.mp hd
  have:=(rq.row.ok y hy).ll
  omega
 refine⟨_,rfl,_,rfl,dl,_,rfl,.inl (A4.of (s4 _ _ hdl3)),_,_,rfl,rfl,.inl ⟨by decide,by decide⟩,_,_,rfl,rfl,_,rfl,Af rfl,fun wy hwy=>?_⟩
 have s5:=A7 hwy (.lst [V.str "up",V.str "down",V.str "any"])
 refine⟨p,dp,wy,ns,D,_,rfl,((eH3.trans s4).trans s5).seq hp,by omega,by omega,s5 _ _ hdp4,A5,D03,by omega,by omega,fun lv H6 B e6 hB ok Bl=>?_⟩
 dsimp only[Ag]
 have e36:=s4.trans (s5.trans e6)
 have frm:FX B 0 6:=⟨ED ok.lv.ok,fun _ _ _=>BP _,fun _ _=>BP _,fun b hb=>by have:=Dv ok b hb;omega,fun b hb=>by have:=Dv ok b hb;omega,by have:=ok.lv.len;omega⟩
 refine⟨_,rfl,lv,0,6,B,rfl,hB,frm,by decide,by decide,fun pt H7 f e7 hf hI=>?_⟩
 dsimp only[Ag]
 have Bpos:0<B.length:=by omega
 have B6:=ok.lv.len
 obtain⟨z1,z2,z3,z4⟩:=Hy (w:=6) hI (ED ok.lv.ok) ok.lv.fst (by omega) (fun b hb=>by have:=Dv ok b hb;omega) (by decide)
 have dd:=G8 f B 0 6 hI fun b hb=>by have:=ok.lv.way b hb;omega
 have fc:Ax f<=42:=by
  have:=FC f B 0 6 hI (fun b hb=>by have:=ok.lv.way b hb;omega)
  have:(6+1)*B.length<=7*6:=M3 (by decide) B6
  omega
 have fit:E2 (Ds.map (CG 0)) f:=(MF hI ok.lv.ok).mpr ((MU hD').mpr (Jy ok))
 have e37:=e36.trans e7
 have hdl7:=e37 _ _ hdl3
 have fits_:∀HX,Aa H7 HX->Fq a.c_Program a.c_Deed (Ee a) HX (.ref x) 97 (Ds.map (CG 0)):=fun HX e=>hP _ (e37.trans e)
 have mpl:(Ds.map (CG 0)).length=Ds.length:=Al ..
 refine Bk (fun σ' H'=>Aa H7 H'/\σ'=[some (.ref p),some (.ref dl),some (.ref tl),some (.ref x),some (.ref dp),some (.ref lv),some (.ref pt),none,none,none,none]) (fun σ' H8 pp=>?_) (fun nx=>?_)
 rotate_left
 .refine⟨_,rfl,_,rfl,.ref x,pt,97,_,f,rfl,fits_ _ (Aa.refl _),by rw[mpl];omega,D3,hf,z1,z2,z3,z4,fun H8 e8=>?_⟩
  rw[Gq fit]
  refine⟨true,rfl,rfl,_,rfl,BH ?_⟩
  refine⟨_,rfl,_,rfl,_,rfl,_,rfl,_,rfl,.ref x,lv,dp,pt,p,97,_,B,D,f,ns,rfl,fits_ _ e8,by rw[mpl];omega,D3,hB.over (e7.trans e8),ok,(s5.trans (e6.trans (e7.trans e8))) _ _ hdp4,hD',Bl,Bpos,hf.over e8,hI,(eH3.trans (e37.trans e8)).seq hp,fun H9 e9=>⟨_,rfl,BH ?_⟩⟩
  exact nx _ _ ⟨e8.trans e9,rfl⟩
 obtain⟨e8,rfl⟩:=pp
 have e38:=e37.trans e8
 refine Bk (fun σ' H'=>∃o7 o8 o9 o10,Aa H7 H'/\σ'=[some (.ref p),some (.ref dl),some (.ref tl),some (.ref x),some (.ref dp),some (.ref lv),some (.ref pt),o7,o8,o9,o10]) (fun σ' H9 pp=>?_) (fun nx=>?_)
 .obtain⟨_,_,_,_,e9,rfl⟩:=pp
  refine⟨_,rfl,_,rfl,.ref x,pt,97,_,f,rfl,fits_ _ e9,by rw[mpl];omega,D3,hf.over e9,z1,z2,z3,z4,fun HA eA=>?_⟩
  rw[Gq fit]
  refine⟨true,rfl,rfl,_,rfl,C0 ?_⟩
  refine⟨_,rfl,Af rfl,fun t0 ht0=>?_⟩
  have sB:=A7 ht0 (.tup [])
  refine⟨.ref x,t0,97,_,.nil,rfl,fits_ _ (e9.trans (eA.trans sB)),by rw[mpl];omega,D3,⟨[],A5,rfl⟩,by decide,by decide,by decide,(fun e he=>by cases he),fun HC eC=>?_⟩
  rw[SD (by rw[mpl];omega)]
  exact⟨false,rfl,rfl,q _⟩
 have htl8:=(e3.trans e38) _ _ htl
 refine⟨_,rfl,tl,_,rfl,.inl (A4.of htl8),_,_,rfl,rfl,_,rfl,AV (fun c=>?_) (fun c=>nx _ _ ⟨_,_,_,_,e8,rfl⟩)⟩
 have c:=dT c
 obtain⟨Ds',D1,hDs,lD⟩:=ND (l:=Ds) (n:=Ds.length-1) (by omega)
 obtain⟨xs',x1,hxs,lX⟩:=ND (l:=xs) (n:=xs.length-1) (by omega)
 have axd8:=axd3.mono fun _ _ z=>z.over e38
 obtain⟨D1',hD1,t,o,pd,rfl,ht,_,hpd⟩:=axd8.get' (i:=xs'.length) (show xs[xs'.length]?=some x1 by rw[hxs,BQ (Ak _),DJ];rfl)
 obtain⟨v0,rest,hv0⟩:∃v0 rest,D1'.path=v0::rest:=by
  have:=(rq.row.ok D1' (Bf hD1)).pl
  cases hh:D1'.path with
  |nil=>rw[hh]at this;cases this
  |cons a b=>exact⟨a,b,rfl⟩
 have hdl8:=e38 _ _ hdl3
 rw[hxs]at hdl8
 refine⟨Af rfl,fun t1 ht1=>⟨Af rfl,fun t2 ht2=>⟨Af rfl,fun t3 ht3=>⟨Af rfl,fun u1 hu1=>⟨Af rfl,fun u2 hu2=>?_⟩⟩⟩⟩⟩
 have w1:=A7 ht1 (.tup [])
 have w2:=A7 ht2 (.tup [])
 have w3:=A7 ht3 (.tup [])
 have w4:=A7 hu1 (.tup [V.str "",V.int 0])
 have w5:=A7 hu2 (.tup [V.ref u1])
 have g1:=(w2.trans (w3.trans (w4.trans w5))) t1 _ (show(upd _ t1 (.tup [])) t1=some _ from A5)
 have g2:=(w3.trans (w4.trans w5)) t2 _ (show(upd _ t2 (.tup [])) t2=some _ from A5)
 have g3:=(w4.trans w5) t3 _ (show(upd _ t3 (.tup [])) t3=some _ from A5)
 have g4:=w5 u1 _ (show(upd _ u1 (.tup [V.str "",V.int 0])) u1=some _ from A5)
 have g5:(upd (upd (upd (upd (upd H8 t1 (.tup [])) t2 (.tup [])) t3 (.tup [])) u1 (.tup [V.str "",V.int 0])) u2 (.tup [V.ref u1])) u2=some (.tup [V.ref u1]):=A5
 have w15:=w1.trans (w2.trans (w3.trans (w4.trans w5)))
 generalize upd (upd (upd (upd (upd H8 t1 (.tup [])) t2 (.tup [])) t3 (.tup [])) u1 (.tup [V.str "",V.int 0])) u2 (.tup [V.ref u1])=H9 at w15 g1 g2 g3 g4 g5
 clear w1 w2 w3 w4 w5
 intro nm dn hnm hdn hne
 refine⟨nm,dn,_,rfl,A5,fun HA kA hnA=>⟨rfl,?_⟩⟩
 obtain⟨dxA,hnA⟩:=hnA
 have e9A:=GY hnm hdn kA
 have e8A:=w15.trans e9A
 refine⟨_,rfl,_,rfl,dl,_,_,_,rfl,rfl,A4.of (e8A _ _ hdl8),LD _ _,t,_,1,_,rfl,rfl,A9.of (e8A _ _ ht),rfl,pd,_,0,.int v0,rfl,rfl,A9.of (e8A _ _ hpd),Bx (j:=0) (by rw[hv0];rfl),_,_,rfl,rfl,Af rfl,fun pp hpp=>?_⟩
 have sB:=A7 hpp (.tup [V.int (v0+1)])
 have hppB:(upd HA pp (.tup [V.int (v0+1)])) pp=some (.tup [V.int (v0+1)]):=A5
 generalize upd HA pp (.tup [V.int (v0+1)])=HB at sB hppB
 intro dd ddx hdd hddx hne2
 refine⟨dd,ddx,_,_,_,_,_,_,_,rfl,A5,fun HC kC hdC=>⟨rfl,?_⟩⟩
 obtain⟨dxC,hdC⟩:=hdC
 have eBC:=GY hdd hddx kC
 have e8C:=(e8A.trans sB).trans eBC
 have e9C:=(e9A.trans sB).trans eBC
 have dC:CI a.c_Deed (Ee a) HC (.ref dd) ⟨[],"a",[("",0)],.n 2,[v0+1]⟩:=⟨dd,dxC,t1,t2,t3,u2,pp,_,[],[],rfl,hdC,e9C _ _ g1,e9C _ _ g2,.nil,e9C _ _ g3,.nil,⟨_,e9C _ _ g5,As.one ⟨u1,rfl,e9C _ _ g4⟩⟩,⟨nm,dxA,rfl,(sB.trans eBC) _ _ hnA⟩,eBC _ _ hppB⟩
 dsimp only[Ag]
 have e7C:=e8.trans e8C
 have htlC:=e8C _ _ htl8
 clear g1 g2 g3 g4 g5
 refine⟨_,rfl,_,rfl,Af rfl,fun l1 hl1=>?_⟩
 have sD:=A7 hl1 (.lst [V.ref dd])
 refine⟨tl,l1,_,_,rfl,rfl,sD _ _ htlC,A5,AF (by rw[Au];omega),fun l2 hl2=>?_⟩
 have sE:=A7 hl2 (.lst (ws++[V.ref dd]))
 have eCE:=sD.trans sE
 have hl2E:(upd (upd HC l1 (.lst [V.ref dd])) l2 (.lst (ws++[V.ref dd]))) l2=some (.lst (ws++[V.ref dd])):=A5
 generalize upd (upd HC l1 (.lst [V.ref dd])) l2 (.lst (ws++[V.ref dd]))=HE at eCE hl2E
 intro x2 dx2 hx2 hdx2 hxd2
 have nlx2:l2≠x2:=BA hl2E hx2
 have nld2:l2≠dx2:=BA hl2E hdx2
 refine⟨x2,dx2,_,l2,_,rfl,A5,A4.of (by rw[Aw nlx2,Aw nld2];exact hl2E),fun dF HF hdF kF hdF' hxF=>⟨rfl,?_⟩⟩
 obtain⟨dxF,hxF⟩:=hxF
 have eEF:=GY hx2 hdx2 kF
 have eCF:=eCE.trans eEF
 have e7F:=e7C.trans eCF
 have awF:=(aw3.mono fun _ _ z=>CI.over (e37.trans e7F) z).snoc (CI.over eCF dC)
 obtain⟨D0,hD0⟩:∃D0:Dw,D0=⟨[],"a",[("",0)],.n 2,[v0+1]⟩:=⟨_,rfl⟩
 rw[←hD0]at awF
 have D00:D0.loops=[]:=by rw[hD0]
 have hL:∀HX,Aa HF HX->Fq a.c_Program a.c_Deed (Ee a) HX (.ref x2) 97 (Ds.map (CG 0)++[D0]):=fun HX e=>⟨x2,dxF,dF,rfl,e _ _ hxF,_,e _ _ hdF',awF.mono fun _ _ z=>CI.over e z⟩
 have L10:(Ds.map (CG 0)++[D0]).length<=10:=by rw[Ap,mpl,Au];omega
 have L3:∀x∈Ds.map (CG 0)++[D0],x.loops.length<=3:=fun x hx=>by
  rcases CA.mp hx with z|z
  .exact D3 x z
  .rw[CO.mp z,D00];decide
 clear dC
 dsimp only[Ag]
 have hpF:=(eH3.trans (e37.trans e7F)).seq hp
 have htlF:=eCF _ _ htlC
 have hfF:=hf.over e7F
 obtain⟨px,hpt,hpx⟩:=id hfF
 have pxl:=Jc f px hpx
 have il:=Jh f
 have wn:(ws.length:Int)=((Ds.map (CG 0)).length:Int):=by rw[mpl];omega
 refine⟨_,rfl,p,ns,2,rfl,hpF,by decide,by decide,fun m2 m20 _=>⟨_,rfl,pt,_,rfl,.inr (A9.of hpt),_,_,rfl,rfl,_,_,rfl,rfl,(by show(0:Int)<(px.length:Int)+1;omega),?_⟩⟩
 have i0:=BV m2 (show(px.length:Int)+1≠0 by omega)
 have i1:=BW m2 (show(0:Int)<(px.length:Int)+1 by omega)
 obtain⟨i,hi⟩:∃i:Nat,m2%((px.length:Int)+1)=(i:Int):=⟨(m2%((px.length:Int)+1)).toNat,by omega⟩
 dsimp only[Ag]
 rw[hi]
 refine⟨_,rfl,tl,_,rfl,.inl (A4.of htlF),Af rfl,fun u0 hu0=>⟨Af rfl,fun it hit=>?_⟩⟩
 have r1:=A7 hu0 (.tup [])
 have r2:=A7 hit (.tup [V.str "deed",V.int (ws.length:Int),V.ref u0])
 have hu0G:=r2 _ _ (show(upd HF u0 (.tup [])) u0=some (.tup []) from A5)
 have hitG:(upd (upd HF u0 (.tup [])) it (.tup [V.str "deed",V.int (ws.length:Int),V.ref u0])) it=some (.tup [V.str "deed",V.int (ws.length:Int),V.ref u0]):=A5
 have eFG:=r1.trans r2
 dsimp only[Ag]
 generalize upd (upd HF u0 (.tup [])) it (.tup [V.str "deed",V.int (ws.length:Int),V.ref u0])=HG at eFG hu0G hitG
 rw[wn]at hitG
 have e7G:=e7F.trans eFG
 refine Bk (fun σ' H'=>Aa HG H'/\σ'=[some (.ref p),some (.ref dl),some (.ref tl),some (.ref x),some (.ref dp),some (.ref lv),some (.ref pt),some (.ref dd),some (.ref x2),some (.int (i:Int)),some (.ref it)]) (fun σ' HH pp=>?_) (fun nx2=>?_)
 .obtain⟨eGH,rfl⟩:=pp
  have eFH:=eFG.trans eGH
  have e7H:=e7F.trans eFH
  refine⟨_,rfl,_,rfl,_,rfl,_,rfl,tl,_,rfl,.inl (A4.of (eFH _ _ htlF)),_,rfl,p,ns,2,rfl,eFH.seq hpF,by decide,by decide,fun m3 m30 _=>⟨_,_,rfl,rfl,⟨by decide,by decide⟩,?_⟩⟩
  refine⟨.ref x2,pt,lv,97,Ds.map (CG 0),D0,B,f,m3/7,by show[V.ref x2,V.ref pt,V.ref lv,V.int (ws.length:Int),V.int (m3/7)]=_;rw[wn],hL _ eFH,D00,by rw[mpl];omega,D3,hB.over (e7.trans e7H),ok.lv,Bpos,hf.over e7H,hI,by omega,fun HI eI=>⟨_,rfl,BH ?_⟩⟩
  exact nx _ _ ⟨_,_,_,_,e7H.trans eI,rfl⟩
 refine⟨_,rfl,_,rfl,.ref x2,pt,97,_,f,rfl,hL _ eFG,L10,L3,hf.over e7G,z1,z2,z3,z4,fun HH eH=>?_⟩
 rw[U2 fit]
 refine⟨false,rfl,rfl,_,rfl,BH ?_⟩
 have eFH:=eFG.trans eH
 have c1:AL px none (some (i:Int))=px.take i:=DL _ (E5 _)
 have c2:AL px (some (i:Int)) none=px.drop i:=Es _ (E5 _)
 refine⟨_,rfl,_,rfl,_,rfl,_,rfl,pt,_,rfl,eFH _ _ hpt,fun r3 HJ eJ h3=>?_⟩
 rw[c1]at h3
 refine⟨_,rfl,Af rfl,fun t9 ht9=>?_⟩
 have sK:=A7 ht9 (.tup [V.ref it])
 refine⟨r3,t9,_,_,rfl,rfl,sK _ _ h3,A5,AF (by rw[Ar,Au];omega),fun r4 HL eL h4=>?_⟩
 have eFL:=eFH.trans (eJ.trans (sK.trans eL))
 refine⟨_,rfl,_,rfl,_,rfl,pt,_,rfl,eFL _ _ hpt,fun r5 HM eM h5=>?_⟩
 rw[c2]at h5
 refine⟨r4,r5,_,_,rfl,rfl,eM _ _ h4,h5,AF (by rw[Ap,Ar,Au,Ck];omega),fun r6 HN eN h6=>?_⟩
 have eFN:=eFL.trans (eM.trans eN)
 have eGN:=eH.trans ((eJ.trans (sK.trans eL)).trans (eM.trans eN))
 have ile:i<=Fj f:=by omega
 have hput:DD (Dd ((Ds.map (CG 0)).length:Int) []) f [i] (BR f i (Dd ((Ds.map (CG 0)).length:Int) [])):=.here ile
 have hg:DA HN r6 (BR f i (Dd ((Ds.map (CG 0)).length:Int) [])):=⟨_,h6,JW (y:=.ref it) (mk:=Dd ((Ds.map (CG 0)).length:Int) []) (fun ys g hg=>show AI HN (.ref it::ys) (.leaf _ [] g) from⟨it,u0,ys,rfl,eGN _ _ hitG,⟨[],eGN _ _ hu0G,.nil⟩,hg⟩) f px i (AI.over eFN hpx) (by omega)⟩
 have y1:=L5 (fun r=>by show AU r<=_;omega) hput
 have y2:=Lf (a:=1) (fun r=>rfl) hput
 have y3:=Hs (BR f i (Dd ((Ds.map (CG 0)).length:Int) [])) [] 0 []
 have y4:=Nq hput (by decide) z4
 have y5:=UV fit D00 i
 generalize BR f i (Dd ((Ds.map (CG 0)).length:Int) [])=g at hg y1 y2 y3 y4 y5
 refine⟨.ref x2,r6,97,_,g,rfl,hL _ eFN,L10,L3,hg,by omega,by omega,by omega,y4,fun HO eO=>?_⟩
 rw[y5]
 refine⟨true,rfl,rfl,_,rfl,BH ?_⟩
 exact nx2 _ _ ⟨eGN.trans eO,rfl⟩
end
theorem Ln {us:List Value}(h:us.length=1):∃x0,us=[x0]:=by
 rcases us with _|⟨x0,us⟩
 .cases h
 rcases us with _|⟨y,us⟩
 .exact⟨x0,rfl⟩
 .simp only[B5]at h;omega
theorem FU {us:List Value}(h:us.length=2):∃x0 x1,us=[x0,x1]:=by
 rcases us with _|⟨x0,us⟩
 .cases h
 rcases us with _|⟨x1,us⟩
 .cases h
 rcases us with _|⟨y,us⟩
 .exact⟨x0,x1,rfl⟩
 .simp only[B5]at h;omega
theorem FR {us:List Value}(h:us.length=3):∃x0 x1 x2,us=[x0,x1,x2]:=by
 rcases us with _|⟨x0,us⟩
 .cases h
 rcases us with _|⟨x1,us⟩
 .cases h
 rcases us with _|⟨x2,us⟩
 .cases h
 rcases us with _|⟨y,us⟩
 .exact⟨x0,x1,x2,rfl⟩
 .simp only[B5]at h;omega
theorem Um {us:List Value}(h:us.length=4):∃x0 x1 x2 x3,us=[x0,x1,x2,x3]:=by
 rcases us with _|⟨x0,us⟩
 .cases h
 rcases us with _|⟨x1,us⟩
 .cases h
 rcases us with _|⟨x2,us⟩
 .cases h
 rcases us with _|⟨x3,us⟩
 .cases h
 rcases us with _|⟨y,us⟩
 .exact⟨x0,x1,x2,x3,rfl⟩
 .simp only[B5]at h;omega
theorem G7 {us:List Value}(h:us.length=5):∃x0 x1 x2 x3 x4,us=[x0,x1,x2,x3,x4]:=by
 rcases us with _|⟨x0,us⟩
 .cases h
 rcases us with _|⟨x1,us⟩
 .cases h
 rcases us with _|⟨x2,us⟩
 .cases h
 rcases us with _|⟨x3,us⟩
 .cases h
 rcases us with _|⟨x4,us⟩
 .cases h
 rcases us with _|⟨y,us⟩
 .exact⟨x0,x1,x2,x3,x4,rfl⟩
 .simp only[B5]at h;omega
theorem S6 {us:List Value}(h:us.length=6):∃x0 x1 x2 x3 x4 x5,us=[x0,x1,x2,x3,x4,x5]:=by
 rcases us with _|⟨x0,us⟩
 .cases h
 rcases us with _|⟨x1,us⟩
 .cases h
 rcases us with _|⟨x2,us⟩
 .cases h
 rcases us with _|⟨x3,us⟩
 .cases h
 rcases us with _|⟨x4,us⟩
 .cases h
 rcases us with _|⟨x5,us⟩
 .cases h
 rcases us with _|⟨y,us⟩
 .exact⟨x0,x1,x2,x3,x4,x5,rfl⟩
 .simp only[B5]at h;omega
theorem TZ {us:List Value}(h:us.length=8):∃x0 x1 x2 x3 x4 x5 x6 x7,us=[x0,x1,x2,x3,x4,x5,x6,x7]:=by
 rcases us with _|⟨x0,us⟩
 .cases h
 rcases us with _|⟨x1,us⟩
 .cases h
 rcases us with _|⟨x2,us⟩
 .cases h
 rcases us with _|⟨x3,us⟩
 .cases h
 rcases us with _|⟨x4,us⟩
 .cases h
 rcases us with _|⟨x5,us⟩
 .cases h
 rcases us with _|⟨x6,us⟩
 .cases h
 rcases us with _|⟨x7,us⟩
 .cases h
 rcases us with _|⟨y,us⟩
 .exact⟨x0,x1,x2,x3,x4,x5,x6,x7,rfl⟩
 .simp only[B5]at h;omega
theorem T7:Cd "__init__" "Number.__init__" JV ["self","n"]:=fun _ _ _ _ _ _ _ h=>by obtain⟨_,_,rfl⟩:=FU h;rfl
theorem RM:Cd "__init__" "Deed.__init__" Jv ["self","names","lows","highs","table","spots","term","path"]:=fun _ _ _ _ _ _ _ h=>by obtain⟨_,_,_,_,_,_,_,_,rfl⟩:=TZ h;rfl
theorem U9:Cd "__init__" "Program.__init__" J5 ["self","size","deeds"]:=fun _ _ _ _ _ _ _ h=>by obtain⟨_,_,_,rfl⟩:=FR h;rfl
theorem RL:Cd "fits" "fits" Gu ["program","plan"]:=fun _ _ _ _ _ _ _ h=>by obtain⟨_,_,rfl⟩:=FU h;rfl
theorem Ui:Cd "deeds_within" "deeds_within" J8 ["items","path","cuts"]:=fun _ _ _ _ _ _ _ h=>by obtain⟨_,_,_,rfl⟩:=FR h;rfl
theorem RG:Cd "has_bare_sweep" "has_bare_sweep" HW ["items"]:=fun _ _ _ _ _ _ _ h=>by obtain⟨_,rfl⟩:=Ln h;rfl
theorem QK:Cd "well_placed" "well_placed" HR ["deed","places","cuts"]:=fun _ _ _ _ _ _ _ h=>by obtain⟨_,_,_,rfl⟩:=FR h;rfl
theorem QQ:Cd "_law_at" "_law_at" K0 ["_law_script","_law_k"]:=fun _ _ _ _ _ _ _ h=>by obtain⟨_,_,rfl⟩:=FU h;rfl
theorem Sr:Cd "_law_digits" "_law_digits" JH ["_law_cell","_law_sizes"]:=fun _ _ _ _ _ _ _ h=>by obtain⟨_,_,rfl⟩:=FU h;rfl
theorem QL:Cd "_law_loop" "_law_loop" Im ["_law_cell","_law_loops"]:=fun _ _ _ _ _ _ _ h=>by obtain⟨_,_,rfl⟩:=FU h;rfl
theorem Rb:Cd "_law_deeds" "_law_deeds" J3 ["_law_script","_law_first","_law_count"]:=fun _ _ _ _ _ _ _ h=>by obtain⟨_,_,_,rfl⟩:=FR h;rfl
theorem QC:Cd "_law_told" "_law_told" JS ["_law_spot","_law_scale","_law_base"]:=fun _ _ _ _ _ _ _ h=>by obtain⟨_,_,_,rfl⟩:=FR h;rfl
theorem QJ:Cd "_law_told_deeds" "_law_told_deeds" FZ ["_law_deeds_here","_law_scale","_law_base"]:=fun _ _ _ _ _ _ _ h=>by obtain⟨_,_,_,rfl⟩:=FR h;rfl
theorem RX:Cd "_law_sweeps" "_law_sweeps" Jm ["_law_script","_law_first","_law_depth","_law_old","_law_ways"]:=fun _ _ _ _ _ _ _ h=>by obtain⟨_,_,_,_,_,rfl⟩:=G7 h;rfl
theorem SG:Cd "_law_places" "_law_places" JM ["_law_script","_law_first","_law_sweeps_here","_law_loops","_law_far"]:=fun _ _ _ _ _ _ _ h=>by obtain⟨_,_,_,_,_,rfl⟩:=G7 h;rfl
theorem PY:Cd "_law_leaves" "_law_leaves" Gv ["_law_script","_law_first","_law_depths","_law_ways","_law_far"]:=fun _ _ _ _ _ _ _ h=>by obtain⟨_,_,_,_,_,rfl⟩:=G7 h;rfl
theorem Uz:Cd "_law_items" "_law_items" Jd ["_law_leaves_here","_law_level"]:=fun _ _ _ _ _ _ _ h=>by obtain⟨_,_,rfl⟩:=FU h;rfl
theorem U6:Cd "_law_without" "_law_without" Jn ["_law_leaves_here","_law_n"]:=fun _ _ _ _ _ _ _ h=>by obtain⟨_,_,rfl⟩:=FU h;rfl
theorem Uv:Cd "_law_spoilt_places" "_law_spoilt_places" Hn ["_law_leaf","_law_depth","_law_kind","_law_at_here","_law_much"]:=fun _ _ _ _ _ _ _ h=>by obtain⟨_,_,_,_,_,rfl⟩:=G7 h;rfl
theorem U5:Cd "_law_spoilt" "_law_spoilt" II ["_law_leaves_here","_law_depths","_law_kind","_law_n","_law_at_here","_law_much"]:=fun _ _ _ _ _ _ _ h=>by obtain⟨_,_,_,_,_,_,rfl⟩:=S6 h;rfl
theorem U3:Cd "_law_deeper" "_law_deeper" Jp ["_law_leaves_here","_law_n","_law_many","_law_way"]:=fun _ _ _ _ _ _ _ h=>by obtain⟨_,_,_,_,rfl⟩:=Um h;rfl
theorem Pa:Cd "_law_put" "_law_put" JE ["_law_items_here","_law_path","_law_item"]:=fun _ _ _ _ _ _ _ h=>by obtain⟨_,_,_,rfl⟩:=FR h;rfl
theorem QO:Cd "_law_paths" "_law_paths" JX ["_law_leaves_here"]:=fun _ _ _ _ _ _ _ h=>by obtain⟨_,rfl⟩:=Ln h;rfl
theorem Qk:Cd "_law_hollow" "_law_hollow" Jo ["_law_plan","_law_leaves_here","_law_n","_law_at_here","_law_much"]:=fun _ _ _ _ _ _ _ h=>by obtain⟨_,_,_,_,_,rfl⟩:=G7 h;rfl
theorem QV:Cd "_law_asked" "_law_asked" J4 ["_law_program","_law_leaves_here","_law_depths","_law_plan","_law_script"]:=fun _ _ _ _ _ _ _ h=>by obtain⟨_,_,_,_,_,rfl⟩:=G7 h;rfl
theorem Q8:Cd "_law_housed" "_law_housed" Ho ["_law_longer","_law_plan","_law_leaves_here","_law_number","_law_cell"]:=fun _ _ _ _ _ _ _ h=>by obtain⟨_,_,_,_,_,rfl⟩:=G7 h;rfl
theorem RO:Cd "law" "law" I0 ["_law_script"]:=fun _ _ _ _ _ _ _ h=>by obtain⟨_,rfl⟩:=Ln h;rfl
theorem txt_mk {K:PySem.W.Frag}{h:Heap}{mg:Str->Option Value}{fa:Addr}(X:K.In h)(G:h.Ns mainGlobals mg)(hfa:mg "law"=some (.ref fa))
  {C_Number:Addr} {C_Deed:Addr} {C_Program:Addr} {f1 f2 f3 f4 f5 f6 f7 f8 f9 f10 f11 f12 f13 f14 f15 f16 f17 f18 f19 f20 f21 f22 f23 f24 f25 f26 f27:Addr} {d1 d2 d3 d4 d5 d6 d7 d8 d9 d10 d11 d12 d13 d14 d15 d16 d17 d18 d19 d20 d21 d22 d23 d24 d25 d26 d27:FuncData} {t_MOST_PAIRS:Tok} {t_MOST_SHIFT:Tok}
  (a_Number:ClA K C_Number "Number")
  (a_Deed:ClA K C_Deed "Deed")
  (a_Program:ClA K C_Program "Program")
  (h1:Lb K C_Number "__init__" "Number.__init__" JV f1 d1)
  (h2:Lb K C_Deed "__init__" "Deed.__init__" Jv f2 d2)
  (h3:Lb K C_Program "__init__" "Program.__init__" J5 f3 d3)
  (h4:Co K "fits" Gu f4 d4)
  (h5:Co K "deeds_within" J8 f5 d5)
  (h6:Co K "has_bare_sweep" HW f6 d6)
  (h7:Co K "well_placed" HR f7 d7)
  (h8:Co K "_law_at" K0 f8 d8)
  (h9:Co K "_law_digits" JH f9 d9)
  (h10:Co K "_law_loop" Im f10 d10)
  (h11:Co K "_law_deeds" J3 f11 d11)
  (h12:Co K "_law_told" JS f12 d12)
  (h13:Co K "_law_told_deeds" FZ f13 d13)
  (h14:Co K "_law_sweeps" Jm f14 d14)
  (h15:Co K "_law_places" JM f15 d15)
  (h16:Co K "_law_leaves" Gv f16 d16)
  (h17:Co K "_law_items" Jd f17 d17)
  (h18:Co K "_law_without" Jn f18 d18)
  (h19:Co K "_law_spoilt_places" Hn f19 d19)
  (h20:Co K "_law_spoilt" II f20 d20)
  (h21:Co K "_law_deeper" Jp f21 d21)
  (h22:Co K "_law_put" JE f22 d22)
  (h23:Co K "_law_paths" JX f23 d23)
  (h24:Co K "_law_hollow" Jo f24 d24)
  (h25:Co K "_law_asked" J4 f25 d25)
  (h26:Co K "_law_housed" Ho f26 d26)
  (h27:Co K "law" I0 f27 d27)
  (n_Number_n:PySem.W.findIn K (.ref C_Number) "n"=some none)
  (n_Deed_names:PySem.W.findIn K (.ref C_Deed) "names"=some none)
  (n_Deed_lows:PySem.W.findIn K (.ref C_Deed) "lows"=some none)
  (n_Deed_highs:PySem.W.findIn K (.ref C_Deed) "highs"=some none)
  (n_Deed_table:PySem.W.findIn K (.ref C_Deed) "table"=some none)
  (n_Deed_spots:PySem.W.findIn K (.ref C_Deed) "spots"=some none)
  (n_Deed_term:PySem.W.findIn K (.ref C_Deed) "term"=some none)
  (n_Deed_path:PySem.W.findIn K (.ref C_Deed) "path"=some none)
  (n_Program_size:PySem.W.findIn K (.ref C_Program) "size"=some none)
  (n_Program_deeds:PySem.W.findIn K (.ref C_Program) "deeds"=some none)
  (z_abs:PySem.W.nsIn K mainGlobals "abs"=some none)
  (z_all:PySem.W.nsIn K mainGlobals "all"=some none)
  (z_any:PySem.W.nsIn K mainGlobals "any"=some none)
  (z_bool:PySem.W.nsIn K mainGlobals "bool"=some none)
  (z_enumerate:PySem.W.nsIn K mainGlobals "enumerate"=some none)
  (z_int:PySem.W.nsIn K mainGlobals "int"=some none)
  (z_isinstance:PySem.W.nsIn K mainGlobals "isinstance"=some none)
  (z_len:PySem.W.nsIn K mainGlobals "len"=some none)
  (z_list:PySem.W.nsIn K mainGlobals "list"=some none)
  (z_max:PySem.W.nsIn K mainGlobals "max"=some none)
  (z_min:PySem.W.nsIn K mainGlobals "min"=some none)
  (z_range:PySem.W.nsIn K mainGlobals "range"=some none)
  (z_sorted:PySem.W.nsIn K mainGlobals "sorted"=some none)
  (z_tuple:PySem.W.nsIn K mainGlobals "tuple"=some none)
  (z_zip:PySem.W.nsIn K mainGlobals "zip"=some none)
  (g_MOST_PAIRS:PySem.W.nsIn K mainGlobals "MOST_PAIRS"=some (some (.int 6 t_MOST_PAIRS)))
  (g_MOST_SHIFT:PySem.W.nsIn K mainGlobals "MOST_SHIFT"=some (some (.int 1000000000000000000 t_MOST_SHIFT))) :
  ∃a:Ad,Tx K mg a/\fa=a.f_law/\(∀(s:Shared) (v:Value),BindsTo s a.d_law ⟨[v],[]⟩ [("_law_script",v)]):=by
 have e:=hfa.symm.trans (C5 X G h27.a)
 cases e
 obtain⟨_,_,_,_,_,_,_,_,_,rfl,_⟩:=h27.F.ex
 exact⟨⟨f1,d1,f2,d2,f3,d3,f4,d4,f5,d5,f6,d6,f7,d7,f8,d8,f9,d9,f10,d10,f11,d11,f12,d12,f13,d13,f14,d14,f15,d15,f16,d16,f17,d17,f18,d18,f19,d19,f20,d20,f21,d21,f22,d22,f23,d23,f24,d24,f25,d25,f26,d26,fa,_,C_Number,C_Deed,C_Program,.int 6 t_MOST_PAIRS,.int 1000000000000000000 t_MOST_SHIFT⟩,⟨h1.F,
  h1.F.binds T7,
  h2.F,
  h2.F.binds RM,
  h3.F,
  h3.F.binds U9,
  h4.F,
  h4.F.binds RL,
  C5 X G h4.a,
  h5.F,
  h5.F.binds Ui,
  C5 X G h5.a,
  h6.F,
  h6.F.binds RG,
  C5 X G h6.a,
  h7.F,
  h7.F.binds QK,
  C5 X G h7.a,
  h8.F,
  h8.F.binds QQ,
  C5 X G h8.a,
  h9.F,
  h9.F.binds Sr,
  C5 X G h9.a,
  h10.F,
  h10.F.binds QL,
  C5 X G h10.a,
  h11.F,
  h11.F.binds Rb,
  C5 X G h11.a,
  h12.F,
  h12.F.binds QC,
  C5 X G h12.a,
  h13.F,
  h13.F.binds QJ,
  C5 X G h13.a,
  h14.F,
  h14.F.binds RX,
  C5 X G h14.a,
  h15.F,
  h15.F.binds SG,
  C5 X G h15.a,
  h16.F,
  h16.F.binds PY,
  C5 X G h16.a,
  h17.F,
  h17.F.binds Uz,
  C5 X G h17.a,
  h18.F,
  h18.F.binds U6,
  C5 X G h18.a,
  h19.F,
  h19.F.binds Uv,
  C5 X G h19.a,
  h20.F,
  h20.F.binds U5,
  C5 X G h20.a,
  h21.F,
  h21.F.binds U3,
  C5 X G h21.a,
  h22.F,
  h22.F.binds Pa,
  C5 X G h22.a,
  h23.F,
  h23.F.binds QO,
  C5 X G h23.a,
  h24.F,
  h24.F.binds Qk,
  C5 X G h24.a,
  h25.F,
  h25.F.binds QV,
  C5 X G h25.a,
  h26.F,
  h26.F.binds Q8,
  C5 X G h26.a,
  h27.F,
  h27.F.binds RO,
  C5 X G h27.a,
  ⟨a_Number.pg,a_Number.hd,a_Number.po,a_Number.sa⟩,
  C5 X G a_Number.a,
  ⟨a_Number.mi,h1.a,h1.i,a_Number.kc⟩,
  n_Number_n,
  ⟨a_Deed.pg,a_Deed.hd,a_Deed.po,a_Deed.sa⟩,
  C5 X G a_Deed.a,
  ⟨a_Deed.mi,h2.a,h2.i,a_Deed.kc⟩,
  n_Deed_names,
  n_Deed_lows,
  n_Deed_highs,
  n_Deed_table,
  n_Deed_spots,
  n_Deed_term,
  n_Deed_path,
  ⟨a_Program.pg,a_Program.hd,a_Program.po,a_Program.sa⟩,
  C5 X G a_Program.a,
  ⟨a_Program.mi,h3.a,h3.i,a_Program.kc⟩,
  n_Program_size,
  n_Program_deeds,
  DR X G z_abs,
  DR X G z_all,
  DR X G z_any,
  DR X G z_bool,
  DR X G z_enumerate,
  DR X G z_int,
  DR X G z_isinstance,
  DR X G z_len,
  DR X G z_list,
  DR X G z_max,
  DR X G z_min,
  DR X G z_range,
  DR X G z_sorted,
  DR X G z_tuple,
  DR X G z_zip,
  C5 X G g_MOST_PAIRS,
  ⟨_,rfl⟩,
  C5 X G g_MOST_SHIFT,
  ⟨_,rfl⟩⟩,rfl,fun s v=>.of_eq rfl⟩
end Fw
open PySem PySem.W PyProof.Rows
namespace PySem.W.Fast
def tw10043773609424012702:=0
def tw10084484654130135980:=0
def tw10096565315920851362:=0
def tw10277507127631911655:=0
def tw10356977628845778726:=0
def tw10453958633530306279:=0
def tw10491254794484843868:=0
def tw104932794842009925:=0
def tw10532185447426490194:=0
def tw10591629894843691121:=0
def tw10665386588130274470:=0
def tw10702995535912124150:=0
def tw10905738458210743353:=0
def tw10909789980700639281:=0
def tw10971012741846540808:=0
def tw11020579161022231729:=0
def tw1110368285971168427:=0
def tw11185180503971983679:=0
def tw11185519225077542610:=0
def tw11340147330253852276:=0
def tw11343793903061912752:=0
def tw11452413291075232183:=0
def tw11566251824582296603:=0
def tw1164855036432963497:=0
def tw11670832961442977845:=0
def tw11758968902244276371:=0
def tw1183728011909125735:=0
def tw1188262196833496743:=0
def tw11956511199528695234:=0
def tw12088390681785004451:=0
def tw12137413999429773720:=0
def tw12159797415604858945:=0
def tw12282349954623920069:=0
def tw12313211099451842823:=0
def tw12331805378288317715:=0
def tw1233582895823627050:=0
def tw12339929192015764871:=0
def tw12406482232656932757:=0
def tw12473082440959167804:=0
def tw12594798499854602767:=0
def tw12603290129504390648:=0
def tw12606474269275979872:=0
def tw12653586080412757791:=0
def tw12669744989865686565:=0
def tw12723539861095956982:=0
def tw12732444223253400827:=0
def tw12780480219281128770:=0
def tw12836315248275904199:=0
def tw12838632460062372871:=0
def tw12979234516777730298:=0
def tw13017478119833616056:=0
def tw13163018568295301209:=0
def tw13255894965160054437:=0
def tw1341756689889735357:=0
def tw13567546380725605849:=0
def tw13592677825709573669:=0
def tw13604787127642486587:=0
def tw13660215639431072161:=0
def tw13787352565161978824:=0
def tw13846758211633302130:=0
def tw14075652194049149957:=0
def tw14199835657156181259:=0
def tw14231874949815930466:=0
def tw14232036514966347248:=0
def tw14280583596823779171:=0
def tw14364817205822757578:=0
def tw14413085064509415066:=0
def tw14456890292129777316:=0
def tw14471575996541167615:=0
def tw1457613148415571790:=0
def tw14592639061388511314:=0
def tw14661826631760373831:=0
def tw14699983731673077112:=0
def tw14800104886075042375:=0
def tw14874700376421637480:=0
def tw14916368818115342406:=0
def tw15024701039844011022:=0
def tw15198900722849752800:=0
def tw15214576135856266011:=0
def tw15281689816902109637:=0
def tw15344684551119216559:=0
def tw15416108298515459279:=0
def tw15416335237451525880:=0
def tw15470217277860144593:=0
def tw15489367206180837503:=0
def tw15522376806237467634:=0
def tw15526370280233469136:=0
def tw15560293384711709854:=0
def tw15662513589443003979:=0
def tw15673062785808254373:=0
def tw15679858131542055232:=0
def tw15705374430039015023:=0
def tw15829535007976858855:=0
def tw16008748140418098074:=0
def tw16075324475610149900:=0
def tw16104187563037941140:=0
def tw16136237965318176430:=0
def tw16144402180327866426:=0
def tw16162450482645773062:=0
def tw16237524307086421832:=0
def tw16307865388965748336:=0
def tw16415985164303801982:=0
def tw16526152937129693707:=0
def tw16533946250939147634:=0
def tw16538226650408493825:=0
def tw16574378026965370530:=0
def tw16609893935502224251:=0
def tw16628588030858836286:=0
def tw16636263453130683324:=0
def tw16878064262693106286:=0
def tw16887593424550814189:=0
def tw16927059634572179777:=0
def tw17260252115174741966:=0
def tw17312250285078898380:=0
def tw17462317798908642020:=0
def tw17517361766370574814:=0
def tw17593344267998186222:=0
def tw17653801293316949226:=0
def tw1765468481247498937:=0
def tw17714812726467289776:=0
def tw17753907413518830341:=0
def tw17787722608975685147:=0
def tw17946550566094890787:=0
def tw18089970729011243006:=0
def tw18101792831314562071:=0
def tw18125103398596601165:=0
def tw18174008925914424933:=0
def tw18409716870887463729:=0
def tw1868439646103404305:=0
def tw2013873923724955397:=0
def tw2095680416262603771:=0
def tw2148483034823074536:=0
def tw2178528327755464249:=0
def tw2265571873587165802:=0
def tw2292634489676917692:=0
def tw2363467017171121726:=0
def tw2429259228026121247:=0
def tw2499485633888013022:=0
def tw2510328085399730890:=0
def tw2520120680160946166:=0
def tw2544177685409966895:=0
def tw2644551653403570159:=0
def tw2882690719803087430:=0
def tw2909320664251673116:=0
def tw2919469762943752039:=0
def tw2924429436903324991:=0
def tw3165227542946080494:=0
def tw3200133466236364927:=0
def tw3519181476446285808:=0
def tw3545189813514827095:=0
def tw3549832320256854460:=0
def tw3659427524712171764:=0
def tw3673168571811832888:=0
def tw3677949181567931992:=0
def tw3713157114881419958:=0
def tw3731208688694594962:=0
def tw3846528187350232126:=0
def tw3851787598449411642:=0
def tw3889920077006942357:=0
def tw3944403634887284287:=0
def tw3992906810011556183:=0
def tw4008345543622783494:=0
def tw4271272792518344607:=0
def tw433876817215708732:=0
def tw4574366590051325745:=0
def tw4583171304494096980:=0
def tw4620174668700829528:=0
def tw4812848251780228781:=0
def tw4817376058341814801:=0
def tw4888258874349592982:=0
def tw4910982958773525873:=0
def tw4918262238094479981:=0
def tw4942146309089895400:=0
def tw4980865238902732688:=0
def tw4986127472979437597:=0
def tw5141988385891032588:=0
def tw5181139135139408564:=0
def tw5195063785971555280:=0
def tw5252050924011848244:=0
def tw5356346546287154918:=0
def tw5447240028632899003:=0
def tw5476919948245482802:=0
def tw5495420316654702863:=0
def tw5546818233111000354:=0
def tw5713368938025202717:=0
def tw5738991759572393998:=0
def tw5760021235584814951:=0
def tw5820638093329781506:=0
def tw584205302853089185:=0
def tw5847581139456223065:=0
def tw5887562126071682293:=0
def tw589589649988678989:=0
def tw6147564366242622420:=0
def tw6159946395569112544:=0
def tw6227507089795440788:=0
def tw6245969673377999284:=0
def tw6250260481645821245:=0
def tw6305593463228727881:=0
def tw653233471424950612:=0
def tw6619822127545076503:=0
def tw6837739678164765575:=0
def tw6886439007527205985:=0
def tw6941105605944443131:=0
def tw6971676308730795208:=0
def tw6993714512141670689:=0
def tw7037667593076835679:=0
def tw7167374543196876062:=0
def tw7176682970356311483:=0
def tw7296733948847121646:=0
def tw7334447864672711354:=0
def tw7375858788792617333:=0
def tw7383208066035962721:=0
def tw7569660062742808344:=0
def tw7571849289018086355:=0
def tw7600982177810150625:=0
def tw7601889072695362119:=0
def tw7698569227834838300:=0
def tw7836720149502728724:=0
def tw786931154526382402:=0
def tw8028166365948977857:=0
def tw8367996002129267015:=0
def tw8391374116794923330:=0
def tw8426217302708881229:=0
def tw8480730716604696813:=0
def tw8497358853289524847:=0
def tw854532599042850595:=0
def tw8551380577947561364:=0
def tw8645037676383166306:=0
def tw865321112046665534:=0
def tw8673009050053023498:=0
def tw9149120373884115393:=0
def tw9174573312300395019:=0
def tw9469235799905785377:=0
def tw9509475159874712198:=0
def tw9569496324331774162:=0
def tw958734008305076056:=0
def tw9652874877391089866:=0
def tw9808320877037178096:=0
def tw9841078952691341606:=0
def tw9867683719910652542:=0
end PySem.W.Fast
set_option maxRecDepth 100000 in
set_option maxHeartbeats 0 in
theorem PySem.Challenge.cw_furrow_k61_what_fits_holds : PySem.Challenge.rw_furrow_k61_what_fits.Holds := by
 w_on;o_law;k_head;(case hw=>w_witness2)
 k_fill
 refine L2.law_walk (l:=PySem.Challenge.rw_furrow_k61_what_fits) (x:="_law_script") 18 (by decide) rfl rfl (fun w h Y=>PySem.W.kIn_of Y) ?F
 case F=>
  intro w mg fa h KX G hmg
  suffices hh:∃a:Fw.Ad,Fw.Tx _ mg a/\fa=a.f_law/\(∀(s:Shared) (v:Value),BindsTo s a.d_law ⟨[v],[]⟩ [("_law_script",v)]) by
   obtain⟨a,T,e,b⟩:=hh
   subst e
   exact⟨a.d_law,b,fun base _ _=>Fw.ok_law T⟩
  refine' Fw.txt_mk KX G hmg ?a_Number ?a_Deed ?a_Program ?h1 ?h2 ?h3 ?h4 ?h5 ?h6 ?h7 ?h8 ?h9 ?h10 ?h11 ?h12 ?h13 ?h14 ?h15 ?h16 ?h17 ?h18 ?h19 ?h20 ?h21 ?h22 ?h23 ?h24 ?h25 ?h26 ?h27 ?n_Number_n ?n_Deed_names ?n_Deed_lows ?n_Deed_highs ?n_Deed_table ?n_Deed_spots ?n_Deed_term ?n_Deed_path ?n_Program_size ?n_Program_deeds ?z_abs ?z_all ?z_any ?z_bool ?z_enumerate ?z_int ?z_isinstance ?z_len ?z_list ?z_max ?z_min ?z_range ?z_sorted ?z_tuple ?z_zip ?g_MOST_PAIRS ?g_MOST_SHIFT
  any_goals first|refine'⟨?_,L2.fun_mk ?_ ?_ ?_⟩|refine'⟨?_,?_,L2.fun_mk ?_ ?_ ?_⟩|refine' Fw.ClA.mk ?_ ?_ ?_ ?_ ?_ ?_ ?_
  any_goals first|k_is|kit_is|exact rfl|kernel_rfl|decide
#print axioms PySem.Challenge.cw_furrow_k61_what_fits_holds
