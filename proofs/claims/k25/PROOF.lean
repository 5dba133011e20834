import PyProof.Rows.All
import Wide.All
import OpenK.AllK
import Wide.FinOn
import Lean
import PyProof.EqAt
import PyProof.EqKinds
import PyProof.TupleCall
import PyProof.ListMulRoad
import PySem.Challenge.RW_furrow_k25_programs_read
set_option genSizeOf false
set_option genInjectivity false
set_option compiler.extract_closed false
set_option Elab.async false
set_option linter.all false
set_option maxRecDepth 100000
set_option maxHeartbeats 4000000
noncomputable section
abbrev Xa:=PySem.W.Frag
def Ae:=@if_neg
def Ag:=@if_pos
def Ai:=@Nat.le_refl
def Ap:=@List.length_map
def Au:=@List.length_append
def AJ:=@PySem.W.mg_of
def AQ:=@List.mem_cons
def AW:=@List.length_cons
def AY:=@List.mem_cons_self
def B3:=@List.map_append
def B4:=@PySem.wpAny_bind
def B5:=@decide_eq_true
def B8:=@List.size_toArray
def Bg:=@List.getElem?_eq_getElem
def Bh:=@List.length_take
def Bj:=@List.mem_append
def Br:=@PySem.Heap.lt_size
def Bs:=@PySem.F.plainAttrs_list
def BC:=@Nat.zero_le
def BD:=@List.length_singleton
def BH:=@List.mem_cons_of_mem
def BI:=@decide_eq_false
def BM:=@List.getElem?_eq_some_iff
def BP:=@Option.some.inj
def BQ:=@Bool.false_ne_true
def BR:=@PySem.Heap.get?_push_of_some
def BS:=@List.map_cons
def BU:=@Int.emod_nonneg
def C0:=@Int.emod_lt_of_pos
def C5:=@Nat.le_trans
def C6:=@PySem.wpAny_pure
def Cg:=@Nat.ne_of_lt
def Cn:=@List.length_drop
def Co:=@List.append_assoc
def Cp:=@PySem.F.slot_list_append
def Cq:=@PySem.F.type_list_append
def CC:=@List.mem_append_right
def CJ:=@Nat.lt_of_lt_of_le
def CK:=@List.mem_of_getElem?
def CL:=@List.not_mem_nil
def D7:=@PySem.Heap.get?_push_size
def D8:=@List.getElem?_map
def Dl:=@List.cons_append
def DE:=@List.mem_map
def DL:=@List.append_nil
def DM:=@List.getElem?_append_left
def DN:=@List.take_length
def DO:=@List.cons_ne_nil
def DP:=@PySem.wpAny_mono
def DQ:=@decide_eq_true_eq
def E4:=@Bool.eq_iff_iff
def E5:=@List.getElem?_append_right
def E6:=@List.mem_singleton
def E7:=@List.filter_cons
def E8:=@beq_iff_eq
def Eg:=@PySem.F.plainAttrs_str
def Eh:=@bne_iff_ne
def EA:=@Nat.lt_irrefl
def EB:=@Bool.and_eq_true
def EC:=@Nat.sub_self
def ED:=@PySem.F.slot_list_pop
def EE:=@PySem.F.type_list_pop
def ET:=@PySem.W.kia_one
def EU:=@List.all_eq_true
def EV:=@List.getElem_mem
def EW:=@PySem.W.mg_none_of
def EY:=@if_true
def Fj:=@Int.toNat_natCast
def Fk:=@List.dropWhile_cons
def FE:=@List.lookup_cons
def FF:=@List.filter_append
def G4:=@Nat.le_of_lt
def G5:=@List.nodup_cons
def G6:=@Nat.succ_pos
def G7:=@List.getD_eq_getElem?_getD
def G8:=@List.take_of_length_le
def G9:=@List.drop_eq_getElem_cons
def Ga:=@List.mem_of_mem_take
def Gb:=@PySem.call_meets
def GM:=@List.mem_of_mem_drop
def GN:=@List.take_left
def GO:=@Classical.byContradiction
def GP:=@List.map_map
def GQ:=@List.reverse_cons
def GR:=@beq_eq_false_iff_ne
def GS:=@PySem.wpAny_truthy_bool
def GT:=@PySem.wpAny_passesOwn
def GU:=@PySem.wpAny_Call_Name_kw
def GV:=@PySem.typeIs_str
def HW:=@List.mem_range
def HX:=@List.mem_append_left
def HY:=@PySem.Heap.size_push
def HZ:=@List.any_cons
def I0:=@List.drop_zero
def Ia:=@List.drop_drop
def Ib:=@List.takeWhile_cons
def Ic:=@PySem.sizeLine_eq
def Ie:=@PySem.codeAny_mono
def Ig:=@if_false
def Ih:=@PySem.wpAny_Constant_str
def Ii:=@PySem.wpAny_field
def JX:=@Nat.ne_of_gt
def JY:=@Nat.lt_succ_self
def JZ:=@Nat.le_succ
def K0:=@PySem.mem_of_lookup
def K1:=@List.all_cons
def K2:=@List.map_nil
def K3:=@List.drop_left
def K4:=@List.nil_append
def K5:=@List.length_reverse
def K6:=@List.eq_of_mem_replicate
def K7:=@PySem.F.slot_str_partition
def K8:=@PySem.F.type_str_partition
def K9:=@List.eq_nil_of_length_eq_zero
def Ka:=@PySem.wpAny_execs_nil
def Kb:=@PySem.wpAny_execs_cons
def Kc:=@PySem.wpAny_pyIter_list
def Kd:=@of_decide_eq_true
def Ke:=@PySem.wpAny_setField_rec
def LB:=@List.mem_filter
def LC:=@Bool.or_false
def LD:=@PySem.Heap.get?_update_other
def LF:=@List.find?_cons
def LG:=@List.length_nil
def LH:=@List.mem_iff_getElem
def LI:=@Nat.min_eq_left
def LJ:=@List.drop_eq_nil_of_le
def LK:=@List.take_append_drop
def LL:=@Bool.or_eq_true
def LM:=@List.flatten_cons
def LN:=@List.reverse_reverse
def LO:=@Bool.false_eq_true
def LP:=@List.sum_cons
def LQ:=@List.reverse_append
def LR:=@List.all_map
def LS:=@List.length_filter_le
def LU:=@PySem.seqIndex_neg
def LV:=@PySem.wpAny_Call_method_late
def OB:=@List.filterMap_cons
def OC:=@Array.mem_toList_iff
def OD:=@PySem.W.callWith_K
def OE:=@List.of_mem_zip
def OF:=@List.length_replicate
def OG:=@List.map_congr_left
def OH:=@Nat.le_succ_of_le
def OI:=@Nat.succ_le_succ
def OJ:=@PyProof.Rows.toString_length_le
def OK:=@Nat.le_add_right
def OL:=@List.filter_reverse
def OM:=@List.append_eq_nil_iff
def ON:=@List.replicate_succ
def OO:=@PySem.F.slot_str_split
def OP:=@PySem.F.type_str_split
def OQ:=@PySem.F.slot_str_join
def OR:=@PySem.F.type_str_join
def OS:=@ne_true_of_eq_false
def OT:=@not_false_eq_true
def W0:=@PyProof.Rows.callWith_type1
def W1:=@List.dropLast_concat_getLast
def W2:=@PySem.F.slot_dict_setdefault
namespace L2
open PySem PySem.Spec PyProof.Rows
abbrev Bb:=Sum Int Str
def Gv:Bb->Value->Bool
 |.inl k,v=>Value.isInt k v
 |.inr x,v=>Value.isStrOf x v
def Ug (w:World):Bb->Int
 |.inl k=>hashInt k
 |.inr x=>hashStr w x
theorem Fi:∀{k:Bb} {v:Value},Gv k v=true->(∃i t,k=Sum.inl i/\v=Value.int i t)\/(∃x t,k=Sum.inr x/\v=Value.str x t)
 |
  .inl i,v,h=>by
  obtain⟨t,e⟩:=Value.isInt_shape (k:=i) (v:=v) h
  exact .inl ⟨i,t,rfl,e⟩
 |
  .inr x,v,h=>by
  obtain⟨t,e⟩:=Value.isStrOf_shape (x:=x) (v:=v) h
  exact .inr ⟨x,t,rfl,e⟩
theorem UX (i:Int)(t:Tok):Gv (.inl i) (.int i t)=true:=by simp[Gv,Value.isInt]
theorem Qo (x:Str)(t:Tok):Gv (.inr x) (.str x t)=true:=by simp[Gv,Value.isStrOf]
theorem Qd (a b:Int):decide ((Sum.inl a:Bb)=Sum.inl b)=(a==b):=by
 by_cases e:a=b
 .subst e;simp
 .have h:¬(Sum.inl a:Bb)=Sum.inl b:=fun q=>e (Sum.inl.inj q)
  rw[BI h]
  exact(GR.mpr e).symm
theorem SS (a b:Str):decide ((Sum.inr a:Bb)=Sum.inr b)=decide (a=b):=by
 by_cases e:a=b
 .subst e;simp
 .have h:¬(Sum.inr a:Bb)=Sum.inr b:=fun q=>e (Sum.inr.inj q)
  rw[BI h,BI e]
theorem Vo (a:Int)(b:Str):decide ((Sum.inl a:Bb)=Sum.inr b)=false:=BI (fun q=>nomatch q)
theorem Qt (a:Str)(b:Int):decide ((Sum.inr a:Bb)=Sum.inl b)=false:=BI (fun q=>nomatch q)
def Dv (prog:Program)(w:World):PySem.KeyKind prog w Bb where
 is:=Gv
 hash:=Ug w
 inj:=fun v a b ha hb=>by
  rcases Fi ha with⟨i,t,rfl,rfl⟩|⟨x,t,rfl,rfl⟩
  .rcases Fi hb with⟨j,u,rfl,e⟩|⟨y,u,rfl,e⟩
   .injection e with e1 _;rw[e1]
   .exact nomatch e
  .rcases Fi hb with⟨j,u,rfl,e⟩|⟨y,u,rfl,e⟩
   .exact nomatch e
   .injection e with e1 _;rw[e1]
 byValue:=fun k v h=>by
  rcases Fi h with⟨i,t,rfl,rfl⟩|⟨x,t,rfl,rfl⟩<;>rfl
 pyHash:=fun hv h=>by
  rcases Fi hv with⟨i,t,rfl,rfl⟩|⟨x,t,rfl,rfl⟩
  .exact wpAny_pyHash_int h
  .exact wpAny_pyHash_str h
 eqBool:=fun hu hv h=>by
  rcases Fi hu with⟨i,t,rfl,rfl⟩|⟨x,t,rfl,rfl⟩
  .rcases Fi hv with⟨j,u,rfl,rfl⟩|⟨y,u,rfl,rfl⟩
   .rw[Qd]at h;exact wpAny_eqBool_int h
   .rw[Vo]at h;exact SeqAt.EqAt.int_str i t y u _ _ _ _ h
  .rcases Fi hv with⟨j,u,rfl,rfl⟩|⟨y,u,rfl,rfl⟩
   .rw[Qt]at h;exact SeqAt.EqAt.str_int x t j u _ _ _ _ h
   .rw[SS]at h;exact wpAny_eqBool_str h
 «strs» := fun k x t v h=>by
  rcases Fi h with⟨i,u,rfl,e⟩|⟨y,u,rfl,e⟩
  .exact nomatch e
  .injection e with e1 _
   subst e1
   cases v<;>rfl
theorem QL (prog:Program)(w:World)(i:Int)(t:Tok):(Dv prog w).is (.inl i) (.int i t)=true:=UX i t
theorem Uq (prog:Program)(w:World)(x:Str)(t:Tok):(Dv prog w).is (.inr x) (.str x t)=true:=Qo x t
set_option genInjectivity true in
inductive V where
 |non|bl (b:Bool)|int (i:Int)|str (x:Str)|byt (b:Array UInt8)|flt (b:UInt64)|ref (a:Addr)|ty (n:String)
 deriving DecidableEq
def Ay:V->Value->Prop
 |.non,u=>u=Value.none
 |.bl b,u=>u=Value.bool b
 |.int i,u=>∃t,u=Value.int i t
 |.str x,u=>∃t,u=Value.str x t
 |.byt b,u=>∃t,u=Value.bytes b t
 |.flt b,u=>∃t,u=Value.float b t
 |.ref a,u=>u=Value.ref a
 |.ty n,u=>u=Value.type n
abbrev AA:List V->List Value->Prop:=Paired Ay
theorem AA.length {xs:List V}{us:List Value}(r:AA xs us):xs.length=us.length:=Paired.length r
theorem AA.get:∀{xs:List V} {us:List Value} {i:Nat} {x:V},AA xs us->xs[i]?=some x->∃u,us[i]?=some u/\Ay x u
 |_,_,_,_,.nil,e=>by simp at e
 |_,_,0,_,.cons r _,e=>by simp at e;subst e;exact⟨_,rfl,r⟩
 |
  _,_,i+1,x,.cons _ t,e=>by
  obtain⟨u,h1,h2⟩:=AA.get (i:=i) (x:=x) t (by simpa using e)
  exact⟨u,by simpa using h1,h2⟩
theorem AA.set {x:V}{u:Value}(r:Ay x u):∀{xs:List V} {us:List Value} (i:Nat),AA xs us->AA (xs.set i x) (us.set i u)
 |_,_,_,.nil=>.nil
 |_,_,0,.cons _ t=>.cons r t
 |_,_,i+1,.cons q t=>.cons q (AA.set r i t)
theorem AA.append:∀{xs ys:List V} {us ws:List Value},AA xs us->AA ys ws->AA (xs++ys) (us++ws)
 |_,_,_,_,.nil,s=>s
 |_,_,_,_,.cons r t,s=>.cons r (AA.append t s)
theorem AA.take:∀{xs:List V} {us:List Value} (n:Nat),AA xs us->AA (xs.take n) (us.take n)
 |_,_,0,_=>.nil
 |_,_,_+1,.nil=>.nil
 |_,_,n+1,.cons r t=>.cons r (AA.take n t)
theorem AA.drop:∀{xs:List V} {us:List Value} (n:Nat),AA xs us->AA (xs.drop n) (us.drop n)
 |_,_,0,r=>r
 |_,_,_+1,.nil=>.nil
 |_,_,n+1,.cons _ t=>AA.drop n t
theorem AA.none_of:∀{xs:List V} {us:List Value} {i:Nat},AA xs us->xs[i]?=none->us[i]?=none:=fun{xs us i} r e=>by
 have h1:=r.length
 have h2:xs.length<=i:=List.getElem?_eq_none_iff.mp e
 exact List.getElem?_eq_none_iff.mpr (by omega)
def Fb:Option V->Option Value->Prop
 |some v,some u=>Ay v u
 |none,none=>True
 |_,_=>False
def KV {κ:Type}:List (κ×V)->List (κ×Value)->Prop:=Paired fun(p:κ×V) (q:κ×Value)=>p.1=q.1/\Ay p.2 q.2
def kV:Bb->V
 |.inl i=>.int i
 |.inr x=>.str x
set_option genInjectivity true in
inductive HO where
 |lst (xs:List V)
 |tup (xs:List V)
 |dK (kvs:List (Bb×V))|dT (kvs:List (List Bb×V))
 |set (S:Int->Bool) (n:Nat)
 |ins (C dx:Addr) (fs:List (Str×V))
 |own (x:Addr)
 |xd (fs:List (Str×V))
 |met (f x:Addr)
 |rng (lo hi:Int)
 |frz (o:Obj) (u:HO)
 |tbl (ps:Array Value)
 |ext (φ:Heap->Prop)
abbrev Hp:=Addr->Option HO
def upd (H:Hp)(a:Addr)(o:HO):Hp:=fun b=>if b=a then some o else H b
theorem A6 {H:Hp}{a:Addr}{o:HO}:upd H a o a=some o:=by unfold upd;rw[Ag rfl]
theorem A8 {H:Hp}{a b:Addr}{o:HO}(h:b≠a):upd H a o b=H b:=by unfold upd;rw[Ae h]
theorem NW {H:Hp}{a:Addr}{o u:HO}:upd (upd H a o) a u=upd H a u:=by
 funext b;unfold upd;split<;>rfl
theorem CY {H:Hp}{a b:Addr}{o u:HO}(h:H a=some o)(h':H b=some u)(d:o≠u):a≠b:=by
 intro e;subst e;rw[h]at h';exact d (BP h')
theorem AI {H:Hp}{a b:Addr}{o:HO}(h:H a=some o)(h':H b=none):a≠b:=by
 intro e;subst e;rw[h]at h';cases h'
section
variable (P:Program)(w:World)
def Fu (h:Heap)(a:Addr)(its:Array Value):Prop := ∃o,h.get? a=some o/\o.cls = .type "tuple"/\(∃n,o.data = .seq its n)/\o.dict=none
theorem Fu.tup {h:Heap}{a:Addr}{its:Array Value}(x:Fu h a its):IsTup h a its:=by obtain⟨o,e,c,d,_⟩:=x;exact⟨o,e,c,d⟩
theorem Fu.new (h:Heap)(its:Array Value):Fu (h.push {cls:=.type "tuple",data:=.seq its}) h.objs.size its:=⟨_,D7 _ rfl,rfl,⟨_,rfl⟩,rfl⟩
def BO (H:Hp)(h:Heap)(a:Addr):HO->Prop
 |.lst xs=>xs.length<=sizeLine/\∃(its:List Value) (n:Nat),AA xs its/\h.get? a=some {cls:=.type "list",data:=.seq its.toArray n}
 |.tup xs=>xs.length<=sizeLine/\∃its:List Value,AA xs its/\Fu h a its.toArray
 |.dK kvs=>kvs.length<=sizeLine/\(a==sysModules)=false/\∃vs,KV kvs vs/\h.DictOf (Dv P w) a vs
 |.dT kvs=>kvs.length<=sizeLine/\(a==sysModules)=false/\∃xs:List (List Bb×Addr×Value),
  Paired (fun(p:List Bb×V) (q:List Bb×Addr×Value)=>p.1=q.1/\H q.2.1=some (.tup (p.1.map kV))/\Ay p.2 q.2.2) kvs xs/\
  ∃o es ep,h.get? a=some o/\o.ExactDict/\o.data = .dict es ep/\es.toList=xs.map (entryOfKey (tupleKind (Dv P w)))/\(xs.map (·.1)).Nodup
 |.set S n=>h.SetOf (intKind P w) a S n
 |.ins C dx fs=>H dx=some (.own a)/\fs.length<=1000/\dx≠a/\h.get? a=some (PySem.W.instObj C dx)/\
  ∃mA,h.Ns1 dx mA/\(∀f,Fb (fs.lookup f) (mA f))/\PySem.Within mA (fs.map (·.1))
 |.own _=>∃o,h.get? a=some o
 |.xd fs=>∃mA,h.Ns1 a mA/\∀f,Fb (fs.lookup f) (mA f)
 |.rng lo hi=>∃t u v,h.get? a=some {cls:=.type "range",data:=.fields #[.int lo t,.int hi u,.int 1 v]}
 |.frz o u=>h.get? a=some o/\BO H h a u
 |.tbl ps=>h.get? a=some {cls:=.none,data:=.fields ps}
 |.met f x=>h.get? a=some (PySem.W.methodObj (.ref f) (.ref x))
 |.ext φ=>φ h/\(∃o,h.get? a=some o)/\∀h1 h2:Heap,φ h1->(∀o,h1.get? a=some o->h2.get? a=some o)->φ h2
def By (H:Hp)(h:Heap):Prop := ∀a o,H a=some o->BO P w H h a o
end
section
variable {P:Program}{w:World}{H H':Hp}{h h':Heap}{a:Addr}{o:HO}
theorem BO.lt (x:BO P w H h a o):a<h.objs.size:=by
 cases o with
 |lst xs=>obtain⟨_,_,_,_,e⟩:=x;exact Br e
 |tup xs=>obtain⟨_,_,_,p⟩:=x;exact p.tup.lt
 |dK kvs=>obtain⟨_,_,_,_,o,_,_,e,_⟩:=x;exact Br e
 |dT kvs=>obtain⟨_,_,_,_,o,_,_,e,_⟩:=x;exact Br e
 |set S n=>obtain⟨o,_,_,_,e,_⟩:=x;exact Br e
 |ins C dx fs=>obtain⟨_,_,_,e,_⟩:=x;exact Br e
 |own y=>obtain⟨_,e⟩:=x;exact Br e
 |xd fs=>obtain⟨_,⟨_,_,_,e,_⟩,_⟩:=x;exact Br e
 |rng lo hi=>obtain⟨_,_,_,e⟩:=x;exact Br e
 |frz ob u=>obtain⟨e,_⟩:=x;exact Br e
 |tbl ps=>exact Br (show h.get? a=some _ from x)
 |met f y=>exact Br (show h.get? a=some _ from x)
 |ext φ=>obtain⟨_,⟨_,e⟩,_⟩:=x;exact Br e
theorem Paired.mapP {α β:Type}{F G:α->β->Prop}:∀{l₁:List α} {l₂:List β},Paired F l₁ l₂->(∀a b,F a b->G a b)->Paired G l₁ l₂
 |_,_,.nil,_=>.nil
 |_,_,.cons r t,f=>.cons (f _ _ r) (Paired.mapP t f)
theorem BO.stay (x:BO P w H h a o)(k:∀b u,(b=a\/H b=some (.own a))->h.get? b=some u->h'.get? b=some u)
  (ho:∀b,H b=some (.own a)->H' b=some (.own a)) (ht:∀b xs,H b=some (.tup xs)->H' b=some (.tup xs)):BO P w H' h' a o:=by
 induction o with
 |lst xs=>obtain⟨z,its,n,r,e⟩:=x;exact⟨z,its,n,r,k _ _ (.inl rfl) e⟩
 |tup xs=>obtain⟨z,its,r,ob,e,c⟩:=x;exact⟨z,its,r,ob,k _ _ (.inl rfl) e,c⟩
 |dK kvs=>obtain⟨z,y,vs,r,ob,es,ep,e,c⟩:=x;exact⟨z,y,vs,r,ob,es,ep,k _ _ (.inl rfl) e,c⟩
 |
  dT kvs=>
  obtain⟨z,y,xs,r,ob,es,ep,e,c⟩:=x
  exact⟨z,y,xs,Paired.mapP r fun p q z=>⟨z.1,ht _ _ z.2.1,z.2.2⟩,ob,es,ep,k _ _ (.inl rfl) e,c⟩
 |set S n=>obtain⟨ob,es,ep,t,e,c⟩:=x;exact⟨ob,es,ep,t,k _ _ (.inl rfl) e,c⟩
 |
  ins C dx fs=>
  obtain⟨d,z,ne,e,mA,⟨od,es,ep,e2,c⟩,r⟩:=x
  exact⟨ho _ d,z,ne,k _ _ (.inl rfl) e,mA,⟨od,es,ep,k _ _ (.inr d) e2,c⟩,r⟩
 |own y=>obtain⟨ob,e⟩:=x;exact⟨ob,k _ _ (.inl rfl) e⟩
 |xd fs=>obtain⟨mA,⟨od,es,ep,e,c⟩,r⟩:=x;exact⟨mA,⟨od,es,ep,k _ _ (.inl rfl) e,c⟩,r⟩
 |rng lo hi=>obtain⟨t,u,v,e⟩:=x;exact⟨t,u,v,k _ _ (.inl rfl) e⟩
 |frz ob u ih=>obtain⟨e,q⟩:=x;exact⟨k _ _ (.inl rfl) e,ih q⟩
 |
  tbl ps=>
  have e:h.get? a=some {cls:=.none,data:=.fields ps}:=x
  show h'.get? a=some {cls:=.none,data:=.fields ps}
  exact k a _ (.inl rfl) e
 |
  met f y=>
  have e:h.get? a=some (PySem.W.methodObj (.ref f) (.ref y)):=x
  show h'.get? a=some (PySem.W.methodObj (.ref f) (.ref y))
  exact k a _ (.inl rfl) e
 |ext φ=>obtain⟨p,⟨o,e⟩,st⟩:=x;exact⟨st _ _ p fun o q=>k _ _ (.inl rfl) q,⟨o,k _ _ (.inl rfl) e⟩,st⟩
theorem By.lt (x:By P w H h)(e:H a=some o):a<h.objs.size:=(x a o e).lt
theorem By.fresh (x:By P w H h)(e:h.objs.size<=a):H a=none:=by
 cases q:H a with
 |none=>rfl
 |some u=>exact absurd (CJ (x.lt q) e) (EA _)
theorem By.kept (x:By P w H h)(k:∀b u,h.get? b=some u->h'.get? b=some u):By P w H h':=fun a o e=>
 (x a o e).stay (fun b u _ q=>k b u q) (fun _ q=>q) fun _ _ q=>q
theorem By.laid (x:By P w H h)(k:∀b u,h.get? b=some u->h'.get? b=some u)(hp:h.objs.size<=a)(new:BO P w (upd H a o) h' a o):By P w (upd H a o) h':=fun b u e=>by
 have hn:=x.fresh hp
 by_cases hb:b=a
 .subst hb;rw[A6]at e;cases e;exact new
 .rw[A8 hb]at e
  exact(x b u e).stay (fun c v _ q=>k c v q) (fun c q=>by rw[A8 (AI q hn)];exact q) fun c xs q=>by rw[A8 (AI q hn)];exact q
end
def Rd (H:Hp)(a:Addr)(u:HO):Prop:=H a=some u\/∃o,H a=some (.frz o u)
theorem Rd.ok {P:Program}{w:World}{H:Hp}{h:Heap}{a:Addr}{u:HO}(r:Rd H a u)(x:By P w H h):BO P w H h a u:=by
 rcases r with r|⟨o,r⟩
 .exact x a u r
 .obtain⟨_,q⟩:=x a _ r
  exact q
def Hg:Option HO->Prop
 |some (.lst _)=>True
 |some (.dK _)=>True
 |some (.dT _)=>True
 |some (.set _ _)=>True
 |some (.ins _ _ _)=>True
 |some (.ext _)=>True
 |_=>False
section
variable {P:Program}{w:World}{H:Hp}{h h':Heap}{x e:Addr}{o':HO}
theorem By.write (ok:By P w H h)(mu:Hg (H x))(he:e=x\/H e=some (.own x))(k:∀b u,b≠e->h.get? b=some u->h'.get? b=some u)(heo:∃u,h'.get? e=some u)
  (new:BO P w (upd H x o') h' x o'):By P w (upd H x o') h':=fun b u q=>by
 have nown:∀c y,H c=some (.own y)->c≠x:=fun c y r z=>by subst z;rw[r]at mu;exact mu
 have ntup:∀c xs,H c=some (.tup xs)->c≠x:=fun c xs r z=>by subst z;rw[r]at mu;exact mu
 by_cases hb:b=x
 .subst hb;rw[A6]at q;cases q;exact new
 .rw[A8 hb]at q
  by_cases hbe:b=e
  .have q':H b=some (.own x):=by
    rcases he with z|z
    .exact absurd (hbe.trans z) hb
    .rw[hbe];exact z
   rw[q]at q';cases q'
   obtain⟨v,hv⟩:=heo
   exact⟨v,by rw[hbe];exact hv⟩
  .refine(ok b u q).stay (fun c v hc r=>k c v ?_ r) (fun c r=>by rw[A8 (nown c b r)];exact r) fun c xs r=>by rw[A8 (ntup c xs r)];exact r
   rcases hc with rfl|hc
   .exact hbe
   .rintro rfl
    rcases he with z|z
    .exact nown c b hc z
    .rw[hc]at z;cases z;exact hb rfl
end
structure Un (fs ex:List Addr)(H H':Hp)(h h':Heap):Prop where
 keep:∀b o,h.get? b=some o->H b=none->b∉fs->b∉ex->h'.get? b=some o
 slot:∀b o,h.get? b=some o->H b=none->b∈fs->b∉ex->∃sl,h'.get? b=some {o with slots:=sl}
 free:∀b o,h.get? b=some o->H b=none->b∉ex->H' b=none
 there:∀b o,h.get? b=some o->b∉ex->∃o',h'.get? b=some o'
 tups:∀b xs,H b=some (.tup xs)->H' b=some (.tup xs)
 frzs:∀b o u,H b=some (.frz o u)->H' b=some (.frz o u)
 tbls:∀b ps,H b=some (.tbl ps)->∃more,H' b=some (.tbl (ps++more))
section
variable {fs fs' ex ex':List Addr}{H H1 H2:Hp}{h h1 h2 h':Heap}{a x e:Addr}{o:HO}
theorem Un.any (u:Un fs ex H H1 h h1){b:Addr}{ob:Obj}(q:h.get? b=some ob)(n:H b=none)(hx:b∉ex):∃sl,h1.get? b=some {ob with slots:=sl}:=by
 by_cases hb:b∈fs
 .exact u.slot b ob q n hb hx
 .exact⟨ob.slots,u.keep b ob q n hb hx⟩
theorem Un.kept (k:∀b u,h.get? b=some u->h'.get? b=some u):Un fs ex H H h h':=
 ⟨fun b ob q _ _ _=>k b ob q,fun b ob q _ _ _=>⟨ob.slots,k b ob q⟩,fun _ _ _ n _=>n,fun b ob q _=>⟨ob,k b ob q⟩,fun _ _ q=>q,fun _ _ _ q=>q,fun _ ps q=>⟨#[],by rw[q];simp⟩⟩
theorem Un.refl:Un fs ex H H h h:=Un.kept fun _ _ q=>q
theorem Un.laid (k:∀b u,h.get? b=some u->h'.get? b=some u)(hp:h.objs.size<=a)(hn:H a=none):Un fs ex H (upd H a o) h h' where
 keep:=fun b u q _ _ _=>k b u q
 slot:=fun b u q _ _ _=>⟨u.slots,k b u q⟩
 free:=fun b u q n _=>by rw[A8 (Cg (CJ (Br q) hp))];exact n
 there:=fun b u q _=>⟨u,k b u q⟩
 tups:=fun b xs q=>by rw[A8 (AI q hn)];exact q
 frzs:=fun b u xs q=>by rw[A8 (AI q hn)];exact q
 tbls:=fun b ps q=>⟨#[],by rw[A8 (AI q hn),q];simp⟩
theorem Un.write (mu:Hg (H x))(he:e=x\/H e=some (.own x))(k:∀b u,b≠e->h.get? b=some u->h'.get? b=some u)(heo:∃u,h'.get? e=some u):Un fs ex H (upd H x o) h h':=by
 have hx:∀b,H b=none->b≠x:=fun b n z=>by subst z;rw[n]at mu;exact mu
 have hb:∀b,H b=none->b≠e:=fun b n z=>by
  subst z
  rcases he with r|r
  .exact hx b n r
  .rw[n]at r;cases r
 have hm:∀b u,H b=some u->¬Hg (some u)->b≠x:=fun b u q nm z=>by subst z;rw[q]at mu;exact nm mu
 refine⟨fun b u q n _ _=>k b u (hb b n) q,fun b u q n _ _=>⟨u.slots,k b u (hb b n) q⟩,fun b u q n _=>by rw[A8 (hx b n)];exact n,fun b u q _=>?_,
  fun b xs q=>by rw[A8 (hm b _ q fun z=>z)];exact q,fun b u xs q=>by rw[A8 (hm b _ q fun z=>z)];exact q,fun b ps q=>⟨#[],by rw[A8 (hm b _ q fun z=>z),q];simp⟩⟩
 by_cases hbe:b=e
 .subst hbe;exact heo
 .exact⟨u,k b u hbe q⟩
end
def Io (h:Heap)(H:Hp):List Addr:=(List.range h.objs.size).filter fun a=>(H a).isSome
def Fc (h:Heap)(H:Hp):Heap:=PySem.W.hideAll h (Io h H)
theorem Sw (h:Heap)(H:Hp):(Fc h H).objs.size=h.objs.size:=PySem.W.hideAll_size _ _
theorem Vs {h:Heap}{H:Hp}{b:Addr}{o:Obj}(e:h.get? b=some o)(n:H b=none):(Fc h H).get? b=some o:=
 PySem.W.hideAll_get _ e fun hm=>by
  have q:(H b).isSome=true:=(LB.mp hm).2
  rw[n]at q;simp at q
theorem QM {h:Heap}{H:Hp}{b:Addr}{o:Obj}(e:(Fc h H).get? b=some o):h.get? b=some o/\H b=none:=by
 have e':h.get? b=some o:=PySem.W.of_hideAll (Io h H) e
 refine⟨e',?_⟩
 cases q:H b with
 |none=>rfl
 |
  some x=>
  have hm:b∈Io h H:=LB.mpr ⟨HW.mpr (Br e'),by simp[q]⟩
  have z:(Fc h H).get? b=none:=PySem.W.hideAll_none (Io h H) hm
  rw[z]at e;cases e
structure Mod (K:Xa)(mg:Str->Option Value)(base:Heap):Prop where
 kin:K.In base
 glob:base.Ns mainGlobals mg
 blt:∃mb,base.Ns builtinsNs mb/\∀x:Str,x≠"__name__"->mb x=bootBuiltins x
 nolimit:base.NoLimit
structure Cx where
 prog:Program
 w:World
 K:Xa
 mg:Str->Option Value
 base:Heap
 A:Around
 N:List Str
 s₀:Shared
 H₀:Hp
 env:Env
 outer:List Env
 stack:List Env
 ex:List Addr
 fn:Str->Bool
 calm:Bool
 pn:List (Addr×Obj)
 xe:Value->Shared->Prop
def E3 (l:List Env):List Addr:=l.filterMap (·.frame)
abbrev Cx.fs (X:Cx):List Addr:=E3 X.outer
def HM (sc:Scope)(x:Str):Prop:=sc.names.lookup x=some .local\/sc.names.lookup x=some .cell\/sc.names.lookup x=some .free
def Fp (sc:Scope)(x:Str):Prop:=sc.names.lookup x=some .local\/sc.names.lookup x=some .cell
def Ux (env:Env)(h:Heap)(m:Str->Option Value)(x:Str)(u:Value):Prop:=
 (env.kindOf x=some .local/\m x=some u)\/((env.kindOf x=some .cell\/env.kindOf x=some .free)/\∃c,env.cells.lookup x=some c/\h.IsCell c (some u))
structure Cx.Ok (X:Cx):Prop where
 mod:Mod X.K X.mg X.base
 kind:X.env.scope.kind = .function
 glob:X.env.globals=mainGlobals
 blt:X.env.builtins=builtinsNs
 above:X.s₀.heap.objs.size<=X.env.locals
 inj:∀x y c,X.env.cells.lookup x=some c->X.env.cells.lookup y=some c->x=y
 has:∀x,(X.env.kindOf x=some .cell\/X.env.kindOf x=some .free)->∃c,X.env.cells.lookup x=some c
 cab:∀x c,X.fn x=true->X.env.cells.lookup x=some c->X.s₀.heap.objs.size<=c
 hd:X.calm=true->X.A.handled=none
 frames:X.A.frames=some X.stack
 stk:X.stack=X.outer\/(X.stack=X.env::X.outer/\X.env.frame=some X.env.locals)
 exf:∀b∈X.ex,b≠X.env.locals/\∀x c,X.env.cells.lookup x=some c->c≠b
 bs:∀b o,X.base.get? b=some o->X.s₀.heap.get? b=some o/\X.H₀ b=none
 bsz:X.base.objs.size<=X.s₀.heap.objs.size
 noex:∀b o,X.base.get? b=some o->b∉X.ex
 exfs:∀b∈X.ex,b∉X.fs
 funs:X.s₀.heap.FunFrames X.base X.outer
 frf:∀b∈X.fs,X.H₀ b=none
structure A4 (X:Cx)(pins:List (Addr×Obj))(σ:List (Option V))(H:Hp)(s:Shared):Prop where
 ok:X.Ok
 os:s.os=X.s₀.os
 bare:AllBare s.gens
 base:Un X.fs X.ex X.H₀ H X.s₀.heap s.heap
 loc:∃m,s.heap.Ns X.env.locals m/\∀(i:Nat) (x:Str) (v:V),X.N[i]?=some x->σ[i]?=some (some v)->HM X.env.scope x->∃u,Ay v u/\Ux X.env s.heap m x u
 cell:∀x c,X.env.cells.lookup x=some c->∃v,s.heap.IsCell c v
 free:H X.env.locals=none
 freeC:∀x c,X.env.cells.lookup x=some c->H c=none
 pin:∀p∈X.pn++pins,s.heap.get? p.1=some p.2/\H p.1=none/\p.1≠X.env.locals/\p.1∉X.fs/\∀v,p.2.data≠.cell v
 hok:By X.prog X.w H s.heap
 len:σ.length=X.N.length
section
variable {X:Cx}{pins:List (Addr×Obj)}{σ:List (Option V)}{H H':Hp}{s:Shared}{h':Heap}
theorem Cx.Ok.nofr (ok:X.Ok){b:Addr}{o:Obj}(e:X.base.get? b=some o):b∉X.fs:=fun hb=>by
 have:=(ok.funs.mem hb).1
 rw[e]at this;cases this
theorem A4.bs (I:A4 X pins σ H s):∀b o,X.base.get? b=some o->s.heap.get? b=some o/\H b=none:=fun b o e=>
 ⟨I.base.keep b o (I.ok.bs b o e).1 (I.ok.bs b o e).2 (I.ok.nofr e) (I.ok.noex b o e),I.base.free b o (I.ok.bs b o e).1 (I.ok.bs b o e).2 (I.ok.noex b o e)⟩
theorem A4.bk (I:A4 X pins σ H s):∀b o,X.base.get? b=some o->s.heap.get? b=some o:=fun b o e=>(I.bs b o e).1
theorem A4.mod (I:A4 X pins σ H s):Mod X.K X.mg X.base:=I.ok.mod
theorem A4.kIn (I:A4 X pins σ H s):X.K.In s.heap:=I.ok.mod.kin.keeps I.bk
theorem A4.lt (I:A4 X pins σ H s):X.env.locals<s.heap.objs.size:=by obtain⟨_,hn,_⟩:=I.loc;exact hn.lt
theorem A4.sz (I:A4 X pins σ H s):X.s₀.heap.objs.size<=s.heap.objs.size:=C5 I.ok.above (G4 I.lt)
theorem A4.nofs (I:A4 X pins σ H s){a:Addr}(h:s.heap.objs.size<=a):a∉X.fs:=fun hb=>by
 obtain⟨_,o,ho,_⟩:=I.ok.funs.mem hb
 exact absurd (CJ (Br ho) (C5 I.sz h)) (EA _)
theorem A4.cne (I:A4 X pins σ H s):∀x c,X.env.cells.lookup x=some c->c≠X.env.locals:=fun x c e z=>by
 obtain⟨v,o,ho,hd⟩:=I.cell x c e
 obtain⟨m,⟨o',es,ep,ho',hd',_⟩,_⟩:=I.loc
 rw[z,ho']at ho;cases ho;rw[hd']at hd;cases hd
theorem A4.funs (I:A4 X pins σ H s):s.heap.FunFrames X.base X.outer:=by
 have all:∀(l:List Env),(∀b∈E3 l,b∈X.fs)->X.s₀.heap.FunFrames X.base l->s.heap.FunFrames X.base l:=by
  intro l
  induction l with
  |nil=>intro _ _;trivial
  |
   cons env r ih=>
   intro hs hl
   obtain⟨hk,⟨L,o,hf,hn,ho,hd⟩,hr⟩:=hl
   have hL:L∈X.fs:=hs L (by unfold E3;rw[OB,hf];exact AY)
   obtain⟨sl,e⟩:=I.base.slot L o ho (I.ok.frf L hL) hL fun z=>I.ok.exfs L z hL
   exact⟨hk,⟨L,_,hf,hn,e,hd⟩,ih (fun b hb=>hs b (by unfold E3;rw[OB,hf];exact BH _ hb)) hr⟩
 exact all X.outer (fun _ hb=>hb) I.ok.funs
theorem A4.stack (I:A4 X pins σ H s):s.heap.FunFrames X.base X.stack:=by
 rcases I.ok.stk with e|⟨e,hf⟩
 .rw[e];exact I.funs
 .rw[e]
  obtain⟨m,hn,_⟩:=I.loc
  refine .cons (by rw[I.ok.kind];decide) hf hn ?_ I.funs
  exact Heap.get?_none_of_le (C5 I.ok.bsz I.ok.above)
theorem A4.stkSub (I:A4 X pins σ H s):∀b∈E3 X.stack,b∈X.env.locals::X.fs:=fun b hb=>by
 rcases I.ok.stk with e|⟨e,hf⟩
 .rw[e]at hb;exact BH _ hb
 .rw[e]at hb
  unfold E3 at hb
  rw[OB,hf]at hb
  exact hb
theorem A4.stkFree (I:A4 X pins σ H s):∀b∈E3 X.stack,H b=none:=fun b hb=>by
 rcases AQ.mp (I.stkSub b hb) with e|hb
 .rw[e];exact I.free
 .obtain⟨_,o,ho,_⟩:=I.ok.funs.mem hb
  exact I.base.free b o ho (I.ok.frf b hb) fun z=>I.ok.exfs b z hb
theorem A4.step {g':Array GenState}{t':Nat}{d':Drawn}{ch:List Addr}(I:A4 X pins σ H s)
  (hch:∀b∈ch,(b∈X.ex\/X.s₀.heap.objs.size<=b)/\b≠X.env.locals/\(∀x c,X.env.cells.lookup x=some c->c≠b)/\∀p∈X.pn++pins,p.1≠b)
  (keep:∀b o,b≠X.env.locals->b∉X.fs->b∉ch->s.heap.get? b=some o->H b=none->h'.get? b=some o)
  (slot:∀b o,b≠X.env.locals->b∈X.fs->b∉ch->s.heap.get? b=some o->H b=none->∃sl,h'.get? b=some {o with slots:=sl}) (free:∀b o,b∉ch->s.heap.get? b=some o->H b=none->H' b=none)
  (there:∀b o,b∉ch->s.heap.get? b=some o->∃o',h'.get? b=some o')
  (tups:∀b xs,H b=some (.tup xs)->H' b=some (.tup xs)) (frzs:∀b o u,H b=some (.frz o u)->H' b=some (.frz o u)) (tbls:∀b ps,H b=some (.tbl ps)->∃more,H' b=some (.tbl (ps++more)))
  (ns:∀m,s.heap.Ns X.env.locals m->h'.Ns X.env.locals m) (hok:By X.prog X.w H' h') (hg:AllBare g') :
  A4 X pins σ H' {s with heap:=h',gens:=g',drawn:=d',toks:=t'}:=by
 have neL:∀b o,X.s₀.heap.get? b=some o->b≠X.env.locals:=fun b o e=>Cg (CJ (Br e) I.ok.above)
 have neC:∀b o,X.s₀.heap.get? b=some o->b∉X.ex->b∉ch:=fun b o e hx hb=>by
  rcases(hch b hb).1 with z|z
  .exact hx z
  .exact absurd (CJ (Br e) z) (EA _)
 have cellK:∀x c,X.env.cells.lookup x=some c->∀v,s.heap.IsCell c v->h'.IsCell c v:=fun x c e v ⟨o,ho,hd⟩=>by
  have nch:c∉ch:=fun z=>(hch c z).2.2.1 x c e rfl
  by_cases hc:c∈X.fs
  .obtain⟨sl,q⟩:=slot c o (I.cne x c e) hc nch ho (I.freeC x c e)
   exact⟨_,q,hd⟩
  .exact⟨o,keep c o (I.cne x c e) hc nch ho (I.freeC x c e),hd⟩
 refine⟨I.ok,I.os,hg,⟨fun b o e n hb hx=>?_,fun b o e n hb hx=>?_,fun b o e n hx=>?_,fun b o e hx=>?_,fun b xs e=>tups b xs (I.base.tups b xs e),fun b o xs e=>frzs b o xs (I.base.frzs b o xs e),fun b ps e=>?_⟩,?_,fun x c e=>?_,?_,fun x c e=>?_,fun p hp=>?_,hok,I.len⟩
 .exact keep b o (neL b o e) hb (neC b o e hx) (I.base.keep b o e n hb hx) (I.base.free b o e n hx)
 .obtain⟨sl,e1⟩:=I.base.slot b o e n hb hx
  obtain⟨sl',e2⟩:=slot b _ (neL b o e) hb (neC b o e hx) e1 (I.base.free b o e n hx)
  exact⟨sl',e2⟩
 .obtain⟨o',e1⟩:=I.base.there b o e hx
  exact free b o' (neC b o e hx) e1 (I.base.free b o e n hx)
 .obtain⟨o',e1⟩:=I.base.there b o e hx
  exact there b o' (neC b o e hx) e1
 .obtain⟨m1,e1⟩:=I.base.tbls b ps e
  obtain⟨m2,e2⟩:=tbls b _ e1
  exact⟨m1++m2,by rw[e2,Array.append_assoc]⟩
 .obtain⟨m,hn,hl⟩:=I.loc
  refine⟨m,ns m hn,fun i x v e1 e2 e3=>?_⟩
  obtain⟨u,r,l⟩:=hl i x v e1 e2 e3
  refine⟨u,r,?_⟩
  rcases l with l|⟨k,c,e,z⟩
  .exact .inl l
  .exact .inr ⟨k,c,e,cellK x c e _ z⟩
 .obtain⟨v,z⟩:=I.cell x c e
  exact⟨v,cellK x c e v z⟩
 .obtain⟨m,⟨o,_,_,ho,_⟩,_⟩:=I.loc
  exact free _ o (fun z=>(hch _ z).2.1 rfl) ho I.free
 .obtain⟨v,o,ho,hd⟩:=I.cell x c e
  exact free c o (fun z=>(hch c z).2.2.1 x c e rfl) ho (I.freeC x c e)
 .obtain⟨e,n,ne,nf,d⟩:=I.pin p hp
  have nch:p.1∉ch:=fun z=>(hch p.1 z).2.2.2 p hp rfl
  exact⟨keep p.1 p.2 ne nf nch e n,free p.1 p.2 nch e n,ne,nf,d⟩
theorem A4.un {t':Nat}(I:A4 X pins σ H s)(u:Un X.fs [] H H' s.heap h')(hok:By X.prog X.w H' h'):A4 X pins σ H' {s with heap:=h',toks:=t'}:=by
 obtain⟨m,⟨o,es,ep,ho,r⟩,_⟩:=id I.loc
 obtain⟨sl,hL⟩:=u.any ho I.free (by simp)
 exact I.step (g':=s.gens) (d':=s.drawn) (ch:=[]) (fun _ z=>nomatch z) (fun b o _ hb _ e n=>u.keep b o e n hb (by simp)) (fun b o _ hb _ e n=>u.slot b o e n hb (by simp)) (fun b o _ e n=>u.free b o e n (by simp)) (fun b o _ e=>u.there b o e (by simp)) u.tups u.frzs u.tbls (fun m' hm=>by
  obtain⟨o',es',ep',ho',r'⟩:=hm
  rw[ho]at ho';cases ho'
  exact⟨_,es',ep',hL,r'⟩) hok I.bare
theorem A4.call {g':Array GenState}{t':Nat}{d':Drawn}{ch:List Addr}(I:A4 X pins σ H s)(u:Un (E3 X.stack) ch H H' s.heap h')(hok:By X.prog X.w H' h')(hg:AllBare g')
  (hch:∀b∈ch,(b∈X.ex\/X.s₀.heap.objs.size<=b)/\b≠X.env.locals/\(∀x c,X.env.cells.lookup x=some c->c≠b)/\∀p∈X.pn++pins,p.1≠b) :
  A4 X pins σ H' {s with heap:=h',gens:=g',drawn:=d',toks:=t'}:=by
 obtain⟨m,⟨o,es,ep,ho,r⟩,_⟩:=id I.loc
 obtain⟨sl,hL⟩:=u.any ho I.free fun z=>(hch _ z).2.1 rfl
 exact I.step (ch:=ch) hch (fun b o hL hb hc e n=>u.keep b o e n (fun z=>(AQ.mp (I.stkSub b z)).elim hL hb) hc) (fun b o _ _ hc e n=>u.any e n hc) (fun b o hc e n=>u.free b o e n hc) (fun b o hc e=>u.there b o e hc) u.tups u.frzs u.tbls (fun m' hm=>by
  obtain⟨o',es',ep',ho',r'⟩:=hm
  rw[ho]at ho';cases ho'
  exact⟨_,es',ep',hL,r'⟩) hok hg
theorem A4.turned {t':Nat}{it:Addr}(I:A4 X pins σ H s)(k:∀b o,b≠it->s.heap.get? b=some o->h'.get? b=some o)(hn:H it=none)(hL:it≠X.env.locals)
  (h1:it∈X.ex\/X.s₀.heap.objs.size<=it) (h2:∀x c,X.env.cells.lookup x=some c->c≠it) (h3:∀p∈X.pn++pins,p.1≠it):A4 X pins σ H {s with heap:=h',toks:=t'}:=by
 have nit:∀b u,H b=some u->b≠it:=fun b u e z=>by rw[z,hn]at e;cases e
 refine I.step (g':=s.gens) (d':=s.drawn) (ch:=[it]) (fun b hb=>?_) (fun b o _ _ hc e _=>k b o (fun z=>hc (by simp[z])) e) (fun b o _ _ hc e _=>⟨o.slots,k b o (fun z=>hc (by simp[z])) e⟩) (fun _ _ _ _ n=>n)
  (fun b o hc e=>⟨o,k b o (fun z=>hc (by simp[z])) e⟩) (fun _ _ e=>e) (fun _ _ _ e=>e) (fun b ps e=>⟨#[],by rw[e];simp⟩) (fun m hm=>?_) (fun b u e=>?_) I.bare
 .have e:b=it:=by simpa using hb
  subst e
  exact⟨h1,hL,h2,h3⟩
 .obtain⟨o,es,ep,ho,r⟩:=hm
  exact⟨o,es,ep,k _ o (Ne.symm hL) ho,r⟩
 .refine(I.hok b u e).stay (fun c v hc q=>k c v ?_ q) (fun _ q=>q) fun _ _ q=>q
  rcases hc with z|z
  .rw[z];exact nit b u e
  .exact nit c _ z
theorem A4.tok (I:A4 X pins σ H s)(t:Nat):A4 X pins σ H {s with toks:=t}:=I.un (h':=s.heap) (t':=t) Un.refl I.hok
theorem A4.kept {t':Nat}(I:A4 X pins σ H s)(k:∀b u,s.heap.get? b=some u->h'.get? b=some u):A4 X pins σ H {s with heap:=h',toks:=t'}:=I.un (Un.kept k) (I.hok.kept k)
theorem A4.laid {a:Addr}{o:HO}{t':Nat}(I:A4 X pins σ H s)(k:∀b u,s.heap.get? b=some u->h'.get? b=some u)(hp:s.heap.objs.size<=a)(new:BO X.prog X.w (upd H a o) h' a o) :
 A4 X pins σ (upd H a o) {s with heap:=h',toks:=t'}:=I.un (Un.laid k hp (I.hok.fresh hp)) (I.hok.laid k hp new)
theorem A4.write {x e:Addr}{o:HO}{t':Nat}(I:A4 X pins σ H s)(mu:Hg (H x))(he:e=x\/H e=some (.own x))(k:∀b u,b≠e->s.heap.get? b=some u->h'.get? b=some u)(heo:∃u,h'.get? e=some u)
 (new:BO X.prog X.w (upd H x o) h' x o):A4 X pins σ (upd H x o) {s with heap:=h',toks:=t'}:=I.un (Un.write mu he k heo) (I.hok.write mu he k heo new)
theorem A4.weak {σ':List (Option V)}(I:A4 X pins σ H s)(hl:σ'.length=σ.length)(w:∀(i:Nat) v,σ'[i]?=some (some v)->σ[i]?=some (some v)):A4 X pins σ' H s:=
 ⟨I.ok,I.os,I.bare,I.base,let ⟨m,hn,hl'⟩:=I.loc;⟨m,hn,fun i x v e1 e2 e3=>hl' i x v e1 (w i v e2) e3⟩,I.cell,I.free,I.freeC,I.pin,I.hok,hl.trans I.len⟩
theorem A4.pins_of {pins':List (Addr×Obj)}(I:A4 X pins σ H s)(h:∀p∈pins',s.heap.get? p.1=some p.2/\H p.1=none/\p.1≠X.env.locals/\p.1∉X.fs/\∀v,p.2.data≠.cell v):A4 X pins' σ H s:=
 ⟨I.ok,I.os,I.bare,I.base,I.loc,I.cell,I.free,I.freeC,fun p hp=>(Bj.mp hp).elim (fun z=>I.pin p (HX _ z)) (h p),I.hok,I.len⟩
theorem NN {N:List Str}(hN:N.Nodup){i j:Nat}{x:Str}(a:N[i]?=some x)(b:N[j]?=some x):i=j:=by
 obtain⟨h1,e1⟩:=BM.mp a
 obtain⟨h2,e2⟩:=BM.mp b
 exact(List.getElem_inj hN).mp (e1.trans e2.symm)
theorem Vx {M:Model}{A:Around}{E:Value->Shared->Prop}{i:Nat}{x:Str}{v:V}{u:Value}{Q:Unit->Shared->Prop}(I:A4 X pins σ H s)(hN:X.N.Nodup)(hi:X.N[i]?=some x)(hx:Fp X.env.scope x)(r:Ay v u)
  (h:∀s',A4 X pins (σ.set i (some v)) H s'->(∃a,Heap.SameBut a s.heap s'.heap/\(a=X.env.locals\/X.env.cells.lookup x=some a))->Q () s') (hf:X.fn x=true\/X.env.scope.names.lookup x=some .local:=by first|exact .inl rfl|exact .inr rfl|assumption):wpAny M A (storeName X.env x u) Q E s:=by
 obtain⟨m,hn,hl⟩:=id I.loc
 have hcls:(X.env.scope.kind == .class||(X.env.scope.kind == .module&&X.env.locals != X.env.globals))=false:=by rw[I.ok.kind];rfl
 have hiσ:i<σ.length:=by rw[I.len];exact(BM.mp hi).1
 have cne:=I.cne
 have tracked:∀{a:Addr} {h':Heap},(∃o,s.heap.get? a=some o/\H a=none)->Heap.SameBut a s.heap h'->By X.prog X.w H h':=fun{a h'} ha hs b ob e=>by
  obtain⟨_,_,hfree⟩:=ha
  refine(I.hok b ob e).stay (fun c w' hc q=>(hs.2 c ?_).trans q) (fun _ q=>q) fun _ _ q=>q
  rintro rfl
  rcases hc with rfl|hc
  .rw[hfree]at e;cases e
  .rw[hfree]at hc;cases hc
 rcases hx with hk|hk
 .refine wpAny_storeName_local hk hn (fun h' hn' hs=>?_) hcls
  obtain⟨oL,_,_,hoL,_⟩:=id hn
  refine h _ ⟨I.ok,I.os,I.bare,⟨fun b o e n hb hx=>?_,fun b o e n hb hx=>?_,I.base.free,fun b o e hx=>?_,I.base.tups,I.base.frzs,I.base.tbls⟩,⟨_,hn',fun j y v' e1 e2 e3=>?_⟩,fun y c e=>?_,I.free,I.freeC,fun p hp=>?_,tracked ⟨oL,hoL,I.free⟩ hs,by simpa using I.len⟩ ⟨_,hs,.inl rfl⟩
  .exact(hs.2 b (Cg (CJ (Br e) I.ok.above))).trans (I.base.keep b o e n hb hx)
  .obtain⟨sl,e1⟩:=I.base.slot b o e n hb hx
   exact⟨sl,(hs.2 b (Cg (CJ (Br e) I.ok.above))).trans e1⟩
  .obtain⟨o',e1⟩:=I.base.there b o e hx
   exact⟨o',(hs.2 b (Cg (CJ (Br e) I.ok.above))).trans e1⟩
  .by_cases hj:j=i
   .subst hj
    rw[hi]at e1;cases e1
    rw[List.getElem?_set_self hiσ]at e2
    cases e2
    exact⟨u,r,.inl ⟨hk,by simp⟩⟩
   .rw[List.getElem?_set_ne (Ne.symm hj)]at e2
    obtain⟨u',r',q⟩:=hl j y v' e1 e2 e3
    refine⟨u',r',?_⟩
    rcases q with⟨k,e⟩|⟨k,c,e,z⟩
    .refine .inl ⟨k,?_⟩
     have:y≠x:=fun e=>hj (NN hN e1 (e▸hi))
     simp[this,e]
    .exact .inr ⟨k,c,e,z.sameBut hs (cne y c e)⟩
  .obtain⟨w',z⟩:=I.cell y c e
   exact⟨w',z.sameBut hs (cne y c e)⟩
  .obtain⟨e,n,ne,nf,d⟩:=I.pin p hp
   exact⟨(hs.2 p.1 ne).trans e,n,ne,nf,d⟩
 .have hfn:X.fn x=true:=by
   rcases hf with z|z
   .exact z
   .rw[z]at hk;cases hk
  obtain⟨c,hc⟩:=I.ok.has x (.inl hk)
  obtain⟨w',z⟩:=I.cell x c hc
  refine wpAny_storeName_cell I.ok.kind hk hc z (fun h' hc' hs=>?_)
  obtain⟨oc,hoc,hocd⟩:=id z
  refine h {s with heap:=h'} ⟨I.ok,I.os,I.bare,⟨fun b o e n hb hx=>?_,fun b o e n hb hx=>?_,I.base.free,fun b o e hx=>?_,I.base.tups,I.base.frzs,I.base.tbls⟩,⟨m,hn.sameBut hs (Ne.symm (cne x c hc)),fun j y v' e1 e2 e3=>?_⟩,fun y c' e=>?_,I.free,I.freeC,fun p hp=>?_,tracked ⟨oc,hoc,I.freeC x c hc⟩ hs,by simpa using I.len⟩ ⟨c,hs,.inr hc⟩
  .exact(hs.2 b (Cg (CJ (Br e) (I.ok.cab x c hfn hc)))).trans (I.base.keep b o e n hb hx)
  .obtain⟨sl,e1⟩:=I.base.slot b o e n hb hx
   exact⟨sl,(hs.2 b (Cg (CJ (Br e) (I.ok.cab x c hfn hc)))).trans e1⟩
  .obtain⟨o',e1⟩:=I.base.there b o e hx
   exact⟨o',(hs.2 b (Cg (CJ (Br e) (I.ok.cab x c hfn hc)))).trans e1⟩
  .by_cases hj:j=i
   .subst hj
    rw[hi]at e1;cases e1
    rw[List.getElem?_set_self hiσ]at e2
    cases e2
    exact⟨u,r,.inr ⟨.inl hk,c,hc,hc'⟩⟩
   .rw[List.getElem?_set_ne (Ne.symm hj)]at e2
    obtain⟨u',r',q⟩:=hl j y v' e1 e2 e3
    refine⟨u',r',?_⟩
    rcases q with q|⟨k,c',e,z'⟩
    .exact .inl q
    .refine .inr ⟨k,c',e,z'.sameBut hs ?_⟩
     rintro rfl
     exact hj (NN hN e1 (I.ok.inj _ _ _ e hc▸hi))
  .by_cases hcc:c'=c
   .subst hcc;exact⟨_,hc'⟩
   .obtain⟨w2,z2⟩:=I.cell y c' e
    exact⟨w2,z2.sameBut hs hcc⟩
  .obtain⟨e,n,ne,nf,d⟩:=I.pin p hp
   refine⟨(hs.2 p.1 ?_).trans e,n,ne,nf,d⟩
   intro q
   rw[q,hoc]at e
   have q':oc=p.2:=BP e
   exact d w' (by rw[←q'];exact hocd)
theorem Hu {M:Model}{A:Around}{E:Value->Shared->Prop}{i:Nat}{x:Str}{v:V}{u:Value}{Q:Unit->Shared->Prop}(I:A4 X pins σ H s)(hN:X.N.Nodup)(hi:X.N[i]?=some x)(hx:Fp X.env.scope x)(r:Ay v u)
  (h:∀s',A4 X pins (σ.set i (some v)) H s'->Q () s') (hf:X.fn x=true\/X.env.scope.names.lookup x=some .local:=by first|exact .inl rfl|exact .inr rfl|assumption):wpAny M A (storeName X.env x u) Q E s:=
 Vx I hN hi hx r (fun s' I' _=>h s' I') hf
theorem A4.call' {s':Shared}{ch:List Addr}(I:A4 X pins σ H s)(ho:s'.os=s.os)(u:Un (E3 X.stack) ch H H' s.heap s'.heap)(hok:By X.prog X.w H' s'.heap)(hg:AllBare s'.gens)
  (hch:∀b∈ch,(b∈X.ex\/X.s₀.heap.objs.size<=b)/\b≠X.env.locals/\(∀x c,X.env.cells.lookup x=some c->c≠b)/\∀p∈X.pn++pins,p.1≠b):A4 X pins σ H' s':=by
 obtain⟨h',g',d',t',o'⟩:=s'
 have e:o'=s.os:=ho
 subst e
 exact I.call (g':=g') (t':=t') (d':=d') u hok hg hch
end
abbrev XK:=Value->Option Addr->Hp->Prop
abbrev St:=List (Option V)
abbrev VK:=V->Hp->Prop
abbrev TE:=St->Hp->VK->Prop
abbrev TT:=St->Hp->(Bool->Hp->Prop)->Prop
abbrev TA:=St->Hp->(List V->Hp->Prop)->Prop
structure D9 where
 nx:St->Hp->Prop
 rt:VK
 bk:St->Hp->Prop:=fun _ _=>False
 ct:St->Hp->Prop:=fun _ _=>False
abbrev TS:=D9->St->Hp->Prop
def EP (X:Cx)(pins:List (Addr×Obj))(σ:St)(Q:VK)(u:Value)(s':Shared):Prop := ∃v H',A4 X pins σ H' s'/\Ay v u/\Q v H'
def TP (X:Cx)(pins:List (Addr×Obj))(σ:St)(Q:Bool->Hp->Prop)(b:Bool)(s':Shared):Prop := ∃H',A4 X pins σ H' s'/\Q b H'
def AP (X:Cx)(pins:List (Addr×Obj))(σ:St)(Q:List V->Hp->Prop)(us:List Value)(s':Shared):Prop := ∃vs H',A4 X pins σ H' s'/\AA vs us/\Q vs H'
def SP (X:Cx)(pins:List (Addr×Obj))(D:D9)(f:Flow)(s':Shared):Prop:=
 match f with
 |.next=>∃σ' H',A4 X pins σ' H' s'/\D.nx σ' H'
 |.brk=>∃σ' H',A4 X pins σ' H' s'/\D.bk σ' H'
 |.cont=>∃σ' H',A4 X pins σ' H' s'/\D.ct σ' H'
 |.ret u=>∃v σ' H',A4 X pins σ' H' s'/\Ay v u/\D.rt v H'
def PE (X:Cx)(e:Expr)(t:TE):Prop:=
 ∀(pins:List (Addr×Obj)) (s:Shared) (σ:St) (H:Hp) (Q:VK),A4 X pins σ H s->t σ H Q->wpAny (model X.prog X.w) X.A (eval e X.env) (EP X pins σ Q) X.xe s
def PT (X:Cx)(e:Expr)(t:TT):Prop:=
 ∀(pins:List (Addr×Obj)) (s:Shared) (σ:St) (H:Hp) (Q:Bool->Hp->Prop),A4 X pins σ H s->t σ H Q->wpAny (model X.prog X.w) X.A (isTrue e X.env (eval e X.env)) (TP X pins σ Q) X.xe s
def PW (X:Cx)(e:Expr)(t:TT):Prop:=
 ∀(whole:Sem Value) (pins:List (Addr×Obj)) (s:Shared) (σ:St) (H:Hp) (Q:Bool->Hp->Prop),A4 X pins σ H s->t σ H Q->wpAny (model X.prog X.w) X.A (isTrue e X.env whole) (TP X pins σ Q) X.xe s
theorem PW.pt {X:Cx}{e:Expr}{t:TT}(h:PW X e t):PT X e t:=h _
def PA (X:Cx)(es:List Expr)(t:TA):Prop:=
 ∀(pos:Pos) (pins:List (Addr×Obj)) (s:Shared) (σ:St) (H:Hp) (Q:List V->Hp->Prop),A4 X pins σ H s->t σ H Q->wpAny (model X.prog X.w) X.A (spliced (backTo pos (starEach es X.env))) (AP X pins σ Q) X.xe s
def PS (X:Cx)(st:Stmt)(t:TS):Prop:=
 ∀(pins:List (Addr×Obj)) (s:Shared) (σ:St) (H:Hp) (D:D9),A4 X pins σ H s->t D σ H->wpAny (model X.prog X.w) X.A (exec st X.env) (SP X pins D) X.xe s
def DB (X:Cx)(st:List Stmt)(t:TS):Prop:=
 ∀(pins:List (Addr×Obj)) (s:Shared) (σ:St) (H:Hp) (D:D9),A4 X pins σ H s->t D σ H->wpAny (model X.prog X.w) X.A (execs st X.env) (SP X pins D) X.xe s
theorem As {α:Type}{t:Sem α}{Q Q':α->Shared->Prop}{M:Model}{A:Around}{E:Value->Shared->Prop}{s:Shared}(h:wpAny M A t Q E s)(hQ:∀a s,Q a s->Q' a s):wpAny M A t Q' E s:=DP h hQ fun _ _ x=>x
section
variable {X:Cx}
def Ej (i:Nat):TE:=fun σ H Q=>∃v,σ[i]?=some (some v)/\Q v H
def tC (v:V):TE:=fun _ H Q=>Q v H
theorem Qs {i:Nat}{x:Str}{pos:Pos}(hN:X.N[i]?=some x)(hv:HM X.env.scope x)(hd:(x==("__debug__":Str))=false:=by decide)(hcd:(x==("__classdict__":Str))=false:=by decide):PE X (.Name x pos) (Ej i):=by
 intro pins s σ H Q I h
 obtain⟨v,e,h⟩:=h
 obtain⟨m,hn,hl⟩:=I.loc
 obtain⟨u,r,l⟩:=hl i x v hN e hv
 have fin:EP X pins σ Q u s:=⟨v,H,I,r,h⟩
 rcases l with⟨hk,hm⟩|⟨hk,c,hc,hcell⟩
 .exact wpAny_Name (wpAny_loadName_local I.ok.kind hk hn hm fin) hd
 .rcases hk with hk|hk
  .exact wpAny_Name (wpAny_loadName_cell I.ok.kind hk hc hcell fin) hd
  .exact wpAny_Name (wpAny_loadName_free I.ok.kind hk hc hcell fin hcd) hd
theorem A1 {i j pos}:PE X (.Constant (.int i) j pos) (tC (.int i)):=fun _ _ _ H _ I h=>wpAny_Constant_int ⟨.int i,H,I.tok _,⟨_,rfl⟩,h⟩
theorem Bu {b j pos}:PE X (.Constant (.bool b) j pos) (tC (.bl b)):=fun _ _ _ H _ I h=>Constant_bool ⟨.bl b,H,I,rfl,h⟩
theorem BW {j pos}:PE X (.Constant .none j pos) (tC .non):=fun _ _ _ H _ I h=>Constant_none ⟨.non,H,I,rfl,h⟩
theorem Aw {x j pos}:PE X (.Constant (.str x) j pos) (tC (.str x)):=fun _ _ _ H _ I h=>Calls.Constant_str ⟨.str x,H,I.tok _,⟨_,rfl⟩,h⟩
def Gl (X:Cx)(x:Str):Prop:=X.env.kindOf x=some .globalImplicit
theorem Hn {E:Value->Shared->Prop}{pins:List (Addr×Obj)}{s:Shared}{σ:St}{H:Hp}{x:Str}{u:Value}{pos:Pos}{Q:Value->Shared->Prop}(I:A4 X pins σ H s)(hg:Gl X x)(hm:X.mg x=some u)(h:Q u s)
  (hd:(x==("__debug__":Str))=false:=by decide):wpAny (model X.prog X.w) X.A (eval (.Name x pos) X.env) Q E s:=
 Calls.Name_function_global I.ok.kind hg (Calls.loadGlobal_global (by rw[I.ok.glob];exact I.mod.glob.keeps I.bk) hm h) hd
theorem Ha {E:Value->Shared->Prop}{pins:List (Addr×Obj)}{s:Shared}{σ:St}{H:Hp}{x:Str}{u:Value}{pos:Pos}{Q:Value->Shared->Prop}(I:A4 X pins σ H s)(hg:Gl X x)(hm:X.mg x=none)(hv:bootBuiltins x=some u)(h:Q u s)
  (hn:x≠"__name__":=by decide) (hd:(x==("__debug__":Str))=false:=by decide):wpAny (model X.prog X.w) X.A (eval (.Name x pos) X.env) Q E s:=by
 obtain⟨mb,h1,h2⟩:=I.mod.blt
 exact Calls.Name_function_global I.ok.kind hg (Calls.loadGlobal_builtin (by rw[I.ok.glob];exact I.mod.glob.keeps I.bk) hm (by rw[I.ok.blt];exact h1.keeps I.bk) ((h2 x hn).trans hv) h) hd
theorem C3 {x:Str}{v:V}{u:Value}{pos:Pos}(hg:Gl X x)(hm:X.mg x=some u)(r:Ay v u)(hd:(x==("__debug__":Str))=false:=by decide):PE X (.Name x pos) (tC v):=
 fun _ _ _ H _ I h=>Hn I hg hm ⟨v,H,I,r,h⟩ hd
theorem FC {x:Str}{v:V}{u:Value}{pos:Pos}(hg:Gl X x)(hm:X.mg x=none)(hv:bootBuiltins x=some u)(r:Ay v u)(hn:x≠"__name__":=by decide)(hd:(x==("__debug__":Str))=false:=by decide):PE X (.Name x pos) (tC v):=
 fun _ _ _ H _ I h=>Ha I hg hm hv ⟨v,H,I,r,h⟩ hn hd
variable {a b:Expr}{ta tb:TE}{pos:Pos}
def tB (t:TE):TT:=fun σ H Q=>t σ H fun x H1=>∃c,x = .bl c/\Q c H1
theorem Bx {e:Expr}{t:TE}(h:PE X e t)(he:∀whole,isTrue e X.env whole=(do let v ←whole;standAt e.pos;holding [v] (truthy v)):=by intro _;rfl):PT X e (tB t):=by
 intro pins s σ H Q I hw
 refine isTrue_plain (As (h pins s σ H _ I hw) fun v s1 zz=>?_) (he _)
 obtain⟨x,H1,I1,r1,q1⟩:=zz
 obtain⟨d,rfl,q⟩:=q1
 cases r1
 exact GS ⟨H1,I1,q⟩
variable {tA tB':TT}{rest:List Expr}
def Ud (t u:TT):TT:=fun σ H Q=>t σ H fun c H1=>if c=true then u σ H1 Q else Q false H1
def RN (t u:TT):TT:=fun σ H Q=>t σ H fun c H1=>if c=true then Q true H1 else u σ H1 Q
def Tz (t:TT):TT:=fun σ H Q=>t σ H fun c H1=>Q (!c) H1
theorem DY (ha:PT X a tA):PW X (.BoolOp .And [a] pos) tA:=by
 intro wh pins s σ H Q I h
 refine isTrue_and (As (ha pins s σ H Q I h) fun c s1 e=>?_)
 cases c with
 |true=>exact isTrue_and_nil e
 |false=>exact e
theorem C8 (ha:PT X a tA):PW X (.BoolOp .Or [a] pos) tA:=by
 intro wh pins s σ H Q I h
 refine isTrue_or (As (ha pins s σ H Q I h) fun c s1 e=>?_)
 cases c with
 |false=>exact isTrue_or_nil e
 |true=>exact e
theorem Df (ha:PT X a tA)(hb:PW X (.BoolOp .And (b::rest) pos) tB'):PW X (.BoolOp .And (a::b::rest) pos) (Ud tA tB'):=by
 intro wh pins s σ H Q I h
 refine isTrue_and (As (ha pins s σ H _ I h) fun c s1 zz=>?_)
 obtain⟨H1,I1,q1⟩:=zz
 cases c with
 |true=>exact hb wh pins s1 σ H1 Q I1 q1
 |false=>exact⟨H1,I1,q1⟩
theorem BL (ha:PT X a tA)(hb:PW X (.BoolOp .Or (b::rest) pos) tB'):PW X (.BoolOp .Or (a::b::rest) pos) (RN tA tB'):=by
 intro wh pins s σ H Q I h
 refine isTrue_or (As (ha pins s σ H _ I h) fun c s1 zz=>?_)
 obtain⟨H1,I1,q1⟩:=zz
 cases c with
 |true=>exact⟨H1,I1,q1⟩
 |false=>exact hb wh pins s1 σ H1 Q I1 q1
theorem Cj (ha:PT X a tA):PT X (.UnaryOp .Not a pos) (Tz tA):=by
 intro pins s σ H Q I h
 exact isTrue_not (ha pins s σ H (fun c H1=>Q (!c) H1) I h)
def Lb (ta tb:TE):TE:=fun σ H Q=>ta σ H fun x H1=>∃c,x = .bl c/\if c=true then tb σ H1 Q else Q (.bl false) H1
def Nn (ta tb:TE):TE:=fun σ H Q=>ta σ H fun x H1=>∃c,x = .bl c/\if c=true then Q (.bl true) H1 else tb σ H1 Q
def Qa (ta:TE):TE:=fun σ H Q=>ta σ H fun x H1=>∃c,x = .bl c/\Q (.bl (!c)) H1
theorem Er {op}{t:TE}(h:PE X a t):PE X (.BoolOp op [a] pos) t:=fun pins s σ H Q I hw=>BoolOp_one (h pins s σ H Q I hw)
theorem Et (ha:PE X a ta)(hb:PE X (.BoolOp .And (b::rest) pos) tb):PE X (.BoolOp .And (a::b::rest) pos) (Lb ta tb):=by
 intro pins s σ H Q I h
 refine BoolOp_and (As (ha pins s σ H _ I h) fun v s1 zz=>?_)
 obtain⟨x,H1,I1,r1,q1⟩:=zz
 obtain⟨c,rfl,q1⟩:=q1
 cases r1
 refine GS ?_
 cases c with
 |true=>exact hb pins s1 σ H1 Q I1 q1
 |false=>exact⟨.bl false,H1,I1,rfl,q1⟩
theorem Kz (ha:PE X a ta)(hb:PE X (.BoolOp .Or (b::rest) pos) tb):PE X (.BoolOp .Or (a::b::rest) pos) (Nn ta tb):=by
 intro pins s σ H Q I h
 refine BoolOp_or (As (ha pins s σ H _ I h) fun v s1 zz=>?_)
 obtain⟨x,H1,I1,r1,q1⟩:=zz
 obtain⟨c,rfl,q1⟩:=q1
 cases r1
 refine GS ?_
 cases c with
 |false=>exact hb pins s1 σ H1 Q I1 q1
 |true=>exact⟨.bl true,H1,I1,rfl,q1⟩
theorem Uv (ha:PE X a ta):PE X (.UnaryOp .Not a pos) (Qa ta):=by
 intro pins s σ H Q I h
 refine UnaryOp_ (As (ha pins s σ H _ I h) fun v s1 zz=>?_)
 obtain⟨x,H1,I1,r1,q1⟩:=zz
 obtain⟨c,rfl,q1⟩:=q1
 cases r1
 exact not_of (GS ⟨.bl (!c),H1,I1,rfl,q1⟩)
end
def A3 (K:Xa)(H:Hp)(a:Addr)(xs:List V):Prop:=
 Rd H a (.lst xs)\/
  ∃(o:Obj) (its:Array Value) (n:Nat),K.lookup a=some o/\o.cls = .type "list"/\o.dict=none/\o.data = .seq its n/\its.size<=sizeLine/\AA xs its.toList
def Ah (K:Xa)(H:Hp)(a:Addr)(xs:List V):Prop:=
 Rd H a (.tup xs)\/
  ∃(o:Obj) (its:Array Value) (n:Nat),K.lookup a=some o/\o.cls = .type "tuple"/\o.data = .seq its n/\its.size<=sizeLine/\AA xs its.toList
def SV:Value->Option V
 |.none=>some .non
 |.bool b=>some (.bl b)
 |.int i _=>some (.int i)
 |.str x _=>some (.str x)
 |.bytes b _=>some (.byt b)
 |.float b _=>some (.flt b)
 |.ref a=>some (.ref a)
 |.type n=>some (.ty n)
 |_=>none
theorem Ay.abs {x:V}{u:Value}(r:Ay x u):SV u=some x:=by
 cases x with
 |non=>cases r;rfl
 |bl _=>cases r;rfl
 |int _=>obtain⟨t,rfl⟩:=r;rfl
 |str _=>obtain⟨t,rfl⟩:=r;rfl
 |byt _=>obtain⟨t,rfl⟩:=r;rfl
 |flt _=>obtain⟨t,rfl⟩:=r;rfl
 |ref _=>cases r;rfl
 |ty _=>cases r;rfl
theorem Ay.inj {x y:V}{u:Value}(r:Ay x u)(q:Ay y u):x=y:=BP (r.abs.symm.trans q.abs)
theorem AA.inj:∀{xs ys:List V} {us:List Value},AA xs us->AA ys us->xs=ys:=by
 intro xs
 induction xs with
 |
  nil=>
  intro ys us h k
  cases h
  cases k
  rfl
 |
  cons x xs ih=>
  intro ys us h k
  cases h with
  |
   cons r t=>
   cases k with
   |cons r' t'=>rw[r.inj r',ih t t']
section
variable {X:Cx}{pins:List (Addr×Obj)}{σ:St}{H:Hp}{s:Shared}{a:Addr}{xs ys:List V}
theorem A3.of {K:Xa}(h:H a=some (.lst xs)):A3 K H a xs:=.inl (.inl h)
theorem Ah.of {K:Xa}(h:H a=some (.tup xs)):Ah K H a xs:=.inl (.inl h)
theorem A4.list (I:A4 X pins σ H s)(h:A3 X.K H a xs):∃its:List Value,AA xs its/\PlainL s.heap a its.toArray/\xs.length<=sizeLine:=by
 rcases h with h|⟨o,its,n,hk,hc,hd,hs,hz,r⟩
 .obtain⟨z,its,n,r,e⟩:=h.ok I.hok
  exact⟨its,r,⟨_,n,e,rfl,rfl,rfl⟩,z⟩
 .refine⟨its.toList,r,⟨o,n,I.kIn a o hk,hc,hd,by simpa using hs⟩,?_⟩
  have e:=r.length
  simp only[Array.length_toList]at e
  omega
theorem A4.tuple (I:A4 X pins σ H s)(h:Ah X.K H a xs):∃its:List Value,AA xs its/\IsTup s.heap a its.toArray/\xs.length<=sizeLine:=by
 rcases h with h|⟨o,its,n,hk,hc,hs,hz,r⟩
 .obtain⟨z,its,r,p⟩:=h.ok I.hok
  exact⟨its,r,p.tup,z⟩
 .refine⟨its.toList,r,⟨o,I.kIn a o hk,hc,n,by simpa using hs⟩,?_⟩
  have e:=r.length
  simp only[Array.length_toList]at e
  omega
theorem A4.list_inj (I:A4 X pins σ H s)(h:A3 X.K H a xs)(h':A3 X.K H a ys):xs=ys:=by
 obtain⟨its,r,⟨o,n,e,_,_,d⟩,_⟩:=I.list h
 obtain⟨its',r',⟨o',n',e',_,_,d'⟩,_⟩:=I.list h'
 rw[e]at e';cases e'
 rw[d]at d'
 injection d' with d1 _
 have:its=its':=by simpa using congrArg Array.toList d1
 subst this
 exact r.inj r'
theorem A4.tuple_inj (I:A4 X pins σ H s)(h:Ah X.K H a xs)(h':Ah X.K H a ys):xs=ys:=by
 obtain⟨its,r,⟨o,e,_,n,d⟩,_⟩:=I.tuple h
 obtain⟨its',r',⟨o',e',_,n',d'⟩,_⟩:=I.tuple h'
 rw[e]at e';cases e'
 rw[d]at d'
 injection d' with d1 _
 have:its=its':=by simpa using congrArg Array.toList d1
 subst this
 exact r.inj r'
end
abbrev Cx.wish (X:Cx)(E:Value->Shared->Prop):Cx:={X with xe:=E}
abbrev Cx.nox (X:Cx):Cx:=X.wish fun _ _=>False
theorem Cx.Ok.wish {X:Cx}(ok:X.Ok)(E:Value->Shared->Prop):(X.wish E).Ok:=
 ⟨ok.mod,ok.kind,ok.glob,ok.blt,ok.above,ok.inj,ok.has,ok.cab,ok.hd,ok.frames,ok.stk,ok.exf,ok.bs,ok.bsz,ok.noex,ok.exfs,ok.funs,ok.frf⟩
theorem Cx.Ok.unwish {X:Cx}{E:Value->Shared->Prop}(ok:(X.wish E).Ok):X.Ok:=
 ⟨ok.mod,ok.kind,ok.glob,ok.blt,ok.above,ok.inj,ok.has,ok.cab,ok.hd,ok.frames,ok.stk,ok.exf,ok.bs,ok.bsz,ok.noex,ok.exfs,ok.funs,ok.frf⟩
section
variable {X:Cx}{pins:List (Addr×Obj)}{σ:St}{H:Hp}{s:Shared}{E:Value->Shared->Prop}
theorem A4.wish (I:A4 X pins σ H s)(E:Value->Shared->Prop):A4 (X.wish E) pins σ H s:=⟨I.ok.wish E,I.os,I.bare,I.base,I.loc,I.cell,I.free,I.freeC,I.pin,I.hok,I.len⟩
theorem A4.unwish (I:A4 (X.wish E) pins σ H s):A4 X pins σ H s:=⟨I.ok.unwish,I.os,I.bare,I.base,I.loc,I.cell,I.free,I.freeC,I.pin,I.hok,I.len⟩
theorem SP.unwish {D:D9}{f:Flow}{s':Shared}(h:SP (X.wish E) pins D f s'):SP X pins D f s':=by
 cases f with
 |next=>obtain⟨σ',H',I,q⟩:=h;exact⟨σ',H',I.unwish,q⟩
 |brk=>obtain⟨σ',H',I,q⟩:=h;exact⟨σ',H',I.unwish,q⟩
 |cont=>obtain⟨σ',H',I,q⟩:=h;exact⟨σ',H',I.unwish,q⟩
 |ret u=>obtain⟨v,σ',H',I,r,q⟩:=h;exact⟨v,σ',H',I.unwish,r,q⟩
theorem DB.nox {st:List Stmt}{t:TS}(h:DB X.nox st t):DB X st t:=fun pins s σ H D I hw=>
 DP (h pins s σ H D (I.wish _) hw) (fun _ _ q=>q.unwish) fun _ _ z=>False.elim z
end
section
variable {X:Cx}{st:Stmt}{rest:List Stmt}{t u:TS}{e:Expr}{te:TE}{pos:Pos}
def GE:TS:=fun D σ H=>D.nx σ H
def DH (t u:TS):TS:=fun D σ H=>t {D with nx:=u D} σ H
theorem AF:DB X [] GE:=fun _ _ σ H _ I h=>Ka ⟨σ,H,I,h⟩
theorem A5 (h1:PS X st t)(h2:DB X rest u):DB X (st::rest) (DH t u):=by
 intro pins s σ H D I h
 refine Kb (As (h1 pins s σ H {D with nx:=u D} I h) fun f s1 q=>?_)
 cases f with
 |
  next=>
  obtain⟨σ',H',I',q⟩:=q
  exact h2 pins s1 σ' H' D I' q
 |ret v=>exact q
 |brk=>exact q
 |cont=>exact q
theorem A9 (h1:PS X st t):DB X [st] t:=by
 intro pins s σ H D I h
 refine Kb (As (h1 pins s σ H D I h) fun f s1 q=>?_)
 cases f with
 |next=>exact Ka q
 |ret v=>exact q
 |brk=>exact q
 |cont=>exact q
def U9:TS:=fun D σ H=>D.bk σ H
theorem Sj:PS X (.Break pos) U9:=fun _ _ σ H _ I h=>wpAny_Break ⟨σ,H,I,h⟩
theorem A4.quiet {pins:List (Addr×Obj)}{σ:St}{H:Hp}{s:Shared}(I:A4 X pins σ H s):interactive X.env=false:=by simp[interactive,I.ok.kind]
def VI (te:TE):TS:=fun D σ H=>te σ H fun _ H1=>D.nx σ H1
theorem BF (he:PE X e te)(hs:swapsWith e none pos.line X.env=pure false:=by rfl):PS X (.Expr e pos) (VI te):=by
 intro pins s σ H D I h
 refine wpAny_Expr_any (As (he pins s σ H _ I h) fun v s1 zz=>?_) I.quiet hs
 obtain⟨x,H1,I1,r1,q1⟩:=zz
 exact⟨σ,H1,I1,q1⟩
def G1 (te:TE):TS:=fun D σ H=>te σ H D.rt
theorem Al (he:PE X e te):PS X (.Return (some e) pos) (G1 te):=by
 intro pins s σ H D I h
 refine wpAny_Return_some (As (he pins s σ H _ I h) fun v s1 zz=>?_)
 obtain⟨x,H1,I1,r1,q1⟩:=zz
 exact⟨x,σ,H1,I1,r1,q1⟩
def Jo (c:TT)(t u:TS):TS:=fun D σ H=>c σ H fun b H1=>if b=true then t D σ H1 else u D σ H1
theorem AE {c:Expr}{a b:List Stmt}{tc:TT}(hc:PT X c tc)(ha:DB X a t)(hb:DB X b u):PS X (.If c a b pos) (Jo tc t u):=by
 intro pins s σ H D I h
 refine wpAny_If (As (hc pins s σ H _ I h) fun d s1 zz=>?_)
 obtain⟨H1,I1,q1⟩:=zz
 cases d with
 |true=>exact ha pins s1 σ H1 D I1 q1
 |false=>exact hb pins s1 σ H1 D I1 q1
def SN:TS:=fun _ _ _=>False
theorem Nq:PS X st SN:=fun _ _ _ _ _ _ h=>h.elim
end
abbrev TG:=V->St->Hp->(St->Hp->Prop)->Prop
abbrev G0:=List V->St->Hp->(St->Hp->Prop)->Prop
def PG (X:Cx)(target:Expr)(t:TG):Prop:=
 ∀(pins:List (Addr×Obj)) (s:Shared) (σ:St) (H:Hp) (v:V) (u:Value) (Q:St->Hp->Prop),A4 X pins σ H s->Ay v u->t v σ H Q->
  wpAny (model X.prog X.w) X.A (assign target X.env u) (fun _ s'=>∃σ' H',A4 X pins σ' H' s'/\Q σ' H') X.xe s
def Jb (X:Cx)(ts:List Expr)(t:G0):Prop:=
 ∀(pins:List (Addr×Obj)) (s:Shared) (σ:St) (H:Hp) (vs:List V) (us:List Value) (Q:St->Hp->Prop),A4 X pins σ H s->AA vs us->t vs σ H Q->
  wpAny (model X.prog X.w) X.A (assignInOrder ((assignEach ts X.env).map (·.2)) us) (fun _ s'=>∃σ' H',A4 X pins σ' H' s'/\Q σ' H') X.xe s
abbrev KS:=V->V->V->Hp->(Hp->Prop)->Prop
def N1 (X:Cx)(t:KS):Prop:=
 ∀(pins:List (Addr×Obj)) (s:Shared) (σ:St) (H:Hp) (o i v:V) (ov iv u:Value) (Q:Hp->Prop),A4 X pins σ H s->Ay o ov->Ay i iv->Ay v u->t o i v H Q->
  wpAny (model X.prog X.w) X.A (setItem ov iv u) (fun _ s'=>∃H',A4 X pins σ H' s'/\Q H') X.xe s
abbrev GF:=V->V->Hp->VK->Prop
def KW (X:Cx)(op:Operator)(t:GF):Prop:=
 ∀(pins:List (Addr×Obj)) (s:Shared) (σ:St) (H:Hp) (x y:V) (v u:Value) (Q:VK),A4 X pins σ H s->Ay x v->Ay y u->t x y H Q->
  wpAny (model X.prog X.w) X.A (inplaceOp op v u) (EP X pins σ Q) X.xe s
section
variable {X:Cx}{pos:Pos}
def Ar (i:Nat):TG:=fun v σ H Q=>Q (σ.set i (some v)) H
theorem Bv {i:Nat}{x:Str}(hN:X.N.Nodup)(hi:X.N[i]?=some x)(hx:Fp X.env.scope x)(hf:X.fn x=true\/X.env.scope.names.lookup x=some .local:=by first|exact .inl rfl|exact .inr rfl|assumption):PG X (.Name x pos) (Ar i):=by
 intro pins s σ H v u Q I r h
 exact wpAny_assign_Name (Hu I hN hi hx r (fun s' I'=>⟨_,H,I',h⟩) hf)
def Tv:G0:=fun vs σ H Q=>vs=[]/\Q σ H
def UA (t:TG)(u:G0):G0:=fun vs σ H Q=>∃v r,vs=v::r/\t v σ H fun σ' H'=>u r σ' H' Q
theorem JO:Jb X [] Tv:=by
 intro pins s σ H vs us Q I r h
 obtain⟨e,h⟩:=h
 subst e
 cases r
 exact assignInOrder_nil ⟨σ,H,I,h⟩
theorem Fg {e:Expr}{es:List Expr}{t:TG}{u:G0}(h1:PG X e t)(h2:Jb X es u)
  (hs:(assignEach (e::es) X.env).map (·.2)=assign e X.env::(assignEach es X.env).map (·.2):=by rfl):Jb X (e::es) (UA t u):=by
 intro pins s σ H vs us Q I r h
 obtain⟨v,vr,e1,h⟩:=h
 subst e1
 cases r with
 |
  cons r rr=>
  rw[hs]
  refine assignInOrder_cons (As (h1 pins s σ H _ _ _ I r h) fun _ s1 zz=>?_)
  obtain⟨σ1,H1,I1,q1⟩:=zz
  exact h2 pins s1 σ1 H1 _ _ Q I1 rr q1
def O3 (K:Xa)(n:Nat)(t:G0):TG:=fun v σ H Q=>∃a xs,v = .ref a/\Ah K H a xs/\xs.length=n/\t xs σ H Q
theorem Jp {es:List Expr}{k:Nat}{t:G0}{n:Nat}(hc:X.calm=true)(h:Jb X es t)
  (hn:(assignEach es X.env).length=n:=by rfl) (hst:(assignEach es X.env).findIdx? (·.1)=none:=by rfl):PG X (.Tuple es k pos) (O3 X.K n t):=by
 intro pins s σ H v u Q I r hw
 obtain⟨a,xs,e1,hq,hl,hw⟩:=hw
 subst e1
 cases r
 obtain⟨its,rv,ht,hz⟩:=I.tuple hq
 refine assign_Tuple_tuple (I.ok.hd hc) ht (by simp[hn,←hl,rv.length]) hst fun h' hx=>?_
 have I1:A4 X pins σ H {s with heap:=h'}:=I.kept (t':=s.toks) fun b o e=>hx b o (Cg (Br e)) e
 exact h pins _ σ H xs _ Q I1 (by simpa using rv) hw
def FP (te:TE)(g:TG):TS:=fun D σ H=>te σ H fun x H1=>g x σ H1 D.nx
theorem M9 {tg e:Expr}{te:TE}{g:TG}(he:PE X e te)(hg:PG X tg g)(hs:swapsWithSole [tg] e pos.line X.env=pure false:=by rfl)(hw:swappedStores [tg] e X.env=pure none:=by rfl)
  (h1:(assignEach [tg] X.env).map (·.2)=[assign tg X.env]:=by rfl):PS X (.Assign [tg] e pos) (FP te g):=by
 intro pins s σ H D I h
 refine wpAny_Assign_stores (As (he pins s σ H _ I h) fun v s1 zz=>?_) hs hw
 obtain⟨x,H1,I1,r1,q1⟩:=zz
 rw[h1]
 exact As (hg pins s1 σ H1 x v _ I1 r1 q1) fun _ s2 q=>q
theorem Aj {i:Nat}{x:Str}{e:Expr}{te:TE}{pos':Pos}(hN:X.N.Nodup)(hi:X.N[i]?=some x)(hx:Fp X.env.scope x)(he:PE X e te)(hs:swapsWith e (some (.Name x pos')) pos.line X.env=pure false:=by rfl)(hf:X.fn x=true\/X.env.scope.names.lookup x=some .local:=by first|exact .inl rfl|exact .inr rfl|assumption) :
  PS X (.Assign [.Name x pos'] e pos) (FP te (Ar i)):=by
 intro pins s σ H D I h
 refine wpAny_Assign_Name (As (he pins s σ H _ I h) fun v s1 zz=>?_) hs
 obtain⟨y,H1,I1,r1,q1⟩:=zz
 exact Hu I1 hN hi hx r1 (fun s2 I2=>⟨_,H1,I2,q1⟩) hf
def Ku (i:Nat)(te:TE)(ti:GF):TS:=fun D σ H=>∃x,σ[i]?=some (some x)/\te σ H fun y H1=>ti x y H1 fun z H2=>D.nx (σ.set i (some z)) H2
theorem QG {i:Nat}{x:Str}{e:Expr}{te:TE}{op:Operator}{ti:GF}{pos':Pos}(hN:X.N.Nodup)(hi:X.N[i]?=some x)(hx:Fp X.env.scope x)(he:PE X e te)(ho:KW X op ti)(hf:X.fn x=true\/X.env.scope.names.lookup x=some .local:=by first|exact .inl rfl|exact .inr rfl|assumption) :
  PS X (.AugAssign (.Name x pos') op e pos) (Ku i te ti):=by
 intro pins s σ H D I h
 obtain⟨v,e1,h⟩:=h
 obtain⟨m,hn,hl⟩:=I.loc
 have vis:HM X.env.scope x:=by rcases hx with k|k;exact .inl k;exact .inr (.inl k)
 obtain⟨u,r,l⟩:=hl i x v hi e1 vis
 refine wpAny_AugAssign_Name ?_
 have go:wpAny (model X.prog X.w) X.A (eval e X.env) (fun w s₂=>wpAny (model X.prog X.w) X.A (inplaceOp op u w) (fun r s₃=>wpAny (model X.prog X.w) X.A (storeName X.env x r) (fun _=>SP X pins D .next) X.xe s₃) X.xe s₂) X.xe s:=by
  refine As (he pins s σ H _ I h) fun w s1 zz=>?_
  obtain⟨y,H1,I1,r1,q1⟩:=zz
  refine As (ho pins s1 σ H1 v y u w _ I1 r r1 q1) fun z s2 zz=>?_
  obtain⟨zv,H2,I2,r2,q2⟩:=zz
  exact Hu I2 hN hi hx r2 (fun s3 I3=>⟨_,H2,I3,q2⟩) hf
 rcases l with⟨hk,hm⟩|⟨hk,c,hc,hcell⟩
 .exact wpAny_loadName_local I.ok.kind hk hn hm go
 .rcases hk with hk|hk
  .exact wpAny_loadName_cell I.ok.kind hk hc hcell go
  .rcases hx with k|k
   .have:X.env.scope.names.lookup x=some .free:=hk
    rw[k]at this;cases this
   .have:X.env.scope.names.lookup x=some .free:=hk
    rw[k]at this;cases this
def R1 (to ti te:TE)(tget:V->V->Hp->VK->Prop)(tip:GF)(tset:KS):TS:=fun D σ H=>to σ H fun o H1=>ti σ H1 fun i H2=>tget o i H2 fun x H3=>te σ H3 fun y H4=>tip x y H4 fun z H5=>tset o i z H5 fun H6=>D.nx σ H6
def Nl (X:Cx)(t:V->V->Hp->VK->Prop):Prop:=
 ∀(pins:List (Addr×Obj)) (s:Shared) (σ:St) (H:Hp) (o i:V) (ov iv:Value) (Q:VK),A4 X pins σ H s->Ay o ov->Ay i iv->t o i H Q->
  wpAny (model X.prog X.w) X.A (getItem ov iv) (EP X pins σ Q) X.xe s
theorem Nx {o i e:Expr}{to ti te:TE}{tget:V->V->Hp->VK->Prop}{tip:GF}{tset:KS}{op:Operator}{tpos:Pos}(ho:PE X o to)(hi:PE X i ti)(hg:Nl X tget)(he:PE X e te)(hp:KW X op tip)(hs:N1 X tset)
  (ha:∀ov iv new,augStore i ov iv new=(do holding [new,ov,iv] (setItem ov iv new);release [new,ov,iv] [];pure .next):=by intros;rfl):PS X (.AugAssign (.Subscript o i tpos) op e pos) (R1 to ti te tget tip tset):=by
 intro pins s σ H D I h
 refine wpAny_AugAssign_SubscriptAny (As (ho pins s σ H _ I h) fun ov s1 zz=>?_) ha
 obtain⟨x1,H1,I1,r1,q1⟩:=zz
 refine As (hi pins s1 σ H1 _ I1 q1) fun iv s2 zz=>?_
 obtain⟨x2,H2,I2,r2,q2⟩:=zz
 refine As (hg pins s2 σ H2 x1 x2 ov iv _ I2 r1 r2 q2) fun old s3 zz=>?_
 obtain⟨x3,H3,I3,r3,q3⟩:=zz
 refine As (he pins s3 σ H3 _ I3 q3) fun v s4 zz=>?_
 obtain⟨x4,H4,I4,r4,q4⟩:=zz
 refine As (hp pins s4 σ H4 x3 x4 old v _ I4 r3 r4 q4) fun new s5 zz=>?_
 obtain⟨x5,H5,I5,r5,q5⟩:=zz
 refine As (hs pins s5 σ H5 x1 x2 x5 ov iv new _ I5 r1 r2 r5 q5) fun _ s6 zz=>?_
 obtain⟨H6,I6,q6⟩:=zz
 exact⟨σ,H6,I6,q6⟩
def Lw (f:Int->Int->Int):GF:=fun x y H Q=>∃i j,x = .int i/\y = .int j/\Q (.int (f i j)) H
theorem Kk:KW X .Add (Lw fun i j=>i+j):=by
 intro pins s σ H x y v u Q I r1 r2 h
 obtain⟨i,j,e1,e2,q⟩:=h
 subst e1;subst e2
 obtain⟨t,rfl⟩:=r1
 obtain⟨t',rfl⟩:=r2
 exact iadd_int ⟨.int _,H,I.tok _,⟨_,rfl⟩,q⟩
end
section
variable {X:Cx}{pos:Pos}
def Jd (c:TT)(tb:TS):TS:=fun D σ H=>∃W:Nat->St->Hp->Prop,(∃m,W m σ H)/\∀m σ H,W m σ H->
 c σ H fun b H1=>if b=true then ∃N:St->Hp->Prop,(∀σ' H',N σ' H'->∃m',m'<m/\W m' σ' H')/\tb {D with nx:=N,ct:=N,bk:=D.nx} σ H1 else D.nx σ H1
theorem HV {c:Expr}{body:List Stmt}{tc:TT}{tb:TS}(hp:PassesOwn (model X.prog X.w) X.A X.env X.xe)(hc:PT X c tc)(hb:DB X body tb):PS X (.While c body [] pos) (Jd tc tb):=by
 intro pins s σ H D I h
 obtain⟨W,⟨m0,w0⟩,turn⟩:=h
 refine wpAny_While (codeAny_whileLoop (fun n s'=>∃σ' H',A4 X pins σ' H' s'/\W n σ' H') ?_ m0 ⟨σ,H,I,w0⟩)
 rintro n s1 ⟨σ1,H1,I1,w1⟩
 refine GT hp (As (hc pins s1 σ1 H1 _ I1 (turn n σ1 H1 w1)) fun b s2 zz=>?_)
 obtain⟨H2,I2,q2⟩:=zz
 cases b with
 |
  true=>
  obtain⟨N,hN,q2⟩:=q2
  rw[Ag rfl]
  refine GT hp (As (hb pins s2 σ1 H2 _ I2 q2) fun f s3 q3=>?_)
  cases f with
  |
   next=>
   obtain⟨σ3,H3,I3,n3⟩:=q3
   obtain⟨m',hm,w3⟩:=hN σ3 H3 n3
   exact⟨m',hm,σ3,H3,I3,w3⟩
  |
   cont=>
   obtain⟨σ3,H3,I3,n3⟩:=q3
   obtain⟨m',hm,w3⟩:=hN σ3 H3 n3
   exact⟨m',hm,σ3,H3,I3,w3⟩
  |brk=>exact q3
  |ret v=>exact q3
 |
  false=>
  rw[Ae BQ]
  exact Ka ⟨σ1,H2,I2,q2⟩
end
structure It where
 go:Nat->Hp->Prop
 yld:Nat->Hp->V->Hp->Prop
 stop:Nat->Hp->Prop
def Ec (X:Cx)(pins:List (Addr×Obj))(H:Hp)(b:Addr):Prop:=
 H b=none/\b≠X.env.locals/\b∉X.fs/\(b∈X.ex\/X.s₀.heap.objs.size<=b)/\(∀x c,X.env.cells.lookup x=some c->c≠b)/\∀p∈X.pn++pins,p.1≠b
theorem A4.fpOk {X:Cx}{pins:List (Addr×Obj)}{σ:St}{H H':Hp}{s:Shared}{b:Addr}(I:A4 X pins σ H s)(hb:s.heap.objs.size<=b)(hn:H' b=none):Ec X pins H' b:=by
 refine⟨hn,JX (CJ I.lt hb),I.nofs hb,.inr (C5 I.sz hb),fun x c e z=>?_,fun p hp z=>?_⟩
 .obtain⟨v,q⟩:=I.cell x c e
  exact absurd (CJ q.lt (by rw[z];exact hb)) (EA _)
 .exact absurd (CJ (Br (I.pin p hp).1) (by rw[z];exact hb)) (EA _)
structure Gj (P:Program)(w:World)(K:Xa)(tg:Expr)(J:It)(fp:List Addr)(it:Addr)(tn:Nat->Heap->Prop):Prop where
 mem:it∈fp
 obj:∀i h,tn i h->∀b∈fp,∃o,h.get? b=some o/\∀v,o.data≠.cell v
 keep:∀i h h',tn i h->(∀b∈fp,∀o,h.get? b=some o->h'.get? b=some o)->tn i h'
 item:∀(X:Cx),X.prog=P->X.w=w->X.K=K->X.calm=true->∀(i:Nat) (pins:List (Addr×Obj)) (s:Shared) (σ:St) (H:Hp) (E:Value->Shared->Prop),A4 X pins σ H s->(∀b∈fp,Ec X pins H b)->tn i s.heap->J.go i H->
  wpAny (model P w) X.A (pyNext (.ref it)) (fun r s1=>∃u,r=some u/\
   wpAny (model P w) X.A (letOwnedTupleGo tg (.ref it) u) (fun _ s2=>∃x H',A4 X pins σ H' s2/\Ay x u/\J.yld i H x H'/\tn (i+1) s2.heap/\∀b∈fp,H' b=none) E s1) E s
 done:∀(X:Cx),X.prog=P->X.w=w->X.K=K->X.calm=true->∀(i:Nat) (pins:List (Addr×Obj)) (s:Shared) (σ:St) (H:Hp) (E:Value->Shared->Prop),A4 X pins σ H s->(∀b∈fp,Ec X pins H b)->tn i s.heap->J.stop i H->
  wpAny (model P w) X.A (pyNext (.ref it)) (fun r s1=>r=none/\A4 X pins σ H s1) E s
 self:∀(A:Around) (i:Nat) (s:Shared) (Q:Value->Shared->Prop) (E:Value->Shared->Prop),tn i s.heap->Q (.ref it) s->wpAny (model P w) A (pyIter (.ref it)) Q E s
abbrev TI:=St->Hp->(It->Hp->Prop)->Prop
def O5 (X:Cx)(pins:List (Addr×Obj))(σ:St)(tg:Expr)(R:It->Hp->Prop)(itv:Value)(s2:Shared):Prop:=
 ∃(it:Addr) (fp:List Addr) (tn:Nat->Heap->Prop) (J:It) (H':Hp),itv = .ref it/\A4 X pins σ H' s2/\Gj X.prog X.w X.K tg J fp it tn/\tn 0 s2.heap/\(∀b∈fp,Ec X pins H' b)/\R J H'
def PI (X:Cx)(tg iter:Expr)(wi:TI):Prop:=
 ∀(pins:List (Addr×Obj)) (s:Shared) (σ:St) (H:Hp) (R:It->Hp->Prop),A4 X pins σ H s->wi σ H R->
  wpAny (model X.prog X.w) X.A (eval iter X.env) (fun v s1=>wpAny (model X.prog X.w) X.A (pyIter v) (O5 X pins σ tg R) X.xe s1) X.xe s
theorem JQ {M:Model}{A:Around}{E:Value->Shared->Prop}{s:Shared}{tg:Expr}{it:Addr}{u:Value}{o:Obj}{n:String}{vs:Array Value}{Q:Unit->Shared->Prop}(ho:s.heap.get? it=some o)(hc:o.cls = .type n)(hd:o.data = .fields vs)
  (hn:["enumerate","zip","dict_itemiterator","dict_reverseitemiterator","odict_iterator","itertools.zip_longest","itertools.pairwise"].contains n=false) (hQ:Q () s):wpAny M A (letOwnedTupleGo tg (.ref it) u) Q E s:=by
 unfold letOwnedTupleGo
 cases tg<;>first
  |exact C6 hQ
  |(cases u<;>first
   |exact C6 hQ
   |(
    refine B4 (wpAny_load ho ?_)
    rw[hc,hd]
    show wpAny M A (if(["enumerate","zip","dict_itemiterator","dict_reverseitemiterator","odict_iterator","itertools.zip_longest","itertools.pairwise"].contains n&&vs[0]?==some (rawInt _))=true then _ else _) Q E s
    rw[Ae (by intro h;rw[hn,Bool.false_and]at h;cases h)]
    exact C6 hQ))
def FM (K:Xa)(a:Addr):It:=
 ⟨fun i H=>∃xs x,A3 K H a xs/\xs[i]?=some x,fun i H x H'=>H'=H/\∀xs,A3 K H a xs->xs[i]?=some x,fun i H=>∃xs,A3 K H a xs/\xs.length<=i⟩
def Gr (K:Xa)(a:Addr):It:=
 ⟨fun i H=>∃xs x,Ah K H a xs/\xs[i]?=some x,fun i H x H'=>H'=H/\∀xs,Ah K H a xs->xs[i]?=some x,fun i H=>∃xs,Ah K H a xs/\xs.length<=i⟩
def FK (lo:Int)(n:Nat):It:=⟨fun i _=>i<n,fun i H x H'=>H'=H/\x = .int (lo+i),fun i _=>n<=i⟩
theorem P8 {P:Program}{w:World}{K:Xa}{tg:Expr}(a it:Addr):Gj P w K tg (FM K a) [it] it (fun i h=>h.IsListIter it a i) where
 mem:=by simp
 obj:=fun i h st b hb=>by
  have e:b=it:=by simpa using hb
  subst e
  obtain⟨o,e,c,d⟩:=st
  exact⟨o,e,fun v z=>by rw[d]at z;cases z⟩
 keep:=fun i h h' st k=>st.at fun o e=>k it (by simp) o e
 item:=by
  intro X hP hw hK hc i pins s σ H E I hf st hg
  subst hP hw hK
  obtain⟨xs,x,hq,hx⟩:=hg
  obtain⟨its,rv,p,hz⟩:=I.list hq
  obtain⟨u,hu,ru⟩:=rv.get hx
  obtain⟨f0,f1,f2,f3,f4,f5⟩:=hf it (by simp)
  refine wpAny_pyNext_list_item st p.isList (x:=u) (by simpa using hu) fun h' st' sb=>?_
  have I1:A4 X pins σ H {s with heap:=h'}:=I.turned (t':=s.toks) (fun b o hb e=>(sb.2 b hb).trans e) f0 f1 f3 f4 f5
  obtain⟨o,e,c,d⟩:=id st'
  exact⟨u,rfl,JQ (s:={s with heap:=h'}) e c d (by decide) ⟨x,H,I1,ru,⟨rfl,fun ys hy=>by rw[I.list_inj hy hq];exact hx⟩,st',fun b hb=>(hf b hb).1⟩⟩
 done:=by
  intro X hP hw hK hc i pins s σ H E I hf st hg
  subst hP hw hK
  obtain⟨xs,hq,hx⟩:=hg
  obtain⟨its,rv,p,hz⟩:=I.list hq
  obtain⟨f0,f1,f2,f3,f4,f5⟩:=hf it (by simp)
  have hl:=rv.length
  exact wpAny_pyNext_list_end (I.ok.hd hc) st p.isList (by simp;omega) fun h' eb=>⟨rfl,I.turned (t':=s.toks) (fun b o hb e=>eb b o hb e) f0 f1 f3 f4 f5⟩
 self:=fun _ _ _ _ _ st h=>wpAny_pyIter_listiter st h
theorem Ru {P:Program}{w:World}{K:Xa}{tg:Expr}(a it:Addr):Gj P w K tg (Gr K a) [it] it (fun i h=>h.IsTupleIter it a i) where
 mem:=by simp
 obj:=fun i h st b hb=>by
  have e:b=it:=by simpa using hb
  subst e
  obtain⟨o,e,c,d⟩:=st
  exact⟨o,e,fun v z=>by rw[d]at z;cases z⟩
 keep:=fun i h h' st k=>st.at fun o e=>k it (by simp) o e
 item:=by
  intro X hP hw hK hc i pins s σ H E I hf st hg
  subst hP hw hK
  obtain⟨xs,x,hq,hx⟩:=hg
  obtain⟨its,rv,p,hz⟩:=I.tuple hq
  obtain⟨u,hu,ru⟩:=rv.get hx
  obtain⟨f0,f1,f2,f3,f4,f5⟩:=hf it (by simp)
  refine wpAny_pyNext_tuple_item st (show s.heap.IsTuple a its.toArray from p) (x:=u) (by simpa using hu) fun h' st' sb=>?_
  have I1:A4 X pins σ H {s with heap:=h'}:=I.turned (t':=s.toks) (fun b o hb e=>(sb.2 b hb).trans e) f0 f1 f3 f4 f5
  obtain⟨o,e,c,d⟩:=id st'
  exact⟨u,rfl,JQ (s:={s with heap:=h'}) e c d (by decide) ⟨x,H,I1,ru,⟨rfl,fun ys hy=>by rw[I.tuple_inj hy hq];exact hx⟩,st',fun b hb=>(hf b hb).1⟩⟩
 done:=by
  intro X hP hw hK hc i pins s σ H E I hf st hg
  subst hP hw hK
  obtain⟨xs,hq,hx⟩:=hg
  obtain⟨its,rv,p,hz⟩:=I.tuple hq
  obtain⟨f0,f1,f2,f3,f4,f5⟩:=hf it (by simp)
  have hl:=rv.length
  exact wpAny_pyNext_tuple_end (I.ok.hd hc) st (show s.heap.IsTuple a its.toArray from p) (by simp;omega) fun h' eb=>⟨rfl,I.turned (t':=s.toks) (fun b o hb e=>eb b o hb e) f0 f1 f3 f4 f5⟩
 self:=fun _ _ _ _ _ st h=>wpAny_pyIter_tupleiter st h
theorem TM {P:Program}{w:World}{K:Xa}{tg:Expr}(it:Addr)(lo:Int)(n:Nat):Gj P w K tg (FK lo n) [it] it (fun i h=>IsRangeIter h it (lo+(i:Nat)*1) ((n:Int)-(i:Nat)) 1) where
 mem:=by simp
 obj:=fun i h st b hb=>by
  have e:b=it:=by simpa using hb
  subst e
  exact⟨_,st,fun v z=>by
   have z':Data.fields _=Data.cell v:=z
   cases z'⟩
 keep:=fun i h h' st k=>k it (by simp) _ st
 item:=by
  intro X hP hw hK hc i pins s σ H E I hf st hg
  subst hP hw hK
  obtain⟨f0,f1,f2,f3,f4,f5⟩:=hf it (by simp)
  have W:=Walks.range (prog:=X.prog) (w:=X.w) (I.ok.hd hc) it lo 1 n
  refine W.item i s _ _ hg st fun v h' tk hv st' kk=>?_
  obtain⟨t,rfl⟩:=hv
  have I1:A4 X pins σ H {s with heap:=h',toks:=tk}:=I.turned (fun b o hb e=>kk b o (by simpa using hb) e) f0 f1 f3 f4 f5
  refine⟨_,rfl,JQ (s:={s with heap:=h',toks:=tk}) (n:="range_iterator") st' rfl rfl (by decide) ⟨.int (lo+i),H,I1,⟨t,?_⟩,⟨rfl,rfl⟩,st',fun b hb=>(hf b hb).1⟩⟩
  rw[Int.mul_one]
 done:=by
  intro X hP hw hK hc i pins s σ H E I hf st hg
  subst hP hw hK
  obtain⟨f0,f1,f2,f3,f4,f5⟩:=hf it (by simp)
  exact wpAny_pyNext_range_end (I.ok.hd hc) st (by have:n<=i:=hg;omega) fun h' eb=>⟨rfl,I.turned (t':=s.toks) (fun b o hb e=>eb b o hb e) f0 f1 f3 f4 f5⟩
 self:=fun _ _ _ _ _ st h=>wpAny_pyIter_rangeiter st h
section
variable {X:Cx}{tg:Expr}
def UJ (K:Xa)(tl:TE):TI:=fun σ H R=>tl σ H fun x H1=>∃a,x = .ref a/\(∃xs,A3 K H1 a xs)/\R (FM K a) H1
def Uj (K:Xa)(tl:TE):TI:=fun σ H R=>tl σ H fun x H1=>∃a,x = .ref a/\(∃xs,Ah K H1 a xs)/\R (Gr K a) H1
theorem DC {l:Expr}{tl:TE}(hl:PE X l tl):PI X tg l (UJ X.K tl):=by
 intro pins s σ H R I h
 refine As (hl pins s σ H _ I h) fun v s1 zz=>?_
 obtain⟨x,H1,I1,r1,q1⟩:=zz
 obtain⟨a,e,⟨xs,hq⟩,q⟩:=q1
 subst e
 cases r1
 obtain⟨its,rv,p,hz⟩:=I1.list hq
 refine Kc p.isList ?_
 refine⟨s1.heap.objs.size,[s1.heap.objs.size],_,_,H1,rfl,I1.kept (t':=s1.toks) fun b o e=>BR _ e,P8 a _,⟨_,D7 _ rfl,rfl,rfl⟩,fun b hb=>?_,q⟩
 have e:b=s1.heap.objs.size:=by simpa using hb
 subst e
 exact I1.fpOk (Ai _) (I1.hok.fresh (Ai _))
theorem GZ {l:Expr}{tl:TE}(hl:PE X l tl):PI X tg l (Uj X.K tl):=by
 intro pins s σ H R I h
 refine As (hl pins s σ H _ I h) fun v s1 zz=>?_
 obtain⟨x,H1,I1,r1,q1⟩:=zz
 obtain⟨a,e,⟨xs,hq⟩,q⟩:=q1
 subst e
 cases r1
 obtain⟨its,rv,p,hz⟩:=I1.tuple hq
 refine wpAny_pyIter_tuple (show s1.heap.IsTuple a its.toArray from p) ?_
 refine⟨s1.heap.objs.size,[s1.heap.objs.size],_,_,H1,rfl,I1.kept (t':=s1.toks) fun b o e=>BR _ e,Ru a _,⟨_,D7 _ rfl,rfl,rfl⟩,fun b hb=>?_,q⟩
 have e:b=s1.heap.objs.size:=by simpa using hb
 subst e
 exact I1.fpOk (Ai _) (I1.hok.fresh (Ai _))
theorem Su {pins:List (Addr×Obj)}{σ:St}{H:Hp}{s:Shared}{R:It->Hp->Prop}{E:Value->Shared->Prop}{lo hi:Int}{t u v:Tok}{tk:Nat}(I:A4 X pins σ H s)(h1 : -(2 ^ 62)<=lo)(h2:lo<2 ^ 62)(h3 : -(2 ^ 62)<=hi)(h4:hi<2 ^ 62)
  (q:R (FK lo (hi-lo).toNat) H):wpAny (model X.prog X.w) X.A (pyIter (.ref s.heap.objs.size)) (O5 X pins σ tg R) E {s with heap:=s.heap.push {cls:=.type "range",data:=.fields #[.int lo t,.int hi u,.int 1 v]},toks:=tk}:=by
 refine wpAny_pyIter_range (IsRange.new ..) (small_one h1 h2 h3 h4) ?_
 have I1:A4 X pins σ H {s with heap:=s.heap.push {cls:=.type "range",data:=.fields #[.int lo t,.int hi u,.int 1 v]},toks:=tk}:=I.kept fun b o e=>BR _ e
 refine⟨(s.heap.push {cls:=.type "range",data:=.fields #[.int lo t,.int hi u,.int 1 v]}).objs.size,[(s.heap.push {cls:=.type "range",data:=.fields #[.int lo t,.int hi u,.int 1 v]}).objs.size],_,_,H,rfl,
  I1.kept (t':=tk) fun b o e=>BR _ e,TM _ lo (hi-lo).toNat,?_,fun b hb=>?_,q⟩
 .have e1:lo+((0:Nat):Int)*1=lo:=by simp
  have e2:(((hi-lo).toNat:Nat):Int)-((0:Nat):Int)=Builtin.Range.rangeSize lo hi 1:=by rw[rangeSize_one];split<;>omega
  show IsRangeIter _ _ (lo+((0:Nat):Int)*1) ((((hi-lo).toNat:Nat):Int)-((0:Nat):Int)) 1
  rw[e1,e2]
  exact D7 _ rfl
 .have e:b=(s.heap.push {cls:=.type "range",data:=.fields #[.int lo t,.int hi u,.int 1 v]}).objs.size:=by simpa using hb
  subst e
  exact I1.fpOk (Ai _) (I1.hok.fresh (Ai _))
def Sm (ta:TA):TI:=fun σ H R=>ta σ H fun vs H1=>∃j:Int,vs=[.int j]/\-(2 ^ 62)<=j/\j<2 ^ 62/\R (FK 0 j.toNat) H1
theorem Hj {a:Expr}{ta:TA}{p pos:Pos}(hg:Gl X "range")(hm:X.mg "range"=none)(ha:PA X [a] ta)(hs:starEach [a] X.env=[(false,eval a X.env)]:=by rfl):PI X tg (.Call (.Name "range" p) [a] [] pos) (Sm ta):=by
 intro pins s σ H R I h
 refine Call_ (Ha I hg hm boot_range (W0 (As (ha pos pins s σ H _ I h) fun us s1 zz=>?_) hs rfl))
 obtain⟨vs,H1,I1,r1,q1⟩:=zz
 obtain⟨j,e,q1,q2,q⟩:=q1
 subst e
 cases r1 with
 |
  cons r rr=>
  cases rr
  obtain⟨t,rfl⟩:=r
  exact call_range_1 (Su I1 (by omega) (by omega) q1 q2 (by simpa using q))
def UN (wi:TI)(g:TG)(tb:TS):TS:=fun D σ H=>wi σ H fun J H1=>∃W:Nat->Nat->St->Hp->Prop,(∃m,W 0 m σ H1)/\∀i m σ H,W i m σ H->
 (J.stop i H/\D.nx σ H)\/(J.go i H/\∃N:St->Hp->Prop,(∀σ' H',N σ' H'->∃m',m'<m/\W (i+1) m' σ' H')/\∀x H',J.yld i H x H'->g x σ H' fun σ2 H2=>tb {D with nx:=N,ct:=N,bk:=D.nx} σ2 H2)
def GK (fp:List Addr)(h:Heap):List (Addr×Obj):=fp.filterMap fun b=>(h.get? b).map fun o=>(b,o)
theorem Hx {fp:List Addr}{h:Heap}{b:Addr}{o:Obj}(hb:b∈fp)(e:h.get? b=some o):(b,o)∈GK fp h:=List.mem_filterMap.mpr ⟨b,hb,by rw[e];rfl⟩
theorem P1 {fp:List Addr}{h:Heap}{p:Addr×Obj}(hp:p∈GK fp h):p.1∈fp/\h.get? p.1=some p.2:=by
 obtain⟨b,hb,e⟩:=List.mem_filterMap.mp hp
 cases q:h.get? b with
 |none=>rw[q]at e;cases e
 |
  some o=>
  rw[q]at e
  have e':(b,o)=p:=BP e
  subst e'
  exact⟨hb,q⟩
theorem A4.pinned {pins:List (Addr×Obj)}{σ:St}{H:Hp}{s:Shared}{fp:List Addr}(I:A4 X pins σ H s)(hf:∀b∈fp,Ec X pins H b)(ho:∀b∈fp,∃o,s.heap.get? b=some o/\∀v,o.data≠.cell v):A4 X (pins++GK fp s.heap) σ H s:=
 I.pins_of fun p hp=>(Bj.mp hp).elim (fun z=>I.pin p (CC _ z)) fun z=>by
  obtain⟨hb,e⟩:=P1 z
  obtain⟨f0,f1,f2,_⟩:=hf p.1 hb
  obtain⟨o,e',d⟩:=ho p.1 hb
  rw[e]at e';cases e'
  exact⟨e,f0,f1,f2,d⟩
theorem A4.unpinned {pins pl:List (Addr×Obj)}{σ:St}{H:Hp}{s:Shared}(I:A4 X (pins++pl) σ H s):A4 X pins σ H s:=I.pins_of fun p hp=>I.pin p (CC _ (HX _ hp))
theorem EH {iter:Expr}{body:List Stmt}{wi:TI}{g:TG}{tb:TS}{pos:Pos}(hp:PassesOwn (model X.prog X.w) X.A X.env X.xe)(hc:X.calm=true)(hi:PI X tg iter wi)(hg:PG X tg g)(hb:DB X body tb)
  (hs:∀x,foldedSetIterable iter X.env x=pure x:=by intro _;rfl):PS X (.For tg iter body [] pos) (UN wi g tb):=by
 intro pins s σ H D I h
 refine wpAny_For (As (hi pins s σ H _ I h) fun v s1 h1=>As h1 fun itv s2 h2=>?_) hs
 obtain⟨it,fp,tn,J,H2,e,I2,T,st2,f2,W,⟨m0,w0⟩,turn⟩:=h2
 subst e
 have stat:∀{H':Hp},(∀b∈fp,H' b=none)->∀b∈fp,Ec X pins H' b:=fun hn b hb=>⟨hn b hb,(f2 b hb).2⟩
 refine codeAny_forLoop_any (fun n s'=>∃i σ' H',A4 X pins σ' H' s'/\tn i s'.heap/\(∀b∈fp,H' b=none)/\W i n σ' H') ?_ m0 ⟨0,σ,H2,I2,st2,fun b hb=>(f2 b hb).1,w0⟩
 rintro n s3 ⟨i,σ3,H3,I3,st3,fr3,w3⟩
 rcases turn i n σ3 H3 w3 with⟨stop,qn⟩|⟨go,N,hN,step⟩
 .refine GT hp (As (T.done X rfl rfl rfl hc i pins s3 σ3 H3 X.xe I3 (stat fr3) st3 stop) fun r s4 zz=>?_)
  obtain⟨hr,I4⟩:=zz
  subst hr
  exact Ka ⟨σ3,H3,I4,qn⟩
 .refine GT hp (As (T.item X rfl rfl rfl hc i pins s3 σ3 H3 X.xe I3 (stat fr3) st3 go) fun r s4 zz=>?_)
  obtain⟨u,hr,h4⟩:=zz
  subst hr
  refine GT hp (As h4 fun _ s5 zz=>?_)
  obtain⟨x,H5,I5,r5,y5,st5,fr5⟩:=zz
  have I5':=I5.pinned (stat fr5) (T.obj _ _ st5)
  refine GT hp (As (hg _ s5 σ3 H5 x u _ I5' r5 (step x H5 y5)) fun _ s6 zz=>?_)
  obtain⟨σ6,H6,I6,q6⟩:=zz
  refine GT hp (As (hb _ s6 σ6 H6 _ I6 q6) fun f s7 q7=>?_)
  have again:∀{σ7:St} {H7:Hp},A4 X (pins++GK fp s5.heap) σ7 H7 s7->N σ7 H7->∃m,m<n/\∃i σ' H',A4 X pins σ' H' s7/\tn i s7.heap/\(∀b∈fp,H' b=none)/\W i m σ' H':=fun{σ7 H7} I7 n7=>by
   obtain⟨m',hm,w7⟩:=hN σ7 H7 n7
   refine⟨m',hm,i+1,σ7,H7,I7.unpinned,T.keep _ _ _ st5 fun b hb o e=>(I7.pin (b,o) (CC _ (CC _ (Hx hb e)))).1,fun b hb=>?_,w7⟩
   obtain⟨o,e,d⟩:=T.obj _ _ st5 b hb
   exact(I7.pin (b,o) (CC _ (CC _ (Hx hb e)))).2.1
  cases f with
  |next=>obtain⟨σ7,H7,I7,n7⟩:=q7;exact again I7 n7
  |cont=>obtain⟨σ7,H7,I7,n7⟩:=q7;exact again I7 n7
  |brk=>obtain⟨σ7,H7,I7,q7⟩:=q7;exact⟨σ7,H7,I7.unpinned,q7⟩
  |ret v=>obtain⟨x7,σ7,H7,I7,r7,q7⟩:=q7;exact⟨x7,σ7,H7,I7.unpinned,r7,q7⟩
end
theorem HF {K:Xa}{a:Addr}{xs:List V}{g:TG}{tb:TS}{D:D9}{σ:St}{H:Hp}(Pv:Nat->St->Hp->Prop)(h0:Pv 0 σ H)(hl:∀i σ H,i<=xs.length->Pv i σ H->A3 K H a xs)
  (hs:∀i x σ H,xs[i]?=some x->Pv i σ H->g x σ H fun σ2 H2=>tb {D with nx:=Pv (i+1),ct:=Pv (i+1),bk:=D.nx} σ2 H2) (hd:∀σ H,Pv xs.length σ H->D.nx σ H) :
  ∃W:Nat->Nat->St->Hp->Prop,(∃m,W 0 m σ H)/\∀i m σ H,W i m σ H->
   ((FM K a).stop i H/\D.nx σ H)\/((FM K a).go i H/\∃N:St->Hp->Prop,(∀σ' H',N σ' H'->∃m',m'<m/\W (i+1) m' σ' H')/\∀x H',(FM K a).yld i H x H'->g x σ H' fun σ2 H2=>tb {D with nx:=N,ct:=N,bk:=D.nx} σ2 H2):=by
 refine⟨fun i m σ H=>m=xs.length-i/\i<=xs.length/\Pv i σ H,⟨xs.length,by simp,BC _,h0⟩,?_⟩
 rintro i m σ H ⟨rfl,hi,p⟩
 have q:=hl i σ H hi p
 by_cases hlt:i<xs.length
 .refine .inr ⟨⟨xs,xs[i],q,by simp[hlt]⟩,Pv (i+1),fun σ' H' p'=>⟨xs.length-(i+1),by omega,rfl,hlt,p'⟩,fun x H' y=>?_⟩
  obtain⟨e,y⟩:=y
  subst e
  exact hs i x σ _ (y xs q) p
 .have e:i=xs.length:=by omega
  subst e
  exact .inl ⟨⟨xs,q,Ai _⟩,hd σ H p⟩
theorem UE {K:Xa}{a:Addr}{xs:List V}{g:TG}{tb:TS}{D:D9}{σ:St}{H:Hp}(Pv:Nat->St->Hp->Prop)(h0:Pv 0 σ H)(hl:∀i σ H,i<=xs.length->Pv i σ H->Ah K H a xs)
  (hs:∀i x σ H,xs[i]?=some x->Pv i σ H->g x σ H fun σ2 H2=>tb {D with nx:=Pv (i+1),ct:=Pv (i+1),bk:=D.nx} σ2 H2) (hd:∀σ H,Pv xs.length σ H->D.nx σ H) :
  ∃W:Nat->Nat->St->Hp->Prop,(∃m,W 0 m σ H)/\∀i m σ H,W i m σ H->
   ((Gr K a).stop i H/\D.nx σ H)\/((Gr K a).go i H/\∃N:St->Hp->Prop,(∀σ' H',N σ' H'->∃m',m'<m/\W (i+1) m' σ' H')/\∀x H',(Gr K a).yld i H x H'->g x σ H' fun σ2 H2=>tb {D with nx:=N,ct:=N,bk:=D.nx} σ2 H2):=by
 refine⟨fun i m σ H=>m=xs.length-i/\i<=xs.length/\Pv i σ H,⟨xs.length,by simp,BC _,h0⟩,?_⟩
 rintro i m σ H ⟨rfl,hi,p⟩
 have q:=hl i σ H hi p
 by_cases hlt:i<xs.length
 .refine .inr ⟨⟨xs,xs[i],q,by simp[hlt]⟩,Pv (i+1),fun σ' H' p'=>⟨xs.length-(i+1),by omega,rfl,hlt,p'⟩,fun x H' y=>?_⟩
  obtain⟨e,y⟩:=y
  subst e
  exact hs i x σ _ (y xs q) p
 .have e:i=xs.length:=by omega
  subst e
  exact .inl ⟨⟨xs,q,Ai _⟩,hd σ H p⟩
theorem KA {lo:Int}{n:Nat}{g:TG}{tb:TS}{D:D9}{σ:St}{H:Hp}(Pv:Nat->St->Hp->Prop)(h0:Pv 0 σ H)
  (hs:∀i σ H,i<n->Pv i σ H->g (.int (lo+i)) σ H fun σ2 H2=>tb {D with nx:=Pv (i+1),ct:=Pv (i+1),bk:=D.nx} σ2 H2) (hd:∀σ H,Pv n σ H->D.nx σ H) :
  ∃W:Nat->Nat->St->Hp->Prop,(∃m,W 0 m σ H)/\∀i m σ H,W i m σ H->
   ((FK lo n).stop i H/\D.nx σ H)\/((FK lo n).go i H/\∃N:St->Hp->Prop,(∀σ' H',N σ' H'->∃m',m'<m/\W (i+1) m' σ' H')/\∀x H',(FK lo n).yld i H x H'->g x σ H' fun σ2 H2=>tb {D with nx:=N,ct:=N,bk:=D.nx} σ2 H2):=by
 refine⟨fun i m σ H=>m=n-i/\i<=n/\Pv i σ H,⟨n,by simp,BC _,h0⟩,?_⟩
 rintro i m σ H ⟨rfl,hi,p⟩
 by_cases hlt:i<n
 .refine .inr ⟨hlt,Pv (i+1),fun σ' H' p'=>⟨n-(i+1),by omega,rfl,hlt,p'⟩,fun x H' y=>?_⟩
  obtain⟨e,y⟩:=y
  subst e y
  exact hs i σ _ hlt p
 .have e:i=n:=by omega
  subst e
  exact .inl ⟨Ai _,hd σ H p⟩
abbrev R2:=V->V->Hp->VK->Prop
def Bq (X:Cx)(f:Value->Value->Sem Value)(r:R2):Prop:=
 ∀(pins:List (Addr×Obj)) (s:Shared) (σ:St) (H:Hp) (x y:V) (v u:Value) (Q:VK),A4 X pins σ H s->Ay x v->Ay y u->r x y H Q->
  wpAny (model X.prog X.w) X.A (f v u) (EP X pins σ Q) X.xe s
def Kj (X:Cx)(f:Value->Sem Value)(r:V->Hp->VK->Prop):Prop:=
 ∀(pins:List (Addr×Obj)) (s:Shared) (σ:St) (H:Hp) (x:V) (v:Value) (Q:VK),A4 X pins σ H s->Ay x v->r x H Q->
  wpAny (model X.prog X.w) X.A (f v) (EP X pins σ Q) X.xe s
def Eb (X:Cx)(f:Value)(r:List V->Hp->VK->Prop):Prop:=
 ∀(pins:List (Addr×Obj)) (s:Shared) (σ:St) (H:Hp) (xs:List V) (us:List Value) (Q:VK),A4 X pins σ H s->AA xs us->r xs H Q->
  wpAny (model X.prog X.w) X.A (call f us) (EP X pins σ Q) X.xe s
def EL (r:R2)(ta tb:TE):TE:=fun σ H Q=>ta σ H fun x H1=>tb σ H1 fun y H2=>r x y H2 Q
def Rl (r:V->Hp->VK->Prop)(ta:TE):TE:=fun σ H Q=>ta σ H fun x H1=>r x H1 Q
def rI (C:Int->Int->Prop)(g:Int->Int->V):R2:=fun x y H Q=>∃i j,x = .int i/\y = .int j/\C i j/\Q (g i j) H
def F8 (g:Int->Int->V):R2:=fun x y H Q=>∃i j,x = .int i/\y = .int j/\Q (g i j) H
def rU (g:Int->V):V->Hp->VK->Prop:=fun x H Q=>∃i,x = .int i/\Q (g i) H
section
variable {X:Cx}{a b c:Expr}{ta tb tc:TE}{pos:Pos}
theorem Kg (ha:PE X a ta)(hb:PE X b tb){pins:List (Addr×Obj)}{s:Shared}{σ:St}{H:Hp}{R:V->V->Hp->Prop}(I:A4 X pins σ H s)
  (h:ta σ H fun x H1=>tb σ H1 fun y H2=>R x y H2) {Q:Value->Shared->Prop} {f:Value->Value->Sem Value}
  (hf:∀v u s2 x y H2,A4 X pins σ H2 s2->Ay x v->Ay y u->R x y H2->wpAny (model X.prog X.w) X.A (f v u) Q X.xe s2) :
  wpAny (model X.prog X.w) X.A (eval a X.env) (fun v s₁=>wpAny (model X.prog X.w) X.A (eval b X.env) (fun u s₂=>wpAny (model X.prog X.w) X.A (f v u) Q X.xe s₂) X.xe s₁) X.xe s:=by
 refine As (ha pins s σ H _ I h) fun v s1 zz=>?_
 obtain⟨x,H1,I1,r1,q1⟩:=zz
 refine As (hb pins s1 σ H1 _ I1 q1) fun u s2 zz=>?_
 obtain⟨y,H2,I2,r2,q2⟩:=zz
 exact hf v u s2 x y H2 I2 r1 r2 q2
theorem Aa {op:Operator}{r:R2}(ho:Bq X (binaryOp op) r)(ha:PE X a ta)(hb:PE X b tb):PE X (.BinOp a op b pos) (EL r ta tb):=by
 intro pins s σ H Q I h
 exact wpAny_BinOp (Kg ha hb I h fun v u s2 x y H2 I2 rx ry q=>ho pins s2 σ H2 x y v u Q I2 rx ry q)
theorem CS {op:UnaryOp}{r:V->Hp->VK->Prop}(ho:Kj X (unaryOp op) r)(ha:PE X a ta):PE X (.UnaryOp op a pos) (Rl r ta):=by
 intro pins s σ H Q I h
 refine UnaryOp_ (As (ha pins s σ H _ I h) fun v s1 zz=>?_)
 obtain⟨x,H1,I1,r1,q1⟩:=zz
 exact ho pins s1 σ H1 x v Q I1 r1 q1
theorem J3 {f:Value->Value->Sem Value}{C:Int->Int->Prop}{g:Int->Int->Int}
  (rule:∀(i j:Int) (t u:Tok) (s:Shared) (Q:Value->Shared->Prop) (E:Value->Shared->Prop),C i j->Q (.int (g i j) s.toks) {s with toks:=s.toks+1}->wpAny (model X.prog X.w) X.A (f (.int i t) (.int j u)) Q E s) :
  Bq X f (rI C fun i j=>.int (g i j)):=by
 intro pins s σ H x y v u Q I rx ry h
 obtain⟨i,j,rfl,rfl,hc,q⟩:=h
 obtain⟨t,rfl⟩:=rx
 obtain⟨t',rfl⟩:=ry
 exact rule i j t t' s _ _ hc ⟨.int (g i j),H,I.tok _,⟨_,rfl⟩,q⟩
theorem M5 {f:Value->Value->Sem Value}{g:Int->Int->Int}
  (rule:∀(i j:Int) (t u:Tok) (s:Shared) (Q:Value->Shared->Prop) (E:Value->Shared->Prop),Q (.int (g i j) s.toks) {s with toks:=s.toks+1}->wpAny (model X.prog X.w) X.A (f (.int i t) (.int j u)) Q E s) :
  Bq X f (F8 fun i j=>.int (g i j)):=by
 intro pins s σ H x y v u Q I rx ry h
 obtain⟨i,j,rfl,rfl,q⟩:=h
 obtain⟨t,rfl⟩:=rx
 obtain⟨t',rfl⟩:=ry
 exact rule i j t t' s _ _ ⟨.int (g i j),H,I.tok _,⟨_,rfl⟩,q⟩
theorem Ij {f:Value->Value->Sem Value}{g:Int->Int->Bool}
  (rule:∀(i j:Int) (t u:Tok) (s:Shared) (Q:Value->Shared->Prop) (E:Value->Shared->Prop),Q (.bool (g i j)) s->wpAny (model X.prog X.w) X.A (f (.int i t) (.int j u)) Q E s) :
  Bq X f (F8 fun i j=>.bl (g i j)):=by
 intro pins s σ H x y v u Q I rx ry h
 obtain⟨i,j,rfl,rfl,q⟩:=h
 obtain⟨t,rfl⟩:=rx
 obtain⟨t',rfl⟩:=ry
 exact rule i j t t' s _ _ ⟨.bl (g i j),H,I,rfl,q⟩
def QO (i j:Int):Prop:=0<j/\j<1073741824
def OX (i j:Int):Prop:=0<=j/\j<=1000000/\i.natAbs<2 ^ 64
def Ko (i j:Int):Prop:=(-(2 ^ 64)<i/\i<2 ^ 64)\/(-(2 ^ 64)<j/\j<2 ^ 64)
theorem Ko.ok {i j:Int}(h:Ko i j):IntMulOk i j:=by
 rcases h with⟨h1,h2⟩|⟨h1,h2⟩
 .exact .of_left (intBits_le_64 h1 h2)
 .exact .of_right (intBits_le_64 h1 h2)
theorem C1:Bq X (binaryOp .Add) (F8 fun i j=>.int (i+j)):=M5 fun _ _ _ _ _ _ _ q=>add_int q
theorem Fq:Bq X (binaryOp .Sub) (F8 fun i j=>.int (i-j)):=M5 fun _ _ _ _ _ _ _ q=>sub_int q
theorem FD:Bq X (binaryOp .Mult) (rI Ko fun i j=>.int (i*j)):=J3 fun _ _ _ _ _ _ _ hc q=>mul_int q hc.ok
theorem Cw:Bq X (binaryOp .FloorDiv) (rI QO fun i j=>.int (i/j)):=J3 fun i j _ _ _ _ _ hc q=>by
 have h1:(0:Int)<j:=hc.1
 have h2:j<1073741824:=hc.2
 exact floordiv_int (by omega) (by rw[Int.fdiv_eq_ediv_of_nonneg i (by omega)];exact q) (.inl (PyProof.noPylong_small (by omega)))
theorem Bf:Bq X (binaryOp .Mod) (rI (fun _ j=>0<j) fun i j=>.int (i%j)):=J3 fun i j _ _ _ _ _ hc q=>by
 have h1:(0:Int)<j:=hc
 exact mod_int' (by omega) (by rw[Int.fmod_eq_emod_of_nonneg i (by omega)];exact q)
theorem Lq:Bq X (binaryOp .Pow) (rI OX fun i j=>.int (i ^ j.toNat)):=J3 fun _ _ _ _ _ _ _ hc q=>pow_int_small hc.1 hc.2.1 hc.2.2 q
theorem TR {f:Value->Sem Value}{g:Int->Int}
  (rule:∀(i:Int) (t:Tok) (s:Shared) (Q:Value->Shared->Prop) (E:Value->Shared->Prop),Q (.int (g i) s.toks) {s with toks:=s.toks+1}->wpAny (model X.prog X.w) X.A (f (.int i t)) Q E s) :
  Kj X f (rU fun i=>.int (g i)):=by
 intro pins s σ H x v Q I rx h
 obtain⟨i,rfl,q⟩:=h
 obtain⟨t,rfl⟩:=rx
 exact rule i t s _ _ ⟨.int (g i),H,I.tok _,⟨_,rfl⟩,q⟩
theorem CW:Kj X (unaryOp .USub) (rU fun i=>.int (-i)):=TR fun _ _ _ _ _ q=>neg_int q
end
def Mm:V->V->Bool
 |.non,.non=>true|.non,.int _=>true|.int _,.non=>true|.non,.bl _=>true|.bl _,.non=>true|.non,.str _=>true|.str _,.non=>true
 |.int _,.int _=>true|.bl _,.bl _=>true|.str _,.str _=>true|.byt _,.byt _=>true
 |.int _,.str _=>true|.str _,.int _=>true|.bl _,.str _=>true|.str _,.bl _=>true
 |_,_=>false
def Mq:R2:=fun x y H Q=>Mm x y=true/\Q (.bl (decide (x=y))) H
def O2:R2:=fun x y H Q=>Mm x y=true/\Q (.bl (!decide (x=y))) H
theorem M0 {i j:Int}:decide (V.int i=V.int j)=(i==j):=by
 rw[E4]
 simp
theorem Mz {i j:Bool}:decide (V.bl i=V.bl j)=(i==j):=by
 rw[E4]
 simp
theorem O1 {i j:Str}:decide (V.str i=V.str j)=(i==j):=by
 rw[E4]
 simp
theorem MG {i j:Array UInt8}:decide (V.byt i=V.byt j)=(i.toList==j.toList):=by
 rw[E4]
 cases i
 cases j
 simp
section
variable {X:Cx}{a b c:Expr}{ta tb tc:TE}{pos:Pos}
theorem BB {pins:List (Addr×Obj)}{σ:St}{H:Hp}{s:Shared}{Q:VK}{k k':Bool}(I:A4 X pins σ H s)(q:Q (.bl k) H)(e:k=k'):EP X pins σ Q (.bool k') s:=by
 subst e
 exact⟨.bl k,H,I,rfl,q⟩
theorem Bk:Bq X (compareOp .Eq) Mq:=by
 intro pins s σ H x y v u Q I rx ry h
 obtain⟨hs,q⟩:=h
 cases x with
 |
  non=>
  cases rx
  cases y with
  |non=>cases ry;exact PySem.EqNone.eq_none_none (BB I q (by simp))
  |bl j=>cases ry;exact PySem.EqNone.eq_none_bool (BB I q (by simp))
  |int j=>obtain⟨t',rfl⟩:=ry;exact PySem.EqNone.eq_none_int (BB I q (by simp))
  |str j=>obtain⟨t',rfl⟩:=ry;exact PySem.EqNone.eq_none_str (BB I q (by simp))
  |_=>exact absurd (show false=true from hs) BQ
 |
  bl i=>
  cases rx
  cases y with
  |non=>cases ry;exact PySem.EqNone.eq_bool_none (BB I q (by simp))
  |bl j=>cases ry;exact eq_bool (BB I q Mz)
  |str j=>obtain⟨t',rfl⟩:=ry;exact PySem.EqMixed.eq_bool_str (BB I q (by simp))
  |_=>exact absurd (show false=true from hs) BQ
 |
  int i=>
  obtain⟨t,rfl⟩:=rx
  cases y with
  |non=>cases ry;exact PySem.EqNone.eq_int_none (BB I q (by simp))
  |int j=>obtain⟨t',rfl⟩:=ry;exact eq_int (BB I q M0)
  |str j=>obtain⟨t',rfl⟩:=ry;exact PySem.EqMixed.eq_int_str (BB I q (by simp))
  |_=>exact absurd (show false=true from hs) BQ
 |
  str i=>
  obtain⟨t,rfl⟩:=rx
  cases y with
  |non=>cases ry;exact PySem.EqNone.eq_str_none (BB I q (by simp))
  |bl j=>cases ry;exact PySem.EqMixed.eq_str_bool (BB I q (by simp))
  |int j=>obtain⟨t',rfl⟩:=ry;exact PySem.EqMixed.eq_str_int (BB I q (by simp))
  |str j=>obtain⟨t',rfl⟩:=ry;exact eq_str (BB I q O1)
  |_=>exact absurd (show false=true from hs) BQ
 |
  byt i=>
  obtain⟨t,rfl⟩:=rx
  cases y with
  |byt j=>obtain⟨t',rfl⟩:=ry;exact PySem.W.eq_bytes (BB I q MG)
  |_=>exact absurd (show false=true from hs) BQ
 |_=>cases y<;>exact absurd (show false=true from hs) BQ
theorem D3:Bq X (compareOp .NotEq) O2:=by
 intro pins s σ H x y v u Q I rx ry h
 obtain⟨hs,q⟩:=h
 cases x with
 |
  non=>
  cases rx
  cases y with
  |non=>cases ry;exact PySem.EqNone.ne_none_none (BB I q (by simp))
  |bl j=>cases ry;exact PySem.EqNone.ne_none_bool (BB I q (by simp))
  |int j=>obtain⟨t',rfl⟩:=ry;exact PySem.EqNone.ne_none_int (BB I q (by simp))
  |str j=>obtain⟨t',rfl⟩:=ry;exact PySem.EqNone.ne_none_str (BB I q (by simp))
  |_=>exact absurd (show false=true from hs) BQ
 |
  bl i=>
  cases rx
  cases y with
  |non=>cases ry;exact PySem.EqNone.ne_bool_none (BB I q (by simp))
  |bl j=>cases ry;exact ne_bool (BB I q (congrArg not Mz))
  |str j=>obtain⟨t',rfl⟩:=ry;exact PySem.EqMixed.ne_bool_str (BB I q (by simp))
  |_=>exact absurd (show false=true from hs) BQ
 |
  int i=>
  obtain⟨t,rfl⟩:=rx
  cases y with
  |non=>cases ry;exact PySem.EqNone.ne_int_none (BB I q (by simp))
  |int j=>obtain⟨t',rfl⟩:=ry;exact ne_int (BB I q (congrArg not M0))
  |str j=>obtain⟨t',rfl⟩:=ry;exact PySem.EqMixed.ne_int_str (BB I q (by simp))
  |_=>exact absurd (show false=true from hs) BQ
 |
  str i=>
  obtain⟨t,rfl⟩:=rx
  cases y with
  |non=>cases ry;exact PySem.EqNone.ne_str_none (BB I q (by simp))
  |bl j=>cases ry;exact PySem.EqMixed.ne_str_bool (BB I q (by simp))
  |int j=>obtain⟨t',rfl⟩:=ry;exact PySem.EqMixed.ne_str_int (BB I q (by simp))
  |str j=>obtain⟨t',rfl⟩:=ry;exact ne_str (BB I q (congrArg not O1))
  |_=>exact absurd (show false=true from hs) BQ
 |
  byt i=>
  obtain⟨t,rfl⟩:=rx
  cases y with
  |byt j=>obtain⟨t',rfl⟩:=ry;exact PySem.W.ne_bytes (BB I q (congrArg not MG))
  |_=>exact absurd (show false=true from hs) BQ
 |_=>cases y<;>exact absurd (show false=true from hs) BQ
theorem Eu:Bq X (compareOp .Lt) (F8 fun i j=>.bl (decide (i<j))):=Ij fun _ _ _ _ _ _ _ q=>lt_int q
theorem Pn:Bq X (compareOp .LtE) (F8 fun i j=>.bl (decide (i<=j))):=Ij fun _ _ _ _ _ _ _ q=>le_int q
theorem Ft:Bq X (compareOp .Gt) (F8 fun i j=>.bl (decide (j<i))):=Ij fun _ _ _ _ _ _ _ q=>gt_int q
theorem Vu:Bq X (compareOp .GtE) (F8 fun i j=>.bl (decide (j<=i))):=Ij fun _ _ _ _ _ _ _ q=>ge_int q
theorem J4:Bq X (compareOp .In) (fun x y H Q=>∃i j,x = .str i/\y = .str j/\Q (.bl (!(Builtin.Str.occurrences j i 0 j.length 1).isEmpty)) H):=by
 intro pins s σ H x y v u Q I rx ry h
 obtain⟨i,j,rfl,rfl,q⟩:=h
 obtain⟨t,rfl⟩:=rx
 obtain⟨t',rfl⟩:=ry
 exact in_str (BB I q rfl)
theorem Ey:Bq X (compareOp .Is) (fun x y H Q=>y = .non/\Q (.bl (decide (x = .non))) H):=by
 intro pins s σ H x y v u Q I rx ry h
 obtain⟨rfl,q⟩:=h
 cases ry
 refine is_none_gen (BB I q ?_)
 cases x<;>first
  |(cases rx;rfl)
  |(obtain⟨t,rfl⟩:=rx;rfl)
theorem KB:Bq X (compareOp .IsNot) (fun x y H Q=>y = .non/\Q (.bl (!decide (x = .non))) H):=by
 intro pins s σ H x y v u Q I rx ry h
 obtain⟨rfl,q⟩:=h
 cases ry
 refine isnot_none_gen (BB I q ?_)
 cases x<;>first
  |(cases rx;rfl)
  |(obtain⟨t,rfl⟩:=rx;rfl)
theorem Am (b:Expr){op:CmpOp}(h:op≠.In:=by decide)(h2:op≠.NotIn:=by decide):behindInMarks op b=false:=by
 have e1:(op==CmpOp.In)=false:=by cases op<;>first|rfl|exact absurd rfl h
 have e2:(op==CmpOp.NotIn)=false:=by cases op<;>first|rfl|exact absurd rfl h2
 cases b<;>simp[behindInMarks,e1,e2]
theorem DI {op:CmpOp}{r:R2}(ho:Bq X (compareOp op) r)(ha:PE X a ta)(hb:PE X b tb)(hm:behindInMarks op b=false):PE X (.Compare a [op] [b] pos) (EL r ta tb):=by
 intro pins s σ H Q I h
 exact wpAny_Compare1 (Kg ha hb I h fun v u s2 x y H2 I2 rx ry q=>ho pins s2 σ H2 x y v u Q I2 rx ry q) hm
def Me (t:TE):TT:=fun σ H Q=>t σ H fun x H'=>∃k,x = .bl k/\Q k H'
theorem An {op:CmpOp}{r:R2}(ho:Bq X (compareOp op) r)(ha:PE X a ta)(hb:PE X b tb)(hm:behindInMarks op b=false):PT X (.Compare a [op] [b] pos) (Me (EL r ta tb)):=by
 intro pins s σ H Q I h
 refine wpAny_isTrue_Compare1 (As (ha pins s σ H _ I h) fun v s1 ⟨x,H1,I1,r1,q1⟩=>As (hb pins s1 σ H1 _ I1 q1) fun u s2 ⟨y,H2,I2,r2,q2⟩=>
  As (ho pins s2 σ H2 x y v u _ I2 r1 r2 q2) fun c s3 ⟨z,H3,I3,r3,k,e,q3⟩=>?_) hm
 subst e
 cases r3
 exact GS ⟨H3,I3,q3⟩
theorem FW:(sizeLine:Nat)<2 ^ 63:=by rw[Ic];decide
theorem BG:Bq X (binaryOp .Add) (fun x y H Q=>∃i j,x = .str i/\y = .str j/\i.length+j.length<=sizeLine/\Q (.str (i++j)) H):=by
 intro pins s σ H x y v u Q I rx ry h
 obtain⟨i,j,rfl,rfl,hz,q⟩:=h
 obtain⟨t,rfl⟩:=rx
 obtain⟨t',rfl⟩:=ry
 exact add_str (fun t' tk=>⟨.str (i++j),H,I.tok _,⟨_,rfl⟩,q⟩) hz
theorem EK {x:V}{us:List Value}(r:AA [x] us):∃u,us=[u]/\Ay x u:=by
 cases r with
 |cons r1 r2=>cases r2;exact⟨_,rfl,r1⟩
theorem Nj:Eb X (.builtin "abs") (fun xs H Q=>∃i,xs=[.int i]/\Q (.int (if i<0 then -i else i)) H):=by
 intro pins s σ H xs us Q I r h
 obtain⟨i,rfl,q⟩:=h
 obtain⟨u,rfl,t,rfl⟩:=EK r
 exact call_abs_int fun u tk=>⟨.int (if i<0 then -i else i),H,I.tok _,⟨_,rfl⟩,q⟩
theorem NI:Eb X (.type "int") (fun xs H Q=>(∃i,xs=[.int i]/\Q (.int i) H)\/∃k,xs=[.bl k]/\Q (.int (if k then 1 else 0)) H):=by
 intro pins s σ H xs us Q I r h
 rcases h with⟨i,rfl,q⟩|⟨k,rfl,q⟩
 .obtain⟨u,rfl,t,rfl⟩:=EK r
  exact call_int_int ⟨.int i,H,I,⟨_,rfl⟩,q⟩
 .obtain⟨u,rfl,r1⟩:=EK r
  cases r1
  exact call_int_bool ⟨.int (if k then 1 else 0),H,I.tok _,⟨_,rfl⟩,q⟩
theorem Js:Eb X (.type "str") (fun xs H Q=>∃i,xs=[.int i]/\i.natAbs.log2<1920/\Q (.str (toString i)) H):=by
 intro pins s σ H xs us Q I r h
 obtain⟨i,rfl,hz,q⟩:=h
 obtain⟨u,rfl,t,rfl⟩:=EK r
 exact PySem.P.str_of_int hz ⟨.str _,H,I.tok _,⟨_,rfl⟩,q⟩
end
structure Gy (h:Heap)(x dx C:Addr)(mA:Str->Option Value):Prop where
 obj:h.get? x=some (PySem.W.instObj C dx)
 ns:h.Ns1 dx mA
 ne:dx≠x
theorem P5 {h:Heap}{dx:Addr}{mA:Str->Option Value}(n:h.Ns1 dx mA):∃od,h.get? dx=some od/\∀name,PySem.W.lookIn name od=some (mA name):=by
 obtain⟨o,es,ep,ho,hd,hk,_,hm⟩:=n
 refine⟨o,ho,fun name=>?_⟩
 have e:=hm name
 unfold nsFind findBy at e
 rw[←Array.find?_toList]at e
 unfold PySem.W.lookIn
 rw[hd]
 dsimp only
 split
 .rename_i y q
  rw[q]at e
  exact congrArg some e
 .rename_i q
  rw[q]at e
  have a:es.toList.any (·.refKey)=false:=by
   rw[List.any_eq_false]
   intro y hy
   obtain⟨z,t,hkey⟩:=hk y (OC.mp hy)
   simp[DictEntry.refKey,hkey]
  have a':¬es.toList.any (·.refKey)=true:=by rw[a];exact BQ
  rw[Ae a']
  exact congrArg some e
theorem Gy.look {h:Heap}{x dx C:Addr}{mA:Str->Option Value}(I:Gy h x dx C mA):∃od,PySem.W.InstAt h x (PySem.W.instObj C dx) C (some od)/\∀name,PySem.W.lookIn name od=some (mA name):=
 let ⟨od,ho,hl⟩:=P5 I.ns
 ⟨od,⟨I.obj,rfl,rfl,ho⟩,hl⟩
section
variable {prog:Program}{w:World}{A:Around}{E:Value->Shared->Prop}{s:Shared}{K:Xa}{x dx C f:Addr}{mA:Str->Option Value}{name:Str}{v:Value}
theorem Sz {expr:Bool}{Q:Value->Shared->Prop}(X:K.In s.heap)(I:Gy s.heap x dx C mA)(hg:PySem.W.plainGet K C name=true)(hh:PySem.W.hasDictIn K C=true)
  (ha:PySem.W.findIn K (.ref C) name=some none) (hv:mA name=some v) (hv':PySem.W.handedIn v=true) (h:Q v {s with toks:=s.toks+1}) :
  wpAny (model prog w) A (getAttr (.ref x) name expr) Q E s:=by
 obtain⟨od,J,hl⟩:=I.look
 exact PySem.W.get_value X J (PySem.W.plainGet_of hg).1 (PySem.W.findObj_own hh ha rfl (by rw[hl,hv])) hv' h
theorem Rf {ns:List Str}{Q:Unit->Shared->Prop}(X:K.In s.heap)(I:Gy s.heap x dx C mA)
  (hs:PySem.W.findIn K (.ref C) "__setattr__"=some (some (.builtin "object.__setattr__"))) (hp:PySem.W.plainOver K C=true) (ht:PySem.W.takerIn K C name=some none) (hh:PySem.W.hasDictIn K C=true)
  (hw:PySem.Within mA ns) (hsz:ns.length<=sizeLine)
  (h:∀h',Gy h' x dx C (fun y=>if y=name then some v else mA y)->Heap.SameBut dx s.heap h'->Q () {s with heap:=h',toks:=s.toks+2}) :
  wpAny (model prog w) A (setAttr (.ref x) name v) Q E s:=by
 obtain⟨od,J,hl⟩:=I.look
 refine PySem.W.set_plain X J hs (PySem.W.osa_open (s:={s with toks:=s.toks+1}) (r:=none) X J hp ht fun b=>?_)
 obtain⟨cd,hc,hd'⟩:=PySem.W.any_some hh
 have hx:s.heap.get? x=some ⟨.ref C,some dx,.plain,#[]⟩:=I.obj
 refine B4 (C6 (B4 (B4 (wpAny_loadPart hx (B4 (PySem.W.Looks.here (s:={s with toks:=s.toks+1}) (PySem.W.looks_clsIn X hc) ?_))))))
 rw[hd']
 refine C6 (a:=some dx) (B4 (C6 (B4 ?_)))
 refine wpAny_nsSet1 (s:={s with toks:=s.toks+1}) I.ns fun h' hn2 hs2=>?_
 obtain⟨oD,esD,epD,hoD,hdD,hcD⟩:=hn2.count (PySem.Within.cons name v hw)
 refine B4 (wpAny_lookBehind hoD (by rw[hdD];exact pastItsLine_dict (C5 hcD (by rw[AW];omega))) ?_)
 exact C6 (h _ ⟨(hs2.2 _ (Ne.symm I.ne)).trans I.obj,hn2,I.ne⟩ hs2)
theorem Sn {R:Result->Shared->Prop}{vs:List Value}{kw:List (Str×Value)}(X:K.In s.heap)(hm:PySem.W.makesIn K C=true)
  (hi:PySem.W.findIn K (.ref C) "__init__"=some (some (.ref f))) (hf:PySem.W.typeIn K (.ref f)=some (.type "function"))
  (h:codeAny (model prog w) (A.under (.builtin "type.__call__" ⟨.ref C::vs,kw⟩)) (.call (.ref f) ⟨.ref (s.heap.objs.size+1)::vs,kw⟩) (PySem.W.InitBack (s.heap.objs.size+1) R)
   {s with heap:=(s.heap.push PySem.W.emptyDict).push (PySem.W.instObj C s.heap.objs.size)}) :
  codeAny (model prog w) A (.call (.ref C) ⟨vs,kw⟩) R s:=by
 obtain⟨hh,g,d,t,os⟩:=s
 exact PySem.W.make_core (PySem.W.makes_of X hm) (PySem.W.looks_findIn X hi) (fun self=>PySem.W.bind_fn X self hf) (.inl rfl) h
end
def Ab (f:Str)(v:V):List (Str×V)->List (Str×V)
 |[]=>[(f,v)]
 |(g,x)::r=>if g=f then(g,v)::r else(g,x)::Ab f v r
theorem Na (f g:Str)(v:V):∀fs:List (Str×V),(Ab f v fs).lookup g=if g=f then some v else fs.lookup g
 |
  []=>by
  show List.lookup g [(f,v)]=_
  by_cases h:g=f
  .have hb:(g==f)=true:=E8.mpr h
   simp only[List.lookup,hb,Ag h]
  .have hb:(g==f)=false:=GR.mpr h
   simp only[List.lookup,hb,Ae h]
 |
  (k,x)::r=>by
  have ih:=Na f g v r
  rw[show Ab f v ((k,x)::r)=(if k=f then(k,v)::r else(k,x)::Ab f v r) from rfl]
  by_cases hk:k=f
  .rw[Ag hk]
   by_cases h:g=k
   .have hb:(g==k)=true:=E8.mpr h
    simp only[List.lookup,hb,Ag (h.trans hk)]
   .have hb:(g==k)=false:=GR.mpr h
    simp only[List.lookup,hb,Ae (fun e:g=f=>h (e.trans hk.symm))]
  .rw[Ae hk]
   by_cases h:g=k
   .have hb:(g==k)=true:=E8.mpr h
    simp only[List.lookup,hb,Ae (fun e:g=f=>hk (h.symm.trans e))]
   .have hb:(g==k)=false:=GR.mpr h
    simp only[List.lookup,hb]
    exact ih
theorem L8 (f:Str)(v:V):∀fs:List (Str×V),f∈(Ab f v fs).map (·.1)/\∀g,g∈fs.map (·.1)->g∈(Ab f v fs).map (·.1)
 |[]=>⟨by simp[Ab],fun g h=>by simp at h⟩
 |
  (k,x)::r=>by
  obtain⟨i1,i2⟩:=L8 f v r
  rw[show Ab f v ((k,x)::r)=(if k=f then(k,v)::r else(k,x)::Ab f v r) from rfl]
  by_cases hk:k=f
  .rw[Ag hk]
   subst hk
   exact⟨by simp,fun g h=>by simpa using h⟩
  .rw[Ae hk]
   refine⟨?_,fun g h=>?_⟩
   .rw[BS]
    exact BH _ i1
   .rw[BS]at h ⊢
    rcases AQ.mp h with e|e
    .exact AQ.mpr (.inl e)
    .exact BH _ (i2 g e)
theorem Mw (f:Str)(v:V):∀fs:List (Str×V),(Ab f v fs).length<=fs.length+1
 |[]=>by simp[Ab]
 |
  (k,x)::r=>by
  have ih:=Mw f v r
  rw[show Ab f v ((k,x)::r)=(if k=f then(k,v)::r else(k,x)::Ab f v r) from rfl]
  by_cases hk:k=f
  .rw[Ag hk,AW,AW];omega
  .rw[Ae hk,AW,AW];omega
theorem Fb.some_of {v:V}{o:Option Value}(r:Fb (some v) o):∃u,o=some u/\Ay v u:=by
 cases o with
 |none=>exact(show False from r).elim
 |some u=>exact⟨u,rfl,r⟩
theorem QP {v:V}{u:Value}(r:Ay v u):PySem.W.handedIn u=true:=by
 cases v with
 |non=>cases (show u=Value.none from r);rfl
 |bl b=>cases (show u=Value.bool b from r);rfl
 |int i=>obtain⟨t,e⟩:=(show ∃t,u=Value.int i t from r);cases e;rfl
 |str x=>obtain⟨t,e⟩:=(show ∃t,u=Value.str x t from r);cases e;rfl
 |byt b=>obtain⟨t,e⟩:=(show ∃t,u=Value.bytes b t from r);cases e;rfl
 |flt b=>obtain⟨t,e⟩:=(show ∃t,u=Value.float b t from r);cases e;rfl
 |ref a=>cases (show u=Value.ref a from r);rfl
 |ty n=>cases (show u=Value.type n from r);rfl
section
variable {P:Program}{w:World}{H H':Hp}{h h':Heap}{a C dx:Addr}{fs fs':List (Str×V)}
theorem Ll (hok:By P w H h)(e:H a=some (.ins C dx fs)):∃mA,Gy h a dx C mA/\(∀f,Fb (fs.lookup f) (mA f))/\PySem.Within mA (fs.map (·.1))/\fs.length<=1000/\H dx=some (.own a):=by
 obtain⟨d,z,ne,ob,mA,n,r,q⟩:=(show BO P w H h a (.ins C dx fs) from hok a _ e)
 exact⟨mA,⟨ob,n,ne⟩,r,q,z,d⟩
end
structure Dq (K:Xa)(C:Addr):Prop where
 pg:PySem.W.plainGet K C Str.empty=true
 hd:PySem.W.hasDictIn K C=true
 po:PySem.W.plainOver K C=true
 sa:PySem.W.findIn K (.ref C) "__setattr__"=some (some (.builtin "object.__setattr__"))
theorem Dq.get {K:Xa}{C:Addr}(c:Dq K C)(f:Str):PySem.W.plainGet K C f=true:=c.pg
def BN (K:Xa)(C:Addr)(f:Str):Prop:=PySem.W.findIn K (.ref C) f=some none
theorem BN.taker {K:Xa}{C:Addr}{f:Str}(n:BN K C f):PySem.W.takerIn K C f=some none:=by
 unfold PySem.W.takerIn
 rw[show PySem.W.findIn K (.ref C) f=some none from n]
 rfl
section
variable {X:Cx}{pins:List (Addr×Obj)}{σ:St}{H:Hp}{s:Shared}{a C dx:Addr}{fs:List (Str×V)}{f:Str}{v:V}{A:Around}{E:Value->Shared->Prop}
theorem Ro {b:Bool}{Q:Value->Shared->Prop}(I:A4 X pins σ H s)(e:H a=some (.ins C dx fs))(c:Dq X.K C)(n:BN X.K C f)(l:fs.lookup f=some v)
  (h:∀u s',A4 X pins σ H s'->Ay v u->Q u s'):wpAny (model X.prog X.w) A (getAttr (.ref a) f b) Q E s:=by
 obtain⟨mA,O,r,_,_,_⟩:=Ll I.hok e
 obtain⟨u,hu,ru⟩:=Fb.some_of (v:=v) (o:=mA f) (by rw[←l];exact r f)
 exact Sz I.kIn O (c.get f) c.hd n hu (QP ru) (h u _ (I.tok _) ru)
theorem QZ {y:V}{u:Value}{Q:Unit->Shared->Prop}(I:A4 X pins σ H s)(e:H a=some (.ins C dx fs))(c:Dq X.K C)(n:BN X.K C f)(hl:fs.length<1000)(ry:Ay y u)
  (h:∀s',A4 X pins σ (upd H a (.ins C dx (Ab f y fs))) s'->Q () s'):wpAny (model X.prog X.w) A (setAttr (.ref a) f u) Q E s:=by
 obtain⟨mA,O,r,wi,_,ho⟩:=Ll I.hok e
 have hz:(fs.map (·.1)).length<=sizeLine:=by rw[Ap,Ic];omega
 refine Rf I.kIn O c.sa c.po n.taker c.hd wi hz fun h' O' sb=>h _ ?_
 have hd:∃o,h'.get? dx=some o:=by obtain⟨o,_,_,e',_⟩:=O'.ns;exact⟨o,e'⟩
 refine I.write (x:=a) (e:=dx) (by rw[e];exact True.intro) (.inr ho) (fun b q hb z=>(sb.2 b hb).trans z) hd ?_
 refine⟨by rw[A8 O.ne];exact ho,?_,O.ne,O'.obj,_,O'.ns,fun g=>?_,fun g hg=>?_⟩
 .have:=Mw f y fs;omega
 .show Fb ((Ab f y fs).lookup g) (if g=f then some u else mA g)
  rw[Na]
  by_cases q:g=f
  .rw[Ag q,Ag q];exact ry
  .rw[Ae q,Ae q];exact r g
 .by_cases q:g=f
  .rw[q];exact(L8 f y fs).1
  .refine(L8 f y fs).2 g (wi g fun z=>hg ?_)
   show(if g=f then some u else mA g)=none
   rw[Ae q];exact z
theorem A4.made (I:A4 X pins σ H s):A4 X pins σ (upd (upd H s.heap.objs.size (.own (s.heap.objs.size+1))) (s.heap.objs.size+1) (.ins C s.heap.objs.size []))
  {s with heap:=(s.heap.push PySem.W.emptyDict).push (PySem.W.instObj C s.heap.objs.size)}:=by
 have e1:(s.heap.push PySem.W.emptyDict).get? s.heap.objs.size=some PySem.W.emptyDict:=D7 s.heap rfl
 have e2:((s.heap.push PySem.W.emptyDict).push (PySem.W.instObj C s.heap.objs.size)).get? (s.heap.objs.size+1)=some (PySem.W.instObj C s.heap.objs.size):=by
  have:=D7 (s.heap.push PySem.W.emptyDict) (o:=PySem.W.instObj C s.heap.objs.size) rfl
  rwa [HY]at this
 have e3:(s.heap.push PySem.W.emptyDict).Ns s.heap.objs.size (fun _=>none):=⟨PySem.W.emptyDict,#[],_,e1,rfl,(fun e he=>absurd he (by simp)),fun _=>rfl⟩
 have I1:=I.laid (a:=s.heap.objs.size) (o:=.own (s.heap.objs.size+1)) (h':=s.heap.push PySem.W.emptyDict) (t':=s.toks) (fun b u q=>BR _ q) (Ai _) ⟨_,e1⟩
 refine I1.laid (a:=s.heap.objs.size+1) (o:=.ins C s.heap.objs.size []) (t':=s.toks) (fun b u q=>BR _ q) (Nat.le_of_eq (HY _ _)) ?_
 have ne:s.heap.objs.size≠s.heap.objs.size+1:=Cg (JY _)
 refine⟨by rw[A8 ne,A6],BC _,ne,e2,fun _=>none,(Heap.Ns1.of_empty e3).at fun o q=>BR _ q,fun _=>True.intro,fun y hy=>absurd rfl hy⟩
theorem U5 {prog:Program}{w:World}{env:Env}{e:Expr}{f:Str}{pos:Pos}{s:Shared}{Q:Value->Shared->Prop}(hb:attributeBase e f env (eval e env)=eval e env)
  (h:wpAny (model prog w) A (eval e env) (fun o s₁=>wpAny (model prog w) A (getAttr o f true) Q E s₁) E s):wpAny (model prog w) A (eval (.Attribute e f pos) env) Q E s:=
 Attribute_any_ h (by rw[arm_eval_Attribute,hb])
end
def KD (K:Xa)(ta:TE)(f:Str):TE:=fun σ H Q=>ta σ H fun x H1=>∃a C dx fs v,x = .ref a/\H1 a=some (.ins C dx fs)/\Dq K C/\BN K C f/\fs.lookup f=some v/\Q v H1
def R5 (K:Xa)(ta tv:TE)(f:Str):TS:=fun D σ H=>tv σ H fun y H1=>ta σ H1 fun x H2=>∃a C dx fs,x = .ref a/\H2 a=some (.ins C dx fs)/\Dq K C/\BN K C f/\fs.length<1000/\
 D.nx σ (upd H2 a (.ins C dx (Ab f y fs)))
section
variable {X:Cx}{o e value:Expr}{f:Str}{pos pos' tpos:Pos}{ta tv:TE}
theorem AM (he:PE X e ta)(hb:attributeBase e f X.env (eval e X.env)=eval e X.env):PE X (.Attribute e f pos) (KD X.K ta f):=by
 intro pins s σ H Q I h
 refine U5 hb (As (he pins s σ H _ I h) fun u s1 zz=>?_)
 obtain⟨x,H1,I1,rx,a,C,dx,fs,v,ex,ea,c,n,l,q⟩:=zz
 subst ex
 obtain rfl:u=Value.ref a:=rx
 exact Ro I1 ea c n l fun u' s2 I2 ru=>⟨v,H1,I2,ru,q⟩
theorem C7 (ha:PE X o ta)(hv:PE X value tv)(hs:swapsWith value (some (.Attribute o f pos')) pos.line X.env=pure false):PS X (.Assign [.Attribute o f pos'] value pos) (R5 X.K ta tv f):=by
 intro pins s σ H D I h
 refine plainObj_wpAny_Assign_Attribute (As (hv pins s σ H _ I h) fun u s1 zz=>?_) hs
 obtain⟨y,H1,I1,ry,q⟩:=zz
 refine As (ha pins s1 σ H1 _ I1 q) fun ov s2 zz=>?_
 obtain⟨x,H2,I2,rx,a,C,dx,fs,ex,ea,c,n,l,q2⟩:=zz
 subst ex
 obtain rfl:ov=Value.ref a:=rx
 exact QZ I2 ea c n l ry fun s3 I3=>⟨σ,_,I3,q2⟩
end
section
variable {X:Cx}{pins:List (Addr×Obj)}{σ:St}{H:Hp}{s:Shared}{A:Around}{E:Value->Shared->Prop}{Q:Value->Shared->Prop}{c:Value}{b:Bool}
inductive Cz (K:Xa)(H:Hp):V->Value->Prop where
 |non:Cz K H .non (.type "NoneType")
 |bl (x:Bool):Cz K H (.bl x) (.type "bool")
 |int (i:Int):Cz K H (.int i) (.type "int")
 |str (x:Str):Cz K H (.str x) (.type "str")
 |flt (x:UInt64):Cz K H (.flt x) (.type "float")
 |lst {a:Addr} {xs:List V} (e:H a=some (.lst xs)):Cz K H (.ref a) (.type "list")
 |frz {a:Addr} {o:Obj} {xs:List V} (e:H a=some (.frz o (.lst xs))):Cz K H (.ref a) (.type "list")
 |tup {a:Addr} {xs:List V} (e:H a=some (.tup xs)):Cz K H (.ref a) (.type "tuple")
 |dK {a:Addr} {kvs:List (Bb×V)} (e:H a=some (.dK kvs)):Cz K H (.ref a) (.type "dict")
 |dT {a:Addr} {kvs:List (List Bb×V)} (e:H a=some (.dT kvs)):Cz K H (.ref a) (.type "dict")
 |ins {a C dx:Addr} {fs:List (Str×V)} (e:H a=some (.ins C dx fs)) (cl:Dq K C) (ha:PySem.W.findIn K (.ref C) "__class__"=some (some (.builtin "object.__class__")))
  (hn:PySem.W.specialIn K (.builtin "object.__class__") "__get__"=some (some (.builtin "getset_descriptor.__get__"))) (htk:PySem.W.takesIn K (.builtin "object.__class__")=some true)
  (hm:PySem.W.mroIn K C (.type "object")=some true):Cz K H (.ref a) (.ref C)
theorem Qk {x:V}{u t:Value}(I:A4 X pins σ H s)(rx:Ay x u)(ty:Cz X.K H x t)(e:PySem.W.kitOne X.K t c=some b)(h:∀tk,Q (.bool b) {s with toks:=tk}) :
  wpAny (model X.prog X.w) A (call (.builtin "isinstance") [u,c]) Q E s:=by
 cases ty with
 |non=>cases (show u=Value.none from rx);exact ET PySem.W.kitx_none I.kIn True.intro e (fun z=>nomatch z) h
 |bl y=>cases (show u=Value.bool y from rx);exact ET PySem.W.kitx_bool I.kIn True.intro e (fun z=>nomatch z) h
 |int i=>obtain⟨t,q⟩:=(show ∃t,u=Value.int i t from rx);cases q;exact ET PySem.W.kitx_int I.kIn True.intro e (fun z=>nomatch z) h
 |str y=>obtain⟨t,q⟩:=(show ∃t,u=Value.str y t from rx);cases q;exact ET PySem.W.kitx_str I.kIn True.intro e (fun z=>nomatch z) h
 |flt y=>obtain⟨t,q⟩:=(show ∃t,u=Value.float y t from rx);cases q;exact ET PySem.W.kitx_float I.kIn True.intro e (fun z=>nomatch z) h
 |
  @lst a xs ea=>
  cases (show u=Value.ref a from rx)
  obtain⟨_,_,n,_,h1⟩:=(show BO X.prog X.w H s.heap a (.lst xs) from I.hok a _ ea)
  exact ET PySem.W.kitx_list I.kIn ⟨_,h1,rfl⟩ e (fun z=>nomatch z) h
 |
  @frz a ob xs ea=>
  cases (show u=Value.ref a from rx)
  obtain⟨_,_,_,n,_,h1⟩:=(show BO X.prog X.w H s.heap a (.frz ob (.lst xs)) from I.hok a _ ea)
  exact ET PySem.W.kitx_list I.kIn ⟨_,h1,rfl⟩ e (fun z=>nomatch z) h
 |
  @tup a xs ea=>
  cases (show u=Value.ref a from rx)
  obtain⟨_,_,_,p⟩:=(show BO X.prog X.w H s.heap a (.tup xs) from I.hok a _ ea)
  obtain⟨o,h1,h2,_⟩:=p
  exact ET PySem.W.kitx_tuple I.kIn ⟨o,h1,h2⟩ e (fun z=>nomatch z) h
 |
  @dK a kvs ea=>
  cases (show u=Value.ref a from rx)
  obtain⟨_,_,vs,_,p⟩:=(show BO X.prog X.w H s.heap a (.dK kvs) from I.hok a _ ea)
  obtain⟨o,es,ep,h1,h2,_⟩:=p
  exact ET PySem.W.kitx_dict I.kIn ⟨o,h1,h2.1⟩ e (fun z=>nomatch z) h
 |
  @dT a kvs ea=>
  cases (show u=Value.ref a from rx)
  obtain⟨_,_,xs,_,o,es,ep,h1,h2,_⟩:=(show BO X.prog X.w H s.heap a (.dT kvs) from I.hok a _ ea)
  exact ET PySem.W.kitx_dict I.kIn ⟨o,h1,h2.1⟩ e (fun z=>nomatch z) h
 |
  @ins a C dx fs ea cl ha hn htk hm=>
  cases (show u=Value.ref a from rx)
  obtain⟨mA,O,_⟩:=Ll I.hok ea
  obtain⟨od,J,_⟩:=O.look
  exact ET (PySem.W.kitx_own (cl.get _) cl.hd ha hn htk hm) I.kIn J e (fun z=>nomatch z) h
end
structure Cb (k:Nat)(A:Around):Prop where
 hd:A.handled=none
 dp:A.depth+3*k+5<recursionLimit
 un:A.units+16*k+200<cLine
 gd:A.guards=some []
theorem Cb.mono {j k:Nat}{A:Around}(r:Cb k A)(h:j<=k):Cb j A:=⟨r.hd,by have:=r.dp;omega,by have:=r.un;omega,r.gd⟩
theorem Cb.deeper {k:Nat}{A:Around}(r:Cb (k+1) A)(env:Env):Cb k (A.deeper env):=
 ⟨r.hd,by have:=r.dp;show A.depth+1+3*k+5<_;omega,by have:=r.un;show A.units+3+16*k+200<_;omega,r.gd⟩
theorem TL {A:Around}{C:Addr}{us:List Value}{kw:List (Str×Value)}:(A.under (.builtin "type.__call__" ⟨.ref C::us,kw⟩)).depth=A.depth+1:=by
 first|rfl|simp[Around.under,Code.weight,Code.isCreation,Code.isGuard,Code.isCaller,Code.frames,Code.isFrame,guardIds]
theorem Pz {A:Around}{C:Addr}{us:List Value}{kw:List (Str×Value)}:(A.under (.builtin "type.__call__" ⟨.ref C::us,kw⟩)).units=A.units+1:=by
 first|rfl|simp[Around.under,Code.cUnits,Code.frames,Code.isFrame]
theorem Q0 {A:Around}{C:Addr}{us:List Value}{kw:List (Str×Value)}:(A.under (.builtin "type.__call__" ⟨.ref C::us,kw⟩)).guards=A.guards:=by
 have:Code.guards (.builtin "type.__call__" ⟨.ref C::us,kw⟩)=[]:=by first|rfl|simp[Code.guards,Code.isGuard,guardIds]
 show pushGuards (Code.guards (.builtin "type.__call__" ⟨.ref C::us,kw⟩)) A.guards=A.guards
 rw[this]
 cases A.guards<;>rfl
theorem Cb.make {k:Nat}{A:Around}(r:Cb (k+1) A)(C:Addr)(us:List Value)(kw:List (Str×Value)):Cb k (A.under (.builtin "type.__call__" ⟨.ref C::us,kw⟩)):=
 ⟨r.hd,by have:=r.dp;rw[TL];omega,by have:=r.un;rw[Pz];omega,by rw[Q0];exact r.gd⟩
theorem Cb.depth {k:Nat}{A:Around}(r:Cb k A):A.depth<recursionLimit:=by have:=r.dp;omega
def Fz:TA:=fun _ H Q=>Q [] H
def FS (ta:TE)(tr:TA):TA:=fun σ H Q=>ta σ H fun x H1=>tr σ H1 fun xs H2=>Q (x::xs) H2
section
variable {X:Cx}{e:Expr}{es:List Expr}{te:TE}{t:TA}{pos:Pos}
theorem A2:PA X [] Fz:=fun _ _ _ _ H Q I h=>Calls.spliced_nil ⟨[],H,I,.nil,h⟩
theorem A0 (ha:PE X e te)(hr:PA X es t)(hs:starEach (e::es) X.env=(false,eval e X.env)::starEach es X.env:=by rfl):PA X (e::es) (FS te t):=by
 intro pos pins s σ H Q I h
 rw[hs]
 show wpAny _ _ (spliced ((false,eval e X.env)::backTo pos (starEach es X.env))) _ _ s
 refine Calls.spliced_cons (As (ha pins s σ H _ I h) fun u s1 zz=>?_)
 obtain⟨x,H1,I1,r1,q1⟩:=zz
 refine As (hr pos pins s1 σ H1 _ I1 q1) fun us s2 zz=>?_
 obtain⟨xs,H2,I2,r2,q2⟩:=zz
 exact⟨x::xs,H2,I2,.cons r1 r2,q2⟩
def Oe (t:TA):TE:=fun σ H Q=>t σ H fun xs H1=>xs.length<=sizeLine/\∀p,H1 p=none->Q (.ref p) (upd H1 p (.tup xs))
def KR (t:TA):TE:=fun σ H Q=>t σ H fun xs H1=>xs.length<=sizeLine/\∀p,H1 p=none->Q (.ref p) (upd H1 p (.lst xs))
theorem CU {x1}(h:PA X es t):PE X (.Tuple es x1 pos) (Oe t):=by
 intro pins s σ H Q I hq
 refine wpAny_Tuple_spliced (As (h pos pins s σ H _ I hq) fun us s1 zz=>?_)
 obtain⟨xs,H1,I1,r,z,q⟩:=zz
 refine⟨by rw[←r.length];exact z,?_⟩
 have hf:H1 s1.heap.objs.size=none:=I1.hok.fresh (Ai _)
 refine⟨.ref s1.heap.objs.size,upd H1 s1.heap.objs.size (.tup xs),I1.laid (t':=s1.toks) (fun b u e=>BR _ e) (Ai _) ?_,rfl,q _ hf⟩
 exact⟨z,us,r,⟨_,D7 _ rfl,rfl,⟨_,rfl⟩,rfl⟩⟩
theorem Bl (h:PA X es t):PE X (.List es pos) (KR t):=by
 intro pins s σ H Q I hq
 refine wpAny_List_spliced (As (h pos pins s σ H _ I hq) fun us s1 zz=>?_)
 obtain⟨xs,H1,I1,r,z,q⟩:=zz
 refine⟨by rw[←r.length];exact z,?_⟩
 have hf:H1 s1.heap.objs.size=none:=I1.hok.fresh (Ai _)
 refine⟨.ref s1.heap.objs.size,upd H1 s1.heap.objs.size (.lst xs),I1.laid (t':=s1.toks) (fun b u e=>BR _ e) (Ai _) ?_,rfl,q _ hf⟩
 exact⟨z,us,0,r,D7 _ rfl⟩
end
abbrev Sp:=List V->Hp->VK->XK->Prop
abbrev DX:=List Env->Hp->Shared->XK->Value->Shared->Prop
structure FG (P:Program)(w:World)(K:Xa)(mg:Str->Option Value)(base:Heap)(A:Around)(outer:List Env)(s:Shared)(H:Hp):Prop where
 frames:A.frames=some outer
 mod:Mod K mg base
 bs:∀b o,base.get? b=some o->s.heap.get? b=some o/\H b=none
 bsz:base.objs.size<=s.heap.objs.size
 funs:s.heap.FunFrames base outer
 frf:∀b∈E3 outer,H b=none
 hok:By P w H s.heap
 bare:AllBare s.gens
def CE (outer:List Env)(P:Program)(w:World)(H:Hp)(s:Shared)(Q:VK)(u:Value)(s':Shared):Prop:=
 ∃v H',s'.os=s.os/\AllBare s'.gens/\Un (E3 outer) [] H H' s.heap s'.heap/\By P w H' s'.heap/\Ay v u/\Q v H'
def CR (CX:DX)(outer:List Env)(P:Program)(w:World)(H:Hp)(s:Shared)(Q:VK)(E:XK)(r:Result)(s':Shared):Prop:=
 match r with
 |.ok (.ret u)=>CE outer P w H s Q u s'
 |.ok _=>False
 |.error e=>CX outer H s E e s'
structure AK (P:Program)(w:World)(K:Xa)(mg:Str->Option Value)(base:Heap)(CX:DX)(k:Nat)(f:Addr)(fd:FuncData)(ps:List Str)(sp:Sp):Prop where
 len:∀vs H Q E,sp vs H Q E->vs.length=ps.length
 run:∀(A:Around) (outer:List Env) (s:Shared) (H:Hp) (args:Args) (us:List Value) (vs:List V) (Q:VK) (E:XK),Cb k A->FG P w K mg base A outer s H->BindsTo s fd args (ps.zip us)->AA vs us->sp vs H Q E->
  codeAny (model P w) A (.call (.ref f) args) (CR CX outer P w H s Q E) s
theorem FG.make {P:Program}{w:World}{K:Xa}{mg:Str->Option Value}{base:Heap}{A:Around}{outer:List Env}{s:Shared}{H:Hp}(e:FG P w K mg base A outer s H)(C:Addr)(us:List Value)(kw:List (Str×Value)) :
 FG P w K mg base (A.under (.builtin "type.__call__" ⟨.ref C::us,kw⟩)) outer s H:=⟨by first|exact e.frames|(simpa[Around.under,Code.envs,Code.isFrame,pushEnvs] using e.frames),e.mod,e.bs,e.bsz,e.funs,e.frf,e.hok,e.bare⟩
section
variable {X:Cx}{pins:List (Addr×Obj)}{σ:St}{H:Hp}{s s':Shared}
theorem A4.env0 (I:A4 X pins σ H s):FG X.prog X.w X.K X.mg X.base X.A X.stack s H:=
 ⟨I.ok.frames,I.ok.mod,I.bs,C5 I.ok.bsz I.sz,I.stack,I.stkFree,I.hok,I.bare⟩
theorem A4.after {Q:VK}{u:Value}(I:A4 X pins σ H s)(h:CE X.stack X.prog X.w H s Q u s'):EP X pins σ Q u s':=by
 obtain⟨v,H',os,bare,un,hok,r,q⟩:=h
 obtain⟨hh,g,d,t,os'⟩:=s'
 obtain rfl:os'=s.os:=os
 exact⟨v,H',I.call (h':=hh) (g':=g) (d':=d) (t':=t) (ch:=[]) un hok bare (fun b z=>absurd z (by simp)),r,q⟩
end
def Mu (sp:Sp)(dvs:List V)(E:XK)(t:TA):TE:=fun σ H Q=>t σ H fun vs H1=>sp (vs++dvs) H1 Q E
def Nt (C:Addr)(sp:Sp)(dvs:List V)(E:XK)(t:TA):TE:=fun σ H Q=>t σ H fun vs H1=>∀x dx,H1 x=none->H1 dx=none->dx≠x->
 sp (.ref x::(vs++dvs)) (upd (upd H1 dx (.own x)) x (.ins C dx [])) (fun v H2=>v = .non/\Q (.ref x) H2) E
def AL (K:Xa)(fd:FuncData)(ps:List Str)(ds:List Value):Prop:=
 ∀(s:Shared) (us:List Value),K.In s.heap->(us++ds).length=ps.length->BindsTo s fd ⟨us,[]⟩ (ps.zip (us++ds))
theorem AL.all {K:Xa}{fd:FuncData}{ps:List Str}(h:∀us:List Value,us.length=ps.length->bindArgs fd ⟨us,[]⟩=pure (ps.zip us)):AL K fd ps []:=fun s us _ hl=>by
 rw[DL]at hl ⊢
 exact .of_eq (h us hl)
def FZ (CX:DX)(X:Cx)(E:XK):Prop := ∀(pins:List (Addr×Obj)) (σ:St) (H:Hp) (s:Shared) (e:Value) (s':Shared),A4 X pins σ H s->CX X.stack H s E e s'->X.xe e s'
section
variable {X:Cx}{CX:DX}{k:Nat}{f C:Addr}{fd:FuncData}{ps:List Str}{sp:Sp}{dvs:List V}{ds:List Value}{E:XK}{x m:Str}{p pos apos:Pos}{e o:Expr}{es:List Expr}{ta:TE}{t:TA}
theorem Oa {pins:List (Addr×Obj)}{σ:St}{H:Hp}{s:Shared}{Q:VK}{us:List Value}{vs:List V}(F:AK X.prog X.w X.K X.mg X.base CX k f fd ps sp)(hr:Cb k X.A)(hb:AL X.K fd ps ds)(hd:AA dvs ds)(hx:FZ CX X E)
  (I:A4 X pins σ H s) (r:AA vs us) (h:sp (vs++dvs) H Q E):wpAny (model X.prog X.w) X.A (call (.ref f) us) (EP X pins σ Q) X.xe s:=by
 have r2:AA (vs++dvs) (us++ds):=r.append hd
 have hl:(us++ds).length=ps.length:=by rw[←r2.length];exact F.len _ _ _ _ h
 refine wpAny_call (Ie (F.run X.A X.stack s H ⟨us,[]⟩ (us++ds) (vs++dvs) Q E hr I.env0 (hb s us I.kIn hl) r2 h) fun r s' hq=>?_)
 cases r with
 |error e=>exact hx pins σ H s e s' I hq
 |
  ok fl=>
  cases fl with
  |ret u=>exact I.after hq
  |next=>exact False.elim hq
  |brk=>exact False.elim hq
  |cont=>exact False.elim hq
theorem Av (F:AK X.prog X.w X.K X.mg X.base CX k f fd ps sp)(hr:Cb k X.A)(hg:Gl X x)(hm:X.mg x=some (.ref f))(hk:PySem.W.keepIn X.K (.ref f)=true)(hb:AL X.K fd ps ds)(hd:AA dvs ds)(hx:FZ CX X E)
  (ha:PA X (e::es) t) (hdb:(x==("__debug__":Str))=false:=by decide) (he:starEach (e::es) X.env=(false,eval e X.env)::starEach es X.env:=by rfl) (hpl:(backTo pos (starEach es X.env)).any (·.1)=false:=by rfl) :
  PE X (.Call (.Name x p) (e::es) [] pos) (Mu sp dvs E t):=by
 intro pins s σ H Q I h
 refine GU (Hn I hg hm ?_ hdb)
 refine OD (h₀:=X.base) I.ok.mod.kin hk (As (ha pos pins s σ H _ I h) fun us s1 zz=>?_) he hpl
 obtain⟨vs,H1,I1,r,q⟩:=zz
 refine⟨I1.kIn,?_⟩
 exact Oa F hr hb hd hx I1 r q
structure Mk (K:Xa)(C f:Addr):Prop where
 makes:PySem.W.makesIn K C=true
 init:PySem.W.findIn K (.ref C) "__init__"=some (some (.ref f))
 fn:PySem.W.isFn K (.ref f)=true
 kp:PySem.W.keepIn K (.ref C)=true
theorem Ms {pins:List (Addr×Obj)}{σ:St}{H:Hp}{s:Shared}{Q:VK}{us:List Value}{vs:List V}(M:Mk X.K C f)(F:AK X.prog X.w X.K X.mg X.base CX k f fd ps sp)(hr:Cb (k+1) X.A)(hb:AL X.K fd ps ds)(hd:AA dvs ds)
  (hx:FZ CX X E) (I:A4 X pins σ H s) (r:AA vs us)
  (h:∀x dx,H x=none->H dx=none->dx≠x->sp (.ref x::(vs++dvs)) (upd (upd H dx (.own x)) x (.ins C dx [])) (fun v H2=>v = .non/\Q (.ref x) H2) E) :
  wpAny (model X.prog X.w) X.A (call (.ref C) us) (EP X pins σ Q) X.xe s:=by
 have hq:=h (s.heap.objs.size+1) s.heap.objs.size (I.hok.fresh (JZ _)) (I.hok.fresh (Ai _)) (Cg (JY _))
 have I2:=A4.made (C:=C) I
 have r2:AA (V.ref (s.heap.objs.size+1)::(vs++dvs)) (Value.ref (s.heap.objs.size+1)::(us++ds)):=.cons rfl (r.append hd)
 have hl:(Value.ref (s.heap.objs.size+1)::us++ds).length=ps.length:=by
  have e:=r2.length
  rw[F.len _ _ _ _ hq]at e
  exact e.symm
 refine wpAny_call (Sn (f:=f) I.kIn M.makes M.init (E8.mp M.fn) (Ie (F.run _ X.stack _ _ ⟨Value.ref (s.heap.objs.size+1)::us,[]⟩ (Value.ref (s.heap.objs.size+1)::(us++ds)) _ _ E (hr.make C us [])
  (I2.env0.make C us []) (hb _ (Value.ref (s.heap.objs.size+1)::us) I2.kIn hl) r2 hq) fun r s' hq'=>?_))
 cases r with
 |error e=>exact hx pins σ _ _ e s' I2 hq'
 |
  ok fl=>
  cases fl with
  |
   ret u=>
   obtain⟨v,H',I3,rv,ev,q3⟩:=I2.after hq'
   subst ev
   exact⟨rv,⟨V.ref (s.heap.objs.size+1),H',I3,rfl,q3⟩⟩
  |next=>exact False.elim hq'
  |brk=>exact False.elim hq'
  |cont=>exact False.elim hq'
theorem GA (M:Mk X.K C f)(F:AK X.prog X.w X.K X.mg X.base CX k f fd ps sp)(hr:Cb (k+1) X.A)(hg:Gl X x)(hm:X.mg x=some (.ref C))(hb:AL X.K fd ps ds)(hd:AA dvs ds)(hx:FZ CX X E)
  (ha:PA X (e::es) t) (hdb:(x==("__debug__":Str))=false:=by decide) (he:starEach (e::es) X.env=(false,eval e X.env)::starEach es X.env:=by rfl) (hpl:(backTo pos (starEach es X.env)).any (·.1)=false:=by rfl) :
  PE X (.Call (.Name x p) (e::es) [] pos) (Nt C sp dvs E t):=by
 intro pins s σ H Q I h
 refine GU (Hn I hg hm ?_ hdb)
 refine OD (h₀:=X.base) I.ok.mod.kin M.kp (As (ha pos pins s σ H _ I h) fun us s1 zz=>?_) he hpl
 obtain⟨vs,H1,I1,r,q⟩:=zz
 refine⟨I1.kIn,?_⟩
 exact Ms M F hr hb hd hx I1 r q
theorem VA (M:Mk X.K C f)(F:AK X.prog X.w X.K X.mg X.base CX k f fd ps sp)(hr:Cb (k+1) X.A)(hg:Gl X x)(hm:X.mg x=some (.ref C))(hb:AL X.K fd ps ds)(hd:AA dvs ds)(hx:FZ CX X E)
  (hdb:(x==("__debug__":Str))=false:=by decide):PE X (.Call (.Name x p) [] [] pos) (Nt C sp dvs E Fz):=by
 intro pins s σ H Q I h
 refine GU (Hn I hg hm ?_ hdb)
 exact PySem.W.callWith_K0 I.kIn M.kp (Ms (us:=[]) M F hr hb hd hx I .nil h)
end
section
variable {X:Cx}{CX:DX}{k:Nat}{f C:Addr}{fd:FuncData}{ps ks:List Str}{sp:Sp}{E:XK}{x m:Str}{p pos apos kpos:Pos}{e o:Expr}{es:List Expr}{kws:List Keyword}{te ta:TE}{t tk:TA}{nm:Option Str}
variable {g:List Value->List Value->List Value}{gV:List V->List V->List V}
end
structure AU (N P:List Str)(sc:Scope):Prop where
 kind:sc.kind = .function
 co:sc.isCoroutine=false
 gen:sc.isGenerator=false
 nd:N.Nodup
 pre:N.take P.length=P
 par:∀x∈P,sc.names.lookup x=some .local\/sc.names.lookup x=some .cell
 nofree:∀y∈sc.names,y.2≠.free
theorem ML {kindOf:Str->Option NameKind}{x:Str}:∀{binds:List (Str×Value)} {m:Str->Option Value},(∀v,(x,v)∉binds)->bindL kindOf binds m x=m x
 |[],_,_=>rfl
 |
  (n,v)::r,m,h=>by
  unfold bindL
  rw[ML fun w hw=>h w (BH _ hw)]
  split
  .have:x≠n:=by rintro rfl;exact h v AY
   simp[this]
  .rfl
theorem M3 {kindOf:Str->Option NameKind}{x:Str}:∀{binds:List (Str×Value)} {m:Str->Option Value},(∀v,(x,v)∉binds)->bindC kindOf binds m x=m x
 |[],_,_=>rfl
 |
  (n,v)::r,m,h=>by
  unfold bindC
  rw[M3 fun w hw=>h w (BH _ hw)]
  split
  .rfl
  .have:x≠n:=by rintro rfl;exact h v AY
   simp[this]
theorem MU {kindOf:Str->Option NameKind}{x:Str}{v:Value}:∀{P:List Str} {vs:List Value} {i:Nat} {m:Str->Option Value},P.Nodup->P[i]?=some x->vs[i]?=some v->kindOf x=some .local->
  bindL kindOf (P.zip vs) m x=some v
 |[],_,_,_,_,h,_,_=>by simp at h
 |_::_,[],_,_,_,_,h,_=>by simp at h
 |
  p::P,w::vs,0,m,nd,h1,h2,hk=>by
  simp at h1 h2;subst h1;subst h2
  show bindL kindOf ((p,w)::P.zip vs) m p=_
  unfold bindL
  rw[ML fun v hv=>(G5.mp nd).1 (OE hv).1,Ag hk]
  simp
 |
  p::P,w::vs,i+1,m,nd,h1,h2,hk=>by
  show bindL kindOf ((p,w)::P.zip vs) m x=_
  unfold bindL
  exact MU (i:=i) (G5.mp nd).2 (by simpa using h1) (by simpa using h2) hk
theorem NT {kindOf:Str->Option NameKind}{x:Str}{v:Value}:∀{P:List Str} {vs:List Value} {i:Nat} {m:Str->Option Value},P.Nodup->P[i]?=some x->vs[i]?=some v->kindOf x≠some .local->
  bindC kindOf (P.zip vs) m x=some v
 |[],_,_,_,_,h,_,_=>by simp at h
 |_::_,[],_,_,_,_,h,_=>by simp at h
 |
  p::P,w::vs,0,m,nd,h1,h2,hk=>by
  simp at h1 h2;subst h1;subst h2
  show bindC kindOf ((p,w)::P.zip vs) m p=_
  unfold bindC
  rw[M3 fun v hv=>(G5.mp nd).1 (OE hv).1,Ae hk]
  simp
 |
  p::P,w::vs,i+1,m,nd,h1,h2,hk=>by
  show bindC kindOf ((p,w)::P.zip vs) m x=_
  unfold bindC
  exact NT (i:=i) (G5.mp nd).2 (by simpa using h1) (by simpa using h2) hk
def start (N:List Str)(vs:List V):St:=vs.map some++List.replicate (N.length-vs.length) none
def GD (CX:DX)(P:Program)(w:World)(K:Xa)(mg:Str->Option Value)(base:Heap)(N:List Str)(qual:Str)(scope:Scope)(f:Addr)(cd:Value)(A:Around)(outer:List Env)(s:Shared)(H:Hp)(E:XK):Cx where
 prog:=P
 w:=w
 K:=K
 mg:=mg
 base:=base
 A:=A.deeper (envOfC qual scope s.heap.objs.size f cd)
 N:=N
 s₀:=s
 H₀:=H
 env:=envOfC qual scope s.heap.objs.size f cd
 outer:=outer
 stack:=envOfC qual scope s.heap.objs.size f cd::outer
 ex:=[]
 calm:=true
 fn:=fun _=>true
 pn:=[]
 xe:=fun e s'=>wpAny (model P w) (A.deeper (envOfC qual scope s.heap.objs.size f cd)) (leaving (envOfC qual scope s.heap.objs.size f cd) e) (fun _ s''=>CX outer H s E e s'') (fun e' s''=>CX outer H s E e' s'') s'
theorem Os {sc:Scope}{n:Nat}{x:Str}(h:sc.names.lookup x=some .cell):∃c,(cellsFrom n sc.names []).lookup x=some c:=by
 have q:=PySem.W.cellsFrom_some sc.names n [] (.inl h)
 exact Option.isSome_iff_exists.mp q
theorem Vt {CX:DX}{P:Program}{w:World}{K:Xa}{mg:Str->Option Value}{base:Heap}{N ps:List Str}{qual:Str}{scope:Scope}{f:Addr}{cd:Value}{A:Around}{outer:List Env}{s s1:Shared}{H:Hp}{E:XK}{us:List Value}{vs:List V}
  (S:AU N ps scope) (hd:A.handled=none) (e0:FG P w K mg base A outer s H) (hl:vs.length=ps.length) (r:AA vs us)
  (x:InCallC s s.heap.objs.size (bindL (envOfC qual scope s.heap.objs.size f cd).kindOf (ps.zip us) fun _=>none) (cellsFrom (s.heap.objs.size+1) scope.names []) (bindC (envOfC qual scope s.heap.objs.size f cd).kindOf (ps.zip us) fun _=>none) s1) :
  A4 (GD CX P w K mg base N qual scope f cd A outer s H E) [] (start N vs) H s1:=by
 have hpl:ps.length<=N.length:=by have:=congrArg List.length S.pre;rw[Bh]at this;omega
 obtain⟨h1,tk,rfl,hk⟩:=x.done
 have noA:∀b:Addr,b∉(GD CX P w K mg base N qual scope f cd A outer s H E).ex:=fun b z=>absurd (show b∈([]:List Addr) from z) (by simp)
 refine⟨⟨e0.mod,S.kind,rfl,rfl,Ai _,fun y z c h1 h2=>?_,fun y hy=>?_,fun y c _ h=>?_,fun _=>hd,Around.frames_deeper e0.frames,.inr ⟨rfl,rfl⟩,fun b z=>absurd z (noA b),e0.bs,e0.bsz,fun b _ _=>noA b,fun b z=>absurd z (noA b),e0.funs,e0.frf⟩,
  rfl,e0.bare,Un.kept hk,⟨_,x.toInCall.ns,fun i y v h1 h2 h3=>?_⟩,fun y c h=>⟨_,x.cell y c h⟩,e0.hok.fresh (Ai _),fun y c h=>?_,fun p hp=>absurd (show p∈([]:List (Addr×Obj)) from hp) (by simp),e0.hok.kept hk,?_⟩
 .exact name_of_addr x.apart (K0 h1) (K0 h2)
 .have hy:scope.names.lookup y=some .cell\/scope.names.lookup y=some .free:=hy
  rcases hy with hy|hy
  .exact Os hy
  .exact absurd rfl (S.nofree _ (K0 hy))
 .exact G4 (x.above y c (K0 h))
 .have hi:i<vs.length:=by
   unfold start at h2
   by_cases hi:i<vs.length
   .exact hi
   .rw[E5 (by simpa using hi)]at h2
    rw[List.getElem?_replicate]at h2
    split at h2<;>cases h2
  have ha:vs[i]?=some v:=by
   unfold start at h2
   rw[DM (by simpa using hi),D8]at h2
   cases e:vs[i]? with
   |none=>rw[e]at h2;cases h2
   |some a=>rw[e]at h2;cases h2;rfl
  obtain⟨u,hu,rv⟩:=r.get ha
  have hp:ps[i]?=some y:=by
   rw[←S.pre,List.getElem?_take_of_lt (by omega)];exact h1
  have ndP:ps.Nodup:=by rw[←S.pre];exact S.nd.sublist (List.take_sublist _ _)
  refine⟨u,rv,?_⟩
  rcases S.par y (CK hp) with k|k
  .exact .inl ⟨k,MU ndP hp hu k⟩
  .obtain⟨c,e⟩:=Os (n:=s.heap.objs.size+1) k
   refine .inr ⟨.inl k,c,e,?_⟩
   have q:=x.cell y c e
   rw[NT ndP hp hu (by show scope.names.lookup y≠_;rw[k];decide)]at q
   exact q
 .exact e0.hok.fresh (G4 (x.above y c (K0 h)))
 .unfold start
  show _=N.length
  rw[Au,Ap,OF]
  omega
theorem V8 {CX:DX}{P:Program}{w:World}{K:Xa}{mg:Str->Option Value}{base:Heap}{k:Nat}{f:Addr}{name qual:Str}{params:Arguments}{body:List Stmt}{scope:Scope}{dV kV doc pm cdv ct oc:Value}{an od:Option Addr}
  {osl:Array (Option Value)} {N ps:List Str} {sp:Sp} (lk:K.lookup f=some ⟨oc,od,.func (PySem.W.fnOf name qual params body scope dV kV doc pm an cdv ct),osl⟩) (hcd:PySem.W.codeIn K cdv qual=true) (S:AU N ps scope)
  (len:∀vs H Q E,sp vs H Q E->vs.length=ps.length)
  (hbody:∀(A:Around) (outer:List Env) (s:Shared) (H:Hp) (vs:List V) (Q:VK) (E:XK),Cb k (A.deeper (envOfC qual scope s.heap.objs.size f cdv))->sp vs H Q E->
   ∃t,DB (GD CX P w K mg base N qual scope f cdv A outer s H E) body t/\t {nx:=fun _ H'=>Q .non H',rt:=Q} (start N vs) H) :
  AK P w K mg base CX (k+1) f (PySem.W.fnOf name qual params body scope dV kV doc pm an cdv ct) ps sp:=by
 refine⟨len,fun A outer s H args us vs Q E hr e0 hb r hsp=>?_⟩
 have hl:=len _ _ _ _ hsp
 have KX:K.In s.heap:=e0.mod.kin.keeps fun b o e=>(e0.bs b o e).1
 have lim:s.heap.NoLimit:=e0.mod.nolimit.keeps fun b o e=>(e0.bs b o e).1
 have hkind:∀y∈ps.zip us,scope.names.lookup y.1=some .local\/(scope.names.lookup y.1=some .cell/\((cellsFrom (s.heap.objs.size+1) scope.names []).lookup y.1).isSome=true):=fun⟨n,v⟩ hy=>by
  rcases S.par n (OE hy).1 with q|q
  .exact .inl q
  .exact .inr ⟨q,PySem.W.cellsFrom_some _ _ _ (.inl q)⟩
 refine codeAny_call_function hr.depth (KX _ _ lk) rfl S.co S.gen rfl (PySem.W.codeRec_of KX hcd) (hb _ _ _ _ ?_)
 refine wpAny_newFunctionEnv_cells S.kind hkind fun env he s1 x=>?_
 subst he
 refine⟨lim.keeps x.toInCall.keep,codeAny_func ?_⟩
 obtain⟨t,ht,hq⟩:=hbody A outer s H vs Q E (hr.deeper _) hsp
 have I:A4 (GD CX P w K mg base N qual scope f cdv A outer s H E) [] (start N vs) H s1:=Vt S hr.hd e0 hl r x
 refine DP (ht [] s1 (start N vs) H _ I hq) (fun fl s' hs=>?_) fun e s' hs=>hs
 have fin:∀{σ':St} {H':Hp} {v:V} {u:Value},A4 (GD CX P w K mg base N qual scope f cdv A outer s H E) [] σ' H' s'->Ay v u->Q v H'->CE outer P w H s Q u s':=
  fun{σ' H' v u} J rv q=>⟨v,H',J.os,J.bare,J.base,J.hok,rv,q⟩
 cases fl with
 |
  ret u=>
  obtain⟨v,σ',H',J,rv,q⟩:=hs
  exact fin J rv q
 |
  next=>
  obtain⟨σ',H',J,q⟩:=hs
  exact fin (v:=V.non) (u:=Value.none) J rfl q
 |
  brk=>
  obtain⟨_,_,_,q⟩:=hs
  exact False.elim q
 |
  cont=>
  obtain⟨_,_,_,q⟩:=hs
  exact False.elim q
section
variable {X:Cx}{x:Str}{p pos:Pos}{e:Expr}{es:List Expr}{t:TA}{id T:String}{r:List V->Hp->VK->Prop}
def JK (r:List V->Hp->VK->Prop)(t:TA):TE:=fun σ H Q=>t σ H fun vs H1=>r vs H1 Q
theorem AR (hc:Eb X (.builtin id) r)(hg:Gl X x)(hm:X.mg x=none)(hv:bootBuiltins x=some (.builtin id))(ha:PA X (e::es) t)(hn:x≠"__name__":=by decide)(hdb:(x==("__debug__":Str))=false:=by decide)
  (he:starEach (e::es) X.env=(false,eval e X.env)::starEach es X.env:=by rfl) (hpl:(backTo pos (starEach es X.env)).any (·.1)=false:=by rfl):PE X (.Call (.Name x p) (e::es) [] pos) (JK r t):=by
 intro pins s σ H Q I h
 refine GU (Ha I hg hm hv ?_ hn hdb)
 refine PyProof.Rows.callWith_builtin1 (As (ha pos pins s σ H _ I h) fun us s1 zz=>?_) he hpl
 obtain⟨vs,H1,I1,r1,q1⟩:=zz
 exact hc pins s1 σ H1 vs us Q I1 r1 q1
theorem CQ (hc:Eb X (.type T) r)(hg:Gl X x)(hm:X.mg x=none)(hv:bootBuiltins x=some (.type T))(ha:PA X (e::es) t)(hn:x≠"__name__":=by decide)(hdb:(x==("__debug__":Str))=false:=by decide)
  (he:starEach (e::es) X.env=(false,eval e X.env)::starEach es X.env:=by rfl) (hpl:(backTo pos (starEach es X.env)).any (·.1)=false:=by rfl):PE X (.Call (.Name x p) (e::es) [] pos) (JK r t):=by
 intro pins s σ H Q I h
 refine GU (Ha I hg hm hv ?_ hn hdb)
 refine W0 (As (ha pos pins s σ H _ I h) fun us s1 zz=>?_) he hpl
 obtain⟨vs,H1,I1,r1,q1⟩:=zz
 exact hc pins s1 σ H1 vs us Q I1 r1 q1
end
end L2
namespace HT
open PySem PyProof.Rows
section
open PySem.SeqAt
open PySem.AutoSeq1 (wpAny_loadPart')
open PySem.MeetsSeq PySem.MeetsSeq2 PySem.MeetsSeq3
end
section
variable {prog:Program}{w:World}{A:Around}{E:Value->Shared->Prop}{s:Shared}
def sIx (n d:Nat):Option Int->Nat
 |none=>d
 |some v=>if v<0 then(v+(n:Int)).toNat else min v.toNat n
theorem sIx_none (n d:Nat):sIx n d none=d:=rfl
theorem sIx_nat (n d k:Nat):sIx n d (some (k:Int))=min k n:=by
 show(if(k:Int)<0 then((k:Int)+(n:Int)).toNat else min (k:Int).toNat n)=min k n
 rw[Ae (by omega),Fj]
theorem sIx_le (n d:Nat)(hd:d<=n)(o:Option Int):sIx n d o<=n:=by
 cases o with
 |none=>exact hd
 |
  some v=>
  show(if v<0 then(v+(n:Int)).toNat else min v.toNat n)<=n
  by_cases hv:v<0
  .rw[Ag hv];omega
  .rw[Ae hv];exact Nat.min_le_right _ _
end
end HT
namespace L2
open PySem PySem.Spec PyProof.Rows
abbrev TO:=St->Hp->(Option Int->Hp->Prop)->Prop
def PO (X:Cx)(e:Option Expr)(t:TO):Prop:=
 ∀(pins:List (Addr×Obj)) (s:Shared) (σ:St) (H:Hp) (Q:Option Int->Hp->Prop),A4 X pins σ H s->t σ H Q->
  wpAny (model X.prog X.w) X.A (evalPart e X.env) (fun u s'=>∃o H',A4 X pins σ H' s'/\IsPart u o/\Q o H') X.xe s
def Sh:TO:=fun _ H Q=>Q none H
def V6 (t:TE):TO:=fun σ H Q=>t σ H fun x H1=>∃i,x = .int i/\Q (some i) H1
section
variable {X:Cx}{e:Expr}{te:TE}{lo hi:Option Expr}{tl th:TO}{pos p2:Pos}
theorem DT:PO X none Sh:=by
 intro pins s σ H Q I h
 rw[evalPart_none]
 exact C6 ⟨none,H,I,.none,h⟩
theorem Cy (h:PE X e te):PO X (some e) (V6 te):=by
 intro pins s σ H Q I hw
 rw[evalPart_some]
 refine As (h pins s σ H _ I hw) fun u s1 zz=>?_
 obtain⟨x,H1,I1,r1,q1⟩:=zz
 obtain⟨i,rfl,q⟩:=q1
 obtain⟨t,rfl⟩:=r1
 exact⟨some i,H1,I1,.int i t,q⟩
def Lf (X:Cx)(r:V->Option Int->Option Int->Hp->VK->Prop):Prop:=
 ∀(pins:List (Addr×Obj)) (s:Shared) (σ:St) (H:Hp) (x:V) (v vl vu:Value) (lo hi:Option Int) (sl:Addr) (Q:VK),A4 X pins σ H s->Ay x v->s.heap.IsSliceOf sl vl vu .none->IsPart vl lo->IsPart vu hi->r x lo hi H Q->
  ∃T id,typeLookup (.type T) "__getitem__"=pure (some (.builtin id))/\s.TypeIs v T/\wpAny (model X.prog X.w) X.A (getItem v (.ref sl)) (EP X pins σ Q) X.xe s
def Q2 (r:V->Option Int->Option Int->Hp->VK->Prop)(te:TE)(tl th:TO):TE:=fun σ H Q=>te σ H fun x H1=>tl σ H1 fun l H2=>th σ H2 fun u H3=>r x l u H3 Q
theorem D1 {r:V->Option Int->Option Int->Hp->VK->Prop}(hr:Lf X r)(he:PE X e te)(hl:PO X lo tl)(hu:PO X hi th):PE X (.Subscript e (.Slice lo hi none p2) pos) (Q2 r te tl th):=by
 intro pins s σ H Q I h
 refine Subscript_ (As (he pins s σ H _ I h) fun v s1 zz=>?_)
 obtain⟨x,H1,I1,r1,q1⟩:=zz
 refine wpAny_Slice (As (hl pins s1 σ H1 _ I1 q1) fun vl s2 zz=>?_)
 obtain⟨l,H2,I2,pl,q2⟩:=zz
 refine As (hu pins s2 σ H2 _ I2 q2) fun vu s3 zz=>?_
 obtain⟨u,H3,I3,pu,q3⟩:=zz
 rw[evalPart_none]
 refine C6 ?_
 have I4:A4 X pins σ H3 {s3 with heap:=s3.heap.push {cls:=.type "slice",data:=.fields #[vl,vu,.none]}}:=I3.kept (t':=s3.toks) fun b ob q=>BR _ q
 obtain⟨T,id,hT,ht,hg⟩:=hr pins {s3 with heap:=s3.heap.push {cls:=.type "slice",data:=.fields #[vl,vu,.none]}} σ H3 x v vl vu l u s3.heap.objs.size Q I4 r1 (Heap.IsSliceOf.new ..) pl pu q3
 show wpAny (model X.prog X.w) X.A (subscriptTail e (.Slice lo hi none p2) v (.ref s3.heap.objs.size)) (EP X pins σ Q) X.xe {s3 with heap:=s3.heap.push {cls:=.type "slice",data:=.fields #[vl,vu,.none]}}
 exact tail_any (ops:=[.ref s3.heap.objs.size,v]) ht hT hg (by with_unfolding_all rfl)
def CZ (xs:List V)(lo hi:Option Int):List V:=(xs.drop (HT.sIx xs.length 0 lo)).take (HT.sIx xs.length xs.length hi-HT.sIx xs.length 0 lo)
theorem Vq (xs:List V)(lo hi:Option Int):(CZ xs lo hi).length<=xs.length:=by
 unfold CZ
 rw[Bh,Cn]
 omega
end
def E2 (n:Nat)(i:Int):Option Nat:=if 0<=i then(if i<n then some i.toNat else none) else if -(n:Int)<=i then some (i+n).toNat else none
def Bz {α:Type}(xs:List α)(i:Int):Option α:=(E2 xs.length i).bind fun j=>xs[j]?
theorem N0 {n:Nat}{i:Int}{j:Nat}(h:E2 n i=some j):seqIndex? i n=some j/\j<n/\-(n:Int)<=i/\i<n:=by
 unfold E2 at h
 by_cases h0:0<=i
 .rw[Ag h0]at h
  by_cases h1:i<n
  .rw[Ag h1]at h
   have e:i.toNat=j:=BP h
   exact⟨by rw[seqIndex_of h0 h1,e],by omega,by omega,h1⟩
  .rw[Ae h1]at h;cases h
 .rw[Ae h0]at h
  by_cases h1 : -(n:Int)<=i
  .rw[Ag h1]at h
   have e:(i+n).toNat=j:=BP h
   exact⟨by rw[LU (by omega) h1,e],by omega,h1,by omega⟩
  .rw[Ae h1]at h;cases h
theorem Ji {α:Type}{xs:List α}{i:Int}{v:α}(h:Bz xs i=some v):∃j,seqIndex? i xs.length=some j/\xs[j]?=some v/\j<xs.length/\-(xs.length:Int)<=i/\i<xs.length:=by
 unfold Bz at h
 cases e:E2 xs.length i with
 |none=>rw[e]at h;cases h
 |
  some j=>
  rw[e]at h
  obtain⟨h1,h2,h3,h4⟩:=N0 e
  exact⟨j,h1,h,h2,h3,h4⟩
theorem EG {α:Type}{xs:List α}{j:Nat}{v:α}(h:xs[j]?=some v):Bz xs (j:Int)=some v:=by
 have hj:j<xs.length:=(BM.mp h).1
 have e:E2 xs.length (j:Int)=some j:=by
  unfold E2
  rw[Ag (by omega),Ag (by omega)];simp
 unfold Bz;rw[e];exact h
theorem L1 {α:Type}(xs:List α)(v:α):Bz (xs++[v]) (-1)=some v:=by
 have hl:(xs++[v]).length=xs.length+1:=by simp
 have e:E2 (xs++[v]).length (-1)=some xs.length:=by
  unfold E2
  rw[hl,Ae (by decide),Ag (by omega)]
  congr 1
  omega
 unfold Bz
 rw[e]
 show(xs++[v])[xs.length]?=some v
 simp
def U6 (b:Expr):Prop := ∀o i,subscripted b false o i=operate [o,i] (getItem o i)
def DA (X:Cx)(r:R2):Prop:=
 ∀(value slice:Expr) (pins:List (Addr×Obj)) (s:Shared) (σ:St) (H:Hp) (x y:V) (v u:Value) (Q:VK),A4 X pins σ H s->Ay x v->Ay y u->r x y H Q->
  subscripted slice false v u=operate [v,u] (getItem v u)->wpAny (model X.prog X.w) X.A (subscriptTail value slice v u) (EP X pins σ Q) X.xe s
def FT (X:Cx)(id:String)(r:V->List V->Hp->VK->Prop):Prop:=
 ∀(pins:List (Addr×Obj)) (s:Shared) (σ:St) (H:Hp) (x:V) (xs:List V) (v:Value) (us:List Value) (Q:VK),A4 X pins σ H s->Ay x v->AA xs us->r x xs H Q->
  wpAny (model X.prog X.w) X.A (call (.builtin id) (v::us)) (EP X pins σ Q) X.xe s
section
variable {X:Cx}{a b:Expr}{ta tb:TE}{pos:Pos}
theorem Af {r:R2}(hr:DA X r)(ha:PE X a ta)(hb:PE X b tb)(hs:U6 b):PE X (.Subscript a b pos) (EL r ta tb):=by
 intro pins s σ H Q I h
 exact Subscript_ (Kg ha hb I h fun v u s2 x y H2 I2 rx ry q=>hr a b pins s2 σ H2 x y v u Q I2 rx ry q (hs _ _))
def HJ (K:Xa):R2:=fun x y H Q=>∃p xs i v,x = .ref p/\y = .int i/\A3 K H p xs/\Bz xs i=some v/\Q v H
def Fy (K:Xa):R2:=fun x y H Q=>∃p xs i v,x = .ref p/\y = .int i/\Ah K H p xs/\Bz xs i=some v/\Q v H
def L3:R2:=fun x y H Q=>∃z i c,x = .str z/\y = .int i/\z.length<=sizeLine/\Bz z.cps.toList i=some c/\Q (.str ⟨#[c]⟩) H
theorem AV:DA X (HJ X.K):=by
 intro value slice pins s σ H x y v u Q I rx ry h hs
 obtain⟨p,xs,i,z,rfl,rfl,hq,he,q⟩:=h
 cases rx
 obtain⟨t,rfl⟩:=ry
 obtain⟨its,r,pl,hz⟩:=I.list hq
 obtain⟨j,h1,h2,h3,h4,h5⟩:=Ji he
 obtain⟨w,ew,rw'⟩:=r.get h2
 have hl:=r.length
 have hn:=FW
 have fin:EP X pins σ Q w s:=⟨z,H,I,rw',q⟩
 by_cases h0:0<=i
 .have hj:i.toNat=j:=by
   rw[seqIndex_of h0 h5]at h1
   exact BP h1
  exact item_listR pl.isList h0 (by omega) (by rw[hj];simpa using ew) fin hs
 .have hj:(i+(its.toArray.size:Int)).toNat=j:=by
   rw[LU (by omega) h4]at h1
   rw[B8,←hl]
   exact BP h1
  exact subscriptTail_builtinR (x:=w) pl.isList.typeIs slot_list_getitem.lookup
   (wpAny_getItem_list_neg (Q:=fun r s'=>r=w/\EP X pins σ Q r s') pl.isList (by omega) (by rw[B8]<;>omega) (by omega) (by rw[hj];simpa using ew) ⟨rfl,fin⟩) hs
theorem AH:DA X (Fy X.K):=by
 intro value slice pins s σ H x y v u Q I rx ry h hs
 obtain⟨p,xs,i,z,rfl,rfl,hq,he,q⟩:=h
 cases rx
 obtain⟨t,rfl⟩:=ry
 obtain⟨its,r,pl,hz⟩:=I.tuple hq
 obtain⟨j,h1,h2,h3,h4,h5⟩:=Ji he
 obtain⟨w,ew,rw'⟩:=r.get h2
 have hl:=r.length
 have hn:=FW
 have fin:EP X pins σ Q w s:=⟨z,H,I,rw',q⟩
 exact subscriptTail_builtinR (x:=w) pl.typeIs slot_tuple_getitem.lookup
  (getItem_tuple (j:=j) (Q:=fun r s'=>r=w/\EP X pins σ Q r s') pl (by omega) (by omega) (by rw[B8,←hl];exact h1) (by simpa using ew) ⟨rfl,fin⟩) hs
theorem Es:DA X L3:=by
 intro value slice pins s σ H x y v u Q I rx ry h hs
 obtain⟨z,i,c,rfl,rfl,hz,he,q⟩:=h
 obtain⟨t,rfl⟩:=rx
 obtain⟨t',rfl⟩:=ry
 obtain⟨j,h1,h2,h3,h4,h5⟩:=Ji he
 have hl:z.cps.toList.length=z.length:=by simp[Str.length]
 rw[hl]at h1 h4 h5
 have hn:=FW
 exact tail_any (GV s z t) slot_str_getitem.lookup (getItem_str (c:=c) (by
  have e1:decide (i < -(2 ^ 63:Int))=false:=BI (by omega)
  have e2:decide (i≥2 ^ 63)=false:=BI (by omega)
  rw[e1,e2,LC]) (by rw[h1];simpa using h2) ⟨.str ⟨#[c]⟩,H,I.tok _,⟨_,rfl⟩,q⟩) hs
theorem Ub (its:List Value)(n j:Nat)(u:Value):Obj.mapSeq (·.setIfInBounds j u) {cls:=.type "list",data:=.seq its.toArray n}={cls:=.type "list",data:=.seq (its.set j u).toArray n}:=by
 simp[Obj.mapSeq]
theorem A4.lst {pins:List (Addr×Obj)}{σ:St}{H:Hp}{s:Shared}{p:Addr}{xs:List V}(I:A4 X pins σ H s)(h:H p=some (.lst xs)) :
  ∃(its:List Value) (n:Nat),AA xs its/\s.heap.get? p=some {cls:=.type "list",data:=.seq its.toArray n}/\xs.length<=sizeLine:=by
 obtain⟨z,its,n,r,e⟩:=I.hok p _ h
 exact⟨its,n,r,e,z⟩
theorem A4.lstUpd {pins:List (Addr×Obj)}{σ:St}{H:Hp}{s:Shared}{p:Addr}{xs ys:List V}{its its':List Value}{n n':Nat}{f:Obj->Obj}(I:A4 X pins σ H s)(h:H p=some (.lst xs))
  (ho:s.heap.get? p=some {cls:=.type "list",data:=.seq its.toArray n}) (hf:f {cls:=.type "list",data:=.seq its.toArray n}={cls:=.type "list",data:=.seq its'.toArray n'}) (r:AA ys its') (hz:ys.length<=sizeLine) (t:Nat) :
  A4 X pins σ (upd H p (.lst ys)) {s with heap:=s.heap.update p f,toks:=t}:=by
 have e:(s.heap.update p f).get? p=some {cls:=.type "list",data:=.seq its'.toArray n'}:=by
  rw[Heap.get?_update_self f ho (by rw[hf]<;>rfl),hf]
 refine I.write (x:=p) (e:=p) (by rw[h];trivial) (.inl rfl) (fun b u hb q=>(LD _ _ (Ne.symm hb)).trans q) ⟨_,e⟩ ?_
 exact⟨hz,its',n',r,e⟩
def Q6:V->V->V->Hp->(Hp->Prop)->Prop:=fun o i v H Q=>∃p xs k j,o = .ref p/\i = .int k/\H p=some (.lst xs)/\E2 xs.length k=some j/\Q (upd H p (.lst (xs.set j v)))
theorem Mi:N1 X Q6:=by
 intro pins s σ H o i v ov iv u Q I ro ri rv h
 obtain⟨p,xs,k,j,rfl,rfl,hp,hj,q⟩:=h
 cases ro
 obtain⟨t,rfl⟩:=ri
 obtain⟨its,n,r,ho,hz⟩:=I.lst hp
 obtain⟨h1,h2,h3,h4⟩:=N0 hj
 have hl:=r.length
 have hn:=FW
 have I':A4 X pins σ (upd H p (.lst (xs.set j v))) {s with heap:=s.heap.update p (Obj.mapSeq (·.setIfInBounds j u))}:=
  I.lstUpd hp ho (Ub its n j u) (r.set rv j) (by rw[List.length_set];exact hz) s.toks
 by_cases h0:0<=k
 .have hk:k.toNat=j:=by
   rw[seqIndex_of h0 h4]at h1
   exact BP h1
  exact PySem.W.ki_setAt ho h0 (by omega) (by rw[B8,←hl];exact h4) (by rw[hk];exact⟨_,I',q⟩)
 .have hk:(k+(its.toArray.size:Int)).toNat=j:=by
   rw[LU (by omega) h3]at h1
   rw[B8,←hl]
   exact BP h1
  exact PySem.W.ki_setBack ho (by omega) (by rw[B8,←hl];exact h3) (by omega) (by rw[hk];exact⟨_,I',q⟩)
theorem Rx (lo hi:Option Int)(n:Nat):(sliceBounds lo hi none n).1=((HT.sIx n 0 lo:Nat):Int)/\(sliceBounds lo hi none n).2.1=((HT.sIx n n hi:Nat):Int)/\(sliceBounds lo hi none n).2.2=1:=by
 refine⟨?_,?_,rfl⟩
 .cases lo with
  |none=>simp[sliceBounds,HT.sIx]
  |
   some i=>
   simp only[sliceBounds,HT.sIx,Option.getD_none,show(1:Int)>0 by decide,EY]
   by_cases h:i<0
   .simp only[h,EY]<;>omega
   .simp only[h,Ig]<;>omega
 .cases hi with
  |none=>simp[sliceBounds,HT.sIx]
  |
   some i=>
   simp only[sliceBounds,HT.sIx,Option.getD_none,show(1:Int)>0 by decide,EY]
   by_cases h:i<0
   .simp only[h,EY]<;>omega
   .simp only[h,Ig]<;>omega
theorem RA (its:List Value)(lo hi:Option Int):slicePick its.toArray lo hi none=((its.drop (HT.sIx its.length 0 lo)).take (HT.sIx its.length its.length hi-HT.sIx its.length 0 lo)).toArray:=by
 obtain⟨h1,h2,h3⟩:=Rx lo hi its.toArray.size
 unfold slicePick
 rw[h1,h2,h3]
 simp only[sliceRange_one,pick_run,B8]<;>rfl
def VF (K:Xa):V->Option Int->Option Int->Hp->VK->Prop:=fun x lo hi H Q=>∃a xs,x = .ref a/\A3 K H a xs/\∀p,H p=none->Q (.ref p) (upd H p (.lst (CZ xs lo hi)))
theorem F9:Lf X (VF X.K):=by
 intro pins s σ H x v vl vu lo hi sl Q I rx hs pl pu h
 obtain⟨a,xs,rfl,hx,q⟩:=h
 cases rx
 obtain⟨its,r,ht,hz⟩:=I.list hx
 have hlen:=r.length
 refine⟨"list",_,slot_list_getitem.lookup,ht.isList.typeIs,?_⟩
 refine wpAny_getItem_list_slice ht.isList hs pl pu .none (by simp) ?_ (by rw[B8]<;>omega)
 rw[RA,←hlen]
 refine⟨.ref s.heap.objs.size,_,I.laid (t':=s.toks) (o:=.lst (CZ xs lo hi)) (fun b ob q=>BR _ q) (Ai _) ?_,rfl,q _ (I.hok.fresh (Ai _))⟩
 exact⟨C5 (Vq xs lo hi) hz,_,0,(r.drop (HT.sIx xs.length 0 lo)).take (HT.sIx xs.length xs.length hi-HT.sIx xs.length 0 lo),D7 _ rfl⟩
def CM:V->Bool
 |.non=>true
 |.bl _=>true
 |.int _=>true
 |.str _=>true
 |_=>false
def E1:V->V->Bool
 |.non,.non=>true
 |.bl a,.bl b=>a==b
 |.bl a,.int b=>(if a then 1 else 0)==b
 |.int a,.bl b=>a==(if b then 1 else 0)
 |.int a,.int b=>a==b
 |.str a,.str b=>a==b
 |_,_=>false
theorem KJ {A:Around}{s:Shared}{y x:V}{u v:Value}(ry:Ay y u)(rx:Ay x v)(fy:CM y=true)(fx:CM x=true):SeqAt.EqAt A s u v (E1 y x):=by
 cases y with
 |
  non=>
  cases ry
  cases x with
  |non=>cases rx;exact SeqAt.EqAt.same _
  |bl b=>cases rx;exact SeqAt.EqAt.none_bool b
  |int b=>obtain⟨t,rfl⟩:=rx;exact SeqAt.EqAt.none_int b t
  |str b=>obtain⟨t,rfl⟩:=rx;exact SeqAt.EqAt.none_str b t
  |_=>exact absurd (show false=true from fx) BQ
 |
  bl a=>
  cases ry
  cases x with
  |non=>cases rx;exact SeqAt.EqAt.bool_none a
  |bl b=>cases rx;exact SeqAt.EqAt.bool_bool a b
  |int b=>obtain⟨t,rfl⟩:=rx;exact SeqAt.EqAt.bool_int a b t
  |str b=>obtain⟨t,rfl⟩:=rx;exact SeqAt.EqAt.bool_str a b t
  |_=>exact absurd (show false=true from fx) BQ
 |
  int a=>
  obtain⟨t',rfl⟩:=ry
  cases x with
  |non=>cases rx;exact SeqAt.EqAt.int_none a t'
  |bl b=>cases rx;exact SeqAt.EqAt.int_bool a t' b
  |int b=>obtain⟨t,rfl⟩:=rx;exact SeqAt.EqAt.int_int a t' b t
  |str b=>obtain⟨t,rfl⟩:=rx;exact SeqAt.EqAt.int_str a t' b t
  |_=>exact absurd (show false=true from fx) BQ
 |
  str a=>
  obtain⟨t',rfl⟩:=ry
  cases x with
  |non=>cases rx;exact SeqAt.EqAt.str_none a t'
  |bl b=>cases rx;exact SeqAt.EqAt.str_bool a t' b
  |int b=>obtain⟨t,rfl⟩:=rx;exact SeqAt.EqAt.str_int a t' b t
  |str b=>obtain⟨t,rfl⟩:=rx;exact SeqAt.EqAt.str_str a t' b t
  |_=>exact absurd (show false=true from fx) BQ
 |_=>exact absurd (show false=true from fy) BQ
def Dy (x:V)(u:Value):Bool:=match u with
 |.none=>E1 .non x
 |.bool b=>E1 (.bl b) x
 |.int i _=>E1 (.int i) x
 |.str z _=>E1 (.str z) x
 |_=>false
theorem Oc {x y:V}{u:Value}(r:Ay y u)(f:CM y=true):Dy x u=E1 y x:=by
 cases y with
 |non=>cases r;rfl
 |bl b=>cases r;rfl
 |int i=>obtain⟨t,rfl⟩:=r;rfl
 |str z=>obtain⟨t,rfl⟩:=r;rfl
 |_=>exact absurd (show false=true from f) BQ
theorem Hb {x:V}:∀{xs:List V} {us:List Value},AA xs us->xs.all CM=true->us.any (Dy x)=xs.any fun y=>E1 y x
 |_,_,.nil,_=>rfl
 |
  y::xs,u::us,.cons r t,f=>by
  rw[K1,EB]at f
  rw[HZ,HZ,Oc r f.1,Hb t f.2]
theorem HC {A:Around}{s:Shared}{x:V}{v:Value}(rx:Ay x v)(fx:CM x=true):∀{xs:List V} {us:List Value},AA xs us->xs.all CM=true->∀u∈us,SeqAt.EqAt A s u v (Dy x u)
 |_,_,.nil,_=>fun u hu=>by cases hu
 |
  y::xs,u::us,.cons r t,f=>fun u' hu=>by
  rw[K1,EB]at f
  rcases AQ.mp hu with rfl|hu
  .rw[Oc r f.1];exact KJ r rx f.1 fx
  .exact HC rx fx t f.2 u' hu
def Dj (x:V)(xs:List V):Bool:=xs.any fun y=>E1 y x
def Ir (K:Xa)(neg:Bool):R2:=fun x y H Q=>∃p xs,y = .ref p/\(A3 K H p xs\/Ah K H p xs)/\CM x=true/\xs.all CM=true/\Q (.bl (if neg then !Dj x xs else Dj x xs)) H
theorem Gx:Bq X (compareOp .In) (Ir X.K false):=by
 intro pins s σ H x y v u Q I rx ry h
 obtain⟨p,xs,rfl,hq,fx,fs,q⟩:=h
 cases ry
 rcases hq with hq|hq
 .obtain⟨its,r,pl,hz⟩:=I.list hq
  refine SeqAt.in_listAt (Dy x) pl.isList (fun w hw=>HC rx fx r fs w (by simpa using hw)) ⟨.bl _,H,I,rfl,?_⟩
  rw[show its.toArray.any (Dy x)=its.any (Dy x) by simp,Hb r fs]
  exact q
 .obtain⟨its,r,pl,hz⟩:=I.tuple hq
  refine SeqAt.in_tupleAt (Dy x) pl (fun w hw=>HC rx fx r fs w (by simpa using hw)) ⟨.bl _,H,I,rfl,?_⟩
  rw[show its.toArray.any (Dy x)=its.any (Dy x) by simp,Hb r fs]
  exact q
theorem L5:Bq X (compareOp .NotIn) (Ir X.K true):=by
 intro pins s σ H x y v u Q I rx ry h
 obtain⟨p,xs,rfl,hq,fx,fs,q⟩:=h
 cases ry
 rcases hq with hq|hq
 .obtain⟨its,r,pl,hz⟩:=I.list hq
  refine SeqAt.notIn_listAt (Dy x) pl.isList (fun w hw=>HC rx fx r fs w (by simpa using hw)) ⟨.bl _,H,I,rfl,?_⟩
  rw[show its.toArray.any (Dy x)=its.any (Dy x) by simp,Hb r fs]
  exact q
 .obtain⟨its,r,pl,hz⟩:=I.tuple hq
  refine SeqAt.notIn_tupleAt (Dy x) pl (fun w hw=>HC rx fx r fs w (by simpa using hw)) ⟨.bl _,H,I,rfl,?_⟩
  rw[show its.toArray.any (Dy x)=its.any (Dy x) by simp,Hb r fs]
  exact q
theorem Vd:Bq X (compareOp .NotIn) (fun x y H Q=>∃i j,x = .str i/\y = .str j/\Q (.bl (!(!(Builtin.Str.occurrences j i 0 j.length 1).isEmpty))) H):=by
 intro pins s σ H x y v u Q I rx ry h
 obtain⟨i,j,rfl,rfl,q⟩:=h
 obtain⟨t,rfl⟩:=rx
 obtain⟨t',rfl⟩:=ry
 exact notIn_str ⟨.bl _,H,I,rfl,q⟩
theorem BJ:Eb X (.builtin "len") (fun xs H Q=>∃p ys,xs=[.ref p]/\(A3 X.K H p ys\/Ah X.K H p ys)/\Q (.int ys.length) H):=by
 intro pins s σ H xs us Q I r h
 obtain⟨p,ys,rfl,hq,q⟩:=h
 obtain⟨u,rfl,rx⟩:=EK r
 cases rx
 have hn:=FW
 rcases hq with hq|hq
 .obtain⟨its,r',pl,hz⟩:=I.list hq
  have hlen:=r'.length
  exact Calls.call_len_list pl.isList (by simp only[B8]<;>omega) ⟨.int ys.length,H,I.tok _,⟨s.toks+1,by rw[B8,hlen]⟩,q⟩
 .obtain⟨its,r',pl,hz⟩:=I.tuple hq
  have hlen:=r'.length
  exact len_tuple pl (by simp only[B8]<;>omega) ⟨.int ys.length,H,I.tok _,⟨s.toks+1,by rw[B8,hlen]⟩,q⟩
theorem HH:Eb X (.builtin "len") (fun xs H Q=>∃z,xs=[.str z]/\z.length<=sizeLine/\Q (.int z.length) H):=by
 intro pins s σ H xs us Q I r h
 obtain⟨z,rfl,hz,q⟩:=h
 obtain⟨u,rfl,t,rfl⟩:=EK r
 have hn:=FW
 exact len_str (by omega) ⟨.int z.length,H,I.tok _,⟨_,rfl⟩,q⟩
theorem Pt:Eb X (.type "list") (fun xs H Q=>∃p ys,xs=[.ref p]/\(A3 X.K H p ys\/Ah X.K H p ys)/\∀l,H l=none->Q (.ref l) (upd H l (.lst ys))):=by
 intro pins s σ H xs us Q I r h
 obtain⟨p,ys,rfl,hq,q⟩:=h
 obtain⟨u,rfl,rx⟩:=EK r
 cases rx
 have fin:∀(its:List Value),AA ys its->ys.length<=sizeLine->∀(h':Heap) (c':Nat),(∀b o',s.heap.get? b=some o'->h'.get? b=some o')->
   h'.get? s.heap.objs.size=some {cls:=.type "list",dict:=none,data:=.seq its.toArray c',slots := #[]}->EP X pins σ Q (.ref s.heap.objs.size) {s with heap:=h'}:=fun its r' hz h' c' kp e=>
  ⟨.ref s.heap.objs.size,_,I.laid (t':=s.toks) kp (Ai _) (show BO X.prog X.w _ h' _ (.lst ys) from⟨hz,its,c',r',e⟩),rfl,q _ (I.hok.fresh (Ai _))⟩
 rcases hq with hq|hq
 .obtain⟨its,r',pl,hz⟩:=I.list hq
  have hlen:=r'.length
  obtain⟨o,ho,hc,n,hd⟩:=pl.isList
  exact call_list_seq p (.inl rfl) ho hc hd (fun h' c' kp e=>fin its r' hz h' c' kp e) (by simp only[B8]<;>omega)
 .obtain⟨its,r',pl,hz⟩:=I.tuple hq
  have hlen:=r'.length
  obtain⟨o,ho,hc,n,hd⟩:=pl
  exact call_list_seq p (.inr rfl) ho hc hd (fun h' c' kp e=>fin its r' hz h' c' kp e) (by simp only[B8]<;>omega)
theorem EM:Eb X (.type "tuple") (fun xs H Q=>∃p ys,xs=[.ref p]/\((A3 X.K H p ys/\∀l,H l=none->Q (.ref l) (upd H l (.tup ys)))\/(Ah X.K H p ys/\Q (.ref p) H))):=by
 intro pins s σ H xs us Q I r h
 obtain⟨p,ys,rfl,h⟩:=h
 obtain⟨u,rfl,rx⟩:=EK r
 cases rx
 rcases h with⟨hq,q⟩|⟨hq,q⟩
 .obtain⟨its,r',pl,hz⟩:=I.list hq
  have hlen:=r'.length
  refine call_tuple_list pl.isList (fun h' kp=>?_) (by simp only[B8]<;>omega)
  have I1:A4 X pins σ H {s with heap:=h'}:=I.kept (t':=s.toks) kp
  have I2:A4 X pins σ (upd H h'.objs.size (.tup ys)) {s with heap:=h'.push {cls:=.type "tuple",data:=.seq its.toArray}}:=
   I1.laid (t':=s.toks) (fun b o e=>BR _ e) (Ai _) (show BO X.prog X.w _ _ _ (.tup ys) from⟨hz,its,r',Fu.new _ _⟩)
  exact⟨.ref h'.objs.size,_,I2,rfl,q _ (I1.hok.fresh (Ai _))⟩
 .obtain⟨its,r',pl,hz⟩:=I.tuple hq
  exact call_tuple_same pl ⟨.ref p,H,I,rfl,q⟩
def Iw (K:Xa)(T:String)(x:V)(H:Hp):Prop:=match x with
 |.str _=>T="str"
 |.int _=>T="int"
 |.ref p=>(T="list"/\∃xs,A3 K H p xs)\/(T="tuple"/\∃o,K.lookup p=some o/\o.cls = .type "tuple"/\o.dict=none)\/
  (T="dict"/\((∃kvs,H p=some (.dK kvs))\/∃kvs,H p=some (.dT kvs)))\/(T="set"/\∃S n,H p=some (.set S n))
 |_=>False
theorem Ho {pins:List (Addr×Obj)}{σ:St}{H:Hp}{s:Shared}{T:String}{x:V}{v:Value}(I:A4 X pins σ H s)(r:Ay x v)(ty:Iw X.K T x H) :
  s.TypeIs v T/\∀a,v = .ref a->∃ob,s.heap.get? a=some ob/\ob.dict=none:=by
 cases x with
 |
  str z=>
  obtain⟨t,rfl⟩:=r
  cases (show T="str" from ty)
  exact⟨GV s z t,fun _ e=>nomatch e⟩
 |
  int i=>
  obtain⟨t,rfl⟩:=r
  cases (show T="int" from ty)
  exact⟨typeIs_int s i t,fun _ e=>nomatch e⟩
 |
  ref p=>
  cases r
  rcases ty with⟨rfl,xs,hq⟩|⟨rfl,o,hk,hc,hd⟩|⟨rfl,hk⟩|⟨rfl,S,n,hk⟩
  .obtain⟨its,_,pl,_⟩:=I.list hq
   refine⟨pl.isList.typeIs,fun a e=>?_⟩
   cases e
   obtain⟨o,n,e,c,hd,_⟩:=pl
   exact⟨o,e,hd⟩
  .refine⟨⟨o,I.kIn p o hk,hc⟩,fun a e=>?_⟩
   cases e
   exact⟨o,I.kIn _ o hk,hd⟩
  .have z:∃o,s.heap.get? p=some o/\o.ExactDict:=by
    rcases hk with⟨kvs,hk⟩|⟨kvs,hk⟩
    .obtain⟨_,_,_,_,o,_,_,e,ex,_⟩:=I.hok p _ hk
     exact⟨o,e,ex⟩
    .obtain⟨_,_,_,_,o,_,_,e,ex,_⟩:=I.hok p _ hk
     exact⟨o,e,ex⟩
   obtain⟨o,e,ex⟩:=z
   refine⟨⟨o,e,ex.1⟩,fun a e2=>?_⟩
   cases e2
   exact⟨o,e,ex.2.1⟩
  .obtain⟨o,_,_,_,e,ex,_⟩:=I.hok p _ hk
   refine⟨⟨o,e,ex.1⟩,fun a e2=>?_⟩
   cases e2
   exact⟨o,e,ex.2.1⟩
 |_=>exact False.elim ty
def PN (K:Xa)(T:String)(r:V->List V->Hp->VK->Prop)(to:TE):TE:=fun σ H Q=>to σ H fun x H1=>Iw K T x H1/\r x [] H1 Q
def Ki (K:Xa)(T:String)(r:V->List V->Hp->VK->Prop)(to:TE)(t:TA):TE:=fun σ H Q=>to σ H fun x H1=>Iw K T x H1/\t σ H1 fun xs H2=>r x xs H2 Q
variable {o e:Expr}{es:List Expr}{to:TE}{t:TA}{name:Str}{apos cpos:Pos}{T id:String}{r:V->List V->Hp->VK->Prop}
theorem DU (pa:PlainAttrs T)(slot:Slot T name id)(hty:typeOf (.builtin id)=pure (.type "method_descriptor"))(hm:FT X id r)(ho:PE X o to)
  (hbase:attributeBase o name X.env (eval o X.env)=eval o X.env:=by rfl) (hline:(apos.endLine==cpos.line)=true:=by rfl):PE X (.Call (.Attribute o name apos) [] [] cpos) (PN X.K T r to):=by
 intro pins s σ H Q I h
 refine wpAny_Call_method0_late hbase hline (As (ho pins s σ H _ I h) fun v s1 zz=>?_)
 obtain⟨x,H1,I1,r1,ty,q1⟩:=zz
 obtain⟨h1,h2⟩:=Ho I1 r1 ty
 exact⟨T,id,pa,slot,hty,h1,h2,Calls.callWith_builtin rfl (PySem.evalArgs_none (hm pins s1 σ H1 x [] v [] Q I1 r1 .nil q1))⟩
theorem Bm (pa:PlainAttrs T)(slot:Slot T name id)(hty:typeOf (.builtin id)=pure (.type "method_descriptor"))(hm:FT X id r)(ho:PE X o to)(ha:PA X (e::es) t)
  (hbase:attributeBase o name X.env (eval o X.env)=eval o X.env:=by rfl)
  (hfew:((backTo cpos (starEach (e::es) X.env)).all (fun x=>!x.1)&&(backToKw cpos (keywordEach [] X.env)).all (fun x=>x.1.isSome)
   && decide ((e::es).length+([]:List Keyword).length+(if([]:List Keyword).isEmpty then 0 else 1)<30))=true:=by rfl)
  (hline:(apos.endLine==cpos.line)=true:=by rfl) (hs:starEach (e::es) X.env=(false,eval e X.env)::starEach es X.env:=by rfl) (hplain:(backTo cpos (starEach es X.env)).any (·.1)=false:=by rfl) :
  PE X (.Call (.Attribute o name apos) (e::es) [] cpos) (Ki X.K T r to t):=by
 intro pins s σ H Q I h
 refine LV hbase hfew hline rfl (As (ho pins s σ H _ I h) fun v s1 zz=>?_)
 obtain⟨x,H1,I1,r1,ty,q1⟩:=zz
 obtain⟨h1,h2⟩:=Ho I1 r1 ty
 refine⟨T,id,pa,slot,hty,h1,h2,?_⟩
 have hA:=ha cpos pins s1 σ H1 _ I1 q1
 rw[hs]at hA ⊢
 refine Calls.callWith_builtin (by show(false||(backTo cpos (starEach es X.env)).any (·.1))=false;rw[hplain]<;>rfl) (Calls.evalArgs_plain ?_)
 refine As hA fun us s2 zz=>?_
 obtain⟨vs,H2,I2,r2,q2⟩:=zz
 exact hm pins s2 σ H2 x vs v us Q I2 r1 r2 q2
end
def LA (X:Cx)(id:String)(r:V->List V->Hp->VK->Prop):Prop:=
 ∀(pins:List (Addr×Obj)) (s:Shared) (σ:St) (H:Hp) (x:V) (xs:List V) (v:Value) (us:List Value) (Q:VK),A4 X pins σ H s->Ay x v->AA xs us->r x xs H Q->
  wpAny (model X.prog X.w) X.A (call (.builtin id) (v::us)) (EP X pins σ Q) X.xe s
theorem AA.one:∀{x:V} {us:List Value},AA [x] us->∃u,us=[u]/\Ay x u:=by
 intro x us h
 cases h with
 |
  cons r q=>
  cases q
  exact⟨_,rfl,r⟩
theorem AA.two:∀{x y:V} {us:List Value},AA [x,y] us->∃u v,us=[u,v]/\Ay x u/\Ay y v:=by
 intro x y us h
 cases h with
 |
  cons r q=>
  obtain⟨v,rfl,z⟩:=AA.one q
  exact⟨_,_,rfl,r,z⟩
theorem AA.zero:∀{us:List Value},AA [] us->us=[]
 |_,.nil=>rfl
theorem AA.dropLast {xs:List V}{us:List Value}(h:AA xs us):AA xs.dropLast us.dropLast:=by
 induction h with
 |nil=>exact .nil
 |
  cons r t ih=>
  cases t with
  |nil=>exact .nil
  |cons q t'=>exact .cons r ih
theorem Ui {α:Type}(l:List α):l.eraseIdx (l.length-1)=l.dropLast:=by
 induction l with
 |nil=>rfl
 |
  cons a r ih=>
  cases r with
  |nil=>rfl
  |
   cons b r=>
   have e:(a::b::r).length-1=((b::r).length-1)+1:=by
    have h1:(a::b::r).length=r.length+2:=rfl
    have h2:(b::r).length=r.length+1:=rfl
    omega
   rw[e,List.eraseIdx_cons_succ,ih]
   all_goals rfl
section
variable {X:Cx}{pins:List (Addr×Obj)}{σ:St}{H:Hp}{s:Shared}{l b:Addr}{xs ys zs:List V}
theorem A4.lset {its its':List Value}{n:Nat}{f:Array Value->Array Value}{t':Nat}(I:A4 X pins σ H s)(hH:H l=some (.lst xs))
  (e:s.heap.get? l=some {cls:=.type "list",data:=.seq its.toArray n}) (hf:f its.toArray=its'.toArray) (hv:AA ys its') (hz:ys.length<=sizeLine) :
  A4 X pins σ (upd H l (.lst ys)) {s with heap:=s.heap.update l (Obj.mapSeq f),toks:=t'}:=by
 have q:=PySem.IsL.update e f
 rw[hf]at q
 refine I.write (x:=l) (e:=l) (by rw[hH];exact trivial) (.inl rfl) (fun b' u hb hu=>(LD s.heap (Obj.mapSeq f) (Ne.symm hb)).trans hu) ⟨_,q⟩ ?_
 exact⟨hz,its',_,hv,q⟩
theorem A4.lnew {its:List Value}{t':Nat}(I:A4 X pins σ H s)(hv:AA ys its)(hz:ys.length<=sizeLine) :
  A4 X pins σ (upd H s.heap.objs.size (.lst ys)) {s with heap:=s.heap.push {cls:=.type "list",data:=.seq its.toArray},toks:=t'}:=
 I.laid (fun _ _ q=>BR _ q) (Ai _) ⟨hz,its,0,hv,D7 _ rfl⟩
theorem A4.fresh (I:A4 X pins σ H s):H s.heap.objs.size=none:=I.hok.fresh (Ai _)
theorem A4.lstM (I:A4 X pins σ H s)(hH:H l=some (.lst xs)):xs.length<=sizeLine/\∃(its:List Value) (n:Nat),AA xs its/\xs.length=its.length/\s.heap.get? l=some {cls:=.type "list",data:=.seq its.toArray n}:=by
 obtain⟨z,its,n,r,e⟩:=I.hok l _ hH
 exact⟨z,its,n,r,r.length,e⟩
end
section
variable {X:Cx}
def LX:V->List V->Hp->VK->Prop:=fun x vs H Q=>∃l xs y,x = .ref l/\vs=[y]/\H l=some (.lst xs)/\xs.length<sizeLine/\Q .non (upd H l (.lst (xs++[y])))
theorem Cc:LA X "list.append" LX:=by
 intro pins s σ H x vs v us Q I rx rv h
 obtain⟨l,xs,y,rfl,rfl,hH,hz,q⟩:=h
 cases rx
 obtain⟨u,rfl,ru⟩:=rv.one
 obtain⟨z,its,n,r,hl,e⟩:=I.lstM hH
 refine Gb F.slot_list_append ⟨_,e,rfl⟩ F.entry_list_append (F.args_list_append_2 _ _) (PySem.list_append l its.toArray n u (by rw[B8];omega)) ⟨e,?_⟩
 refine⟨.non,_,I.lset (its':=its++[u]) hH e (by simp) (r.append (.cons ru .nil)) ?_,rfl,q⟩
 rw[Au,BD]
 omega
def T5:V->List V->Hp->VK->Prop:=fun x vs H Q=>∃l xs y,x = .ref l/\vs=[]/\H l=some (.lst xs)/\xs[xs.length-1]?=some y/\Q y (upd H l (.lst xs.dropLast))
theorem Ef:LA X "list.pop" T5:=by
 intro pins s σ H x vs v us Q I rx rv h
 obtain⟨l,xs,y,rfl,rfl,hH,hy,q⟩:=h
 cases rx
 have hus:=rv.zero
 subst hus
 obtain⟨z,its,n,r,hl,e⟩:=I.lstM hH
 obtain⟨u,hu,ru⟩:=r.get hy
 have hy':its.toArray[its.toArray.size-1]?=some u:=by
  show its.toArray[its.length-1]?=some u
  rw[←Array.getElem?_toList,←hl]
  exact hu
 refine Gb F.slot_list_pop ⟨_,e,rfl⟩ F.entry_list_pop (F.args_list_pop_1 _) (MeetsSeq.list_pop_last l its.toArray n u hy' (by rw[B8];omega)) ⟨e,?_⟩
 refine⟨y,_,I.lset (its':=its.dropLast) hH e ?_ r.dropLast ?_,ru,q⟩
 .show its.toArray.eraseIdxIfInBounds (its.toArray.size-1)=its.dropLast.toArray
  rw[B8,List.eraseIdxIfInBounds_toArray,Ui]
 .rw[List.length_dropLast]
  omega
def UW:V->List V->Hp->VK->Prop:=fun x vs H Q=>∃l xs,x = .ref l/\vs=[]/\H l=some (.lst xs)/\Q .non (upd H l (.lst []))
theorem PY:LA X "list.clear" UW:=by
 intro pins s σ H x vs v us Q I rx rv h
 obtain⟨l,xs,rfl,rfl,hH,q⟩:=h
 cases rx
 have hus:=rv.zero
 subst hus
 obtain⟨z,its,n,r,hl,e⟩:=I.lstM hH
 refine Gb F.slot_list_clear ⟨_,e,rfl⟩ F.entry_list_clear (F.args_list_clear_1 _) (AutoSeq1.list_clear_list_0 l its.toArray n (by rw[B8];omega)) ⟨e,?_⟩
 exact⟨.non,_,I.lset (its':=[]) (ys:=[]) hH e rfl .nil (BC _),rfl,q⟩
def PV:R2:=fun x y H Q=>∃l b xs zs,x = .ref l/\y = .ref b/\H l=some (.lst xs)/\H b=some (.lst zs)/\xs.length+zs.length<=sizeLine/\∀p,H p=none->Q (.ref p) (upd H p (.lst (xs++zs)))
theorem F7:Bq X (binaryOp .Add) PV:=by
 intro pins s σ H x y v u Q I rx ry h
 obtain⟨l,b,xs,zs,rfl,rfl,hH,hB,hz,q⟩:=h
 cases rx
 cases ry
 obtain⟨z,its,n,r,hl,e⟩:=I.lstM hH
 obtain⟨z2,its2,n2,r2,hl2,e2⟩:=I.lstM hB
 refine PySem.P.add_list e e2 ?_ (by rw[B8,B8];omega)
 have ea:its.toArray++its2.toArray=(its++its2).toArray:=by simp
 rw[ea]
 exact⟨.ref _,_,I.lnew (t':=s.toks) (r.append r2) (by rw[Au];omega),rfl,q _ I.fresh⟩
end
section
variable {prog:Program}{w:World}{A:Around}{E:Value->Shared->Prop}{s:Shared}
set_option maxRecDepth 100000 in
end
section
variable {X:Cx}
end
section
variable {κ:Type}[DecidableEq κ]
def CO (kvs:List (κ×V))(k:κ):Option V:=(kvs.find? fun kv=>decide (kv.1=k)).map (·.2)
def Fd (kvs:List (κ×V))(k:κ)(v:V):List (κ×V):=
 if(kvs.any fun kv=>decide (kv.1=k))=true then kvs.map (fun kv=>if kv.1=k then(kv.1,v) else kv) else kvs++[(k,v)]
theorem Qn {p:κ×V}{r:List (κ×V)}{k:κ}(e:p.1=k):CO (p::r) k=some p.2:=by simp[CO,LF,e]
theorem Vf {p:κ×V}{r:List (κ×V)}{k:κ}(e:¬p.1=k):CO (p::r) k=CO r k:=by simp[CO,LF,e]
theorem VO (kvs:List (κ×V))(k:κ)(v:V):(Fd kvs k v).length<=kvs.length+1:=by
 unfold Fd
 split
 .rw[Ap];omega
 .rw[Au,AW,LG];omega
theorem KV.val {kvs:List (κ×V)}{vs:List (κ×Value)}(r:KV kvs vs)(k:κ):Fb (CO kvs k) (valueAt vs k):=by
 unfold KV at r
 induction r with
 |nil=>exact True.intro
 |
  @cons p q ps qs h t ih=>
  obtain⟨h1,h2⟩:=h
  by_cases e:p.1=k
  .have e':q.1=k:=h1.symm.trans e
   have b:valueAt (q::qs) k=some q.2:=by simp[valueAt,LF,e']
   rw[Qn e,b];exact h2
  .have e':¬q.1=k:=fun z=>e (h1.trans z)
   have b:valueAt (q::qs) k=valueAt qs k:=by simp[valueAt,LF,e']
   rw[Vf e,b];exact ih
theorem KV.any {kvs:List (κ×V)}{vs:List (κ×Value)}(r:KV kvs vs)(k:κ):(kvs.any fun kv=>decide (kv.1=k))=vs.any fun kv=>decide (kv.1=k):=by
 unfold KV at r
 induction r with
 |nil=>rfl
 |cons h t ih=>rw[HZ,HZ,ih,h.1]
theorem KV.repl {kvs:List (κ×V)}{vs:List (κ×Value)}(r:KV kvs vs)(k:κ){y:V}{u:Value}(ry:Ay y u) :
  KV (kvs.map fun kv=>if kv.1=k then(kv.1,y) else kv) (vs.map fun kv=>if kv.1=k then(kv.1,u) else kv):=by
 unfold KV at r ⊢
 induction r with
 |nil=>exact .nil
 |
  @cons p q ps qs h t ih=>
  rw[BS,BS]
  refine .cons ?_ ih
  obtain⟨h1,h2⟩:=h
  by_cases e:p.1=k
  .rw[Ag e,Ag (h1.symm.trans e)];exact⟨h1,ry⟩
  .rw[Ae e,Ae (fun z=>e (h1.trans z))];exact⟨h1,h2⟩
theorem KV.put {kvs:List (κ×V)}{vs:List (κ×Value)}(r:KV kvs vs)(k:κ){y:V}{u:Value}(ry:Ay y u):KV (Fd kvs k y) (stored vs k u):=by
 unfold Fd stored
 rw[r.any k]
 by_cases e:(vs.any fun kv=>decide (kv.1=k))=true
 .rw[Ag e,Ag e];exact r.repl k ry
 .rw[Ae e,Ae e];exact Paired.snoc r ⟨rfl,ry⟩
theorem KV.length {kvs:List (κ×V)}{vs:List (κ×Value)}(r:KV kvs vs):kvs.length=vs.length:=Paired.length r
end
theorem Jl {P:Program}{w:World}{k:Bb}{u:Value}(r:Ay (kV k) u):(Dv P w).is k u=true:=by
 cases k with
 |inl i=>obtain⟨t,e⟩:=(show ∃t,u=Value.int i t from r);subst e;exact QL P w i t
 |inr x=>obtain⟨t,e⟩:=(show ∃t,u=Value.str x t from r);subst e;exact Uq P w x t
theorem MV {P:Program}{w:World}:∀{ks:List Bb} {us:List Value},AA (ks.map kV) us->ItemsAre (Dv P w) ks us
 |[],_,r=>by rw[K2]at r;cases r;exact .nil
 |
  k::ks,_,r=>by
  rw[BS]at r
  cases r with
  |cons h t=>exact .cons (Jl h) (MV t)
abbrev KT (H:Hp):List (List Bb×V)->List (List Bb×Addr×Value)->Prop:=Paired fun p q=>p.1=q.1/\H q.2.1=some (.tup (p.1.map kV))/\Ay p.2 q.2.2
section
variable {P:Program}{w:World}{H:Hp}{h:Heap}{a:Addr}
theorem NX {u:HO}(ok:By P w H h)(e:Rd H a u):BO P w H h a u:=e.ok ok
theorem MI {kvs:List (Bb×V)}(ok:By P w H h)(e:Rd H a (.dK kvs)):kvs.length<=sizeLine/\(a==sysModules)=false/\∃vs,KV kvs vs/\h.DictOf (Dv P w) a vs:=
 show BO P w H h a (.dK kvs) from NX ok e
theorem RT {kvs:List (Bb×V)}(ok:By P w H h)(e:H a=some (.dK kvs)):kvs.length<=sizeLine/\(a==sysModules)=false/\∃vs,KV kvs vs/\h.DictOf (Dv P w) a vs:=MI ok (.inl e)
theorem US {ks:List Bb}(ok:By P w H h)(e:H a=some (.tup (ks.map kV))):(tupleKind (Dv P w)).is h ks a:=by
 obtain⟨_,its,r,o,h1,h2,⟨n,h3⟩,_⟩:=(show BO P w H h a (.tup (ks.map kV)) from ok a _ e)
 exact⟨o,its.toArray,n,h1,h2,h3,by simpa using MV r⟩
theorem RO {kvs:List (List Bb×V)}(ok:By P w H h)(e:Rd H a (.dT kvs)):kvs.length<=sizeLine/\(a==sysModules)=false/\
  ∃xs,KT H kvs xs/\h.DictOfH (tupleKind (Dv P w)) a xs:=by
 obtain⟨z,y,xs,r,o,es,ep,h1,h2,h3,h4,h5⟩:=(show BO P w H h a (.dT kvs) from NX ok e)
 refine⟨z,y,xs,r,o,es,ep,h1,h2,h3,h4,fun x hx=>?_,h5⟩
 have all:∀{l:List (List Bb×V)} {m:List (List Bb×Addr×Value)},KT H l m->∀x∈m,(tupleKind (Dv P w)).is h x.1 x.2.1:=by
  intro l m q
  induction q with
  |nil=>intro x hx;exact nomatch hx
  |
   @cons p q ps qs hq t ih=>
   intro x hx
   rcases AQ.mp hx with e|hx
   .subst e
    exact US ok (by rw[←hq.1];exact hq.2.1)
   .exact ih x hx
 exact all r x hx
end
section
variable {X:Cx}{pins:List (Addr×Obj)}{σ:St}{H:Hp}{s:Shared}{a:Addr}{y v:V}{u r:Value}{o:Option V}{A:Around}{E:Value->Shared->Prop}
theorem A4.big (I:A4 X pins σ H s):sysModules<s.heap.objs.size:=by
 have h:mainGlobals<s.heap.objs.size:=(I.mod.glob.keeps I.bk).lt
 exact Nat.lt_trans (by decide) h
theorem Ts {h':Heap}{t':Nat}{ob:HO}(I:A4 X pins σ H s)(mu:Hg (H a))(hs:Heap.SameBut a s.heap h')(he:∃q,h'.get? a=some q)(new:BO X.prog X.w (upd H a ob) h' a ob) :
  A4 X pins σ (upd H a ob) {s with heap:=h',toks:=t'}:=
 I.write (x:=a) (e:=a) mu (.inl rfl) (fun b q hb z=>(hs.2 b hb).trans z) he new
theorem OW {P:Program}{w:World}{H':Hp}{h':Heap}{kvs:List (Bb×V)}{vs:List (Bb×Value)}(z:kvs.length<=sizeLine)(hd:(a==sysModules)=false)(rel:KV kvs vs)(dd:h'.DictOf (Dv P w) a vs) :
 BO P w H' h' a (.dK kvs):=⟨z,hd,vs,rel,dd⟩
end
section
variable {X:Cx}{pins:List (Addr×Obj)}{σ:St}{H:Hp}{s:Shared}{a:Addr}{kvs:List (Bb×V)}{k:Bb}{u:Value}{A:Around}{E:Value->Shared->Prop}
end
def NP (i:Expr):Prop := ∀ov iv,subscripted i false ov iv=operate [ov,iv] (getItem ov iv)
theorem VJ {prog:Program}{w:World}{A:Around}{E:Value->Shared->Prop}{s:Shared}{env:Env}{value slice:Expr}{pos:Pos}{T id:String}{Q:Value->Shared->Prop}
  (hl:typeLookup (.type T) "__getitem__"=pure (some (.builtin id))) (hs:NP slice)
  (h:wpAny (model prog w) A (eval value env) (fun o s₁=>wpAny (model prog w) A (eval slice env) (fun i s₂=>s₂.TypeIs o T/\wpAny (model prog w) A (getItem o i) Q E s₂) E s₁) E s) :
  wpAny (model prog w) A (eval (.Subscript value slice pos) env) Q E s:=by
 refine Subscript_ (DP h (fun o s₁ h₁=>DP h₁ (fun i s₂ h₂=>?_) fun _ _ x=>x) fun _ _ x=>x)
 obtain⟨hT,h₂⟩:=h₂
 unfold subscriptTail
 refine B4 ?_
 rw[getitemInPython_of_ne hT.not_modules]
 refine B4 (wpAny_specialOf hT hl ?_)
 have fin:wpAny (model prog w) A (subscripted slice false o i) (fun r s₃=>wpAny (model prog w) A (letTemporaryGo value o r>>=fun _=>pure r) Q E s₃) E s₂:=by
  rw[hs o i]
  exact wpAny_operating (DP h₂ (fun r s₃ h₃=>B4 (wpAny_letTemporaryGo (C6 h₃))) fun _ _ x=>x)
 first
  |exact C6 (B4 fin)
  |exact B4 (C6 (B4 fin))
  |exact B4 fin
section
variable {X:Cx}{o i e value:Expr}{pos pos' tpos:Pos}{td ty tv:TE}
end
theorem Q1 {P:Program}{w:World}{H:Hp}(h:Heap)(hb:sysModules<h.objs.size):BO P w H (h.push {cls:=.type "dict",data:=.dict #[]}) h.objs.size (.dK []):=
 ⟨BC _,GR.mpr (Ne.symm (Cg hb)),[],.nil,Heap.DictOf.new h⟩
def Va:TE:=fun _ H Q=>∀p,H p=none->Q (.ref p) (upd H p (.dK []))
section
variable {X:Cx}{pos:Pos}
theorem VM:PE X (.Dict [] [] pos) Va:=fun pins s σ H Q I h=>
 wpAny_Dict_empty ⟨.ref s.heap.objs.size,_,I.laid (a:=s.heap.objs.size) (o:=.dK []) (t':=s.toks) (fun _ _ q=>BR _ q) (Ai _) (Q1 s.heap I.big),rfl,h _ (I.hok.fresh (Ai _))⟩
end
structure M2 (X:Cx)(o:Expr)(m:Str)(apos:Pos)(e f:Expr)(cpos:Pos):Prop where
 base:attributeBase o m X.env (eval o X.env)=eval o X.env
 few:((backTo cpos (starEach [e,f] X.env)).all (fun x=>!x.1)&&(backToKw cpos (keywordEach [] X.env)).all (fun x=>x.1.isSome)
  && decide (([e,f]:List Expr).length+([]:List Keyword).length+(if([]:List Keyword).isEmpty then 0 else 1)<30))=true
 line:(apos.endLine==cpos.line)=true
 trees:backTo cpos (starEach [e,f] X.env)=[(false,eval e X.env),(false,eval f X.env)]
def Nr (H:Hp)(a:Addr):Prop:=(∃kvs,Rd H a (.dK kvs))\/∃kvs,Rd H a (.dT kvs)
theorem Vz {X:Cx}{pins:List (Addr×Obj)}{σ:St}{H:Hp}{s:Shared}{a:Addr}(I:A4 X pins σ H s)(d:Nr H a) :
  s.TypeIs (.ref a) "dict"/\(∀b,Value.ref a = .ref b->∃ob,s.heap.get? b=some ob/\ob.dict=none)/\(a==sysModules)=false:=by
 rcases d with⟨kvs,e⟩|⟨kvs,e⟩
 .obtain⟨_,hd,vs,_,dd⟩:=MI I.hok e
  refine⟨dd.typeIs,fun b q=>?_,hd⟩
  cases q
  obtain⟨ob,_,_,h1,h2,_⟩:=dd
  exact⟨ob,h1,h2.2.1⟩
 .obtain⟨_,hd,xs,_,dd⟩:=RO I.hok e
  refine⟨dd.typeIs,fun b q=>?_,hd⟩
  cases q
  obtain⟨ob,_,_,h1,h2,_⟩:=dd
  exact⟨ob,h1,h2.2.1⟩
section
variable {X:Cx}{pins:List (Addr×Obj)}{σ:St}{H:Hp}{s:Shared}{a:Addr}{y d:V}{u r:Value}{o:Option V}{A:Around}{E:Value->Shared->Prop}
end
section
variable {X:Cx}{o e f:Expr}{apos cpos:Pos}{td ty tx:TE}
end
section
variable {X:Cx}{pins:List (Addr×Obj)}{σ:St}{H:Hp}{s:Shared}{a:Addr}{kvs:List (Bb×V)}{A:Around}{E:Value->Shared->Prop}
end
section
variable {X:Cx}{pins:List (Addr×Obj)}{σ:St}{H:Hp}{s:Shared}{a:Addr}{y:V}{u:Value}{A:Around}{E:Value->Shared->Prop}
end
end L2
namespace Att
open PySem PySem.W PySem.Calls PyProof.Rows
theorem Uu {P:Params}{h:Heap}:∀(ns:List Int) (vs:List Value),WellAll P h vs (ns.map WData.int)->IntsAre vs ns:=by
 intro ns
 induction ns with
 |
  nil=>
  intro vs w
  rw[K2]at w
  cases w
  exact .nil
 |
  cons n ns ih=>
  intro vs w
  rw[BS]at w
  cases w with
  |
   cons a b=>
   cases a
   exact .cons _ _ (ih _ b)
theorem QN {l:OpenLaw}{n:Nat}(hn:l.most=some n){P:Params}{h:Heap}{args:List WData}{vals:List Value}
  (hpre:l.row.toRowW.claim.pre args=true) (hwl:WellAll P h vals args) :
  ∃a vs ns,vals=[Value.ref a]/\args=[WData.list (ns.map WData.int)]/\h.get? a=some {cls:=.type "list",data:=.seq vs.toArray}/\IntsAre vs ns/\ns.length<=n:=by
 have hsh:WShape.hasAll [] args [.list .int]=true:=(pre_splitW hpre).1
 have hc:l.pre.holds [] {args:=args}=true:=(pre_splitW hpre).2
 obtain⟨d,r,rfl,h1,h2⟩:=hasAllW_cons hsh
 obtain rfl:=hasAllW_nil h2
 obtain⟨xs,rfl,h3⟩:=hasW_list h1
 obtain⟨ns,rfl⟩:=items_int h3
 have hlen:ns.length<=n:=by
  unfold OpenLaw.pre at hc
  have h4:(WTm.not (.lt (.lit (.int (n:Int))) (.len (.arg 0)))).holds [] {args:=[.list (ns.map .int)]}=true:=by
   have h4:=(holds_andW hc).1
   rw[hn]at h4
   exact h4
  have h5:=condW_of h4 (w_not (w_lt w_lit (w_len_list (w_arg rfl))))
  rw[Ap]at h5
  refine Nat.le_of_not_lt fun q=>?_
  have q':(n:Int)<((ns.length:Nat):Int):=by omega
  first
   |(rw[B5 q']at h5;exact absurd h5 (by decide))
   |(simp at h5;omega)
 cases hwl with
 |
  cons w1 w2=>
  cases w2
  cases w1 with
  |list ho hall=>exact⟨_,_,ns,rfl,rfl,ho,Uu ns _ hall,hlen⟩
theorem Ql (l:OpenLaw)(args:List WData):l.row.toRowW.claim.post args (.bool true) args=true:=
 postW_of (r:=l.row.toRowW) (X:=(true==true))
  (show WShape.has [] (.bool true) .bool=true by first|rfl|decide|simp[WShape.has,WShape.arms,WShape.armsAll])
  (show(WTm.eq .res (.lit (.bool true))).value [] {args:=args,res:=some (.bool true),after:=args}=some (.bool (true==true)) from w_eq_bool (w_res rfl) w_lit) rfl
theorem attach_call {l:OpenLaw}{n:Nat}{q:Program}{loose:List Str}{XP:(Str->Option Value)->Heap->Prop}{YP:World->Heap->Prop}{d:DefRec}
  (hn:l.most=some n) (hdf:d.params.defaults=[])
  (call:∀(w:World) (s₀ s₁:Shared) (mg mb:Str->Option Value) (fa:Addr) (o:Obj) (pm cd doc:Value) (a:Addr) (vs:List Value) (ns:List Int),
   Ground q loose [] XP w s₀ mg mb s₁.heap->YP w s₁.heap->
   s₁.heap.get? fa=some o->o.data = .func (docDef d.name d.params d.body d.scope pm cd doc)->s₁.heap.CodeRec cd d.name->mg d.name=some (.ref fa)->
   s₁.heap.get? a=some {cls:=.type "list",data:=.seq vs.toArray}->IntsAre vs ns->ns.length<=n->s₁.gens = #[]->
   codeAny (model l.prog w) callerA (.call (.ref fa) ⟨[.ref a],[]⟩) (fun r s'=>r = .ok (.ret (.bool true))/\OldK s₁.heap s'.heap/\s'.os=s₁.os/\AllBare s'.gens) s₁) :
  WalkO q loose XP YP l.row.toRowW d [] (fun f vs=>PySem.call f vs):=by
 intro w s₀ s₁ mg mb G Y fa o pm cd doc dV kV ho hd hcd hD hmg hg args vals as hpre hlay hrd hwl hlo
 obtain rfl:dV = .none:=Dflts.none hD hdf
 obtain rfl:kV = .none:=Dflts.noKw hD
 obtain⟨a,vs,ns,rfl,rfl,hobj,hints,hlen⟩:=QN hn hpre hwl
 refine enter_call (Ie (call w s₀ s₁ mg mb fa o pm cd doc a vs ns G Y ho (fd_plain hd) hcd hmg hobj hints hlen hg) fun r s' hq=>?_)
 obtain⟨rfl,h2,h3,h4⟩:=hq
 exact⟨.inl ⟨.bool true,.bool true,[],rfl,fun _=>rfl,.bool true,Ql l _,fun _=>⟨List.Pairwise.nil,fun _ hm=>(nomatch hm)⟩⟩,h2,h3,h4⟩
section
variable {prog:Program}{w:World}{A:Around}{E:Value->Shared->Prop}{s:Shared}{K:Frag}
end
end Att
namespace L2
open PySem PySem.Spec PyProof.Rows
theorem O0:∀{vs:List Value} {ns:List Int},IntsAre vs ns->AA (ns.map V.int) vs
 |_,_,.nil=>.nil
 |_,_,.cons n t h=>.cons ⟨t,rfl⟩ (O0 h)
def Jc (H:Hp):Prop := ∀b,H b=none\/∃o xs,H b=some (.frz o (.lst xs))
theorem R8 {P:Program}{w:World}{K:Xa}{mg mb:Str->Option Value}{CX:DX}{k:Nat}{fa a:Addr}{fd:FuncData}{x:Str}{sp:Sp}{s₁:Shared}{vs:List Value}{ns:List Int}
  (KX:K.In s₁.heap) (hns:s₁.heap.Ns mainGlobals mg) (hb:s₁.heap.Ns builtinsNs mb) (hbb:∀x:Str,x≠"__name__"->mb x=bootBuiltins x) (hlim:s₁.heap.NoLimit) (hg:s₁.gens = #[])
  (ha:s₁.heap.get? a=some {cls:=.type "list",data:=.seq vs.toArray}) (hi:IntsAre vs ns) (hl:ns.length<=sizeLine) (hr:Cb k callerA)
  (F:∀base:Heap,K.In base->base.Ns mainGlobals mg->AK P w K mg base CX k fa fd [x] sp) (hbind:∀(s:Shared) (u:Value),BindsTo s fd ⟨[u],[]⟩ [(x,u)])
  (hsp:∀H:Hp,Jc H->A3 K H a (ns.map V.int)->sp [.ref a] H (fun v _=>v = .bl true) fun _ _ _=>False)
  (hCX:∀H e s',CX [] H s₁ (fun _ _ _=>False) e s'->False) :
  codeAny (model P w) callerA (.call (.ref fa) ⟨[.ref a],[]⟩) (fun r s'=>r = .ok (.ret (.bool true))/\OldK s₁.heap s'.heap/\s'.os=s₁.os/\AllBare s'.gens) s₁:=by
 have rv:=O0 hi
 have lenV:=hi.length
 have core:∀H:Hp,Jc H->A3 K H a (ns.map V.int)->By P w H s₁.heap->(∀b,H b≠none->b=a)->(H a≠none->K.lookup a=none)->
   codeAny (model P w) callerA (.call (.ref fa) ⟨[.ref a],[]⟩) (fun r s'=>r = .ok (.ret (.bool true))/\OldK s₁.heap s'.heap/\s'.os=s₁.os/\AllBare s'.gens) s₁:=by
  intro H hO hS hok hA hK
  have base_of:∀{b:Addr} {o:Obj},s₁.heap.get? b=some o->H b=none->(Fc s₁.heap H).get? b=some o:=fun e n=>Vs e n
  have noA:∀{b:Addr} {o:Obj} {es:Array DictEntry} {ep:Nat},s₁.heap.get? b=some o->o.data = .dict es ep->H b=none:=fun{b o es ep} e d=>by
   cases q:H b with
   |none=>rfl
   |
    some u=>
    have e':b=a:=hA b (by rw[q];simp)
    subst e'
    rw[ha]at e;cases e
    have d':Data.seq vs.toArray _=Data.dict es ep:=d
    cases d'
  have nsK:∀{b:Addr} {m:Str->Option Value},s₁.heap.Ns b m->(Fc s₁.heap H).Ns b m:=fun{b m} ⟨o,es,ep,e,d,r⟩=>⟨o,es,ep,base_of e (noA e d),d,r⟩
  have hKb:K.In (Fc s₁.heap H):=fun b o e=>base_of (KX b o e) (by
   cases q:H b with
   |none=>rfl
   |
    some u=>
    have e':b=a:=hA b (by rw[q];simp)
    subst e'
    rw[hK (by rw[q];simp)]at e;cases e)
  have hM:Mod K mg (Fc s₁.heap H):=⟨hKb,nsK hns,⟨mb,nsK hb,hbb⟩,let ⟨mc,h1,h2⟩:=hlim;⟨mc,nsK h1,h2⟩⟩
  have e0:FG P w K mg (Fc s₁.heap H) callerA [] s₁ H:=⟨rfl,hM,fun b o e=>QM e,Nat.le_of_eq (Sw _ _),trivial,fun b hb=>absurd (show b∈([]:List Addr) from hb) (by simp),hok,.of_eq hg⟩
  refine Ie ((F _ hKb (nsK hns)).run callerA [] s₁ H ⟨[.ref a],[]⟩ [.ref a] [.ref a] _ _ hr e0 (hbind s₁ (.ref a)) (.cons rfl .nil) (hsp H hO hS)) fun r s' h=>?_
  cases r with
  |error e=>exact(hCX H e s' h).elim
  |
   ok fl=>
   cases fl with
   |next=>exact False.elim h
   |brk=>exact False.elim h
   |cont=>exact False.elim h
   |
    ret u=>
    obtain⟨v,H',os,bare,un,hok',r',q⟩:=h
    have q':v = .bl true:=q
    subst q'
    obtain rfl:u=Value.bool true:=r'
    refine⟨rfl,OldK.of_keep fun b o e=>?_,os,bare⟩
    cases q:H b with
    |none=>exact un.keep b o e q (by intro z;exact absurd (show b∈([]:List Addr) from z) (by simp)) (by simp)
    |
     some u=>
     rcases hO b with z|⟨ob,xs,z⟩
     .rw[q]at z;cases z
     .have z2:=un.frzs b ob _ z
      obtain⟨e1,_⟩:=hok b _ z
      obtain⟨e2,_⟩:=hok' b _ z2
      rw[e]at e1;cases e1
      exact e2
 cases hk:K.lookup a with
 |
  some o=>
  have e:=KX a o hk
  rw[ha]at e
  cases e
  refine core (fun _=>none) (fun _=>.inl rfl) (.inr ⟨_,vs.toArray,_,hk,rfl,rfl,rfl,by rw[B8,lenV];exact hl,by simpa using rv⟩) (fun b u z=>by have z':(none:Option HO)=some u:=z;cases z') (fun b z=>absurd rfl z) fun z=>absurd rfl z
 |
  none=>
  refine core (fun b=>if b=a then some (.frz {cls:=.type "list",data:=.seq vs.toArray} (.lst (ns.map V.int))) else none) (fun b=>?_) (.inl (.inr ⟨{cls:=.type "list",data:=.seq vs.toArray},Ag rfl⟩)) (fun b u z=>?_) (fun b z=>?_) fun _=>hk
  .by_cases hb:b=a
   .exact .inr ⟨_,_,Ag hb⟩
   .exact .inl (Ae hb)
  .by_cases hb:b=a
   .have z':=(Ag hb).symm.trans z
    cases z'
    subst hb
    exact⟨ha,by rw[Ap];exact hl,vs,_,rv,ha⟩
   .have z':=(Ae hb).symm.trans z
    cases z'
  .by_cases hb:b=a
   .exact hb
   .exact absurd (Ae hb) z
theorem walk_of {l:PySem.W.OpenLaw}{n k:Nat}{q:Program}{loose:List Str}{XP:(Str->Option Value)->Heap->Prop}{YP:World->Heap->Prop}{d:DefRec}{K:Params->Xa}{CX:World->DX}{sp:World->Sp}{x:Str}
  (hn:l.most=some n) (hn2:n<=sizeLine) (hdf:d.params.defaults=[]) (hr:Cb k callerA)
  (hY:∀(w:World) (h:Heap),YP w h->(K w.params).In h)
  (F:∀(w:World) (mg:Str->Option Value) (fa:Addr) (h:Heap),(K w.params).In h->h.Ns mainGlobals mg->mg d.name=some (.ref fa)->
   ∃fd:FuncData,(∀(s:Shared) (u:Value),BindsTo s fd ⟨[u],[]⟩ [(x,u)])/\
    ∀base:Heap,(K w.params).In base->base.Ns mainGlobals mg->AK l.prog w (K w.params) mg base (CX w) k fa fd [x] (sp w))
  (hsp:∀(w:World) (H:Hp) (a:Addr) (ns:List Int),ns.length<=n->Jc H->A3 (K w.params) H a (ns.map V.int)->sp w [.ref a] H (fun v _=>v = .bl true) fun _ _ _=>False)
  (hCX:∀(w:World) (H:Hp) (s:Shared) (e:Value) (s':Shared),CX w [] H s (fun _ _ _=>False) e s'->False) :
  PySem.W.WalkO q loose XP YP l.row.toRowW d [] (fun f vs=>PySem.call f vs):=by
 refine Att.attach_call hn hdf fun w s₀ s₁ mg mb fa o pm cd doc a vs ns G Y ho hd hcd hmg hobj hints hlen hg=>?_
 have KX:=hY w _ Y
 obtain⟨fd,hb,hF⟩:=F w mg fa _ KX G.T.g hmg
 exact R8 KX G.T.g G.T.b G.T.builtins G.T.nolimit hg hobj hints (C5 hlen hn2) hr hF hb (fun H hO hS=>hsp w H a ns hlen hO hS) fun H e s'=>hCX w H s₁ e s'
def FJ (s:Stmt)(j:Nat):Stmt:=match s with
 |.ClassDef _ _ _ body _ _ _ _ _ _ _=>body.getD j (.Pass ⟨0,0,0,0⟩)
 |_=>.Pass ⟨0,0,0,0⟩
def Hr (s:Stmt):Arguments:=match s with
 |.FunctionDef _ a _ _ _ _ _ _ _ _=>a
 |_=>{posonlyargs:=[],args:=[],vararg:=none,kwonlyargs:=[],kw_defaults:=[],kwarg:=none,defaults:=[]}
def GG (s:Stmt):List Stmt:=match s with
 |.FunctionDef _ _ b _ _ _ _ _ _ _=>b
 |_=>[]
def AB (s:Stmt):Scope:=match s with
 |.FunctionDef _ _ _ _ _ _ sc _ _ _=>sc
 |_=>{kind:=.function,names:=[],isGenerator:=false,isCoroutine:=false}
abbrev AS:DX:=fun _ _ _ _ _ _=>False
abbrev E0:XK:=fun _ _ _=>False
theorem Ao {X:Cx}:FZ AS X E0:=fun _ _ _ _ _ _ _ h=>h.elim
structure AO (K:Xa)(x qual:Str)(st:Stmt)(f:Addr)(fd:FuncData):Prop where
 ex:∃(oc:Value) (od:Option Addr) (kV doc pm:Value) (an:Option Addr) (cdv ct:Value) (osl:Array (Option Value)),
  fd=PySem.W.fnOf x qual (Hr st) (GG st) (AB st) .none kV doc pm an cdv ct/\K.lookup f=some ⟨oc,od,.func fd,osl⟩/\PySem.W.codeIn K cdv qual=true
 kp:PySem.W.keepIn K (.ref f)=true
section
variable {P:Program}{w:World}{K:Xa}{mg:Str->Option Value}{base:Heap}
theorem AO.ok {x qual:Str}{st:Stmt}{f:Addr}{fd:FuncData}{N ps:List Str}{k:Nat}{sp:Sp}(F:AO K x qual st f fd)(S:AU N ps (AB st))(len:∀vs H Q E,sp vs H Q E->vs.length=ps.length)
  (hbody:∀(cdv:Value) (A:Around) (outer:List Env) (s:Shared) (H:Hp) (vs:List V) (Q:VK) (E:XK),Cb k (A.deeper (envOfC qual (AB st) s.heap.objs.size f cdv))->sp vs H Q E->
   ∃t,DB (GD AS P w K mg base N qual (AB st) f cdv A outer s H E).nox (GG st) t/\t {nx:=fun _ H'=>Q .non H',rt:=Q} (start N vs) H):AK P w K mg base AS (k+1) f fd ps sp:=by
 obtain⟨oc,od,kV,doc,pm,an,cdv,ct,osl,rfl,lk,hcd⟩:=F.ex
 refine V8 lk hcd S len fun A outer s H vs Q E hr hsp=>?_
 obtain⟨t,h,q⟩:=hbody cdv A outer s H vs Q E hr hsp
 exact⟨t,h.nox,q⟩
theorem AO.binds {x qual:Str}{st:Stmt}{f:Addr}{fd:FuncData}{ps:List Str}(F:AO K x qual st f fd)
  (h:∀(kV doc pm:Value) (an:Option Addr) (cdv ct:Value) (us:List Value),us.length=ps.length->bindArgs (PySem.W.fnOf x qual (Hr st) (GG st) (AB st) .none kV doc pm an cdv ct) ⟨us,[]⟩=pure (ps.zip us)):AL K fd ps []:=by
 obtain⟨oc,od,kV,doc,pm,an,cdv,ct,osl,rfl,lk,hcd⟩:=F.ex
 exact .all (h kV doc pm an cdv ct)
theorem fun_mk {x qual:Str}{st:Stmt}{f:Addr}{oc:Value}{od an:Option Addr}{osl:Array (Option Value)}{kV doc pm cdv ct:Value}(l:K.lookup f=some ⟨oc,od,.func (PySem.W.fnOf x qual (Hr st) (GG st) (AB st) .none kV doc pm an cdv ct),osl⟩)
 (c:PySem.W.codeIn K cdv qual=true) (k:PySem.W.keepIn K (.ref f)=true):AO K x qual st f (PySem.W.fnOf x qual (Hr st) (GG st) (AB st) .none kV doc pm an cdv ct):=⟨⟨oc,od,kV,doc,pm,an,cdv,ct,osl,rfl,l,c⟩,k⟩
end
section
variable {X:Cx}
theorem pv (i:Nat){x:Str}{pos:Pos}(hN:X.N[i]?=some x:=by rfl)(hv:HM X.env.scope x:=by first|exact Or.inl rfl|exact Or.inr (.inl rfl)|exact Or.inr (.inr rfl))(hd:(x==("__debug__":Str))=false:=by decide)
 (hcd:(x==("__classdict__":Str))=false:=by decide):PE X (.Name x pos) (Ej i):=Qs hN hv hd hcd
end
theorem Aq {A B:Prop}(h:B):if false=true then A else B:=by
 rw[Ae BQ]
 exact h
theorem Be {A B:Prop}(h:A):if true=true then A else B:=by
 rw[Ag rfl]
 exact h
theorem AD {c A B:Prop}[Decidable c](h1:c->A)(h2:¬c->B):if c then A else B:=by
 by_cases h:c
 .rw[Ag h]
  exact h1 h
 .rw[Ae h]
  exact h2 h
def A7 (H H':Hp):Prop := ∀b o,H b=some o->H' b=some o
theorem A7.refl (H:Hp):A7 H H:=fun _ _ h=>h
theorem A7.trans {H H1 H2:Hp}(a:A7 H H1)(b:A7 H1 H2):A7 H H2:=fun c o h=>b c o (a c o h)
theorem A7.free {H H':Hp}(e:A7 H H'){l:Addr}(h:H' l=Option.none):H l=Option.none:=by
 cases q:H l with
 |none=>rfl
 |
  some o=>
  rw[e l o q]at h
  cases h
theorem A7.seq {K:Xa}{H H':Hp}{a:Addr}{xs:List V}(e:A7 H H')(h:A3 K H a xs):A3 K H' a xs:=by
 rcases h with(h|⟨o,h⟩)|h
 .exact .inl (.inl (e _ _ h))
 .exact .inl (.inr ⟨o,e _ _ h⟩)
 .exact .inr h
section
variable {κ:Type}[DecidableEq κ]
end
theorem Le (env:Env):∀(l:List (Str×NameKind)) (cs:List (Str×Addr)),(∀n,(n,NameKind.free)∈l->∃c,env.cells.lookup n=some c)->(∀x c,cs.lookup x=some c->env.cells.lookup x=some c)->
  ∃cl,(forIn l cs fun x s=>if(x.snd==NameKind.free)=true then do let c ←cellOf env x.fst;pure (ForInStep.yield ((x.fst,c)::s)) else pure (ForInStep.yield s))=(pure cl:Sem (List (Str×Addr)))/\
   (∀x c,cl.lookup x=some c->env.cells.lookup x=some c)/\(∀n,(n,NameKind.free)∈l->∃c,cl.lookup n=some c)/\∀n c,cs.lookup n=some c->∃c',cl.lookup n=some c'
 |[],cs,_,h=>⟨cs,rfl,h,(fun _ z=>nomatch z),(fun n c e=>⟨c,e⟩)⟩
 |
  (n,k)::r,cs,hf,h=>by
  by_cases hk:k = .free
  .subst hk
   obtain⟨c,hc⟩:=hf n AY
   have e:cellOf env n=pure c:=by unfold cellOf;rw[hc]
   obtain⟨cl,e1,h1,h2,h3⟩:=Le env r ((n,c)::cs) (fun m hm=>hf m (BH _ hm)) (fun x c' q=>by
    rw[FE]at q
    by_cases hx:x=n
    .subst hx;simp at q;subst q;exact hc
    .have:(x==n)=false:=by simpa using hx
     rw[this]at q;exact h x c' q)
   refine⟨cl,?_,h1,fun m hm=>?_,fun m c' q=>?_⟩
   .rw[List.forIn_cons]
    show((do let c ←cellOf env n;pure (ForInStep.yield ((n,c)::cs)))>>=_)=_
    rw[e]
    exact e1
   .rcases AQ.mp hm with z|z
    .cases z;exact h3 n c (by simp)
    .exact h2 m z
   .by_cases hx:m=n
    .subst hx;exact h3 m c (by simp)
    .have:(m==n)=false:=by simpa using hx
     exact h3 m c' (by rw[FE,this];exact q)
  .have hb:(k==NameKind.free)=false:=by simpa using hk
   obtain⟨cl,e1,h1,h2,h3⟩:=Le env r cs (fun m hm=>hf m (BH _ hm)) h
   refine⟨cl,?_,h1,fun m hm=>?_,h3⟩
   .rw[List.forIn_cons]
    dsimp only
    rw[hb]
    exact e1
   .rcases AQ.mp hm with z|z
    .cases z;exact absurd rfl hk
    .exact h2 m z
theorem LY {scope:Scope}{env:Env}(h:∀n,(n,NameKind.free)∈scope.names->∃c,env.cells.lookup n=some c) :
  ∃cl,closureFor scope env=pure cl/\(∀x c,cl.lookup x=some c->env.cells.lookup x=some c)/\∀n,(n,NameKind.free)∈scope.names->∃c,cl.lookup n=some c:=by
 obtain⟨cl,e,h1,h2,_⟩:=Le env scope.names [] h (fun _ _ z=>by simp at z)
 refine⟨cl,?_,h1,h2⟩
 simp only[closureFor]
 rw[e]
 rfl
def CG (X:Cx)(scope:Scope)(N':List Str)(cl:List (Str×Addr))(C:Addr)(s:Shared)(H:Hp)(fp:List Addr)(pins:List (Addr×Obj)):Cx where
 prog:=X.prog
 w:=X.w
 K:=X.K
 mg:=X.mg
 base:=X.base
 A:=X.A
 N:=N'
 s₀:=s
 H₀:=H
 env:=compEnvC scope cl C X.env
 outer:=X.stack
 stack:=X.stack
 ex:=fp
 calm:=X.calm
 fn:=fun _=>false
 pn:=X.pn++pins
 xe:=fun _ _=>False
structure Gd (sc:Scope)(out:Scope):Prop where
 kind:sc.kind = .function
 cell:∀y∈sc.names,y.2≠.cell
 loc:∀y∈sc.names,y.2 = .local->sc.names.lookup y.1=some .local
 free:∀y∈sc.names,y.2 = .free->out.names.lookup y.1=some .cell\/out.names.lookup y.1=some .free
def BK (ρ:List (Option Nat))(σ:St):St:=ρ.map fun o=>match o with|some i=>(σ[i]?).getD none|none=>none
def Hm (sc:Scope)(env:Env)(N N':List Str)(ρ:List (Option Nat)):Prop:=
 ρ.length=N'.length/\∀(j i:Nat) (x:Str),ρ[j]?=some (some i)->N'[j]?=some x->N[i]?=some x/\HM env.scope x/\(x,NameKind.free)∈sc.names
theorem NA {names:List (Str×NameKind)}{env:Env}{x:Str}{k:NameKind}(h:(names.map fun(n,k)=>if(k==NameKind.free&&env.scope.kind == .function&&env.kindOf n==some .cell) then(n,NameKind.cell) else(n,k)).lookup x=some k)
  (hk:k = .cell\/k = .free) (hc:∀y∈names,y.2≠.cell):(x,NameKind.free)∈names:=by
 induction names with
 |nil=>simp at h
 |
  cons p r ih=>
  obtain⟨n,k'⟩:=p
  by_cases hx:x=n
  .subst hx
   have hk':k' = .free:=by
    by_cases hc':(k'==NameKind.free&&env.scope.kind == .function&&env.kindOf x==some .cell)=true
    .simp only[EB,E8]at hc'
     exact hc'.1.1
    .simp only[BS]at h
     rw[Ae hc']at h
     simp at h
     subst h
     rcases hk with z|z
     .exact absurd z (hc (x,k') AY)
     .exact z
   rw[hk'];exact AY
  .have hb:(x==n)=false:=by simpa using hx
   refine BH _ (ih ?_ fun y hy=>hc y (BH _ hy))
   simp only[BS]at h
   by_cases hc':(k'==NameKind.free&&env.scope.kind == .function&&env.kindOf n==some .cell)=true
   .rw[Ag hc',FE,hb]at h;exact h
   .rw[Ae hc',FE,hb]at h;exact h
theorem Um:∀{names:List (Str×NameKind)} {env:Env} {x:Str},(x,NameKind.free)∈names->(names.map fun(n,k)=>if(k==NameKind.free&&env.scope.kind == .function&&env.kindOf n==some .cell) then(n,NameKind.cell) else(n,k)).lookup x=some .cell\/
  (names.map fun(n,k)=>if(k==NameKind.free&&env.scope.kind == .function&&env.kindOf n==some .cell) then(n,NameKind.cell) else(n,k)).lookup x=some .free\/names.lookup x≠some .free:=by
 intro names env x hm
 by_cases hl:names.lookup x=some .free
 .induction names with
  |nil=>simp at hl
  |
   cons p r ih=>
   obtain⟨n,k'⟩:=p
   by_cases hx:x=n
   .subst hx
    simp at hl
    subst hl
    by_cases hc':(NameKind.free==NameKind.free&&env.scope.kind == .function&&env.kindOf x==some .cell)=true
    .left;simp only[BS];rw[Ag hc'];simp
    .right;left;simp only[BS];rw[Ae hc'];simp
   .have hb:(x==n)=false:=by simpa using hx
    rw[FE,hb]at hl
    have hm':(x,NameKind.free)∈r:=by
     rcases AQ.mp hm with z|z
     .cases z;exact absurd rfl hx
     .exact z
    have q:=ih hm' hl
    simp only[BS]
    by_cases hc':(k'==NameKind.free&&env.scope.kind == .function&&env.kindOf n==some .cell)=true
    .rw[Ag hc',FE,hb,FE,hb];exact q
    .rw[Ae hc',FE,hb,FE,hb];exact q
 .exact .inr (.inr hl)
section
variable {X:Cx}{pins:List (Addr×Obj)}{σ:St}{H:Hp}{s:Shared}{scope:Scope}{N':List Str}{ρ:List (Option Nat)}{cl:List (Str×Addr)}{fp:List Addr}{C D:Addr}
theorem Ua (I:A4 X pins σ H s)(S:Gd scope X.env.scope)(hf:∀b∈fp,Ec X pins H b)(h1:∀x c,cl.lookup x=some c->X.env.cells.lookup x=some c)(h2:∀n,(n,NameKind.free)∈scope.names->∃c,cl.lookup n=some c)
  (hC:s.heap.objs.size<=C) (hfs:∀b∈fp,b<s.heap.objs.size):(CG X scope N' cl C s H fp pins).Ok where
 mod:=I.ok.mod
 kind:=S.kind
 glob:=I.ok.glob
 blt:=I.ok.blt
 above:=hC
 inj:=fun x y c e1 e2=>I.ok.inj x y c (h1 x c e1) (h1 y c e2)
 has:=fun x hk=>h2 x (by
  rcases hk with hk|hk
  .exact NA (env:=X.env) hk (.inl rfl) S.cell
  .exact NA (env:=X.env) hk (.inr rfl) S.cell)
 cab:=fun _ _ z=>nomatch z
 hd:=I.ok.hd
 frames:=I.ok.frames
 stk:=.inl rfl
 exf:=fun b hb=>⟨Cg (CJ (hfs b hb) hC),fun x c e=>(hf b hb).2.2.2.2.1 x c (h1 x c e)⟩
 bs:=I.bs
 bsz:=C5 I.ok.bsz I.sz
 noex:=fun b o e hb=>by
  rcases(hf b hb).2.2.2.1 with z|z
  .exact I.ok.noex b o e z
  .exact absurd (CJ (CJ (Br e) I.ok.bsz) z) (EA _)
 exfs:=fun b hb z=>by
  rcases AQ.mp (I.stkSub b z) with q|q
  .exact(hf b hb).2.1 q
  .exact(hf b hb).2.2.1 q
 funs:=I.stack
 frf:=I.stkFree
theorem Vp {h₁:Heap}{tk:Nat}(I:A4 X pins σ H s)(S:Gd scope X.env.scope)(hρ:Hm scope X.env X.N N' ρ)(hf:∀b∈fp,Ec X pins H b)(h1:∀x c,cl.lookup x=some c->X.env.cells.lookup x=some c)
  (h2:∀n,(n,NameKind.free)∈scope.names->∃c,cl.lookup n=some c) (hC:s.heap.objs.size<=C) (hfs:∀b∈fp,b<s.heap.objs.size) (hn:h₁.Ns C (fun _=>none)) (hk:∀b o,s.heap.get? b=some o->h₁.get? b=some o)
  (hl:∀x,(x,NameKind.free)∈scope.names->scope.names.lookup x=some .free) :
  A4 (CG X scope N' cl C s H fp pins) [] (BK ρ σ) H {s with heap:=h₁,toks:=tk} where
 ok:=Ua I S hf h1 h2 hC hfs
 os:=rfl
 bare:=I.bare
 base:=Un.kept hk
 loc:=by
  refine⟨_,hn,fun j x v e1 e2 hv=>?_⟩
  obtain⟨m,hm,hl'⟩:=I.loc
  unfold BK at e2
  rw[D8]at e2
  cases hr:ρ[j]? with
  |none=>rw[hr]at e2;simp at e2
  |
   some o=>
   cases o with
   |none=>rw[hr]at e2;simp at e2
   |
    some i=>
    rw[hr]at e2
    obtain⟨q1,q2,q3⟩:=hρ.2 j i x hr e1
    have e3:σ[i]?=some (some v):=by
     cases hσ:σ[i]? with
     |none=>simp[hσ]at e2
     |some z=>simp[hσ]at e2;rw[e2]
    obtain⟨u,r,lk⟩:=hl' i x v q1 e3 q2
    refine⟨u,r,?_⟩
    obtain⟨c,hc⟩:=h2 x q3
    have hkind:(relabel scope X.env).names.lookup x=some .cell\/(relabel scope X.env).names.lookup x=some .free:=by
     rcases Um (env:=X.env) q3 with z|z|z
     .exact .inl z
     .exact .inr z
     .exact absurd (hl x q3) z
    refine .inr ⟨hkind,c,hc,?_⟩
    rcases lk with⟨k,_⟩|⟨_,c',e',z⟩
    .rcases S.free (x,.free) q3 rfl with z|z
     .have k':X.env.scope.names.lookup x=some .local:=k
      rw[z]at k';cases k'
     .have k':X.env.scope.names.lookup x=some .local:=k
      rw[z]at k';cases k'
    .have:=h1 x c hc
     rw[e']at this;cases this
     obtain⟨o,ho,hd⟩:=z
     exact⟨o,hk _ _ ho,hd⟩
 cell:=fun x c e=>by
  obtain⟨v,o,ho,hd⟩:=I.cell x c (h1 x c e)
  exact⟨v,o,hk _ _ ho,hd⟩
 free:=I.hok.fresh hC
 freeC:=fun x c e=>I.freeC x c (h1 x c e)
 pin:=fun p hp=>by
  have hp':p∈X.pn++pins:=by simpa[CG] using hp
  obtain⟨e,n,ne,nf,d⟩:=I.pin p hp'
  refine⟨hk _ _ e,n,Cg (CJ (Br e) hC),fun z=>?_,d⟩
  rcases AQ.mp (I.stkSub p.1 z) with q|q
  .exact ne q
  .exact nf q
 hok:=I.hok.kept hk
 len:=by
  show(BK ρ σ).length=N'.length
  unfold BK
  rw[Ap];exact hρ.1
end
theorem By.track {P:Program}{w:World}{H:Hp}{h:Heap}{D:Addr}{o:HO}(x:By P w H h)(n:H D=none)(new:BO P w (upd H D o) h D o):By P w (upd H D o) h:=fun b u e=>by
 by_cases hb:b=D
 .subst hb;rw[A6]at e;cases e;exact new
 .rw[A8 hb]at e
  exact(x b u e).stay (fun c v _ q=>q) (fun c q=>by rw[A8 (AI q n)];exact q) fun c xs q=>by rw[A8 (AI q n)];exact q
section
variable {prog:Program}{w:World}{A:Around}{R:Result->Shared->Prop}{s:Shared}
theorem S7 {elt target iter:Expr}{ifs:List Expr}{scope:Scope}{pos:Pos}{it acc:Value}{env:Env}(I:Nat->Shared->Prop)
  (turn:∀n s,I n s->wpAny (model prog w) A (pyNext it) (fun r s₁=>match r with
   |none=>R (.ok .next) s₁
   |some v=>wpAny (model prog w) A (letOwnedTupleGo target it v) (fun _ s₁'=>wpAny (model prog w) A (assign target env v) (fun _ s₂=>
    wpAny (model prog w) A (forIn ifs true fun c r=>if r=true then do let ok ←isTrue c env (eval c env);pure (ForInStep.yield ok) else pure (ForInStep.yield r)) (fun ok s₃=>
     if ok=true then wpAny (model prog w) A (eval elt env) (fun x s₄=>
      wpAny (model prog w) A (call (.builtin "list.append") [acc,x]) (fun _ s₅=>∃m,m<n/\I m s₅) (fun _ _=>False) s₄) (fun _ _=>False) s₃
     else ∃m,m<n/\I m s₃) (fun _ _=>False) s₂) (fun _ _=>False) s₁') (fun _ _=>False) s₁) (fun _ _=>False) s)
  (n:Nat) (h:I n s) :
  codeAny (model prog w) A (.compLoop (.ListComp elt [⟨target,iter,ifs,0⟩] scope pos) 0 it acc env) R s:=by
 refine codeAny_loop rfl I (fun n s hI=>?_) n h
 show wpAny _ A ((compTurn (.ListComp elt [⟨target,iter,ifs,0⟩] scope pos) 0 it acc env).onRaise (fun x=>do noteFrame x env;theTreesLotGoes x)) _ _ s
 refine wpAny_noted ?_
 rw[compTurn_list]
 refine B4 (wpAny_standAt (B4 (DP (turn n s hI) (fun r s₁ h₁=>?_) fun _ _ h'=>h'.elim)))
 cases r with
 |none=>exact C6 h₁
 |
  some v=>
  refine B4 (DP h₁ (fun _ s₁' h₁=>?_) fun _ _ h'=>h'.elim)
  refine B4 (DP h₁ (fun _ s₂ h₂=>B4 (DP h₂ (fun ok s₃ h₃=>?_) fun _ _ h'=>h'.elim)) fun _ _ h'=>h'.elim)
  cases ok with
  |false=>exact C6 ⟨rfl,h₃⟩
  |
   true=>
   exact B4 (B4 (DP h₃ (fun x s₄ h₄=>B4 (DP h₄ (fun _ s₅ h₅=>C6 (C6 ⟨rfl,h₅⟩)) fun _ _ h'=>h'.elim)) fun _ _ h'=>h'.elim))
end
def FU (X:Cx)(ifs:List Expr)(t:TT):Prop:=
 ∀(pins:List (Addr×Obj)) (s:Shared) (σ:St) (H:Hp) (Q:Bool->Hp->Prop),A4 X pins σ H s->t σ H Q->
  wpAny (model X.prog X.w) X.A (forIn ifs true fun c r=>if r=true then do let ok ←isTrue c X.env (eval c X.env);pure (ForInStep.yield ok) else pure (ForInStep.yield r)) (TP X pins σ Q) X.xe s
def Qi:TT:=fun _ H Q=>Q true H
theorem DZ {X:Cx}:FU X [] Qi:=fun _ _ _ H _ I h=>wpAny_tests_nil ⟨H,I,h⟩
theorem ID {X:Cx}{c:Expr}{t:TT}(h:PT X c t):FU X [c] t:=fun pins s σ H Q I hw=>wpAny_tests_one (h pins s σ H Q I hw)
def Im (ρ:List (Option Nat))(σ σ2:St):Prop:=σ2.length=ρ.length/\∀(j:Nat) v,(BK ρ σ)[j]?=some (some v)->σ2[j]?=some (some v)
def FQ (ρ:List (Option Nat))(g:TG)(tt:TT)(te:TE)(σ:St)(Q:VK)(J:It)(H1:Hp):Prop := ∃W:Nat->Nat->List V->Hp->Prop,(∃m,W 0 m [] H1)/\∀i m ys H',W i m ys H'->
 (J.stop i H'/\ys.length<=sizeLine/\∀p,H' p=none->Q (.ref p) (upd H' p (.lst ys)))\/
 (J.go i H'/\ys.length<sizeLine/\∃N:List V->Hp->Prop,(∀ys' H'',N ys' H''->∃m',m'<m/\W (i+1) m' ys' H'')/\∀x H2,J.yld i H' x H2->g x (BK ρ σ) H2 fun σ2 H3=>Im ρ σ σ2/\tt σ2 H3 fun ok H4=>if ok=true then te σ2 H4 fun v H5=>N (ys++[v]) H5 else N ys H4)
def Gg (ρ:List (Option Nat))(wi:TI)(g:TG)(tt:TT)(te:TE):TE:=fun σ H Q=>wi σ H fun J H1=>FQ ρ g tt te σ Q J H1
theorem M8 {X:Cx}{elt iter tg:Expr}{ifs:List Expr}{scope:Scope}{pos:Pos}{N':List Str}{ρ:List (Option Nat)}{wi:TI}{g:TG}{tt:TT}{te:TE}{cl:List (Str×Addr)}{RR:Value->Addr->Result->Shared->Prop}(hc:X.calm=true)(hi:PI X tg iter wi)(S:Gd scope X.env.scope)(hρ:Hm scope X.env X.N N' ρ)
  (hl:∀x,(x,NameKind.free)∈scope.names->scope.names.lookup x=some .free)
  (inner:∀(cl:List (Str×Addr)) (C:Addr) (s:Shared) (H:Hp) (fp:List Addr) (pins:List (Addr×Obj)),PG (CG X scope N' cl C s H fp pins) tg g/\FU (CG X scope N' cl C s H fp pins) ifs tt/\PE (CG X scope N' cl C s H fp pins) elt te)
  {pins:List (Addr×Obj)} {s:Shared} {σ:St} {H:Hp} {Q:VK} (I:A4 X pins σ H s) (h:Gg ρ wi g tt te σ H Q)
  (h1:∀x c,cl.lookup x=some c->X.env.cells.lookup x=some c) (h2:∀n,(n,NameKind.free)∈scope.names->∃c,cl.lookup n=some c)
  (fin:∀D C s' H' m,A4 X pins σ H' s'->Q (.ref D) H'->s'.heap.Ns C m->Ec X pins H' C->RR (.ref D) C (.ok .next) s') :
  wpAny (model X.prog X.w) X.A (eval iter X.env) (fun x s₁=>wpAny (model X.prog X.w) X.A (pyIter x) (fun it s₂=>wpAny (model X.prog X.w) X.A (newList []) (fun acc s₃=>
   wpAny (model X.prog X.w) X.A (newFunctionEnv scope X.env.globals cl [] X.env.qual none .none (some X.env)) (fun cenv s₄=>
    codeAny (model X.prog X.w) X.A (.compStart (.ListComp elt [⟨tg,iter,ifs,0⟩] scope pos) 0 it acc {cenv with scope:=relabel scope X.env}) (RR acc cenv.locals) s₄) X.xe s₃) X.xe s₂) X.xe s₁) X.xe s:=by
 refine As (hi pins s σ H _ I h) fun v s1 h1'=>As h1' fun itv s2 hx=>?_
 obtain⟨it,fp,tn,J,H2,e,I2,T,st2,f2,W,⟨m0,w0⟩,turn⟩:=hx
 subst e
 have hfs:∀b∈fp,b<s2.heap.objs.size:=fun b hb=>by
  obtain⟨o,e,_⟩:=T.obj _ _ st2 b hb
  exact Br e
 refine wpAny_newObj_type (wpAny_newFunctionEnv S.cell (by intro y hy;simp at hy) (fun h₁ hns₁ hsb₁=>?_) S.kind)
 dsimp only at hns₁ hsb₁ ⊢
 generalize hH2:s2.heap.push {cls:=.type "list",dict:=none,data:=.seq ([]:List Value).toArray}=G at hns₁ hsb₁ ⊢
 have hC:G.objs.size=s2.heap.objs.size+1:=by rw[←hH2,HY]
 have hDC:s2.heap.objs.size≠G.objs.size:=by rw[hC];exact Cg (JY _)
 have hCle:s2.heap.objs.size<=G.objs.size:=by rw[hC];exact JZ _
 have old:∀b o,s2.heap.get? b=some o->h₁.get? b=some o:=fun b o e=>hsb₁.extBut b o (Cg (CJ (Br e) hCle)) (BR _ (hH2▸BR _ e))
 have hacc:h₁.get? s2.heap.objs.size=some {cls:=.type "list",dict:=none,data:=.seq ([]:List Value).toArray}:=hsb₁.extBut _ _ hDC (BR _ (hH2▸D7 _ rfl))
 have hns₂:h₁.Ns G.objs.size (fun _=>none):=hns₁
 generalize hXX:CG X scope N' cl G.objs.size s2 H2 fp pins=XX at *
 have IN:∀(tk:Nat),A4 XX [] (BK ρ σ) H2 {s2 with heap:=h₁,toks:=tk}:=fun tk=>hXX▸Vp (N':=N') I2 S hρ f2 h1 h2 hCle hfs hns₂ old hl
 obtain⟨pg,pt,pe⟩:=inner cl G.objs.size s2 H2 fp pins
 rw[hXX]at pg pt pe
 have eP:XX.prog=X.prog:=by rw[←hXX];rfl
 have eW:XX.w=X.w:=by rw[←hXX];rfl
 have eK:XX.K=X.K:=by rw[←hXX];rfl
 have eA:XX.A=X.A:=by rw[←hXX];rfl
 have eE:XX.env=compEnvC scope cl G.objs.size X.env:=by rw[←hXX];rfl
 have eL:XX.env.locals=G.objs.size:=by rw[eE];rfl
 have ec:XX.calm=true:=by rw[←hXX];exact hc
 have ex:XX.xe=fun _ _=>False:=by rw[←hXX];rfl
 have es0:XX.s₀=s2:=by rw[←hXX];rfl
 have eex:XX.ex=fp:=by rw[←hXX];rfl
 have efs:XX.fs=E3 X.stack:=by rw[←hXX];rfl
 have eH0:XX.H₀=H2:=by rw[←hXX];rfl
 have epn:XX.pn=X.pn++pins:=by rw[←hXX];rfl
 have ecl:XX.env.cells=cl:=by rw[eE];rfl
 have stat:∀{H':Hp} {ps:List (Addr×Obj)},(∀b∈fp,H' b=none)->(∀p∈ps,p.1=s2.heap.objs.size)->∀b∈fp,Ec XX ps H' b:=fun{H' ps} hn hp b hb=>by
  refine⟨hn b hb,?_,?_,?_,?_,?_⟩
  .rw[eL];exact Cg (CJ (hfs b hb) hCle)
  .rw[efs]
   intro z
   rcases AQ.mp (I2.stkSub b z) with q|q
   .exact(f2 b hb).2.1 q
   .exact(f2 b hb).2.2.1 q
  .rw[eex];exact .inl hb
  .rw[ecl];exact fun x c e=>(f2 b hb).2.2.2.2.1 x c (h1 x c e)
  .intro p hp' z
   rw[epn]at hp'
   rcases Bj.mp hp' with q|q
   .exact(f2 b hb).2.2.2.2.2 p q z
   .rw[hp p q]at z
    exact absurd (hfs b hb) (by rw[z];exact EA _)
 have nofsD:s2.heap.objs.size∉XX.fs:=by
  rw[efs];intro z
  rcases AQ.mp (I2.stkSub _ z) with q|q
  .exact absurd I2.lt (by rw[←q];exact EA _)
  .exact I2.nofs (Ai _) q
 have pinD:∀{σ':St} {H':Hp} {s':Shared} {its:List Value} {n:Nat},A4 XX [] σ' H' s'->H' s2.heap.objs.size=none->s'.heap.get? s2.heap.objs.size=some {cls:=.type "list",data:=.seq its.toArray n}->
   A4 XX [(s2.heap.objs.size,{cls:=.type "list",data:=.seq its.toArray n})] σ' H' s':=fun{σ' H' s' its n} I' hn ho=>I'.pins_of fun p hp=>by
  have e:p=(s2.heap.objs.size,{cls:=.type "list",data:=.seq its.toArray n}):=by simpa using hp
  subst e
  refine⟨ho,hn,by rw[eL];exact hDC,nofsD,fun v z=>?_⟩
  have z':Data.seq its.toArray n=Data.cell v:=z
  cases z'
 have loop:∀s₃:Shared,(∃tk,s₃={s2 with heap:=h₁,toks:=tk})->
   codeAny (model X.prog X.w) X.A (.compLoop (.ListComp elt [⟨tg,iter,ifs,0⟩] scope pos) 0 (.ref it) (.ref s2.heap.objs.size) (compEnvC scope cl G.objs.size X.env)) (RR (.ref s2.heap.objs.size) G.objs.size) s₃:=by
  rintro s₃ ⟨tk,rfl⟩
  refine S7 (fun n s'=>∃i ys its k H',A4 XX [] (BK ρ σ) H' s'/\tn i s'.heap/\(∀b∈fp,H' b=none)/\H' s2.heap.objs.size=none/\AA ys its/\
   s'.heap.get? s2.heap.objs.size=some {cls:=.type "list",data:=.seq its.toArray k}/\W i n ys H') ?_ m0
   ⟨0,[],[],0,H2,IN tk,T.keep _ _ _ st2 fun b _ o e=>old b o e,fun b hb=>(f2 b hb).1,I2.hok.fresh (Ai _),.nil,hacc,w0⟩
  rintro n s3 ⟨i,ys,its,k,H3,I3,st3,fr3,hD3,rv,ho3,w3⟩
  rcases turn i n ys H3 w3 with⟨stop,hz,qn⟩|⟨go,hz,N,hN,step⟩
  .have I3p:=pinD I3 hD3 ho3
   have q:=T.done XX eP eW eK ec i _ s3 (BK ρ σ) H3 (fun _ _=>False) I3p (stat fr3 (by simp)) st3 stop
   rw[eA]at q
   refine As q fun r s4 zz=>?_
   obtain⟨hr,I4⟩:=zz
   subst hr
   have ho4:=(I4.pin (s2.heap.objs.size,{cls:=.type "list",data:=.seq its.toArray k}) (by simp)).1
   obtain⟨m,hm,_⟩:=I4.loc
   rw[eL]at hm
   have hun:Un (E3 X.stack) fp H2 (upd H3 s2.heap.objs.size (.lst ys)) s2.heap s4.heap:=by
    have u:=I4.base
    rw[efs,eex,eH0,es0]at u
    refine⟨u.keep,u.slot,fun b o e n hx=>?_,u.there,fun b xs e=>?_,fun b o xs e=>?_,fun b ps e=>?_⟩
    .rw[A8 (Cg (Br e))];exact u.free b o e n hx
    .have q:=u.tups b xs e
     rw[A8 (AI q hD3)];exact q
    .have q:=u.frzs b o xs e
     rw[A8 (AI q hD3)];exact q
    .obtain⟨more,q⟩:=u.tbls b ps e
     exact⟨more,by rw[A8 (AI q hD3)];exact q⟩
   have hok:By X.prog X.w (upd H3 s2.heap.objs.size (.lst ys)) s4.heap:=by
    have q:=I4.hok
    rw[eP,eW]at q
    exact q.track hD3 ⟨hz,its,k,rv,ho4⟩
   have hfr:∀b∈fp,(b∈X.ex\/X.s₀.heap.objs.size<=b)/\b≠X.env.locals/\(∀x c,X.env.cells.lookup x=some c->c≠b)/\∀p∈X.pn++pins,p.1≠b:=fun b hb=>⟨(f2 b hb).2.2.2.1,(f2 b hb).2.1,(f2 b hb).2.2.2.2.1,(f2 b hb).2.2.2.2.2⟩
   have IO:A4 X pins σ (upd H3 s2.heap.objs.size (.lst ys)) s4:=I2.call' (by have:=I4.os;rw[es0]at this;exact this) hun hok I4.bare hfr
   refine fin _ _ s4 _ m IO (qn _ hD3) hm (I2.fpOk hCle ?_)
   rw[A8 (Ne.symm hDC)]
   have:=I4.free
   rw[eL]at this
   exact this
  .have I3p:=pinD I3 hD3 ho3
   have q:=T.item XX eP eW eK ec i _ s3 (BK ρ σ) H3 (fun _ _=>False) I3p (stat fr3 (by simp)) st3 go
   rw[eA]at q
   refine As q fun r s4 zz=>?_
   obtain⟨u,hr,h4⟩:=zz
   subst hr
   refine As h4 fun _ s5 zz=>?_
   obtain⟨x,H5,I5,r5,y5,st5,fr5⟩:=zz
   have I5':=I5.pinned (stat fr5 (by simp)) (T.obj _ _ st5)
   have qa:=pg _ s5 (BK ρ σ) H5 x u _ I5' r5 (step x H5 y5)
   rw[eP,eW,eA,eE,ex]at qa
   refine As qa fun _ s6 zz=>?_
   obtain⟨σ6,H6,I6,⟨ou1,ou2⟩,q6⟩:=zz
   have hw6:(BK ρ σ).length=σ6.length:=by rw[ou1];unfold BK;rw[Ap]
   have qt:=pt _ s6 σ6 H6 _ I6 q6
   rw[eP,eW,eA,eE,ex]at qt
   refine As qt fun ok s7 zz=>?_
   obtain⟨H7,I7,q7⟩:=zz
   have back:∀{s8:Shared} {H8:Hp},A4 XX ([(s2.heap.objs.size,{cls:=.type "list",data:=.seq its.toArray k})]++GK fp s5.heap) σ6 H8 s8->tn (i+1) s8.heap/\(∀b∈fp,H8 b=none)/\H8 s2.heap.objs.size=none/\
     s8.heap.get? s2.heap.objs.size=some {cls:=.type "list",data:=.seq its.toArray k}:=fun{s8 H8} I8=>by
    refine⟨T.keep _ _ _ st5 fun b hb o e=>(I8.pin (b,o) (CC _ (CC _ (Hx hb e)))).1,fun b hb=>?_,?_,?_⟩
    .obtain⟨o,e,d⟩:=T.obj _ _ st5 b hb
     exact(I8.pin (b,o) (CC _ (CC _ (Hx hb e)))).2.1
    .exact(I8.pin (s2.heap.objs.size,{cls:=.type "list",data:=.seq its.toArray k}) (by simp)).2.1
    .exact(I8.pin (s2.heap.objs.size,{cls:=.type "list",data:=.seq its.toArray k}) (by simp)).1
   cases ok with
   |
    false=>
    obtain⟨m',hm,w7⟩:=hN _ _ q7
    obtain⟨b1,b2,b3,b4⟩:=back I7
    exact⟨m',hm,i+1,ys,its,k,H7,(I7.pins_of (pins':=[]) (fun _ z=>nomatch z)).weak hw6 ou2,b1,b2,b3,rv,b4,w7⟩
   |
    true=>
    have qe:=pe _ s7 σ6 H7 _ I7 q7
    rw[eP,eW,eA,eE,ex]at qe
    refine As qe fun y s8 zz=>?_
    obtain⟨v8,H8,I8,r8,n8⟩:=zz
    obtain⟨m',hm,w8⟩:=hN _ _ n8
    obtain⟨b1,b2,b3,b4⟩:=back I8
    have hlen:=rv.length
    refine Gb F.slot_list_append ⟨_,b4,rfl⟩ F.entry_list_append (F.args_list_append_2 _ _) (PySem.list_append s2.heap.objs.size its.toArray k y (by rw[B8];omega)) ⟨b4,?_⟩
    have qL:=PySem.IsL.update b4 (fun xs=>xs.push y)
    have I8':A4 XX [] σ6 H8 s8:=I8.pins_of (fun _ z=>nomatch z)
    have I9:A4 XX [] σ6 H8 {s8 with heap:=s8.heap.update s2.heap.objs.size (Obj.mapSeq fun xs=>xs.push y),toks:=s8.toks}:=I8'.turned (it:=s2.heap.objs.size) (fun b o hb e=>(LD s8.heap _ (Ne.symm hb)).trans e) b3
     (by rw[eL];exact hDC) (.inr (by rw[es0];exact Ai _)) (by
      rw[ecl];intro x c e z
      obtain⟨v,qc⟩:=I2.cell x c (h1 x c e)
      exact absurd qc.lt (by rw[z];exact EA _)) (by
      intro p hp z
      have hp':p∈X.pn++pins:=by rw[epn]at hp;simpa using hp
      exact absurd (Br (I2.pin p hp').1) (by rw[z];exact EA _))
    have hnd:s2.heap.objs.size∉fp:=fun z=>EA _ (hfs _ z)
    rw[show its.toArray.push y=(its++[y]).toArray by simp]at qL
    refine⟨m',hm,i+1,ys++[v8],its++[y],_,H8,I9.weak hw6 ou2,T.keep _ _ _ b1 fun b hb o e=>(LD s8.heap _ (by rintro rfl;exact hnd hb)).trans e,b2,b3,rv.append (.cons r8 .nil),qL,w8⟩
 refine codeAny_compStart_list (loop _ ⟨_,rfl⟩) (T.self X.A 0 _ _ _ (T.keep _ _ _ st2 fun b _ o e=>old b o e) (loop _ ⟨_,rfl⟩))
theorem VE {X:Cx}{elt iter tg:Expr}{ifs:List Expr}{scope:Scope}{pos:Pos}(N':List Str)(ρ:List (Option Nat)){wi:TI}{g:TG}{tt:TT}{te:TE}(hc:X.calm=true)(hi:PI X tg iter wi)(S:Gd scope X.env.scope)(hρ:Hm scope X.env X.N N' ρ)
  (hl:∀x,(x,NameKind.free)∈scope.names->scope.names.lookup x=some .free)
  (inner:∀(cl:List (Str×Addr)) (C:Addr) (s:Shared) (H:Hp) (fp:List Addr) (pins:List (Addr×Obj)),PG (CG X scope N' cl C s H fp pins) tg g/\FU (CG X scope N' cl C s H fp pins) ifs tt/\PE (CG X scope N' cl C s H fp pins) elt te)
  (hs:∀x,foldedSetIterable iter X.env x=pure x:=by intro _;rfl):PE X (.ListComp elt [⟨tg,iter,ifs,0⟩] scope pos) (Gg ρ wi g tt te):=by
 intro pins s σ H Q I h
 obtain⟨cl,hcl,h1,h2⟩:=LY (scope:=scope) (env:=X.env) (fun n hn=>I.ok.has n (S.free (n,.free) hn rfl))
 rw[eval_ListComp]
 refine wpAny_comprehension_free (use:=none) rfl hs hcl S.kind S.loc ?_
 refine M8 (RR:=fun acc C=>compPost (model X.prog X.w) X.A X.xe none (EP X pins σ Q) acc C) hc hi S hρ hl inner I h h1 h2 ?_
 intro D C s' H' m I' q hm hf
 refine⟨m,hm,fun h' sb=>⟨.ref D,H',?_,rfl,q⟩⟩
 exact I'.turned (t':=s'.toks) (fun b o hb e=>(sb.2 b hb).trans e) hf.1 hf.2.1 hf.2.2.2.1 hf.2.2.2.2.1 hf.2.2.2.2.2
theorem TN {X:Cx}{elt iter tg:Expr}{ifs:List Expr}{scope:Scope}{pos pos' spos:Pos}{i:Nat}{x:Str}(N':List Str)(ρ:List (Option Nat)){wi:TI}{g:TG}{tt:TT}{te:TE}(hN:X.N.Nodup)(hix:X.N[i]?=some x)(hx:Fp X.env.scope x)
  (hc:X.calm=true) (hi:PI X tg iter wi) (S:Gd scope X.env.scope) (hρ:Hm scope X.env X.N N' ρ)
  (hl:∀x,(x,NameKind.free)∈scope.names->scope.names.lookup x=some .free)
  (inner:∀(cl:List (Str×Addr)) (C:Addr) (s:Shared) (H:Hp) (fp:List Addr) (pins:List (Addr×Obj)),PG (CG X scope N' cl C s H fp pins) tg g/\FU (CG X scope N' cl C s H fp pins) ifs tt/\PE (CG X scope N' cl C s H fp pins) elt te)
  (hsw:swapsWith (.ListComp elt [⟨tg,iter,ifs,0⟩] scope pos) (some (.Name x pos')) spos.line X.env=pure true:=by rfl)
  (hs:∀x,foldedSetIterable iter X.env x=pure x:=by intro _;rfl) (hf:X.fn x=true\/X.env.scope.names.lookup x=some .local:=by first|exact .inl rfl|exact .inr rfl|assumption) :
  PS X (.Assign [.Name x pos'] (.ListComp elt [⟨tg,iter,ifs,0⟩] scope pos) spos) (FP (Gg ρ wi g tt te) (Ar i)):=by
 intro pins s σ H Dn I h
 obtain⟨cl,hcl,h1,h2⟩:=LY (scope:=scope) (env:=X.env) (fun n hn=>I.ok.has n (S.free (n,.free) hn rfl))
 rw[exec_Assign_Name_used _ _ _ _ hsw]
 refine B4 (wpAny_standAt (B4 ?_))
 show wpAny _ X.A (do let _ ←comprehension (.ListComp elt [⟨tg,iter,ifs,0⟩] scope pos) scope X.env _ (newList []) false (eval iter X.env) (some (assign (.Name x pos') X.env))) _ _ s
 refine B4 (DP (wpAny_comprehension_free (use:=some (assign (.Name x pos') X.env)) (Q:=fun _ s'=>SP X pins Dn .next s') rfl hs hcl S.kind S.loc ?_) (fun _ s' hq=>C6 (C6 hq)) fun _ _ e=>e)
 refine M8 (RR:=fun acc C=>compPost (model X.prog X.w) X.A X.xe (some (assign (.Name x pos') X.env)) (fun _ s'=>SP X pins Dn .next s') acc C) hc hi S hρ hl inner I h h1 h2 ?_
 intro D C s' H' m I' q hm hfC
 obtain⟨oC,es,ep,hoC,hr⟩:=id hm
 have pin:A4 X (pins++GK [C] s'.heap) σ H' s':=I'.pinned (fun b hb=>by
  have e:b=C:=by simpa using hb
  subst e
  exact hfC) (fun b hb=>by
  have e:b=C:=by simpa using hb
  subst e
  exact⟨oC,hoC,fun v z=>by rw[hr.1]at z;cases z⟩)
 show wpAny _ X.A (assign (.Name x pos') X.env (.ref D)) _ _ _
 refine wpAny_assign_Name ?_
 refine Hu (M:=model X.prog X.w) (A:=X.A) (E:=X.xe) pin hN hix hx (v:=.ref D) (u:=.ref D) rfl (fun s'' I''=>?_) hf
 have pC:=(I''.pin (C,oC) (CC _ (CC _ (Hx (by simp) hoC))))
 refine⟨m,⟨oC,es,ep,pC.1,hr⟩,fun h' sb=>⟨_,H',?_,q⟩⟩
 have I2:A4 X pins (σ.set i (some (.ref D))) H' s'':=I''.unpinned
 exact I2.turned (t':=s''.toks) (fun b o hb e=>(sb.2 b hb).trans e) hfC.1 hfC.2.1 hfC.2.2.2.1 hfC.2.2.2.2.1 hfC.2.2.2.2.2
theorem Hc (σ:St)(o:Option Nat)(ρ:List (Option Nat)):BK (o::ρ) σ=(match o with|some i=>(σ[i]?).getD none|none=>none)::BK ρ σ:=rfl
theorem V2 {ρ:List (Option Nat)}{σ:St}(o:Option V):Im (none::ρ) σ (o::BK ρ σ):=by
 refine⟨by unfold BK;simp,fun j v e=>?_⟩
 cases j with
 |zero=>rw[Hc]at e;simp at e
 |succ j=>rw[Hc]at e;simpa using e
theorem UY {ρ:List (Option Nat)}{σ:St}(o o':Option V):Im (none::none::ρ) σ (o::o'::BK ρ σ):=by
 refine⟨by unfold BK;simp,fun j v e=>?_⟩
 cases j with
 |zero=>rw[Hc]at e;simp at e
 |
  succ j=>
  rw[Hc,Hc]at e
  cases j with
  |zero=>simp at e
  |succ j=>simpa using e
theorem Jj {J:It}{n:Nat}{X:Nat->V->Prop}{ρ:List (Option Nat)}{tt:TT}{te:TE}{σ:St}{H:Hp}{Q:VK}(Pv:Nat->List V->Hp->Prop)(h0:Pv 0 [] H)(hlen:n<=sizeLine)
  (hy:∀i ys H,i<=n->Pv i ys H->ys.length<=i) (hgo:∀i ys H,i<n->Pv i ys H->J.go i H) (hyl:∀i ys H x H',i<n->Pv i ys H->J.yld i H x H'->H'=H/\X i x) (hst:∀ys H,Pv n ys H->J.stop n H)
  (hs:∀i x ys H,i<n->X i x->Pv i ys H->tt (some x::BK ρ σ) H fun ok H4=>if ok=true then te (some x::BK ρ σ) H4 fun v H5=>Pv (i+1) (ys++[v]) H5 else Pv (i+1) ys H4)
  (hd:∀ys H,Pv n ys H->∀p,H p=none->Q (.ref p) (upd H p (.lst ys))) :
  FQ (none::ρ) (Ar 0) tt te σ Q J H:=by
 refine⟨fun i m ys H=>m=n-i/\i<=n/\Pv i ys H,⟨n,by simp,BC _,h0⟩,?_⟩
 rintro i m ys H ⟨rfl,hi,p⟩
 have hl:=hy i ys H hi p
 by_cases hlt:i<n
 .refine .inr ⟨hgo i ys H hlt p,by omega,Pv (i+1),fun ys' H'' p'=>⟨n-(i+1),by omega,rfl,hlt,p'⟩,fun x H' y=>?_⟩
  obtain⟨e,y2⟩:=hyl i ys H x H' hlt p y
  subst e
  exact⟨V2 _,hs i x ys _ hlt y2 p⟩
 .have e:i=n:=by omega
  subst e
  exact .inl ⟨hst ys H p,by omega,hd ys H p⟩
theorem IR {K:Xa}{a:Addr}{xs:List V}{ρ:List (Option Nat)}{tt:TT}{te:TE}{σ:St}{H:Hp}{Q:VK}(Pv:Nat->List V->Hp->Prop)(h0:Pv 0 [] H)(hlen:xs.length<=sizeLine)(hl:∀i ys H,i<=xs.length->Pv i ys H->Ah K H a xs/\ys.length<=i)
  (hs:∀i x ys H,xs[i]?=some x->Pv i ys H->tt (some x::BK ρ σ) H fun ok H4=>if ok=true then te (some x::BK ρ σ) H4 fun v H5=>Pv (i+1) (ys++[v]) H5 else Pv (i+1) ys H4)
  (hd:∀ys H,Pv xs.length ys H->∀p,H p=none->Q (.ref p) (upd H p (.lst ys))) :
  FQ (none::ρ) (Ar 0) tt te σ Q (Gr K a) H:=
 Jj (n:=xs.length) (X:=fun i x=>xs[i]?=some x) Pv h0 hlen (fun i ys H hi p=>(hl i ys H hi p).2) (fun i ys H hi p=>⟨xs,xs[i],(hl i ys H (G4 hi) p).1,by simp[hi]⟩) (fun i ys H x H' hi p y=>⟨y.1,y.2 xs (hl i ys H (G4 hi) p).1⟩)
  (fun ys H p=>⟨xs,(hl _ ys H (Ai _) p).1,Ai _⟩) (fun i x ys H _ e p=>hs i x ys H e p) hd
theorem F0 {K:Xa}{a:Addr}{xs:List V}{ρ:List (Option Nat)}{tt:TT}{te:TE}{σ:St}{H:Hp}{Q:VK}(Pv:Nat->List V->Hp->Prop)(h0:Pv 0 [] H)(hlen:xs.length<=sizeLine)(hl:∀i ys H,i<=xs.length->Pv i ys H->A3 K H a xs/\ys.length<=i)
  (hs:∀i x ys H,xs[i]?=some x->Pv i ys H->tt (some x::BK ρ σ) H fun ok H4=>if ok=true then te (some x::BK ρ σ) H4 fun v H5=>Pv (i+1) (ys++[v]) H5 else Pv (i+1) ys H4)
  (hd:∀ys H,Pv xs.length ys H->∀p,H p=none->Q (.ref p) (upd H p (.lst ys))) :
  FQ (none::ρ) (Ar 0) tt te σ Q (FM K a) H:=
 Jj (n:=xs.length) (X:=fun i x=>xs[i]?=some x) Pv h0 hlen (fun i ys H hi p=>(hl i ys H hi p).2) (fun i ys H hi p=>⟨xs,xs[i],(hl i ys H (G4 hi) p).1,by simp[hi]⟩) (fun i ys H x H' hi p y=>⟨y.1,y.2 xs (hl i ys H (G4 hi) p).1⟩)
  (fun ys H p=>⟨xs,(hl _ ys H (Ai _) p).1,Ai _⟩) (fun i x ys H _ e p=>hs i x ys H e p) hd
theorem MK {lo:Int}{n:Nat}{ρ:List (Option Nat)}{tt:TT}{te:TE}{σ:St}{H:Hp}{Q:VK}(Pv:Nat->List V->Hp->Prop)(h0:Pv 0 [] H)(hlen:n<=sizeLine)(hl:∀i ys H,i<=n->Pv i ys H->ys.length<=i)
  (hs:∀i ys H,i<n->Pv i ys H->tt (some (.int (lo+i))::BK ρ σ) H fun ok H4=>if ok=true then te (some (.int (lo+i))::BK ρ σ) H4 fun v H5=>Pv (i+1) (ys++[v]) H5 else Pv (i+1) ys H4)
  (hd:∀ys H,Pv n ys H->∀p,H p=none->Q (.ref p) (upd H p (.lst ys))) :
  FQ (none::ρ) (Ar 0) tt te σ Q (FK lo n) H:=
 Jj (n:=n) (X:=fun i x=>x = .int (lo+i)) Pv h0 hlen hl (fun i ys H hi p=>hi) (fun i ys H x H' hi p y=>y) (fun ys H p=>Ai _) (fun i x ys H hi e p=>by subst e;exact hs i ys H hi p) hd
abbrev cds (x:Str):List Nat:=x.cps.toList
theorem cds_len (x:Str):(cds x).length=x.length:=by simp[cds,Str.length]
theorem DK {x y:Str}(h:cds x=cds y):x=y:=StrLaws.mk_of_toList (x:=x) h▸(StrLaws.mk_of_toList (x:=y) rfl).symm
theorem AN (x y:Str):cds (x++y)=cds x++cds y:=by simp[cds,Str.cps_append]
theorem MS (c:Nat):cds ⟨#[c]⟩=[c]:=rfl
theorem UZ (l:List Nat):cds ⟨l.toArray⟩=l:=by simp[cds]
def Az (l:List Nat):Str:=⟨l.toArray⟩
theorem B7 (l:List Nat):cds (Az l)=l:=by simp[cds,Az]
theorem Ep (x:Str):Az (cds x)=x:=DK (B7 _)
def Ca {α:Type}(xs:List α)(lo hi:Option Int):List α:=(xs.drop (HT.sIx xs.length 0 lo)).take (HT.sIx xs.length xs.length hi-HT.sIx xs.length 0 lo)
theorem LW (n:Nat)(i:Int)(k:Nat):max 0 (min (if i<0 then i+(n:Int) else i) (n:Int))=((HT.sIx n k (some i):Nat):Int):=by
 unfold HT.sIx
 dsimp only
 split<;>omega
theorem RJ (lo hi:Option Int)(n:Nat):Builtin.Str.strSliceIndices lo hi 1 n=(List.range (HT.sIx n n hi-HT.sIx n 0 lo)).map (fun k=>HT.sIx n 0 lo+k):=by
 have e:Builtin.Str.strSliceIndices lo hi 1 n=sliceRange ((HT.sIx n 0 lo:Nat):Int) ((HT.sIx n n hi:Nat):Int) 1:=by
  unfold Builtin.Str.strSliceIndices
  simp only[show((1:Int)>0)=True by simp,EY]
  congr 1
  .cases lo with
   |none=>rfl
   |some i=>exact LW n i 0
  .cases hi with
   |none=>rfl
   |some i=>exact LW n i n
 rw[e]
 unfold sliceRange
 simp only[show((1:Int)>0)=True by simp,EY]
 generalize HT.sIx n 0 lo=a
 generalize HT.sIx n n hi=b
 by_cases h:(a:Int)<b
 .rw[Ag h,show(((b:Int)-a+1-1)/1).toNat=b-a by simp<;>omega]
  refine OG fun k _=>?_
  omega
 .rw[Ae h,show b-a=0 by omega]
  rfl
theorem VQ (x:Str)(lo hi:Option Int):cds (Txt.slice x lo hi)=Ca (cds x) lo hi:=by
 unfold Txt.slice Ca
 have hl:=cds_len x
 rw[hl,RJ]
 have b1:=HT.sIx_le x.length 0 (BC _) lo
 have b2:=HT.sIx_le x.length x.length (Ai _) hi
 generalize HT.sIx x.length 0 lo=a at *
 generalize HT.sIx x.length x.length hi=b at *
 split
 .rename_i h
  have hb:b-a=x.length:=by simpa using h
  have ha:a=0:=by omega
  subst ha
  rw[I0,hb,←hl,DN]
 .by_cases hab:a<=b
  .have q:=StrLaws.picks (cds x) (b-a) a (by omega)
   have q2:(List.filterMap (fun x_1=>x.cps[x_1]?) (List.map (fun k=>a+k) (List.range (b-a))))=List.filterMap (fun x_1=>(cds x)[x_1]?) (List.map (fun k=>a+k) (List.range (b-a))):=by
    simp[cds]
   rw[UZ,q2,q]
  .rw[show b-a=0 by omega]
   simp[cds]
section
variable {X:Cx}
def PM:V->Option Int->Option Int->Hp->VK->Prop:=fun x lo hi H Q=>∃z,x = .str z/\z.length<=sizeLine/\Q (.str (Az (Ca (cds z) lo hi))) H
theorem Fm:Lf X PM:=by
 intro pins s σ H x v vl vu lo hi sl Q I rx hs pl pu h
 obtain⟨z,rfl,hz,q⟩:=h
 obtain⟨t,rfl⟩:=rx
 rw[←VQ,Ep]at q
 refine⟨"str",_,F.slot_str_getitem.lookup,GV _ _ _,?_⟩
 have go:∀(l u:Option (Int×Tok)),l.map (·.1)=lo->u.map (·.1)=hi->s.heap.IsSlice sl l u none->wpAny (model X.prog X.w) X.A (getItem (.str z t) (.ref sl)) (EP X pins σ Q) X.xe s:=fun l u e1 e2 hS=>by
  subst e1 e2
  exact wpAny_getItem_str_slice hS rfl (post_val_or_str ⟨C5 (Txt.slice_le z _ _) hz,fun t' k=>⟨.str _,H,I.tok _,⟨_,rfl⟩,q⟩⟩)
 cases pl with
 |
  none=>
  cases pu with
  |none=>exact go none none rfl rfl hs
  |int j u=>exact go none (some (j,u)) rfl rfl hs
 |
  int i t'=>
  cases pu with
  |none=>exact go (some (i,t')) none rfl rfl hs
  |int j u=>exact go (some (i,t')) (some (j,u)) rfl rfl hs
def UU:R2:=fun x y H Q=>∃z n,x = .str z/\y = .int n/\-(2 ^ 63:Int)<=n/\n<=4096/\z.length<=4096/\Q (.str (Txt.mul z n)) H
theorem R7:Bq X (binaryOp .Mult) UU:=by
 intro pins s σ H x y v u Q I rx ry h
 obtain⟨z,n,rfl,rfl,h1,h2,h3,q⟩:=h
 obtain⟨t,rfl⟩:=rx
 obtain⟨t',rfl⟩:=ry
 exact SB.mul (mulOk_of 4096 4096 h3 h2 h1 (by decide) (by decide)) fun t' k=>⟨.str _,H,I.tok _,⟨_,rfl⟩,q⟩
theorem MM (c:Nat)(n:Int):cds (Txt.mul ⟨#[c]⟩ n)=List.replicate n.toNat c:=mul_one_list c n
def GC (c:Nat)(l:List Nat):Int:=if c∈l then((l.idxOf c:Nat):Int) else -1
theorem HL {c:Nat}:∀{l:List Nat} {i:Nat},l[i]?=some c->(∀k,k<i->l[k]?≠some c)->l.idxOf c=i
 |[],i,h,_=>by simp at h
 |a::r,0,h,_=>by simp at h;subst h;simp
 |
  a::r,i+1,h,hn=>by
  have ha:a≠c:=fun e=>hn 0 (G6 _) (by simp[e])
  have q:=HL (c:=c) (l:=r) (i:=i) (by simpa using h) (fun k hk=>by simpa using hn (k+1) (Nat.succ_lt_succ hk))
  have hb:(a==c)=false:=by simpa using ha
  rw[List.idxOf_cons,hb,q]
  rfl
theorem P7 (x:Str)(c:Nat):Txt.find x ⟨#[c]⟩=GC c (cds x):=by
 unfold Txt.find GC
 rcases StrLaws.occ_head x ⟨#[c]⟩ 1 (Ai _) with⟨e,hn⟩|⟨i,r,e,ha,hn⟩
 .rw[e]
  dsimp only
  rw[Ae]
  intro hm
  obtain⟨i,hi,hc⟩:=LH.mp hm
  exact hn i ((StrLaws.subAt_one x c i).mpr (by rw[Bg hi,hc]))
 .rw[e]
  dsimp only
  have hi:=(StrLaws.subAt_one x c i).mp ha
  rw[Ag (CK hi),HL hi fun k hk z=>hn k hk ((StrLaws.subAt_one x c k).mpr z)]
theorem Lp (x:Str)(c:Nat):(!(Builtin.Str.occurrences x ⟨#[c]⟩ 0 x.length 1).isEmpty)=decide (c∈cds x):=StrLaws.found_one x c
def UR (K:Xa):V->List V->Hp->VK->Prop:=fun x xs H Q=>∃z p ys,x = .str z/\xs=[.ref p]/\(A3 K H p (ys.map V.str)\/Ah K H p (ys.map V.str))/\(ys.map (·.length)).sum+ys.length*z.length<=16777216/\Q (.str (Txt.join z ys)) H
theorem Lh:∀{ys:List Str} {us:List Value},AA (ys.map V.str) us->StrsAre us ys
 |[],_,.nil=>.nil
 |
  y::ys,_,.cons r t=>by
  obtain⟨k,rfl⟩:=r
  exact .cons y k (Lh t)
theorem KE:FT X "str.join" (UR X.K):=by
 intro pins s σ H x xs v us Q I rx rv h
 obtain⟨z,p,ys,rfl,rfl,hq,hz,q⟩:=h
 obtain⟨t,rfl⟩:=rx
 obtain⟨u,rfl,ru⟩:=rv.one
 cases ru
 rcases hq with hq|hq
 .obtain⟨its,r,pl,_⟩:=I.list hq
  exact join_list pl.isList (by simpa using Lh r) hz fun t' k=>⟨.str _,H,I.tok _,⟨_,rfl⟩,q⟩
 .obtain⟨its,r,pl,_⟩:=I.tuple hq
  exact join_tuple pl (by simpa using Lh r) hz fun t' k=>⟨.str _,H,I.tok _,⟨_,rfl⟩,q⟩
theorem V1:Eb X (.type "int") (fun xs H Q=>∃z n,xs=[.str z]/\intText? z=some n/\z.length<=640/\Q (.int n) H):=by
 intro pins s σ H xs us Q I r h
 obtain⟨z,n,rfl,hn,hl,q⟩:=h
 obtain⟨u,rfl,t,rfl⟩:=EK r
 exact PySem.W.KIN.call_text hn hl ⟨.int n,H,I.tok _,⟨_,rfl⟩,q⟩
end
def KG (z:Str):It:=⟨fun i _=>i<(cds z).length,fun i H x H'=>H'=H/\∃c,(cds z)[i]?=some c/\x = .str ⟨#[c]⟩,fun i _=>(cds z).length<=i⟩
theorem MC {P:Program}{w:World}{K:Xa}{tg:Expr}(it:Addr)(z:Str)(t:Tok)(ty:String)(hty:ty="str_ascii_iterator"\/ty="str_iterator"):Gj P w K tg (KG z) [it] it (fun i h=>h.IsStrIter it ty z t i) where
 mem:=by simp
 obj:=fun i h st b hb=>by
  have e:b=it:=by simpa using hb
  subst e
  obtain⟨o,e,c,d⟩:=st
  exact⟨o,e,fun v z=>by rw[d]at z;cases z⟩
 keep:=fun i h h' st k=>let ⟨o,ho,r⟩:=st;⟨o,k it (by simp) o ho,r⟩
 item:=by
  intro X hP hw hK hc i pins s σ H E I hf st hg
  subst hP hw hK
  obtain⟨f0,f1,f2,f3,f4,f5⟩:=hf it (by simp)
  have hlt:i<z.cps.size:=by have:i<(cds z).length:=hg;simpa[cds] using this
  have W:Walks X.prog X.w X.A it [it] [it] z.cps.size (SignAt z) (fun i h=>h.IsStrIter it ty z t i):=by
   rcases hty with rfl|rfl
   .exact Walks.strAscii (I.ok.hd hc) it z t
   .exact Walks.strWide (I.ok.hd hc) it z t
  refine W.item i s _ _ hlt st fun v h' tk hv st' kk=>?_
  obtain⟨c,u,hcu,rfl⟩:=hv
  have I1:A4 X pins σ H {s with heap:=h',toks:=tk}:=I.turned (fun b o hb e=>kk b o (by simpa using hb) e) f0 f1 f3 f4 f5
  obtain⟨o,e,c1,d⟩:=id st'
  refine⟨_,rfl,JQ (s:={s with heap:=h',toks:=tk}) e c1 d (by rcases hty with rfl|rfl<;>decide) ⟨.str ⟨#[c]⟩,H,I1,⟨u,rfl⟩,⟨rfl,c,by simpa[cds] using hcu,rfl⟩,st',fun b hb=>(hf b hb).1⟩⟩
 done:=by
  intro X hP hw hK hc i pins s σ H E I hf st hg
  subst hP hw hK
  obtain⟨f0,f1,f2,f3,f4,f5⟩:=hf it (by simp)
  have hle:z.cps.size<=i:=by have:(cds z).length<=i:=hg;simpa[cds] using this
  have hn:z.cps[i]?=none:=by simp[hle]
  rcases hty with rfl|rfl
  .exact wpAny_pyNext_ascii_end (I.ok.hd hc) st hn fun h' he'=>⟨rfl,I.turned (t':=s.toks) (fun b o hb e=>he' b o hb e) f0 f1 f3 f4 f5⟩
  .exact wpAny_pyNext_wide_end (I.ok.hd hc) st hn fun h' he'=>⟨rfl,I.turned (t':=s.toks) (fun b o hb e=>he' b o hb e) f0 f1 f3 f4 f5⟩
 self:=fun _ _ _ _ _ st h=>by
  rcases hty with rfl|rfl
  .exact wpAny_pyIter_striter_ascii st h
  .exact wpAny_pyIter_striter_wide st h
def Rz (tl:TE):TI:=fun σ H R=>tl σ H fun x H1=>∃z,x = .str z/\R (KG z) H1
theorem Rg {X:Cx}{tg l:Expr}{tl:TE}(hl:PE X l tl):PI X tg l (Rz tl):=by
 intro pins s σ H R I h
 refine As (hl pins s σ H _ I h) fun v s1 zz=>?_
 obtain⟨x,H1,I1,r1,q1⟩:=zz
 obtain⟨z,e,q⟩:=q1
 subst e
 obtain⟨t,rfl⟩:=r1
 have fin:∀b∈[s1.heap.objs.size],Ec X pins H1 b:=fun b hb=>by
  have e:b=s1.heap.objs.size:=by simpa using hb
  subst e
  exact I1.fpOk (Ai _) (I1.hok.fresh (Ai _))
 cases ha:z.cps.all (· < 128)
 .refine wpAny_pyIter_wide ha ?_
  exact⟨s1.heap.objs.size,[s1.heap.objs.size],_,_,H1,rfl,I1.kept (t':=s1.toks) fun b o e=>BR _ e,MC _ z t _ (.inr rfl),⟨_,D7 _ rfl,rfl,rfl⟩,fin,q⟩
 .refine wpAny_pyIter_ascii ha ?_
  exact⟨s1.heap.objs.size,[s1.heap.objs.size],_,_,H1,rfl,I1.kept (t':=s1.toks) fun b o e=>BR _ e,MC _ z t _ (.inl rfl),⟨_,D7 _ rfl,rfl,rfl⟩,fin,q⟩
theorem VR {z:Str}{ρ:List (Option Nat)}{tt:TT}{te:TE}{σ:St}{H:Hp}{Q:VK}(Pv:Nat->List V->Hp->Prop)(h0:Pv 0 [] H)(hlen:(cds z).length<=sizeLine)(hl:∀i ys H,i<=(cds z).length->Pv i ys H->ys.length<=i)
  (hs:∀i c ys H,(cds z)[i]?=some c->Pv i ys H->tt (some (.str ⟨#[c]⟩)::BK ρ σ) H fun ok H4=>if ok=true then te (some (.str ⟨#[c]⟩)::BK ρ σ) H4 fun v H5=>Pv (i+1) (ys++[v]) H5 else Pv (i+1) ys H4)
  (hd:∀ys H,Pv (cds z).length ys H->∀p,H p=none->Q (.ref p) (upd H p (.lst ys))) :
  FQ (none::ρ) (Ar 0) tt te σ Q (KG z) H:=
 Jj (n:=(cds z).length) (X:=fun i x=>∃c,(cds z)[i]?=some c/\x = .str ⟨#[c]⟩) Pv h0 hlen hl (fun i ys H hi p=>hi) (fun i ys H x H' hi p y=>y) (fun ys H p=>Ai _) (fun i x ys H hi ⟨c,hc,e⟩ p=>by subst e;exact hs i c ys H hc p) hd
section
variable {X:Cx}
theorem Lx (hc:X.calm=true):Eb X (.builtin "all") (fun xs H Q=>∃(p:Addr) (bs:List Bool),xs=[.ref p]/\A3 X.K H p (bs.map V.bl)/\Q (.bl (bs.all id)) H):=by
 intro pins s σ H xs us Q I r h
 obtain⟨p,bs,rfl,hq,q⟩:=h
 obtain⟨u,rfl,ru⟩:=EK r
 cases ru
 obtain⟨its,rv,pl,hz⟩:=I.list hq
 have hne:p≠s.heap.objs.size:=by
  obtain⟨o,n,e,_⟩:=pl
  exact Cg (Br e)
 have hl:=rv.length
 refine call_all_walk (Kc pl.isList ⟨s.heap.objs.size,_,_,its.toArray.size,_,_,fun i=>bs.getD i true,rfl,Walks.list (A:=X.A.in1) (show X.A.in1.handled=none from I.ok.hd hc) s.heap.objs.size p hne its.toArray,⟨⟨_,D7 _ rfl,rfl,rfl⟩,(pl.isList).push _⟩,?_,fun h' tk kk=>?_⟩)
 .intro i v s' Q' E hv hq'
  have hv':its[i]?=some v:=by simpa using hv
  have hb:∃b,bs[i]?=some b/\v = .bool b:=by
   cases e:(bs.map V.bl)[i]? with
   |
    none=>
    have:=rv.none_of e
    rw[hv']at this;cases this
   |
    some y=>
    obtain⟨u,hu,ru⟩:=rv.get e
    rw[hv']at hu;cases hu
    rw[D8]at e
    cases eb:bs[i]? with
    |none=>rw[eb]at e;cases e
    |
     some b=>
     rw[eb]at e
     cases e
     exact⟨b,rfl,ru⟩
  obtain⟨b,hb,rfl⟩:=hb
  refine GS ?_
  have hq2:Q' ((bs[i]?).getD true) s':=hq'
  rw[hb]at hq2
  exact hq2
 .have e:((List.range its.toArray.size).all fun i=>bs.getD i true)=bs.all id:=by
   have el:its.toArray.size=bs.length:=by rw[B8,←hl,Ap]
   rw[el]
   rw[E4]
   simp only[EU,HW]
   constructor
   .intro h b hb
    obtain⟨i,hi,e⟩:=LH.mp hb
    have:=h i hi
    rw[G7,Bg hi]at this
    rw[←e];exact this
   .intro h i hi
    rw[G7,Bg hi]
    exact h _ (EV hi)
  rw[e]
  refine⟨.bl (bs.all id),H,I.kept (t':=tk) fun b o eb=>kk b o ?_ (BR _ eb),rfl,q⟩
  intro z
  have z':b=s.heap.objs.size:=by simpa using z
  exact absurd (Br eb) (by rw[z'];exact EA _)
def V3:V->Option Value
 |.ty n=>some (.type n)
 |.ref a=>some (.ref a)
 |_=>none
theorem CT:Eb X (.builtin "isinstance") (fun xs H Q=>∃x c t cv b,xs=[x,c]/\V3 c=some cv/\Cz X.K H x t/\PySem.W.kitOne X.K t cv=some b/\Q (.bl b) H):=by
 intro pins s σ H xs us Q I r h
 obtain⟨x,c,t,cv,b,rfl,rc,ty,e,q⟩:=h
 obtain⟨u,w',rfl,rx,rw'⟩:=r.two
 have:w'=cv:=by
  cases c with
  |ref a=>cases rc;exact rw'
  |ty a=>cases rc;exact rw'
  |_=>cases rc
 subst this
 exact Qk I rx ty e fun tk=>⟨.bl b,H,I.tok _,rfl,q⟩
end
def Cu (sc out:Scope)(N N':List Str)(ρ:List (Option Nat)):Bool:=
 decide (sc.kind = .function)&&sc.names.all (fun y=>decide (y.2≠.cell))&&sc.names.all (fun y=>decide (y.2 = .local->sc.names.lookup y.1=some .local)) &&
 sc.names.all (fun y=>decide (y.2 = .free->sc.names.lookup y.1=some .free/\(out.names.lookup y.1=some .cell\/out.names.lookup y.1=some .free))) &&
 decide (ρ.length=N'.length)&&decide N'.Nodup &&
 (ρ.zip N').all (fun p=>match p.1 with|none=>true|some i=>decide (N[i]?=some p.2)&&decide (out.names.lookup p.2=some .local\/out.names.lookup p.2=some .cell\/out.names.lookup p.2=some .free)&&sc.names.any (fun y=>decide (y=(p.2,NameKind.free))))
structure S9 (sc:Scope)(env:Env)(N N':List Str)(ρ:List (Option Nat)):Prop where
 S:Gd sc env.scope
 sl:Hm sc env N N' ρ
 hl:∀x,(x,NameKind.free)∈sc.names->sc.names.lookup x=some .free
 nd:N'.Nodup
theorem Ol {sc:Scope}{env:Env}{N N':List Str}{ρ:List (Option Nat)}(h:Cu sc env.scope N N' ρ=true):S9 sc env N N' ρ:=by
 unfold Cu at h
 simp only[EB,DQ,EU]at h
 obtain⟨⟨⟨⟨⟨⟨h1,h2⟩,h3⟩,h4⟩,h5⟩,h6⟩,h7⟩:=h
 refine⟨⟨h1,h2,h3,fun y hy e=>(h4 y hy e).2⟩,⟨h5,fun j i x e1 e2=>?_⟩,fun x hx=>(h4 _ hx rfl).1,h6⟩
 have hm:(some i,x)∈ρ.zip N':=by
  refine CK (i:=j) ?_
  rw[List.getElem?_zip_eq_some]
  exact⟨e1,e2⟩
 have q:=h7 _ hm
 simp only[EB,DQ,List.any_eq_true]at q
 obtain⟨⟨q1,q2⟩,y,hy,e⟩:=q
 exact⟨q1,q2,e▸hy⟩
theorem Dh {X:Cx}{elt iter tg:Expr}{ifs:List Expr}{scope:Scope}{pos:Pos}(N':List Str)(ρ:List (Option Nat)){wi:TI}{g:TG}{tt:TT}{te:TE}(hc:X.calm=true)(hi:PI X tg iter wi)(h:Cu scope X.env.scope X.N N' ρ=true)
  (inner:∀(cl:List (Str×Addr)) (C:Addr) (s:Shared) (H:Hp) (fp:List Addr) (pins:List (Addr×Obj)),PG (CG X scope N' cl C s H fp pins) tg g/\FU (CG X scope N' cl C s H fp pins) ifs tt/\PE (CG X scope N' cl C s H fp pins) elt te)
  (hs:∀x,foldedSetIterable iter X.env x=pure x:=by intro _;rfl):PE X (.ListComp elt [⟨tg,iter,ifs,0⟩] scope pos) (Gg ρ wi g tt te):=
 have F:=Ol h
 VE N' ρ hc hi F.S F.sl F.hl inner hs
theorem Vw {X:Cx}{elt iter tg:Expr}{ifs:List Expr}{scope:Scope}{pos pos' spos:Pos}{i:Nat}{x:Str}(N':List Str)(ρ:List (Option Nat)){wi:TI}{g:TG}{tt:TT}{te:TE}(hN:X.N.Nodup)(hix:X.N[i]?=some x)(hx:Fp X.env.scope x)
  (hc:X.calm=true) (hi:PI X tg iter wi) (h:Cu scope X.env.scope X.N N' ρ=true)
  (inner:∀(cl:List (Str×Addr)) (C:Addr) (s:Shared) (H:Hp) (fp:List Addr) (pins:List (Addr×Obj)),PG (CG X scope N' cl C s H fp pins) tg g/\FU (CG X scope N' cl C s H fp pins) ifs tt/\PE (CG X scope N' cl C s H fp pins) elt te)
  (hsw:swapsWith (.ListComp elt [⟨tg,iter,ifs,0⟩] scope pos) (some (.Name x pos')) spos.line X.env=pure true:=by rfl)
  (hs:∀x,foldedSetIterable iter X.env x=pure x:=by intro _;rfl) (hf:X.fn x=true\/X.env.scope.names.lookup x=some .local:=by first|exact .inl rfl|exact .inr rfl|assumption) :
  PS X (.Assign [.Name x pos'] (.ListComp elt [⟨tg,iter,ifs,0⟩] scope pos) spos) (FP (Gg ρ wi g tt te) (Ar i)):=
 have F:=Ol h
 TN N' ρ hN hix hx hc hi F.S F.sl F.hl inner hsw hs hf
def Lz (K:Xa):Sp:=fun vs H Q _=>∃(a:Addr) (ns:List Int),vs=[.ref a]/\A3 K H a (ns.map V.int)/\ns.length<=63/\Jc H/\∀H',Q (.bl true) H'
theorem law_walk {l:PySem.W.OpenLaw}{q:Program}{loose:List Str}{XP:(Str->Option Value)->Heap->Prop}{YP:World->Heap->Prop}{d:DefRec}{K:Params->Xa}{x:Str}(k:Nat)(hk:k<=200)(hn:l.most=some 63)(hdf:d.params.defaults=[])
  (hY:∀(w:World) (h:Heap),YP w h->(K w.params).In h)
  (F:∀(w:World) (mg:Str->Option Value) (fa:Addr) (h:Heap),(K w.params).In h->h.Ns mainGlobals mg->mg d.name=some (.ref fa)->
   ∃fd:FuncData,(∀(s:Shared) (u:Value),BindsTo s fd ⟨[u],[]⟩ [(x,u)])/\∀base:Heap,(K w.params).In base->base.Ns mainGlobals mg->AK l.prog w (K w.params) mg base AS k fa fd [x] (Lz (K w.params))) :
  PySem.W.WalkO q loose XP YP l.row.toRowW d [] (fun f vs=>PySem.call f vs):=
 L2.walk_of (n:=63) (k:=k) (x:=x) (CX:=fun _=>AS) (sp:=fun w=>Lz (K w.params)) hn (by decide) hdf
  ⟨rfl,by
    have:callerA.depth+605<recursionLimit:=by decide
    omega,by
     have:callerA.units+3400<cLine:=by decide
     omega,rfl⟩ hY F (fun _ H a ns hl hO hS=>⟨a,ns,rfl,hS,hl,hO,fun _=>rfl⟩) fun _ _ _ _ _ z=>z
def CV (l:List (Str×NameKind)):Scope:={kind:=.function,names:=l,isGenerator:=false,isCoroutine:=false,more:=[]}
theorem Bo:bootBuiltins "len"=some (.builtin "len"):=by decide +kernel
theorem KY:bootBuiltins "all"=some (.builtin "all"):=by decide +kernel
theorem D6:bootBuiltins "isinstance"=some (.builtin "isinstance"):=by decide +kernel
theorem NZ:bootBuiltins "abs"=some (.builtin "abs"):=by decide +kernel
theorem J7:bootBuiltins "int"=some (.type "int"):=by decide +kernel
theorem GX:bootBuiltins "str"=some (.type "str"):=by decide +kernel
theorem SZ:bootBuiltins "bool"=some (.type "bool"):=by decide +kernel
theorem O7:bootBuiltins "list"=some (.type "list"):=by decide +kernel
theorem DF:bootBuiltins "tuple"=some (.type "tuple"):=by decide +kernel
theorem Ax {n:Nat}(h:n<=1000000):n<=sizeLine:=by rw[Ic];omega
theorem AG {n:Nat}(h:Nat.ble n 1000000=true):n<=sizeLine:=Ax (Nat.le_of_ble_eq_true h)
theorem Ce {n:Nat}(h:n<1000000):n<sizeLine:=by rw[Ic];omega
theorem Ac {H:Hp}{p:Addr}(h:H p=none)(o:HO):A7 H (upd H p o):=fun b u q=>by rw[A8 (AI q h)];exact q
theorem A7.seqT {K:Xa}{H H':Hp}{a:Addr}{xs:List V}(e:A7 H H')(h:Ah K H a xs):Ah K H' a xs:=by
 rcases h with h|h
 .rcases h with h|⟨o,h⟩
  .exact .inl (.inl (e _ _ h))
  .exact .inl (.inr ⟨o,e _ _ h⟩)
 .exact .inr h
theorem dT {p:Prop}[Decidable p](h:decide p=true):p:=Kd h
theorem dF {p:Prop}[Decidable p](h:¬decide p=true):¬p:=fun z=>h (B5 z)
def V5 (K:Xa):Sp:=fun vs H Q _=>∃(a:Addr) (ns:List Int) (k:Int),vs=[.ref a,.int k]/\A3 K H a (ns.map V.int)/\0<=k/\Q (.int (ns.getD k.toNat 0)) H
theorem Fs {ns:List Int}{k:Int}(h0:0<=k)(h:k<(ns.length:Int)):Bz (ns.map V.int) k=some (.int (ns.getD k.toNat 0)):=by
 have hk:k.toNat<ns.length:=by omega
 have ek:k=((k.toNat:Nat):Int):=by omega
 have q:Bz (ns.map V.int) ((k.toNat:Nat):Int)=some (.int (ns.getD k.toNat 0)):=EG (by rw[D8,Bg hk];simp[G7,hk])
 rw[←ek]at q
 exact q
theorem PR {ns:List Int}{k:Int}(h:¬k<(ns.length:Int)):ns.getD k.toNat 0=0:=by rw[G7,List.getElem?_eq_none (by omega)];rfl
def isInt:V->Bool
 |.int _=>true
 |_=>false
def P0:V->Bool
 |.int _=>true
 |.bl _=>true
 |.non=>true
 |.str _=>true
 |_=>false
def P2:Sp:=fun vs H Q _=>∃x,vs=[x]/\P0 x=true/\Q (.bl (isInt x)) H
def QV:Sp:=fun vs H Q _=>∃z y:Str,vs=[.str z,.str y]/\z.length<=1000/\∀H',A7 H H'->Q (.bl (decide (∀c∈cds z,c∈cds y))) H'
def Ci (l:List Nat):Prop:=1<=l.length/\l.length<=18/\¬(l.head?=some 48/\1<l.length)/\∀c∈l,48<=c/\c<=57
noncomputable instance (l:List Nat):Decidable (Ci l):=by unfold Ci;infer_instance
def EZ (l:List Nat):V:=if Ci l then .int ((NumText.digitsVal l:Nat):Int) else .non
def R3:Sp:=fun vs H Q _=>∃z:Str,vs=[.str z]/\z.length<=1000/\∀H',A7 H H'->Q (EZ (cds z)) H'
theorem RL:cds "0123456789"=[48,49,50,51,52,53,54,55,56,57]:=by decide +kernel
theorem OA (c:Nat):c∈cds "0123456789"↔48<=c/\c<=57:=by
 rw[RL]
 simp
 omega
theorem Di {α:Type}{l:List α}{i:Nat}{c:α}(h:l[i]?=some c):l.take (i+1)=l.take i++[c]:=by
 rw[List.take_succ,h];rfl
theorem Lj {z:Str}:z="0"↔cds z=[48]:=⟨fun h=>by rw[h];decide +kernel,fun h=>DK (by rw[h];decide +kernel)⟩
theorem GH {z:Str}:z=""↔cds z=[]:=⟨fun h=>by rw[h];decide +kernel,fun h=>DK (by rw[h];decide +kernel)⟩
theorem DJ {t u:TS}{D:D9}{σ:St}{H:Hp}(M:St->Hp->Prop)(hu:∀σ' H',M σ' H'->u D σ' H')(ht:(∀σ' H',M σ' H'->u D σ' H')->t {D with nx:=u D} σ H):DH t u D σ H:=ht hu
theorem Hq {p:Prop}[Decidable p](h:p):(!decide p)=false:=by rw[B5 h];rfl
theorem CI {b:Bool}{A B:Prop}{v:Bool}(e:b=v)(h:if v=true then A else B):if b=true then A else B:=by rw[e];exact h
theorem CN (l:List Nat):(Az l).length=l.length:=by rw[←cds_len,B7]
theorem Ou (x y:Str):(x++y).length=x.length+y.length:=Str.length_append x y
set_option genInjectivity true in
inductive Tr where
 |v (x:V)
 |lst (l:List Tr)
 |tup (l:List Tr)
mutual
inductive BE (K:Xa)(H:Hp):V->Tr->Prop
 |flat {x:V}:CM x=true->BE K H x (.v x)
 |lst {p:Addr} {xs:List V} {l:List Tr}:A3 K H p xs->C4 K H xs l->BE K H (.ref p) (.lst l)
 |tup {p:Addr} {xs:List V} {l:List Tr}:Ah K H p xs->C4 K H xs l->BE K H (.ref p) (.tup l)
inductive C4 (K:Xa)(H:Hp):List V->List Tr->Prop
 |nil:C4 K H [] []
 |cons {x:V} {t:Tr} {xs:List V} {l:List Tr}:BE K H x t->C4 K H xs l->C4 K H (x::xs) (t::l)
end
mutual
def Cr:Tr->Tr->Bool
 |.v x,.v y=>E1 x y
 |.lst l,.lst m=>Cd l m
 |.tup l,.tup m=>Cd l m
 |_,_=>false
def Cd:List Tr->List Tr->Bool
 |[],[]=>true
 |x::l,y::m=>Cr x y&&Cd l m
 |_,_=>false
end
mutual
def Cm:Tr->Tr->Bool
 |.v _,.v _=>true
 |.lst l,.lst m=>Fh l m
 |.tup l,.tup m=>Fh l m
 |_,_=>false
def Fh:List Tr->List Tr->Bool
 |x::l,y::m=>Cm x y&&Fh l m
 |_,_=>true
end
mutual
def CH:Tr->Nat
 |.v _=>0
 |.lst l=>Du l+1
 |.tup l=>Du l+1
def Du:List Tr->Nat
 |[]=>0
 |x::l=>max (CH x) (Du l)
end
theorem VT {x:V}(h:CM x=true):E1 x x=true:=by
 cases x<;>first|rfl|(simp[E1];done)|(simp[CM]at h)
mutual
def Ff:Tr->Bool
 |.v x=>CM x
 |.lst l=>Fv l
 |.tup l=>Fv l
def Fv:List Tr->Bool
 |[]=>true
 |x::l=>Ff x&&Fv l
end
mutual
theorem IZ:∀t:Tr,Ff t=true->Cr t t=true
 |.v x,h=>by rw[Cr];exact VT (by simpa[Ff] using h)
 |.lst l,h=>by rw[Cr];exact Lu l (by simpa[Ff] using h)
 |.tup l,h=>by rw[Cr];exact Lu l (by simpa[Ff] using h)
theorem Lu:∀l:List Tr,Fv l=true->Cd l l=true
 |[],_=>by rw[Cd]
 |
  x::l,h=>by
  rw[Fv,EB]at h
  rw[Cd,IZ x h.1,Lu l h.2];rfl
end
mutual
theorem N8:∀t:Tr,Cm t t=true
 |.v x=>by rw[Cm]
 |.lst l=>by rw[Cm];exact KM l
 |.tup l=>by rw[Cm];exact KM l
theorem KM:∀l:List Tr,Fh l l=true
 |[]=>by simp[Fh]
 |x::l=>by rw[Fh,N8 x,KM l];rfl
end
mutual
theorem BE.ok {K:Xa}{H:Hp}:∀{x:V} {t:Tr},BE K H x t->Ff t=true
 |
  _,_,h=>by
  cases h with
  |flat h=>rw[Ff];exact h
  |lst _ h=>rw[Ff];exact h.ok
  |tup _ h=>rw[Ff];exact h.ok
theorem C4.ok {K:Xa}{H:Hp}:∀{xs:List V} {l:List Tr},C4 K H xs l->Fv l=true
 |
  _,_,h=>by
  cases h with
  |nil=>rw[Fv]
  |cons h r=>rw[Fv,h.ok,r.ok];rfl
end
theorem C4.length {K:Xa}{H:Hp}:∀{xs:List V} {l:List Tr},C4 K H xs l->xs.length=l.length
 |
  _,_,h=>by
  cases h with
  |nil=>rfl
  |cons _ r=>simp[r.length]
theorem Lg:∀{l m:List Tr},l.length≠m.length->Cd l m=false
 |[],[],h=>absurd rfl h
 |[],_::_,_=>by rw[Cd]<;>simp
 |_::_,[],_=>by rw[Cd]<;>simp
 |
  x::l,y::m,h=>by
  rw[Cd,Lg (l:=l) (m:=m) (fun e=>h (by simp[e])),Bool.and_false]
section
variable {X:Cx}{pins:List (Addr×Obj)}{σ:St}{H:Hp}{s:Shared}
mutual
theorem BE.inj (I:A4 X pins σ H s):∀{t t':Tr} {x:V},BE X.K H x t->BE X.K H x t'->t=t'
 |
  _,_,_,h,h'=>by
  cases h with
  |
   flat h=>
   cases h' with
   |flat _=>rfl
   |lst _ _=>cases h
   |tup _ _=>cases h
  |
   lst hq hr=>
   cases h' with
   |flat h=>cases h
   |
    lst hq' hr'=>
    have e:=I.list_inj hq hq'
    subst e
    rw[C4.inj I hr hr']
   |
    tup hq' hr'=>
    obtain⟨_,_,⟨o,n,e1,c1,_⟩,_⟩:=I.list hq
    obtain⟨_,_,⟨o',e2,c2,_⟩,_⟩:=I.tuple hq'
    rw[e1]at e2;cases e2
    rw[c1]at c2;simp at c2
  |
   tup hq hr=>
   cases h' with
   |flat h=>cases h
   |
    tup hq' hr'=>
    have e:=I.tuple_inj hq hq'
    subst e
    rw[C4.inj I hr hr']
   |
    lst hq' hr'=>
    obtain⟨_,_,⟨o,n,e1,c1,_⟩,_⟩:=I.list hq'
    obtain⟨_,_,⟨o',e2,c2,_⟩,_⟩:=I.tuple hq
    rw[e1]at e2;cases e2
    rw[c1]at c2;simp at c2
theorem C4.inj (I:A4 X pins σ H s):∀{l l':List Tr} {xs:List V},C4 X.K H xs l->C4 X.K H xs l'->l=l'
 |
  _,_,_,h,h'=>by
  cases h with
  |
   nil=>
   cases h'
   rfl
  |
   cons h r=>
   cases h' with
   |cons h2 r2=>rw[BE.inj I h h2,C4.inj I r r2]
end
theorem Uk {α:Type}{e:Nat->Bool}{f:α->Bool}:∀{l:List α},(∀j x,l[j]?=some x->e j=f x)->(List.range l.length).all e=l.all f:=by
 intro l h
 rw[E4]
 simp only[EU,HW]
 constructor
 .intro q x hx
  obtain⟨i,hi,hx⟩:=LH.mp hx
  rw[←h i x (by rw[Bg hi,hx])]
  exact q i hi
 .intro q i hi
  rw[h i l[i] (Bg hi)]
  exact q _ (EV hi)
theorem MD:∀{l m:List Tr},l.length=m.length->Cd l m=(l.zip m).all fun p=>Cr p.1 p.2
 |[],[],_=>by rw[Cd];rfl
 |[],_::_,h=>by simp at h
 |_::_,[],h=>by simp at h
 |
  x::l,y::m,h=>by
  rw[Cd,MD (l:=l) (m:=m) (by simpa using h)]
  rfl
theorem C4.at {K:Xa}{H:Hp}:∀{xs:List V} {l:List Tr} {j:Nat} {t:Tr},C4 K H xs l->l[j]?=some t->∃x,xs[j]?=some x/\BE K H x t
 |_,_,_,_,.nil,h=>by simp at h
 |_,_,0,_,.cons h _,e=>by simp at e;subst e;exact⟨_,rfl,h⟩
 |
  _,_,j+1,_,.cons _ r,e=>by
  obtain⟨x,h1,h2⟩:=r.at (j:=j) (by simpa using e)
  exact⟨x,by simpa using h1,h2⟩
theorem GW:∀{l m:List Tr} {j:Nat} {t t':Tr},Fh l m=true->l[j]?=some t->m[j]?=some t'->Cm t t'=true
 |[],_,_,_,_,_,h,_=>by simp at h
 |_::_,[],_,_,_,_,_,h=>by simp at h
 |
  x::l,y::m,0,t,t',h,e1,e2=>by
  simp at e1 e2;subst e1 e2
  rw[Fh,EB]at h;exact h.1
 |
  x::l,y::m,j+1,t,t',h,e1,e2=>by
  rw[Fh,EB]at h
  exact GW (j:=j) h.2 (by simpa using e1) (by simpa using e2)
theorem HP:∀{l:List Tr} {j:Nat} {t:Tr},l[j]?=some t->CH t<=Du l
 |[],_,_,h=>by simp at h
 |x::l,0,t,h=>by simp at h;subst h;rw[Du];omega
 |
  x::l,j+1,t,h=>by
  have:=HP (l:=l) (j:=j) (t:=t) (by simpa using h)
  rw[Du];omega
theorem JW {A:Around}{l m:List Tr}{xs ys:List V}{its jts:List Value}(hr:C4 X.K H xs l)(hr':C4 X.K H ys m)(rv:AA xs its)(rv':AA ys jts)
  (ih:∀(j:Nat) (t t':Tr) (x y:V) (u v:Value),l[j]?=some t->m[j]?=some t'->BE X.K H x t->Ay x u->BE X.K H y t'->Ay y v->SeqAt.EqAt A.in1 s u v (Cr t t')) :
  ∀j (h1:j<its.toArray.size) (h2:j<jts.toArray.size),SeqAt.EqAt A.in1 s its.toArray[j] jts.toArray[j] (match l[j]?,m[j]? with|some t,some t'=>Cr t t'|_,_=>true):=by
 intro j h1 h2
 have l1:=hr.length;have l2:=hr'.length;have l3:=rv.length;have l4:=rv'.length
 rw[B8]at h1 h2
 obtain⟨t,ht⟩:∃t,l[j]?=some t:=⟨l[j]'(by omega),Bg (by omega)⟩
 obtain⟨t',ht'⟩:∃t',m[j]?=some t':=⟨m[j]'(by omega),Bg (by omega)⟩
 obtain⟨x,hx,hxt⟩:=hr.at ht
 obtain⟨y,hy,hyt⟩:=hr'.at ht'
 obtain⟨u,hu,ru⟩:=rv.get hx
 obtain⟨v,hv,rw'⟩:=rv'.get hy
 rw[ht,ht']
 have e1:its.toArray[j]=u:=by
  have:=Bg (l:=its) (i:=j) h1
  rw[hu]at this
  simpa using(BP this).symm
 have e2:jts.toArray[j]=v:=by
  have:=Bg (l:=jts) (i:=j) h2
  rw[hv]at this
  simpa using(BP this).symm
 rw[e1,e2]
 exact ih j t t' x y u v ht ht' hxt ru hyt rw'
theorem Of {l m:List Tr}(h:l.length=m.length):(List.range l.length).all (fun j=>match l[j]?,m[j]? with|some t,some t'=>Cr t t'|_,_=>true)=Cd l m:=by
 rw[MD h]
 have e:l.length=(l.zip m).length:=by rw[List.length_zip];omega
 rw[e]
 refine Uk fun j p hp=>?_
 obtain⟨h1,h2⟩:=List.getElem?_zip_eq_some.mp hp
 rw[h1,h2]
theorem MX {A:Around}{p q:Addr}{xs ys:List V}{l m:List Tr}(I:A4 X pins σ H s)(hu:A.units<cLine)(hq:A3 X.K H p xs)(hr:C4 X.K H xs l)(hq':A3 X.K H q ys)(hr':C4 X.K H ys m)
  (ih:∀(j:Nat) (t t':Tr) (x y:V) (u v:Value),l[j]?=some t->m[j]?=some t'->BE X.K H x t->Ay x u->BE X.K H y t'->Ay y v->SeqAt.EqAt A.in1 s u v (Cr t t')) :
  SeqAt.RcAt A s (.ref p) (.ref q) (Cd l m)/\SeqAt.RcNeAt A s (.ref p) (.ref q) (!Cd l m):=by
 obtain⟨its,rv,pl,_⟩:=I.list hq
 obtain⟨jts,rv',pl',_⟩:=I.list hq'
 have l1:=hr.length;have l2:=hr'.length;have l3:=rv.length;have l4:=rv'.length
 by_cases hl:l.length=m.length
 .have e:its.toArray.size=l.length:=by rw[B8];omega
  have a:=SeqAt.RcAt.lists (A:=A) pl.isList pl'.isList (by rw[B8,B8];omega) hu (JW hr hr' rv rv' ih)
  have b:=SeqAt.RcNeAt.lists (A:=A) pl.isList pl'.isList (by rw[B8,B8];omega) hu (JW hr hr' rv rv' ih)
  rw[e,Of hl]at a b
  exact⟨a,b⟩
 .rw[Lg hl]
  have hne:(its.toArray.size != jts.toArray.size)=true:=by
   rw[B8,B8]
   simp only[Eh,ne_eq];omega
  exact⟨SeqAt.RcAt.lists_lengths pl.isList pl'.isList hne hu,SeqAt.RcNeAt.lists_lengths pl.isList pl'.isList hne hu⟩
theorem MN {A:Around}{p q:Addr}{xs ys:List V}{l m:List Tr}(I:A4 X pins σ H s)(hu:A.units<cLine)(hq:Ah X.K H p xs)(hr:C4 X.K H xs l)(hq':Ah X.K H q ys)(hr':C4 X.K H ys m)
  (ih:∀(j:Nat) (t t':Tr) (x y:V) (u v:Value),l[j]?=some t->m[j]?=some t'->BE X.K H x t->Ay x u->BE X.K H y t'->Ay y v->SeqAt.EqAt A.in1 s u v (Cr t t')) :
  SeqAt.RcAt A s (.ref p) (.ref q) (Cd l m)/\SeqAt.RcNeAt A s (.ref p) (.ref q) (!Cd l m):=by
 obtain⟨its,rv,pl,_⟩:=I.tuple hq
 obtain⟨jts,rv',pl',_⟩:=I.tuple hq'
 have l1:=hr.length;have l2:=hr'.length;have l3:=rv.length;have l4:=rv'.length
 have a:=SeqAt.RcAt.tuples (A:=A) (show s.heap.IsTuple p its.toArray from pl) (show s.heap.IsTuple q jts.toArray from pl') hu (JW hr hr' rv rv' ih)
 have b:=SeqAt.RcNeAt.tuples (A:=A) (show s.heap.IsTuple p its.toArray from pl) (show s.heap.IsTuple q jts.toArray from pl') hu (JW hr hr' rv rv' ih)
 have e:((List.range (min its.toArray.size jts.toArray.size)).all (fun j=>match l[j]?,m[j]? with|some t,some t'=>Cr t t'|_,_=>true)&&its.toArray.size==jts.toArray.size)=Cd l m:=by
  by_cases hl:l.length=m.length
  .have e1:min its.toArray.size jts.toArray.size=l.length:=by rw[B8,B8];omega
   have e2:(its.toArray.size==jts.toArray.size)=true:=by rw[B8,B8];simp;omega
   rw[e1,e2,Of hl,Bool.and_true]
  .have e2:(its.toArray.size==jts.toArray.size)=false:=by rw[B8,B8];simp;omega
   rw[e2,Lg hl,Bool.and_false]
 rw[e]at a b
 exact⟨a,b⟩
theorem Ov (I:A4 X pins σ H s)(n:Nat):∀(A:Around) (t t':Tr) (x y:V) (u v:Value),CH t<=n->A.units+n<cLine->Cm t t'=true->BE X.K H x t->Ay x u->BE X.K H y t'->Ay y v->SeqAt.EqAt A s u v (Cr t t'):=by
 induction n with
 |
  zero=>
  intro A t t' x y u v hd hu hs hx rx hy ry
  cases hx with
  |
   flat fx=>
   cases hy with
   |flat fy=>rw[Cr];exact KJ rx ry fx fy
   |lst _ _=>simp[Cm]at hs
   |tup _ _=>simp[Cm]at hs
  |lst _ _=>simp[CH]at hd
  |tup _ _=>simp[CH]at hd
 |
  succ n ih=>
  intro A t t' x y u v hd hu hs hx rx hy ry
  cases hx with
  |
   flat fx=>
   cases hy with
   |flat fy=>rw[Cr];exact KJ rx ry fx fy
   |lst _ _=>simp[Cm]at hs
   |tup _ _=>simp[Cm]at hs
  |
   @lst p xs l hq hr=>
   cases hy with
   |flat fy=>simp[Cm]at hs
   |tup _ _=>simp[Cm]at hs
   |
    @lst q ys m hq' hr'=>
    cases rx;cases ry
    rw[CH]at hd
    rw[Cm]at hs
    by_cases e:p=q
    .subst e
     have e1:=BE.inj I (BE.lst hq hr) (BE.lst hq' hr')
     rw[←e1,IZ _ (BE.lst hq hr).ok]
     exact SeqAt.EqAt.same _
    .rw[Cr]
     refine SeqAt.EqAt.of_refs e (MX I (by omega) hq hr hq' hr' fun j t t' x y u v h1 h2 h3 h4 h5 h6=>?_).1
     exact ih A.in1 t t' x y u v (by have:=HP h1;omega) (by show A.units+1+n<cLine;omega) (GW hs h1 h2) h3 h4 h5 h6
  |
   @tup p xs l hq hr=>
   cases hy with
   |flat fy=>simp[Cm]at hs
   |lst _ _=>simp[Cm]at hs
   |
    @tup q ys m hq' hr'=>
    cases rx;cases ry
    rw[CH]at hd
    rw[Cm]at hs
    by_cases e:p=q
    .subst e
     have e1:=BE.inj I (BE.tup hq hr) (BE.tup hq' hr')
     rw[←e1,IZ _ (BE.tup hq hr).ok]
     exact SeqAt.EqAt.same _
    .rw[Cr]
     refine SeqAt.EqAt.of_refs e (MN I (by omega) hq hr hq' hr' fun j t t' x y u v h1 h2 h3 h4 h5 h6=>?_).1
     exact ih A.in1 t t' x y u v (by have:=HP h1;omega) (by show A.units+1+n<cLine;omega) (GW hs h1 h2) h3 h4 h5 h6
end
section
variable {X:Cx}
def IW (K:Xa)(neg:Bool):R2:=fun x y H Q=>∃t t',BE K H x t/\BE K H y t'/\(∃p,x = .ref p)/\(∃p,y = .ref p)/\Cm t t'=true/\CH t<=60/\Q (.bl (if neg then !Cr t t' else Cr t t')) H
theorem T6 {neg:Bool}(hu:X.A.units+64<cLine):Bq X (compareOp (if neg then .NotEq else .Eq)) (IW X.K neg):=by
 intro pins s σ H x y v u Q I rx ry h
 obtain⟨t,t',hx,hy,⟨p,rfl⟩,⟨q,rfl⟩,hs,hd,q'⟩:=h
 cases rx;cases ry
 have done:∀l m,SeqAt.RcAt X.A s (.ref p) (.ref q) (Cd l m)/\SeqAt.RcNeAt X.A s (.ref p) (.ref q) (!Cd l m)->Q (.bl (if neg then !Cd l m else Cd l m)) H->
   wpAny (model X.prog X.w) X.A (compareOp (if neg then .NotEq else .Eq) (.ref p) (.ref q)) (EP X pins σ Q) X.xe s:=fun l m hb hq=>by
  cases neg with
  |false=>exact hb.1 X.prog X.w X.xe _ ⟨.bl _,H,I,rfl,hq⟩
  |true=>exact hb.2 X.prog X.w X.xe _ ⟨.bl _,H,I,rfl,hq⟩
 cases hx with
 |flat fx=>cases fx
 |
  @lst _ xs l hq hr=>
  cases hy with
  |flat fy=>cases fy
  |tup _ _=>simp[Cm]at hs
  |
   @lst _ ys m hq' hr'=>
   rw[CH]at hd
   rw[Cm]at hs
   rw[Cr]at q'
   refine done l m (MX I (by omega) hq hr hq' hr' fun j t t' x y u v h1 h2 h3 h4 h5 h6=>?_) q'
   exact Ov I 60 X.A.in1 t t' x y u v (by have:=HP h1;omega) (by show X.A.units+1+60<cLine;omega) (GW hs h1 h2) h3 h4 h5 h6
 |
  @tup _ xs l hq hr=>
  cases hy with
  |flat fy=>cases fy
  |lst _ _=>simp[Cm]at hs
  |
   @tup _ ys m hq' hr'=>
   rw[CH]at hd
   rw[Cm]at hs
   rw[Cr]at q'
   refine done l m (MN I (by omega) hq hr hq' hr' fun j t t' x y u v h1 h2 h3 h4 h5 h6=>?_) q'
   exact Ov I 60 X.A.in1 t t' x y u v (by have:=HP h1;omega) (by show X.A.units+1+60<cLine;omega) (GW hs h1 h2) h3 h4 h5 h6
theorem Ks (hu:X.A.units+64<cLine):Bq X (compareOp .NotEq) (IW X.K true):=T6 (neg:=true) hu
theorem Ez {A:Around}{k:Nat}(hr:Cb k A):A.units+64<cLine:=by have:=hr.un;omega
end
section
variable {X:Cx}
end
def Hy (x:Int)(k:Int):Int:=(x*x+48271*x+k)%2147483647
def Ea (x k:Int):Nat->List Int
 |0=>[]
 |n+1=>Hy x k::Ea (Hy x k) (k+1) n
theorem Nv (x k:Int)(n:Nat):(Ea x k n).length=n:=by
 induction n generalizing x k with
 |zero=>rfl
 |succ n ih=>simp[Ea,ih]
theorem S3 {x k y:Int}{n:Nat}(h:y∈Ea x k n):0<=y/\y<2147483647:=by
 induction n generalizing x k with
 |zero=>cases h
 |
  succ n ih=>
  rcases AQ.mp h with rfl|h
  .exact⟨BU _ (by decide),C0 _ (by decide)⟩
  .exact ih h
def Ct (x k:Int):Nat->Int
 |0=>x
 |n+1=>Ct (Hy x k) (k+1) n
theorem MY (x k:Int)(n:Nat):Ct x k (n+1)=Hy (Ct x k n) (k+n):=by
 induction n generalizing x k with
 |zero=>simp[Ct]
 |
  succ n ih=>
  rw[Ct,ih,Ct]
  congr 1
  omega
theorem Qv (x k:Int)(n:Nat):Ea x k (n+1)=Ea x k n++[Ct x k (n+1)]:=by
 induction n generalizing x k with
 |zero=>simp[Ea,Ct]
 |
  succ n ih=>
  rw[Ea,ih,Ea,Dl]
  rfl
def CF (c:Int):Int:=c%2147483647+48271
def Eo (c:Int)(n:Nat):List Int:=(Ea (CF c) 0 (n+1)).drop 1
theorem Gh (c:Int)(n:Nat):(Eo c n).length=n:=by unfold Eo;rw[Cn,Nv];omega
theorem HA {c y:Int}{n:Nat}(h:y∈Eo c n):0<=y/\y<2147483647:=S3 (GM h)
def Qx:Sp:=fun vs H Q _=>∃(c n:Int),vs=[.int c,.int n]/\0<=n/\n<=1000/\∀(r:Addr) (H':Hp),A7 H H'->H' r=some (.lst ((Eo c n.toNat).map V.int))->Q (.ref r) H'
theorem PZ {x:Int}(h0:0<=x)(h1:x<2147531918) : -(2 ^ 64:Int)<x/\x<2 ^ 64:=by
 have:(2:Int) ^ 64=18446744073709551616:=by decide
 omega
theorem Sy (c:Int):0<=CF c/\CF c<2147531918:=by
 have h0:=BU c (show(2147483647:Int)≠0 by decide)
 have h1:=C0 c (show(0:Int)<2147483647 by decide)
 unfold CF;omega
theorem Vn (c:Int)(n:Nat):0<=Ct (CF c) 0 n/\Ct (CF c) 0 n<2147531918:=by
 cases n with
 |zero=>exact Sy c
 |
  succ n=>
  rw[MY]
  unfold Hy
  have h0:=BU (Ct (CF c) 0 n*Ct (CF c) 0 n+48271*Ct (CF c) 0 n+(0+(n:Int))) (show(2147483647:Int)≠0 by decide)
  have h1:=C0 (Ct (CF c) 0 n*Ct (CF c) 0 n+48271*Ct (CF c) 0 n+(0+(n:Int))) (show(0:Int)<2147483647 by decide)
  omega
theorem SO {α:Type}(l:List α):(l.drop (HT.sIx l.length 0 (some 1))).take (HT.sIx l.length l.length none-HT.sIx l.length 0 (some 1))=l.drop 1:=by
 rw[show HT.sIx l.length 0 (some (1:Int))=min 1 l.length from HT.sIx_nat _ _ 1,HT.sIx_none]
 cases l with
 |nil=>rfl
 |
  cons a r=>
  have e:min 1 (a::r).length=1:=by simp
  rw[e]
  simp
theorem Pl (xs:List Int):CZ (xs.map V.int) (some 1) none=(xs.drop 1).map V.int:=by
 unfold CZ
 rw[SO,List.map_drop]
theorem Li:∀ys:List Str,cds (Txt.join "" ys)=(ys.map cds).flatten:=by
 intro ys
 show cds (Builtin.Str.glued "" ys)=_
 rw[StrLaws.glued_eq_join]
 induction ys with
 |nil=>rfl
 |
  cons y r ih=>
  cases r with
  |nil=>simp[Str.join]
  |
   cons z r=>
   show cds (y++""++Str.join "" (z::r))=_
   rw[AN,AN,ih]
   have:cds ("":Str)=[]:=by decide +kernel
   rw[this,DL]
   rfl
abbrev En:Str:="abcdefghijklmnopqrstuvwxyz"
theorem NK:cds En=(List.range 26).map (97 + ·):=by decide +kernel
def Do (x:Int):Nat:=97+(x%26).toNat
theorem Ml (x:Int):Bz (cds En) (x%26)=some (Do x):=by
 have h0:=BU x (show(26:Int)≠0 by decide)
 have h1:=C0 x (show(0:Int)<26 by decide)
 have e:x%26=(((x%26).toNat:Nat):Int):=by omega
 rw[e]
 refine EG ?_
 rw[NK,D8,List.getElem?_range (by omega)]
 rfl
theorem Nd:En.length<=sizeLine:=Ax (by decide +kernel)
def F3 (xs:List Int):List Nat:=(xs.drop 2).map Do
def Cf (xs:List Int):Int:=1+xs.getD 1 0%8
def CA (xs:List Int):Int:=xs.getD 1 0/8%Cf xs
def FY (xs:List Int)(w:List Nat)(k:Int):List Nat:=w.take (CA xs).toNat++[Do (xs.getD (2+CA xs).toNat 0+k)]++(w.drop (CA xs+1).toNat).take ((Cf xs).toNat-(CA xs+1).toNat)
def Gs (xs:List Int)(w:List Nat)(k:Int):List Nat:=w.take (1+(Cf xs+3*k)%8).toNat
def Bw (xs:List Int)(w:List Nat)(k:Int):List Nat:=if xs.getD 0 0%2=0 then Gs xs w k else FY xs w k
def Dm:List (List Nat):=[cds "for",cds "end",cds "size"]
def Dz (xs:List Int)(w:List Nat)(k:Int):List Nat:=if Bw xs w k∈Dm then[122,122]++Bw xs w k else Bw xs w k
theorem HG (xs:List Int):1<=Cf xs/\Cf xs<=8:=by
 have h0:=BU (xs.getD 1 0) (show(8:Int)≠0 by decide)
 have h1:=C0 (xs.getD 1 0) (show(0:Int)<8 by decide)
 unfold Cf;omega
theorem JB (xs:List Int):0<=CA xs/\CA xs<Cf xs:=by
 have:=HG xs
 exact⟨BU _ (by omega),C0 _ (by omega)⟩
theorem Po {xs:List Int}(h:xs.length=10):(F3 xs).length=8:=by unfold F3;rw[Ap,Cn,h]
theorem Og (z:List Nat):Dj (.str (Az z)) [.str "for",.str "end",.str "size"]=decide (z∈Dm):=by
 have key:∀y:Str,E1 (.str y) (.str (Az z))=decide (z=cds y):=fun y=>by
  show(y==Az z)=_
  rw[E4]
  simp only[E8,DQ]
  exact⟨fun e=>by rw[e,B7],fun e=>by rw[e,Ep]⟩
 unfold Dj Dm
 simp only[HZ,List.any_nil,key,LC]
 rw[E4]
 simp
theorem FH {α:Type}(l:List α){k:Int}(h:0<=k):Ca l none (some k)=l.take k.toNat:=by
 unfold Ca
 have e:k=((k.toNat:Nat):Int):=by omega
 rw[HT.sIx_none,e,HT.sIx_nat,I0,Nat.sub_zero]
 rw[show(((k.toNat:Nat):Int)).toNat=k.toNat by omega]
 by_cases h:k.toNat<=l.length
 .rw[LI h]
 .rw[Nat.min_eq_right (by omega),G8 (by omega),G8 (by omega)]
theorem Kn {α:Type}(l:List α){i j:Int}(hi:0<=i)(hj:0<=j)(hl:j<=(l.length:Int))(hij:i<=j):Ca l (some i) (some j)=(l.drop i.toNat).take (j.toNat-i.toNat):=by
 unfold Ca
 have e1:i=((i.toNat:Nat):Int):=by omega
 have e2:j=((j.toNat:Nat):Int):=by omega
 rw[e1,e2,HT.sIx_nat,HT.sIx_nat]
 rw[show(((i.toNat:Nat):Int)).toNat=i.toNat by omega,show(((j.toNat:Nat):Int)).toNat=j.toNat by omega,LI (by omega),LI (by omega)]
theorem MQ {α:Type}(l:List α){i:Int}(hi:0<=i):Ca l (some i) none=l.drop i.toNat:=by
 unfold Ca
 have e1:i=((i.toNat:Nat):Int):=by omega
 rw[e1,HT.sIx_nat,HT.sIx_none,show(((i.toNat:Nat):Int)).toNat=i.toNat by omega]
 by_cases h:i.toNat<=l.length
 .rw[LI h,G8 (by rw[Cn];omega)]
 .rw[Nat.min_eq_right (by omega),EC,List.take_zero,LJ (by omega)]
theorem Pd {xs:List Int}{w:List Nat}(hw:w.length=8)(k:Int):(Dz xs w k).length<=10:=by
 have hr:(Bw xs w k).length<=8:=by
  unfold Bw
  split
  .unfold Gs;rw[Bh];omega
  .have:=HG xs;have:=JB xs
   unfold FY
   rw[Au,Au,Bh,Bh,Cn,BD]
   omega
 unfold Dz
 split
 .rw[Au];simp;omega
 .omega
def Fn (c far:Int):Int:=if c%3=0 then c/3%7-3 else c/3%(2*far+1)-far
def VV:Sp:=fun vs H Q _=>∃(c far:Int),vs=[.int c,.int far]/\0<=far/\far<2 ^ 63/\Q (.int (Fn c far)) H
def Ck (c:Nat)(l:List Nat):List Nat:=l.take (l.idxOf c)
def D4 (c:Nat)(l:List Nat):List Nat:=l.drop (l.idxOf c+1)
def De (c:Nat)(l:List Nat):List V:=if c∈l then[.str (Az (Ck c l)),.str ⟨#[c]⟩,.str (Az (D4 c l))] else[.str (Az l),.str "",.str ""]
theorem HR {X:Cx}:FT X "str.partition" (fun x xs H Q=>∃z c,x = .str z/\xs=[.str ⟨#[c]⟩]/\z.length<=sizeLine/\∀p,H p=none->Q (.ref p) (upd H p (.tup (De c (cds z))))):=by
 intro pins s σ H x xs v us Q I rx rv h
 obtain⟨z,c,rfl,rfl,hz,q⟩:=h
 obtain⟨t,rfl⟩:=rx
 obtain⟨u,rfl,t',rfl⟩:=rv.one
 have fin:∀(its:List Value) (tk:Nat),AA (De c (cds z)) its->EP X pins σ Q (.ref s.heap.objs.size) {s with toks:=tk,heap:=s.heap.push {cls:=.type "tuple",data:=.seq its.toArray}}:=fun its tk hv=>by
  refine⟨.ref s.heap.objs.size,_,I.laid (t':=tk) (o:=.tup (De c (cds z))) (fun b o e=>BR _ e) (Ai _) ?_,rfl,q _ (I.hok.fresh (Ai _))⟩
  refine⟨?_,its,hv,Fu.new _ _⟩
  unfold De
  split<;>exact AG rfl
 refine Gb F.slot_str_partition (GV _ _ _) F.entry_str_partition (F.args_str_partition_2 _ _) (meets_str_partition z ⟨#[c]⟩ t t' rfl hz) ?_
 rcases StrLaws.occ_head z ⟨#[c]⟩ 1 (Ai _) with⟨e,hn⟩|⟨i,r,e,ha,hn⟩
 .rw[e]
  have hc:¬c∈cds z:=fun hm=>by
   obtain⟨i,hi,hc⟩:=LH.mp hm
   exact hn i ((StrLaws.subAt_one z c i).mpr (by rw[Bg hi,hc]))
  refine fin _ _ ?_
  unfold De
  rw[Ae hc,Ep]
  exact .cons ⟨_,rfl⟩ (.cons ⟨_,rfl⟩ (.cons ⟨_,rfl⟩ .nil))
 .rw[e]
  have hi:=(StrLaws.subAt_one z c i).mp ha
  have ei:=HL hi fun k hk w=>hn k hk ((StrLaws.subAt_one z c k).mpr w)
  refine fin _ _ ?_
  unfold De Ck D4
  rw[Ag (CK hi),ei]
  have e1:Builtin.Str.strSub z 0 i=Az ((cds z).take i):=DK (by rw[B7];exact(StrLaws.strSub_toList z 0 i).trans (by simp))
  have e2:Builtin.Str.strSub z (i+(⟨#[c]⟩:Str).length) z.length=Az ((cds z).drop (i+1)):=DK (by
   rw[B7]
   refine(StrLaws.strSub_toList z _ _).trans ?_
   show((cds z).drop (i+1)).take (z.length-(i+1))=_
   rw[G8 (by rw[Cn,cds_len];exact Ai _)])
  rw[←e1,←e2]
  exact .cons ⟨_,rfl⟩ (.cons ⟨_,rfl⟩ (.cons ⟨_,rfl⟩ .nil))
def Bp (l:List Nat):Prop:=1<=l.length/\l.length<=8/\(∀c∈l,c∈cds En)/\l∉Dm
noncomputable instance (l:List Nat):Decidable (Bp l):=by unfold Bp;infer_instance
theorem HE (c:Nat):c∈cds En↔97<=c/\c<=122:=by
 rw[NK]
 simp only[DE,HW]
 constructor
 .rintro ⟨k,hk,rfl⟩;omega
 .intro h;exact⟨c-97,by omega,by omega⟩
def El (l:List Nat):Int:=((NumText.digitsVal l:Nat):Int)
def Ew (l:List Nat):Option (List Nat×Int):=
 if Bp l then some (l,0) else if Ci l then some ([],El l)
 else if 43∈l then(if Ci (D4 43 l)/\Bp (Ck 43 l) then some (Ck 43 l,El (D4 43 l)) else none)
 else if 45∈l then(if Ci (D4 45 l) then(if Bp (Ck 45 l)\/(Ck 45 l=[]/\0<El (D4 45 l)) then some (Ck 45 l,- El (D4 45 l)) else none) else none)
 else none
theorem JH {l:List Nat}{c:Nat}(h:c∈l)(hc:¬(97<=c/\c<=122)):¬Bp l:=fun z=>hc ((HE c).mp (z.2.2.1 c h))
theorem JV {l:List Nat}{c:Nat}(h:c∈l)(hc:¬(48<=c/\c<=57)):¬Ci l:=fun z=>hc (z.2.2.2 c h)
def Sx:Sp:=fun vs H Q _=>∃z:Str,vs=[.str z]/\z.length<=1000/\∀H',A7 H H'->Q (.bl (decide (Bp (cds z)))) H'
def Gn (o:Option (List Nat×Int))(H:Hp)(Q:VK):Prop:=match o with
 |none=>∀H',A7 H H'->Q .non H'
 |some s=>∀r H',A7 H H'->H' r=some (.tup [.str (Az s.1),.int s.2])->Q (.ref r) H'
def Qr (f:List Nat->Option (List Nat×Int)):Sp:=fun vs H Q _=>∃z:Str,vs=[.str z]/\z.length<=1000/\Gn (f (cds z)) H Q
def Nu (c:Nat)(f:List Nat->Option (List Nat×Int))(K:Xa):Sp:=fun vs H Q _=>∃(p:Addr) (l:List Nat),vs=[.ref p]/\Ah K H p (De c l)/\l.length<=1000/\Gn (f l) H Q
theorem M4 (c:Nat)(l:List Nat)(h:l.length<=1000):∃b m e,De c l=[.str (Az b),.str m,.str (Az e)]/\(c∈l->b=Ck c l/\e=D4 c l)/\(c∉l->b=l/\e=[])/\(m=""↔c∉l)/\(Az b).length<=1000/\(Az e).length<=1000:=by
 unfold De
 have k:∀y:List Nat,(Az y).length=y.length:=fun y=>by rw[←cds_len,B7]
 by_cases hc:c∈l
 .rw[Ag hc]
  refine⟨_,_,_,rfl,fun _=>⟨rfl,rfl⟩,fun z=>absurd hc z,⟨fun z=>by have:=GH.mp z;rw[MS]at this;exact absurd this (by simp),fun z=>absurd hc z⟩,?_,?_⟩
  .rw[k];unfold Ck;rw[Bh];omega
  .rw[k];unfold D4;rw[Cn];omega
 .rw[Ae hc]
  refine⟨l,"",[],rfl,fun z=>absurd z hc,fun _=>⟨rfl,rfl⟩,⟨fun _=>hc,fun _=>rfl⟩,?_,?_⟩
  .rw[k];exact h
  .rw[k];exact BC _
def Hk (l:List Nat):Option (List Nat×Int):=if 43∈l then(if Ci (D4 43 l)/\Bp (Ck 43 l) then some (Ck 43 l,El (D4 43 l)) else none) else none
def Jt (l:List Nat):Option (List Nat×Int):=if 45∈l then(if Ci (D4 45 l) then(if Bp (Ck 45 l)\/(Ck 45 l=[]/\0<El (D4 45 l)) then some (Ck 45 l,- El (D4 45 l)) else none) else none) else none
theorem O4:¬Ci []:=fun z=>by have:=z.1;simp at this
theorem IP {l:List Nat}(h:Ci l):EZ l = .int (El l):=by unfold EZ El;rw[Ag h]
theorem Iz {l:List Nat}(h:¬Ci l):EZ l = .non:=by unfold EZ;rw[Ae h]
theorem Gn.over {o:Option (List Nat×Int)}{H H1:Hp}{Q:VK}(q:Gn o H Q)(e:A7 H H1):Gn o H1 Q:=by
 cases o with
 |none=>exact fun H' e'=>q H' (e.trans e')
 |some s=>exact fun r H' e' h=>q r H' (e.trans e') h
end L2
namespace Rd
open PySem
def NoAt (y l:List Nat)(n:Nat):Prop := ∀k,k<n->(l.drop k).take y.length≠y
inductive IsSplit (y:List Nat):List Nat->List (List Nat)->Prop
 |one {l:List Nat} (h:NoAt y l (l.length+1)):IsSplit y l [l]
 |cut {p l:List Nat} {ps:List (List Nat)} (h:NoAt y (p++(y++l)) p.length) (t:IsSplit y l ps):IsSplit y (p++(y++l)) (p::ps)
theorem IV (p y l:List Nat):((p++(y++l)).drop p.length).take y.length=y:=by
 rw[K3,GN]
theorem IsSplit.fn {y:List Nat}{l:List Nat}{ps qs:List (List Nat)}(a:IsSplit y l ps)(b:IsSplit y l qs):ps=qs:=by
 induction a generalizing qs with
 |
  @one l h=>
  generalize e:l=l' at b
  cases b with
  |one _=>rfl
  |@cut p r ps h' t=>exact absurd (IV p y r) (by rw[←e];exact h p.length (by rw[e,Au];omega))
 |
  @cut p l ps h t ih=>
  generalize e:p++(y++l)=l' at b
  cases b with
  |one h'=>exact absurd (IV p y l) (by rw[e];exact h' p.length (by rw[←e,Au];omega))
  |
   @cut p' r ps' h' t'=>
   have hl:p.length=p'.length:=by
    rcases Nat.lt_trichotomy p.length p'.length with z|z|z
    .exact absurd (IV p y l) (by rw[e];exact h' _ z)
    .exact z
    .exact absurd (IV p' y r) (by rw[←e];exact h _ z)
   obtain⟨rfl,e2⟩:=List.append_inj e hl
   have e3:=List.append_cancel_left e2
   subst e3
   rw[ih t']
theorem Kv (x y:Str):∀(cuts:List Nat) (a f:Nat),StrLaws.ChainG x y x.length a cuts f->(∀k,f<=k->¬StrLaws.At x y x.length k)->a<=x.length->
  IsSplit (L2.cds y) ((L2.cds x).drop a) ((StrLaws.partsFrom x y.length a cuts).map L2.cds)
 |
  [],a,f,h,hn,ha=>by
  have e:f=a:=h
  subst e
  have e1:L2.cds (Builtin.Str.strSub x f x.length)=(L2.cds x).drop f:=(StrLaws.strSub_toList x f x.length).trans (G8 (by rw[Cn];exact Ai _))
  show IsSplit _ _ [L2.cds (Builtin.Str.strSub x f x.length)]
  rw[e1]
  refine .one fun k hk z=>hn (f+k) (by omega) ⟨?_,?_⟩
  .have z1:=congrArg List.length z
   rw[Bh,Cn,Cn,L2.cds_len,L2.cds_len]at z1
   rw[Cn,L2.cds_len]at hk
   by_cases h0:y.length=0
   .omega
   .omega
  .rw[StrLaws.subAt_eq,E8]
   rw[Ia,L2.cds_len]at z
   exact z
 |
  c::r,a,f,h,hn,ha=>by
  obtain⟨h1,h2,h3,h4⟩:=h
  have h20:=h2.1
  have ih:=Kv x y r (c+y.length) f h4 hn h20
  have e1:L2.cds (Builtin.Str.strSub x a c)=((L2.cds x).drop a).take (c-a):=StrLaws.strSub_toList x a c
  have e2:((L2.cds x).drop c).take y.length=L2.cds y:=by have:=h2.2;rw[StrLaws.subAt_eq,E8]at this;exact this
  have e3:(L2.cds x).drop a=((L2.cds x).drop a).take (c-a)++(L2.cds y++(L2.cds x).drop (c+y.length)):=by
   rw[←e2,←Ia,LK,show(L2.cds x).drop c=((L2.cds x).drop a).drop (c-a) by rw[Ia];congr 1;omega,LK]
  show IsSplit _ _ (L2.cds (Builtin.Str.strSub x a c)::_)
  rw[e1]
  have hl:(((L2.cds x).drop a).take (c-a)).length=c-a:=by rw[Bh,Cn,L2.cds_len];omega
  have key:=IsSplit.cut (y:=L2.cds y) (p:=((L2.cds x).drop a).take (c-a)) (l:=(L2.cds x).drop (c+y.length)) (ps:=(StrLaws.partsFrom x y.length (c+y.length) r).map L2.cds) (by
   rw[←e3,hl]
   intro k hk z
   rw[Ia,L2.cds_len]at z
   refine h3 (a+k) (by omega) (by omega) ⟨by omega,?_⟩
   rw[StrLaws.subAt_eq,E8]
   exact z) ih
  rw[←e3]at key
  exact key
end Rd
namespace Rd
open PySem
theorem Mn (x y:Str)(hw:1<=y.length)(h:∀k,¬StrLaws.At x y x.length k):IsSplit (L2.cds y) (L2.cds x) [L2.cds x]:=by
 have h1:=Kv x y [] 0 0 rfl (fun k _=>h k) (BC _)
 rw[I0]at h1
 have e:(StrLaws.partsFrom x y.length 0 []).map L2.cds=[L2.cds x]:=by
  show[L2.cds (Builtin.Str.strSub x 0 x.length)]=_
  rw[StrLaws.sub_whole]
 rw[e]at h1
 exact h1
theorem kind_le {x y:Str}(h:∀c∈L2.cds y,c<256):Builtin.Str.strKind y=1:=by
 unfold Builtin.Str.strKind
 rw[Ag]
 rw[Array.all_eq_true']
 intro c hc
 exact B5 (h c (OC.mpr hc))
theorem kind_pos (x:Str):1<=Builtin.Str.strKind x:=by
 unfold Builtin.Str.strKind
 split
 .decide
 .split<;>decide
theorem split_is (x y:Str)(hy:1<=y.length)(hk:∀c∈L2.cds y,c<256):IsSplit (L2.cds y) (L2.cds x) ((Txt.split x y).map L2.cds):=by
 obtain⟨f,hG,hn⟩:=StrLaws.occ_tight x y hy
 unfold Txt.split
 split
 .rename_i hc
  rw[LL,DQ,DQ]at hc
  have k1:=kind_le (x:=x) hk
  have k2:=kind_pos x
  refine Mn x y hy fun k z=>?_
  have:=z.1
  omega
 .split
  .rename_i he
   have e0:Builtin.Str.occurrences x y 0 x.length (x.length+1)=[]:=List.isEmpty_iff.mp he
   rw[e0]at hG
   have ef:f=0:=hG
   subst ef
   exact Mn x y hy fun k=>hn k (BC _)
  .rw[StrLaws.partsBetween_eq]
   have:=Kv x y _ 0 f hG hn (BC _)
   rw[I0]at this
   exact this
theorem split_len (x y:Str):(Builtin.Str.partsBetween x (Builtin.Str.occurrences x y 0 x.length (x.length+1)) y.length).length<=x.length+2:=by
 have h1:=StrLaws.occ_length_le x y 0 x.length (x.length+1)
 unfold Builtin.Str.partsBetween
 rw[Ap,List.length_zip]
 simp only[AW,Ap,Au,LG]
 omega
theorem split_len2 (x y:Str):(Txt.split x y).length<=x.length+2:=by
 have:=split_len x y
 unfold Txt.split
 split
 .simp
 .split
  .simp
  .exact this
theorem NoAt.of {c:Nat}{y l:List Nat}{n:Nat}(h:∀k,k<n->l[k]?≠some c):NoAt (c::y) l n:=fun k hk z=>h k hk (by
 have:=congrArg List.head? z
 rw[AW,List.head?_take,Ae (by omega),List.head?_drop]at this
 exact this)
theorem NoAt.free {c:Nat}{y p l:List Nat}(h:c∉p):NoAt (c::y) (p++l) p.length:=.of fun k hk z=>h (by
 rw[DM hk]at z
 exact CK z)
theorem IsSplit.one' {c:Nat}{y p:List Nat}(h:c∉p):IsSplit (c::y) p [p]:=.one (.of fun k hk z=>h (CK z))
theorem IsSplit.cut' {c:Nat}{y p l:List Nat}{ps:List (List Nat)}(h:c∉p)(t:IsSplit (c::y) l ps):IsSplit (c::y) (p++(c::y++l)) (p::ps):=.cut (.free h) t
theorem IsSplit.ne {y l:List Nat}{ps:List (List Nat)}(h:IsSplit y l ps):ps≠[]:=by
 cases h<;>exact DO _ _
theorem IsSplit.flat {c:Nat}{l:List Nat}{ps:List (List Nat)}(h:IsSplit [c] l ps):ps.flatten=l.filter (· != c):=by
 have key:∀p:List Nat,c∉p->p.filter (· != c)=p:=fun p hp=>List.filter_eq_self.mpr fun a ha=>by
  rw[Eh]
  exact fun e=>hp (e▸ha)
 have at1:∀(p l:List Nat) (n:Nat),n<=p.length->NoAt [c] (p++l) n->∀k,k<n->(p)[k]?≠some c:=fun p l n hn h k hk z=>h k hk (by
  have hk':k<p.length:=by omega
  rw[List.drop_append_of_le_length (by omega),G9 hk']
  rw[Bg hk']at z
  rw[BP z]
  rfl)
 induction h with
 |
  @one l h=>
  have hc:c∉l:=fun hm=>by
   obtain⟨k,hk⟩:=List.getElem?_of_mem hm
   have hk':=(BM.mp hk).1
   exact at1 l [] l.length (Ai _) (fun k hk=>by rw[DL];exact h k (by omega)) k hk' hk
  rw[key l hc]
  exact DL _
 |
  @cut p l ps h t ih=>
  have hc:c∉p:=fun hm=>by
   obtain⟨k,hk⟩:=List.getElem?_of_mem hm
   exact at1 p _ p.length (Ai _) h k (BM.mp hk).1 hk
  rw[LM,ih,FF,key p hc,FF]
  simp
end Rd
namespace L2
open PySem
theorem Mt:∀{l:List (Str×Tok)},AA ((l.map (·.1)).map V.str) (strValues l)
 |[]=>.nil
 |(z,t)::l=>.cons ⟨t,rfl⟩ Mt
theorem KL {X:Cx}:FT X "str.split" (fun x xs H Q=>∃z y:Str,x = .str z/\xs=[.str y]/\1<=y.length/\(∀c∈cds y,c<256)/\z.length<=900000/\∀(p:Addr) (ps:List Str),H p=none->Rd.IsSplit (cds y) (cds z) (ps.map cds)->Q (.ref p) (upd H p (.lst (ps.map V.str)))):=by
 intro pins s σ H x xs v us Q I rx rv h
 obtain⟨z,y,rfl,rfl,hy,hk,hz,q⟩:=h
 obtain⟨t,rfl⟩:=rx
 obtain⟨u,rfl,t',rfl⟩:=rv.one
 have e1:sizeLine=16777216:=Ic
 have h1:=Rd.split_len z y
 have h2:=Rd.split_len2 z y
 have hy0:(y.length==0)=false:=by rw[GR];omega
 have hs:=Rd.split_is z y hy hk
 have fin:∀(l:List (Str×Tok)) (tk:Nat),l.map (·.1)=Txt.split z y->EP X pins σ Q (.ref s.heap.objs.size) {s with toks:=tk,heap:=s.heap.push {cls:=.type "list",data:=.seq (strValues l).toArray}}:=fun l tk hl=>by
  refine⟨.ref s.heap.objs.size,_,I.laid (t':=tk) (o:=.lst ((Txt.split z y).map V.str)) (fun b o e=>BR _ e) (Ai _) ?_,rfl,q _ _ (I.hok.fresh (Ai _)) hs⟩
  refine⟨by rw[Ap];omega,strValues l,0,?_,D7 _ rfl⟩
  rw[←hl]
  exact Mt
 cases h1:(decide (z.length<y.length)||decide (Builtin.Str.strKind z<Builtin.Str.strKind y))
 .cases hf:(Builtin.Str.occurrences z y 0 z.length (z.length+1)).isEmpty
  .refine Gb F.slot_str_split (GV _ _ _) F.entry_str_split (F.args_str_split_2 _ _) (meets_str_split_sep z y t t' h1 hy0 hf (by omega) (by omega)) ?_
   show wants _ _ _ {s with toks:=_,heap:=s.heap.push {cls:=.type "list",data:=.seq (strsFrom s.toks (Builtin.Str.partsBetween z (Builtin.Str.occurrences z y 0 z.length (z.length+1)) y.length)).toArray}}
   rw[strsFrom_eq]
   exact fin (numbered s.toks _) _ ((numbered_texts _ _).trans ((Ae (OS h1)).trans (Ae (OS hf))).symm)
  .exact Gb F.slot_str_split (GV _ _ _) F.entry_str_split (F.args_str_split_2 _ _) (meets_str_split_not_found z y t t' h1 hy0 hf) (fin [(z,t)] s.toks ((Ae (OS h1)).trans (Ag hf)).symm)
 .exact Gb F.slot_str_split (GV _ _ _) F.entry_str_split (F.args_str_split_2 _ _) (meets_str_split_cannot_occur z y t t' h1) (fin [(z,t)] s.toks (Ag h1).symm)
theorem QJ {X:Cx}:FT X "str.endswith" (fun x xs H Q=>∃z c,x = .str z/\xs=[.str ⟨#[c]⟩]/\Q (.bl (decide ((cds z).getLast?=some c))) H):=by
 intro pins s σ H x xs v us Q I rx rv h
 obtain⟨z,c,rfl,rfl,q⟩:=h
 obtain⟨t,rfl⟩:=rx
 obtain⟨u,rfl,t',rfl⟩:=rv.one
 have e:Txt.endswith z ⟨#[c]⟩=decide ((cds z).getLast?=some c):=by
  unfold Txt.endswith
  rw[StrLaws.subAt_eq]
  have hl:(cds z).length=z.length:=cds_len z
  rw[E4,EB,DQ,DQ,E8,List.getLast?_eq_getElem?]
  show 0+1<=z.length/\((cds z).drop (z.length-1)).take 1=[c]↔_
  rw[hl]
  constructor
  .intro⟨a,b⟩
   have:=congrArg List.head? b
   rw[List.head?_take,Ae (by decide),List.head?_drop]at this
   exact this
  .intro b
   have hb:=(BM.mp b).1
   refine⟨by omega,?_⟩
   rw[G9 (by omega)]
   rw[Bg (by omega)]at b
   show[_]=_
   rw[BP b]
 exact SC.endswith ⟨.bl _,H,I.tok _,by rw[e];rfl,q⟩
def stp (c:Nat)(l:List Nat):List Nat:=((l.dropWhile (· == c)).reverse.dropWhile (· == c)).reverse
theorem VY {X:Cx}:FT X "str.strip" (fun x xs H Q=>∃(z:Str) (c:Nat),x = .str z/\xs=[.str ⟨#[c]⟩]/\z.length<=sizeLine/\Q (.str (Az (stp c (cds z)))) H):=by
 intro pins s σ H x xs v us Q I rx rv h
 obtain⟨z,c,rfl,rfl,hz,q⟩:=h
 obtain⟨t,rfl⟩:=rx
 obtain⟨u,rfl,t',rfl⟩:=rv.one
 have hg:(#[c]:Array Nat).contains=fun a=>a==c:=by
  funext a
  rw[E4]
  simp
 have dw:∀(l:List Nat),l.drop (l.takeWhile (· == c)).length=l.dropWhile (· == c):=fun l=>by
  induction l with
  |nil=>rfl
  |
   cons a l ih=>
   rw[Ib,Fk]
   split
   .exact ih
   .rfl
 have e:Txt.stripChars z ⟨#[c]⟩=Az (stp c (cds z)):=by
  apply DK
  rw[B7]
  have key:cds (stripped (fun a=>a==c) true true z)=stp c (cds z):=by
   refine(StrLaws.strSub_toList z _ _).trans ?_
   unfold stripLo stripHi stp
   simp only[EY]
   show((cds z).drop ((cds z).takeWhile (· == c)).length).take (z.length-(((cds z).drop ((cds z).takeWhile (· == c)).length).reverse.takeWhile (· == c)).length-((cds z).takeWhile (· == c)).length)=_
   rw[dw]
   generalize hm:(cds z).dropWhile (· == c)=m
   rw[←dw m.reverse,List.drop_reverse,LN]
   congr 1
   have:=congrArg List.length (dw (cds z))
   rw[hm,Cn,cds_len]at this
   omega
  unfold Txt.stripChars Txt.stripBy
  rw[hg]
  split
  .rename_i hs
   rw[←key]
   unfold stripSame at hs
   rw[EB,E8,E8]at hs
   unfold stripped
   rw[hs.2,hs.1,StrLaws.sub_whole]
  .exact key
 exact SC.stripChars (fun t' k=>⟨.str _,H,I.tok _,⟨_,by rw[e]⟩,q⟩) hz
end L2
namespace Rd
open PySem
theorem Kw {M:Model}{Γ:Ctx}{p:Pos}{t:Sem Fin}{fs:List Frame}{s s':Shared}{e:End}(h:Runs M Γ p t fs s e s'):s.toks<=s'.toks:=by
 induction h with
 |done|raise|yield=>exact Ai _
 |fresh _ ih=>exact C5 (JZ _) ih
 |again _ _ ih|rule _ ih | «at» _ ih|load _ _ ih|update _ _ ih|loadIfAlive _ ih|point _ ih|alloc _ ih|ask _ ih|choose _ _ ih|os _ ih|handled _ ih|genState _ _ ih|stack _ ih|thread _ ih|newGen _ ih=>exact ih
 |callSusp _ ih=>exact ih
 |segSuspOut _ _ ih=>exact ih
 |resumeJustStarted _ _ _ ih|resumeThrowFresh _ _ ih|resumeRunning _ _ ih|resumeFinished _ _ ih=>exact ih
 |call _ _ i1 i2|segRet _ _ i1 i2|segGen _ _ i1 i2=>exact C5 i1 i2
 |resumeFresh _ _ _ _ i1 i2|resumeSuspended _ _ _ _ i1 i2|segSuspGen _ _ _ _ i1 i2=>exact C5 i1 i2
theorem Pr {M:Model}{Γ:Ctx}{p:Pos}{g:Nat}{r:Resume}{s s':Shared}{res:GenResult}(h:Wakes M Γ p g r s res s'):s.toks<=s'.toks:=by
 unfold Wakes at h
 split at h
 .exact h.elim
 .split at h
  .obtain⟨e₁,s₁,h1,_,_,rfl⟩:=h;exact(show(s.setGen g GenState.running).toks<=s₁.toks from Kw h1)
  .obtain⟨_,rfl⟩:=h;exact Ai _
  .obtain⟨_,rfl⟩:=h;exact Ai _
 .obtain⟨e₁,s₁,h1,_,_,rfl⟩:=h;exact(show(s.setGen g GenState.running).toks<=s₁.toks from Kw h1)
 .obtain⟨_,rfl⟩:=h;exact Ai _
 .obtain⟨_,rfl⟩:=h;exact Ai _
theorem RS {α:Type}{M:Model}{Γ:Ctx}{t:Sem α}{Q:α->Pos->Shared->Prop}{E:Value->Pos->Shared->Prop}(n:Nat)(p:Pos)(s:Shared)(hn:n<=s.toks)(h:Sem.wp M Γ t Q E p s) :
  Sem.wp M Γ t (fun a p' s'=>Q a p' s'/\n<=s'.toks) E p s:=by
 revert h
 induction t generalizing p s with
 |pure x=>exact fun h=>⟨h,hn⟩
 |raise v=>exact id
 |unsupported|finish|yield|fork|await|register=>exact id
 |rule _ k ih | «at» _ k ih|alloc _ k ih|loadIfAlive _ k ih|point _ k ih|ask k ih|os _ _ k ih|handled _ k ih|newGen _ k ih|stack k ih|thread k ih=>exact ih _ _ _ hn
 |fresh k ih=>exact ih _ _ _ (OH hn)
 |load a _ k ih|genState a k ih=>exact fun⟨o,ho,h⟩=>⟨o,ho,ih _ _ _ hn h⟩
 |update a _ f k ih|choose _ _ k ih=>exact fun⟨ha,h⟩=>⟨ha,ih _ _ _ hn h⟩
 |call c h g l k ih=>exact fun⟨r,s',hr,h⟩=>⟨r,s',hr,ih r _ _ (C5 hn (Kw hr)) h⟩
 |resume g r l k ih=>exact fun⟨res,s',hw,h⟩=>⟨res,s',hw,ih _ _ _ (C5 hn (Pr hw)) h⟩
theorem wpAny_toks {α:Type}{M:Model}{A:Around}{t:Sem α}{Q:α->Shared->Prop}{E:Value->Shared->Prop}{s:Shared}{n:Nat}(hn:n<=s.toks)(h:wpAny M A t Q E s):wpAny M A t (fun a s'=>Q a s'/\n<=s'.toks) E s:=
 fun Γ p hΓ=>RS n p s hn (h Γ p hΓ)
end Rd
namespace L2
open PySem PySem.Spec PyProof.Rows
def Gm (X:Cx)(e:Expr)(t:TE):Prop:=
 ∀(pins:List (Addr×Obj)) (s:Shared) (σ:St) (H:Hp) (Q:VK),1<=s.toks->A4 X pins σ H s->t σ H Q->wpAny (model X.prog X.w) X.A (eval e X.env) (EP X pins σ Q) X.xe s
def JJ (X:Cx)(es:List Expr)(t:TA):Prop:=
 ∀(pos:Pos) (pins:List (Addr×Obj)) (s:Shared) (σ:St) (H:Hp) (Q:List V->Hp->Prop),1<=s.toks->A4 X pins σ H s->t σ H Q->wpAny (model X.prog X.w) X.A (spliced (backTo pos (starEach es X.env))) (AP X pins σ Q) X.xe s
section
variable {X:Cx}{a b e o:Expr}{es rest:List Expr}{ta tb te to:TE}{t:TA}{pos:Pos}
theorem VS (ha:PE X e te)(hr:JJ X es t)(hs:starEach (e::es) X.env=(false,eval e X.env)::starEach es X.env:=by rfl):JJ X (e::es) (FS te t):=by
 intro pos pins s σ H Q hp I h
 rw[hs]
 show wpAny _ _ (spliced ((false,eval e X.env)::backTo pos (starEach es X.env))) _ _ s
 refine Calls.spliced_cons (As (Rd.wpAny_toks hp (ha pins s σ H _ I h)) fun u s1 zz=>?_)
 obtain⟨⟨x,H1,I1,r1,q1⟩,hp1⟩:=zz
 refine As (hr pos pins s1 σ H1 _ hp1 I1 q1) fun us s2 zz=>?_
 obtain⟨xs,H2,I2,r2,q2⟩:=zz
 exact⟨x::xs,H2,I2,.cons r1 r2,q2⟩
theorem SQ (ha:Gm X e te)(hs:starEach [e] X.env=(false,eval e X.env)::starEach [] X.env:=by rfl):JJ X [e] (FS te Fz):=by
 intro pos pins s σ H Q hp I h
 rw[hs]
 show wpAny _ _ (spliced ((false,eval e X.env)::backTo pos (starEach [] X.env))) _ _ s
 refine Calls.spliced_cons (As (ha pins s σ H _ hp I h) fun u s1 zz=>?_)
 obtain⟨x,H1,I1,r1,q1⟩:=zz
 exact Calls.spliced_nil ⟨[x],H1,I1,.cons r1 .nil,q1⟩
theorem Qh {op:CmpOp}{r:R2}{c:Str}{j:Nat}{cp p1:Pos}(ho:Bq X (compareOp op) r)(ha:PE X a ta)(hm:behindInMarks op (.Constant (.str c) j cp)=false)(hb:Gm X b tb) :
  PE X (.BoolOp .And [.Compare a [op] [.Constant (.str c) j cp] p1,b] pos) (Lb (EL r ta (tC (.str c))) tb):=by
 intro pins s σ H Q I h
 have key:wpAny (model X.prog X.w) X.A (eval (.Compare a [op] [.Constant (.str c) j cp] p1) X.env) (fun v s'=>EP X pins σ (fun x H1=>∃c,x = .bl c/\if c=true then tb σ H1 Q else Q (.bl false) H1) v s'/\1<=s'.toks) X.xe s:=by
  refine wpAny_Compare1 (As (ha pins s σ H _ I h) fun v s1 zz=>?_) hm
  obtain⟨x,H1,I1,r1,q1⟩:=zz
  refine Ih ?_
  refine Rd.wpAny_toks (s:={s1 with toks:=s1.toks+1}) (OI (BC _)) ?_
  exact ho pins _ σ H1 x (.str c) v _ _ (I1.tok _) r1 ⟨_,rfl⟩ q1
 refine BoolOp_and (As key fun v s1 zz=>?_)
 obtain⟨⟨x,H1,I1,r1,q1⟩,hp⟩:=zz
 obtain⟨c,rfl,q1⟩:=q1
 cases r1
 refine GS ?_
 cases c with
 |true=>exact BoolOp_one (hb pins s1 σ H1 Q hp I1 q1)
 |false=>exact⟨.bl false,H1,I1,rfl,q1⟩
theorem T9 {CX:DX}{k:Nat}{f:Addr}{fd:FuncData}{ps:List Str}{sp:Sp}{x:Str}{ds:List Value}{dvs:List V}{E:XK}{p:Pos}(F:AK X.prog X.w X.K X.mg X.base CX k f fd ps sp)(hr:Cb k X.A)(hg:Gl X x)(hm:X.mg x=some (.ref f))(hk:PySem.W.keepIn X.K (.ref f)=true)(hb:AL X.K fd ps ds)(hd:AA dvs ds)(hx:FZ CX X E)
  (ha:JJ X (e::es) t) (hdb:(x==("__debug__":Str))=false:=by decide) (he:starEach (e::es) X.env=(false,eval e X.env)::starEach es X.env:=by rfl) (hpl:(backTo pos (starEach es X.env)).any (·.1)=false:=by rfl) :
  Gm X (.Call (.Name x p) (e::es) [] pos) (Mu sp dvs E t):=by
 intro pins s σ H Q hp I h
 refine GU (Hn I hg hm ?_ hdb)
 refine OD (h₀:=X.base) I.ok.mod.kin hk (As (ha pos pins s σ H _ hp I h) fun us s1 zz=>?_) he hpl
 obtain⟨vs,H1,I1,r,q⟩:=zz
 refine⟨I1.kIn,?_⟩
 exact Oa F hr hb hd hx I1 r q
theorem R9 (x:Str)(c:Nat)(hc:c<256):cds (Txt.replace x ⟨#[c]⟩ ⟨#[]⟩)=(cds x).filter (· != c):=by
 have h:=Rd.split_is x ⟨#[c]⟩ (Ai _) (fun d hd=>by have e:d=c:=(by simpa[cds] using hd);omega)
 have hcd:cds ⟨#[c]⟩=[c]:=rfl
 rw[hcd]at h
 have e:cds (Txt.replace x ⟨#[c]⟩ ⟨#[]⟩)=((Txt.split x ⟨#[c]⟩).map cds).flatten:=by
  rw[←Li]
  unfold Txt.replace Txt.split
  cases hf:(Builtin.Str.occurrences x ⟨#[c]⟩ 0 x.length (x.length+1)).isEmpty
  .have e1:(false||((⟨#[c]⟩:Str).length==0&&(⟨#[]⟩:Str).length==0))=false:=rfl
   rw[e1]
   simp only[LO,Ig]
   rw[Ae]
   .rfl
   .intro hk
    rw[LL,DQ,DQ]at hk
    have hne:Builtin.Str.occurrences x ⟨#[c]⟩ 0 x.length (x.length+1)≠[]:=fun z=>by rw[z]at hf;cases hf
    have k1:=Rd.kind_le (x:=x) (y:=⟨#[c]⟩) (fun d hd=>by have e:d=c:=(by simpa[cds] using hd);omega)
    have k2:=Rd.kind_pos x
    have hl:x.length<1:=by
     rcases hk with z|z
     .exact z
     .omega
    obtain⟨f,hG,_⟩:=StrLaws.occ_tight x ⟨#[c]⟩ (Ai _)
    cases hL:Builtin.Str.occurrences x ⟨#[c]⟩ 0 x.length (x.length+1) with
    |nil=>exact hne hL
    |
     cons i r=>
     rw[hL]at hG
     have h1:=hG.2.1.1
     have:(⟨#[c]⟩:Str).length=1:=rfl
     omega
  .simp only[Bool.true_or,EY]
   split
   .exact congrArg cds (show x=Txt.join "" [x] from rfl)
   .exact congrArg cds (show x=Txt.join "" [x] from rfl)
 rw[e,h.flat]
def LZ (c:Nat):V->List V->Hp->VK->Prop:=fun x xs H Q=>∃z:Str,x = .str z/\z.length<=1000000/\Q (.str (Az ((cds z).filter (· != c)))) H
theorem RV {c:Nat}{y w':Str}{j1 j2:Nat}{p1 p2 apos:Pos}(hy:y=⟨#[c]⟩)(hw:w'=⟨#[]⟩)(hc:c<256)(ho:PE X o to)
  (hbase:attributeBase o "replace" X.env (eval o X.env)=eval o X.env:=by rfl)
  (hfew:((backTo pos (starEach [.Constant (.str y) j1 p1,.Constant (.str w') j2 p2] X.env)).all (fun x=>!x.1)&&(backToKw pos (keywordEach [] X.env)).all (fun x=>x.1.isSome)
   && decide (([.Constant (.str y) j1 p1,.Constant (.str w') j2 p2]:List Expr).length+([]:List Keyword).length+(if([]:List Keyword).isEmpty then 0 else 1)<30))=true:=by rfl)
  (hline:(apos.endLine==pos.line)=true:=by rfl) :
  Gm X (.Call (.Attribute o "replace" apos) [.Constant (.str y) j1 p1,.Constant (.str w') j2 p2] [] pos) (Ki X.K "str" (LZ c) to Fz):=by
 intro pins s σ H Q hp I h
 refine LV hbase hfew hline rfl (As (Rd.wpAny_toks hp (ho pins s σ H _ I h)) fun v s1 zz=>?_)
 obtain⟨⟨x,H1,I1,r1,ty,q1⟩,hp1⟩:=zz
 obtain⟨h1,h2⟩:=Ho I1 r1 ty
 refine⟨"str","str.replace",F.plainAttrs_str,F.slot_str_replace,F.type_str_replace,h1,h2,?_⟩
 obtain⟨z,rfl,hz,q⟩:=(show LZ c x [] H1 Q from q1)
 obtain⟨t,rfl⟩:=r1
 refine Calls.callWith_builtin rfl (Calls.evalArgs_plain ?_)
 show wpAny _ _ (spliced ((false,eval (.Constant (.str y) j1 p1) X.env)::(false,eval (.Constant (.str w') j2 p2) X.env)::[])) _ _ _
 refine Calls.spliced_cons (Ih (Calls.spliced_cons (Ih (Calls.spliced_nil ?_))))
 subst hy hw
 show wpAny _ _ (call (.builtin "str.replace") [.str z t,.str ⟨#[c]⟩ s1.toks,.str ⟨#[]⟩ (s1.toks+1)]) _ _ {s1 with toks:=s1.toks+1+1}
 refine SC.replaceW (show s1.toks≠0 by omega) (show s1.toks+1≠0 by omega) (show s1.toks≠s1.toks+1 by omega) (by rw[GR];exact fun z=>by cases z) (by omega) (BC _) fun t' k=>⟨.str _,H1,I1.tok _,⟨t',?_⟩,q⟩
 exact congrArg (fun y=>Value.str y t') (DK (by rw[B7];exact R9 z c hc))
end
def QX (C:Addr):Sp:=fun vs H Q _=>∃(x dx:Addr) (v1 v2 v3 v4 v5 v6 v7:V),vs=[.ref x,v1,v2,v3,v4,v5,v6,v7]/\H x=some (.ins C dx [])/\∀H',(∀b o,H b=some o->b≠x->H' b=some o)->(∃dx,H' x=some (.ins C dx [("names",v1),("lows",v2),("highs",v3),("table",v4),("spots",v5),("term",v6),("path",v7)]))->Q .non H'
theorem Px {l:List Nat}(h:l∈Dm):l.head?≠some 122:=by
 have e1:(cds "for").head?≠some 122:=by decide +kernel
 have e2:(cds "end").head?≠some 122:=by decide +kernel
 have e3:(cds "size").head?≠some 122:=by decide +kernel
 unfold Dm at h
 rcases AQ.mp h with rfl|h
 .exact e1
 rcases AQ.mp h with rfl|h
 .exact e2
 rcases AQ.mp h with rfl|h
 .exact e3
 .cases h
theorem Oo {α:Type}[DecidableEq α]:∀{l k:List α},l.Nodup->(∀x∈l,x∈k)->l.length<=k.length
 |[],_,_,_=>BC _
 |
  a::l,k,hn,hs=>by
  have ha:=hs a AY
  have h2:=G5.mp hn
  have:=Oo (l:=l) (k:=k.erase a) h2.2 fun x hx=>(List.mem_erase_of_ne (show x≠a from fun e=>h2.1 (by rw[←e];exact hx))).mpr (hs x (BH _ hx))
  rw[List.length_erase_of_mem ha]at this
  have:0<k.length:=List.length_pos_of_mem ha
  simp only[AW]
  omega
theorem G2 {α:Type}(l:List α)(x:α)(m:List α){n:Int}(hn:n = -((m.length:Int)+1)):Bz (l++x::m) n=some x:=by
 unfold Bz E2
 have hl:(l++x::m).length=l.length+(m.length+1):=by rw[Au];rfl
 rw[hl,Ae (by omega),Ag (by omega)]
 show(l++x::m)[(n+((l.length+(m.length+1):Nat):Int)).toNat]?=some x
 rw[show(n+((l.length+(m.length+1):Nat):Int)).toNat=l.length by omega,E5 (Ai _),EC]
 rfl
theorem Ju (l m:List V)(hm:0<m.length){n:Int}(hn:n = -(m.length:Int)):CZ (l++m) none (some n)=l:=by
 unfold CZ
 have hl:(l++m).length=l.length+m.length:=Au
 have e1:HT.sIx (l++m).length 0 none=0:=rfl
 have e2:HT.sIx (l++m).length (l++m).length (some n)=l.length:=by
  show(if n<0 then(n+((l++m).length:Int)).toNat else min n.toNat (l++m).length)=l.length
  rw[hl,Ag (by omega)]
  omega
 rw[e1,e2,I0,Nat.sub_zero,List.take_left']
 rfl
theorem KO {tt:TT}{ta tb:TS}{D:D9}{σ:St}{H:Hp}(M:Hp->Prop)(hb:∀H',M H'->tb D σ H')(h:(∀H',M H'->tb D σ H')->Jo tt ta tb D σ H):Jo tt ta tb D σ H:=h hb
theorem F5 {α:Type}{l:List α}{n:Nat}(h:l.length=n+1):∃p x,l=p++[x]/\p.length=n:=by
 have hne:l≠[]:=fun e=>by rw[e]at h;cases h
 exact⟨l.dropLast,l.getLast hne,(W1 hne).symm,by rw[List.length_dropLast];omega⟩
theorem FX {H H2:Hp}{x dx C:Addr}(hx:H x=none)(hdx:H dx=none)(k:∀b o,(upd (upd H dx (.own x)) x (.ins C dx [])) b=some o->b≠x->H2 b=some o):A7 H H2:=fun b o e=>by
 have n1:=AI e hx
 have n2:=AI e hdx
 exact k b o (by rw[A8 n1,A8 n2];exact e) n1
theorem Ot (ns:List Int)(lo hi:Option Int):CZ (ns.map V.int) lo hi=(Ca ns lo hi).map V.int:=by
 unfold CZ Ca
 rw[Ap,List.map_take,List.map_drop]
section
variable {X:Cx}{pins:List (Addr×Obj)}{σ:St}{H:Hp}{s:Shared}{h':Heap}
theorem A4.turnedL {t':Nat}{ch:List Addr}(I:A4 X pins σ H s)(k:∀b o,b∉ch->s.heap.get? b=some o->h'.get? b=some o)(hf:∀b∈ch,Ec X pins H b):A4 X pins σ H {s with heap:=h',toks:=t'}:=by
 have nit:∀b u,H b=some u->b∉ch:=fun b u e z=>by rw[(hf b z).1]at e;cases e
 have hL:X.env.locals∉ch:=fun z=>(hf _ z).2.1 rfl
 refine I.step (g':=s.gens) (d':=s.drawn) (ch:=ch) (fun b hb=>?_) (fun b o _ _ hc e _=>k b o hc e) (fun b o _ _ hc e _=>⟨o.slots,k b o hc e⟩) (fun _ _ _ _ n=>n)
  (fun b o hc e=>⟨o,k b o hc e⟩) (fun _ _ e=>e) (fun _ _ _ e=>e) (fun b ps e=>⟨#[],by rw[e];simp⟩) (fun m hm=>?_) (fun b u e=>?_) I.bare
 .obtain⟨f0,f1,f2,f3,f4,f5⟩:=hf b hb
  exact⟨f3,f1,f4,f5⟩
 .obtain⟨o,es,ep,ho,r⟩:=hm
  exact⟨o,es,ep,k _ o hL ho,r⟩
 .refine(I.hok b u e).stay (fun c v hc q=>k c v ?_ q) (fun _ q=>q) fun _ _ q=>q
  rcases hc with z|z
  .rw[z];exact nit b u e
  .exact nit c _ z
end
end L2
namespace Rd
open PySem
open AutoSeq1 (wpAny_loadPart')
section
variable {prog:Program}{w:World}{A:Around}{E:Value->Shared->Prop}{s:Shared}
theorem SH {T newId initId:String}{Bn Bi:Builtin}{args:List Value}{kw:List (Str×Value)}{S:Spec}{Q Q₁:Value->Shared->Prop}(ft:TypeCalled T newId initId)
  (hct:checkTypeCall T ⟨args,kw⟩=pure ()) (hcn:checkBuiltinCall newId ⟨.type T::args,kw⟩=pure ())
  (entryN:entryFor table newId=some Bn) (entryI:entryFor table initId=some Bi) (g:Meets (Bn ⟨.type T::args,kw⟩) S)
  (h:S A.in1 (wants Q₁ E) s)
  (hnext:∀obj s₁,Q₁ obj s₁->s₁.TypeIs obj T/\argsOk initId ⟨obj::args,kw⟩/\∃Si,Meets (Bi ⟨obj::args,kw⟩) Si/\Si A.in1 (wants (fun r s₂=>r = .none/\Q obj s₂) E) s₁) :
  wpAny (model prog w) A (call (.type T) args kw) Q E s:=by
 obtain⟨c,tl,hmro⟩:=ft.mro
 have hmade:=ft.made
 have hsub:=ft.sub
 refine wpAny_call (codeAny_of_tree ?_)
 show wpAny _ _ (callAny (.type T) _) _ _ _
 refine C6 ⟨Code.quiet_builtin _ (by decide +kernel),codeAny_builtin F.entry_type_call ?_⟩
 rw[Around.under_plain (weight_type_call_type T args kw) (units_type_call_type T args kw)]
 have h1:=ft.notType
 have h2:=ft.canCreate
 repeat (any_goals (first|assumption|wp_step))
 refine Ie (codeAny_call_builtin ft.plain entryN (wpAny_of_eq hcn (g prog w A.in1 _ s h))) fun r s₁ hr=>?_
 cases r with
 |error e=>exact hr
 |
  ok fl=>
  cases fl with
  |
   ret obj=>
   obtain⟨hT,hok,Si,gi,hsi⟩:=hnext _ _ hr
   have hli:=ft.init.lookup
   have hbi:=ft.init.bind obj
   repeat (any_goals (first|assumption|wp_step))
   refine Ie (codeAny_call_builtin ft.init.plain entryI (ft.init.check _ _ _ _ _ _ _ _ hT hok (gi prog w A.in1 _ s₁ hsi))) fun r₂ s₂ hr₂=>?_
   cases r₂ with
   |error e=>exact hr₂
   |
    ok fl₂=>
    cases fl₂ with
    |
     ret r=>
     obtain⟨rfl,hq⟩:=hr₂
     repeat (any_goals (first|assumption|wp_step))
    |_=>exact hr₂.elim
  |_=>exact hr.elim
theorem Vh {T newId:String}{self:Value}{rest:List Value}{kw:List (Str×Value)}(hl:typeLookup (.type T) "__init__"=pure (some (.builtin "object.__init__")))
  (hm:Bind.madeBy (.type T)=pure (some newId)) (hne:(some newId != some "object.__new__")=true) (hr:rest≠[]) :
  Meets (Builtin.«object.__init__» ⟨self::rest,kw⟩) (fun _ R s=>s.TypeIs self T/\R (.ok (.ret .none)) s):=by
 refine Meets.of_wp fun prog w A R s hs=>?_
 obtain⟨hT,hq⟩:=hs
 cases rest with
 |nil=>exact absurd rfl hr
 |
  cons a rest=>
  repeat (any_goals (first|assumption|wp_step))
  exact⟨_,rfl,hq⟩
theorem Qj (l:Addr)(items:Array Value)(n:Nat)(dct:Option Addr)(sl:Array (Option Value))(t:Tok) :
  Meets (Builtin.«enumerate.__new__» ⟨[.type "enumerate",.ref l],[("start",.int 1 t)]⟩) (fun _ R s=>s.heap.get? l=some {cls:=.type "list",dict:=dct,data:=.seq items n,slots:=sl}/\
   R (.ok (.ret (.ref (s.heap.push {cls:=.type "list_iterator",data:=.fields #[.ref l,.int 0 0]}).objs.size)))
    {s with heap:=(s.heap.push {cls:=.type "list_iterator",data:=.fields #[.ref l,.int 0 0]}).push {cls:=.type "enumerate",data:=.fields #[.none,.bool false,.ref s.heap.objs.size,rawInt 1,.none,.none]}}):=
 .of_wp fun prog w A R s h=>by
  obtain⟨hp,g,d,tk,os⟩:=s;obtain⟨hl,h⟩:=h
  have hsub:=sub_enumerate
  have hL:Heap.IsList (Shared.heap ⟨hp,g,d,tk,os⟩) l items:=⟨_,hl,rfl,n,rfl⟩
  wp_walk using wpAny_loadPart' hl
  refine wpAny_stack_any fun st=>C6 ?_
  split
  .rename_i c _ _ _ _ _
   cases (c==Value.type "enumerate")
   .wp_walk using wpAny_loadPart' hl,Kc hL
    exact⟨_,rfl,h⟩
   .wp_walk using wpAny_loadPart' hl,Kc hL
    exact⟨_,rfl,h⟩
  .wp_walk using wpAny_loadPart' hl,Kc hL
   exact⟨_,rfl,h⟩
theorem Pe (a b c:Value):argsOk "object.__init__" ⟨[a,b],[("start",c)]⟩:=by
 unfold argsOk
 rw[signature?_of (id:="object.__init__") (n:=['_','_','t','i','n','i','_','_']) (o:=['t','c','e','j','b','o']) (by kernel_rfl) F.owner_object]
 kernel_rfl
theorem call_enum_start {l:Addr}{items:Array Value}{t:Tok}{Q:Value->Shared->Prop}(hL:s.heap.IsList l items)
  (h:∀h',IsEnum h' (s.heap.objs.size+1) s.heap.objs.size 1 .none->h'.IsListIter s.heap.objs.size l 0->h'.objs.size=s.heap.objs.size+2->
   (∀b o,s.heap.get? b=some o->h'.get? b=some o)->Q (.ref (s.heap.objs.size+1)) {s with heap:=h'}) :
  wpAny (model prog w) A (call (.type "enumerate") [.ref l] [("start",.int 1 t)]) Q E s:=by
 obtain⟨⟨c,dct,dt,sl⟩,hl,hc,n,hd⟩:=hL
 replace hc:c = .type "list":=hc
 replace hd:dt = .seq items n:=hd
 subst hc hd
 refine SH (Q₁:=fun obj s₁=>s₁.TypeIs obj "enumerate"/\Q obj s₁) F.called_enumerate (by kernel_rfl) (by kernel_rfl) F.entry_enumerate_new F.entry_object_init (Qj l items n dct sl t) ⟨hl,?_⟩ fun obj s₁ hq=>⟨hq.1,Pe _ _ _,_,Vh F.called_enumerate.init.lookup F.called_enumerate.made (by decide) (DO _ _),hq.1,rfl,hq.2⟩
 have hz:(s.heap.push {cls:=.type "list_iterator",data:=.fields #[.ref l,.int 0 0]}).objs.size=s.heap.objs.size+1:=HY ..
 show _/\_
 rw[hz]
 have he:IsEnum ((s.heap.push {cls:=.type "list_iterator",data:=.fields #[.ref l,.int 0 0]}).push
   {cls:=.type "enumerate",data:=.fields #[.none,.bool false,.ref s.heap.objs.size,rawInt 1,.none,.none]}) (s.heap.objs.size+1) s.heap.objs.size 1 .none:=by
  have:=D7 (s.heap.push {cls:=.type "list_iterator",data:=.fields #[.ref l,.int 0 0]})
   (o:={cls:=.type "enumerate",data:=.fields #[.none,.bool false,.ref s.heap.objs.size,rawInt 1,.none,.none]}) rfl
  rw[hz]at this;exact this
 refine⟨⟨_,he,rfl⟩,h _ he ⟨_,BR _ (D7 _ rfl),rfl,rfl⟩ (by rw[HY,hz]) fun b o x=>BR _ (BR _ x)⟩
end
end Rd
namespace Rd
open PySem
open AutoSeq1 (wpAny_loadPart')
section
variable {prog:Program}{w:World}{A:Around}{E:Value->Shared->Prop}{s:Shared}
theorem SD {e it l:Addr}{i:Nat}{c:Int}{items:Array Value}{x old:Value}{Q:Value->Shared->Prop}
  (he:IsEnum s.heap e it c old) (hit:s.heap.IsListIter it l i) (hl:s.heap.IsList l items) (hx:items[i]?=some x) (hne:e≠it)
  (hQ:∀h',IsEnumOut h' e it (c+1) x s.heap.objs.size->h'.IsListIter it l (i+1)->
   h'.get? s.heap.objs.size=some {cls:=.type "tuple",data:=.seq #[.int c s.toks,x]}->h'.objs.size=s.heap.objs.size+1->
   (∀b o,b≠e->b≠it->s.heap.get? b=some o->h'.get? b=some o)->Q (.ref s.heap.objs.size) {s with heap:=h',toks:=s.toks+1}) :
  wpAny (model prog w) A (Builtin.«enumerate.__next__» ⟨[.ref e],[]⟩) (fun fin s'=>∃v,fin = .done (.ret v)/\Q v s') E s:=by
 obtain⟨hp,g,d,tk,os⟩:=s
 show wpAny _ _ (field (.ref e) 2>>=_) _ _ _
 refine B4 (Ii he rfl (x:=.ref it) rfl ?_)
 refine B4 (wpAny_nextOf_list_item hit hl hx fun h₁ hit₁ hs₁=>?_)
 replace hs₁:Heap.SameBut it hp h₁:=hs₁
 have he₁:IsEnum h₁ e it c old:=(hs₁.2 e hne).trans he
 show wpAny _ _ (field (.ref e) 3>>=_) _ _ ⟨h₁,g,d,tk,os⟩
 refine B4 (Ii he₁ rfl (x:=rawInt c) rfl ?_)
 show wpAny _ _ (field (.ref e) 4>>=_) _ _ ⟨h₁,g,d,tk,os⟩
 refine B4 (Ii he₁ rfl (x:=.none) rfl ?_)
 show wpAny _ _ (mkInt c>>=_) _ _ ⟨h₁,g,d,tk,os⟩
 refine B4 (wpAny_mkInt ?_)
 show wpAny _ _ (setField (.ref e) 3 (rawInt (c+1))>>=_) _ _ ⟨h₁,g,d,tk+1,os⟩
 refine B4 (Ke he₁ (by simp) fun h₂ he₂ hs₂=>?_)
 replace hs₂:Heap.SameBut e h₁ h₂:=hs₂
 replace he₂:IsEnum h₂ e it (c+1) old:=he₂
 show wpAny _ _ (setField (.ref e) 4 .none>>=_) _ _ ⟨h₂,g,d,tk+1,os⟩
 refine B4 (Ke he₂ (by simp) fun h₃ he₃ hs₃=>?_)
 replace hs₃:Heap.SameBut e h₂ h₃:=hs₃
 replace he₃:IsEnum h₃ e it (c+1) old:=he₃
 show wpAny _ _ (newTuple [.int c tk,x]>>=_) _ _ ⟨h₃,g,d,tk+1,os⟩
 refine B4 (wpAny_newTuple ?_)
 have he₄:IsEnum (h₃.push {cls:=.type "tuple",data:=.seq #[.int c tk,x]}) e it (c+1) old:=BR _ he₃
 generalize hh₄:h₃.push {cls:=.type "tuple",data:=.seq #[.int c tk,x]}=h₄ at he₄
 have hsz:h₃.objs.size=hp.objs.size:=by rw[hs₃.1,hs₂.1,hs₁.1]
 have hel:e<hp.objs.size:=Br he
 have ht₄:h₄.get? hp.objs.size=some {cls:=.type "tuple",data:=.seq #[.int c tk,x]}:=by rw[←hh₄,←hsz];exact D7 _ rfl
 have hz₄:h₄.objs.size=hp.objs.size+1:=by rw[←hh₄,HY,hsz]
 have hk₄:∀b o,b≠e->b≠it->hp.get? b=some o->h₄.get? b=some o:=fun b o hbe hbi hb=>by
  rw[←hh₄];exact BR _ (hs₃.extBut b o hbe (hs₂.extBut b o hbe (hs₁.extBut b o hbi hb)))
 have hit₄:h₄.IsListIter it l (i+1):=by
  rw[←hh₄];obtain⟨o,ho,r⟩:=(hit₁.extBut hs₂.extBut (Ne.symm hne)).extBut hs₃.extBut (Ne.symm hne);exact⟨o,BR _ ho,r⟩
 show wpAny _ _ (Builtin.SmallTypes.ownedTupleIsFree (.ref e)>>=_) _ _ ⟨h₄,g,d,tk+1,os⟩
 rw[hsz]
 clear hh₄ he₃ hs₃ he₂ hs₂ he₁ hs₁ hit₁ hsz h₃ h₂ h₁
 refine B4 ?_
 .unfold Builtin.SmallTypes.ownedTupleIsFree
  refine B4 (Ii he₄ rfl (x:=.none) rfl (C6 ?_))
  simp only[EY]
  refine B4 (wpAny_rule ?_)
  refine B4 (Ii he₄ rfl (x:=old) rfl ?_)
  refine B4 (Ke he₄ (by simp) fun h₅ he₅ hs₅=>?_)
  replace hs₅:Heap.SameBut e h₄ h₅:=hs₅
  replace he₅:IsEnum h₅ e it (c+1) x:=he₅
  show wpAny _ _ (Builtin.SmallTypes.ownedTupleHandOut (.ref e) (.ref hp.objs.size)>>=_) _ _ ⟨h₅,g,d,tk+1,os⟩
  refine B4 ?_
  .unfold Builtin.SmallTypes.ownedTupleHandOut
   refine B4 (Ke he₅ (by simp) fun h₆ he₆ hs₆=>?_)
   replace hs₆:Heap.SameBut e h₅ h₆:=hs₆
   replace he₆:IsEnumOut h₆ e it (c+1) x hp.objs.size:=he₆
   refine Ke he₆ (by simp) fun h₇ he₇ hs₇=>?_
   replace hs₇:Heap.SameBut e h₆ h₇:=hs₇
   replace he₇:IsEnumOut h₇ e it (c+1) x hp.objs.size:=he₇
   refine B4 (wpAny_letGo (C6 ⟨_,rfl,hQ h₇ he₇ ?_ ?_ ?_ ?_⟩))
   .exact((hit₄.extBut hs₅.extBut (Ne.symm hne)).extBut hs₆.extBut (Ne.symm hne)).extBut hs₇.extBut (Ne.symm hne)
   .exact hs₇.extBut _ _ (JX hel) (hs₆.extBut _ _ (JX hel) (hs₅.extBut _ _ (JX hel) ht₄))
   .rw[hs₇.1,hs₆.1,hs₅.1,hz₄]
   .exact fun b o hbe hbi hb=>hs₇.extBut b o hbe (hs₆.extBut b o hbe (hs₅.extBut b o hbe (hk₄ b o hbe hbi hb)))
theorem enumC_next {e it l:Addr}{i:Nat}{c:Int}{items:Array Value}{x old:Value}{Q:Option Value->Shared->Prop}
  (he:IsEnum s.heap e it c old) (hit:s.heap.IsListIter it l i) (hl:s.heap.IsList l items) (hx:items[i]?=some x) (hne:e≠it)
  (hQ:∀h',IsEnumOut h' e it (c+1) x s.heap.objs.size->h'.IsListIter it l (i+1)->
   h'.get? s.heap.objs.size=some {cls:=.type "tuple",data:=.seq #[.int c s.toks,x]}->h'.objs.size=s.heap.objs.size+1->
   (∀b o,b≠e->b≠it->s.heap.get? b=some o->h'.get? b=some o)->Q (some (.ref s.heap.objs.size)) {s with heap:=h',toks:=s.toks+1}) :
  wpAny (model prog w) A (pyNext (.ref e)) Q E s:=by
 have hT:s.TypeIs (.ref e) "enumerate":=⟨_,he,rfl⟩
 unfold pyNext
 exact B4 (wpAny_attempt (wpAny_callSpecial?_slot (name:=Str.ofString "__next__") hT F.slot_enumerate_next
  (wpAny_call_entry F.slot_enumerate_next hT F.entry_enumerate_next
   (SD he hit hl hx hne fun h' a b c d k=>C6 (hQ h' a b c d k)) (F.args_enumerate_next_1 _))))
theorem enumC_end {e it l:Addr}{i:Nat}{c:Int}{items:Array Value}{old:Value}{Q:Option Value->Shared->Prop}(hh:A.handled=none)
  (he:IsEnum s.heap e it c old) (hit:s.heap.IsListIter it l i) (hl:s.heap.IsList l items) (hx:items[i]?=none)
  (hQ:∀h',Heap.ExtBut it s.heap h'->Q none {s with heap:=h'}):wpAny (model prog w) A (pyNext (.ref e)) Q E s:=by
 have hT:s.TypeIs (.ref e) "enumerate":=⟨_,he,rfl⟩
 unfold pyNext
 refine B4 (wpAny_attempt (wpAny_callSpecial?_slot (name:=Str.ofString "__next__") hT F.slot_enumerate_next
  (wpAny_call_entry F.slot_enumerate_next hT F.entry_enumerate_next ?_ (F.args_enumerate_next_1 _))))
 show wpAny _ _ (field (.ref e) 2>>=_) _ _ _
 refine B4 (Ii he rfl (x:=.ref it) rfl ?_)
 refine B4 (wpAny_nextOf_list_end hh hit hl hx fun h' x he' hx'=>?_)
 obtain⟨o,ho,hc⟩:=hx'
 refine B4 (wpAny_isInstance (T:="StopIteration") (b:=true) ⟨o,ho,hc⟩ isSubtype_stop ?_)
 exact C6 (hQ _ he')
end
section
open PyProof.Rows
variable {M:Model}{A:Around}{E:Value->Shared->Prop}{s:Shared}{env:Env}
theorem UL {pos:Pos}{id:String}{first:List Value}{args:List (Bool×Sem Value)}{keywords:List (Option Str×Sem Value)}{Q:Value->Shared->Prop}
  (hplain:args.any (·.1)=false) (hkw:keywords.any (·.1.isNone)=false)
  (h:wpAny M A (evalArgs (.type id) true args keywords) (fun a s₁=>wpAny M A (call (.type id) (first++a.pos) a.kw) Q E s₁) E s) :
  wpAny M A (callWith pos (.type id) first args keywords) Q E s:=by
 unfold callWith
 refine B4 (wpAny_holding (DP h (fun a s₁ h₁=>B4 (wpAny_standAt ?_)) fun _ _ x=>x))
 simp only[hplain,hkw,LC]
 refine B4 (C6 ?_)
 exact B4 (DP h₁ (fun r s₂ hr=>B4 (wpAny_holding (wpAny_point (C6 hr)))) fun _ _ x=>x)
theorem callWith_kwT {pos:Pos}{id:String}{e:Expr}{rest:List Expr}{kws:List Keyword}{Q:Value->Shared->Prop}
  (h:wpAny M A (spliced (backTo pos (starEach (e::rest) env))) (fun vs s₁=>wpAny M A (evalAll ((backToKw pos (keywordEach kws env)).map (·.2)))
   (fun kvs s₂=>wpAny M A (call (.type id) vs (((backToKw pos (keywordEach kws env)).filterMap (·.1)).zip kvs)) Q E s₂) E s₁) E s)
  (he:backTo pos (starEach (e::rest) env)=(false,eval e env)::backTo pos (starEach rest env):=by rfl)
  (hplain:(backTo pos (starEach (e::rest) env)).any (·.1)=false:=by rfl)
  (hall:(backToKw pos (keywordEach kws env)).all (·.1.isSome)=true:=by rfl)
  (hkw:(backToKw pos (keywordEach kws env)).any (·.1.isNone)=false:=by rfl) :
  wpAny M A (callWith pos (.type id) [] (backTo pos (starEach (e::rest) env)) (backToKw pos (keywordEach kws env))) Q E s:=by
 refine UL hplain hkw ?_
 rw[he]at h ⊢
 exact evalArgs_kwB hall h
end
end Rd
namespace L2
open PySem PySem.Spec PyProof.Rows
def Ht (K:Xa)(a:Addr):It:=
 ⟨fun i H=>∃xs x,A3 K H a xs/\xs[i]?=some x,fun i H v H'=>∃x T,(∀xs,A3 K H a xs->xs[i]?=some x)/\H T=none/\v = .ref T/\H'=upd H T (.tup [.int ((i:Int)+1),x]),fun i H=>∃xs,A3 K H a xs/\xs.length<=i⟩
theorem Sb {P:Program}{w:World}{K:Xa}{elts:List Expr}{x1:Nat}{pos:Pos}(a e it:Addr)(hei:e≠it):Gj P w K (.Tuple elts x1 pos) (Ht K a) [e,it] e (fun i h=>(∃old,IsEnum h e it ((i:Int)+1) old)/\h.IsListIter it a i) where
 mem:=by simp
 obj:=fun i h st b hb=>by
  obtain⟨⟨old,he⟩,hit⟩:=st
  rcases AQ.mp hb with rfl|hb
  .exact⟨_,he,fun v z=>by cases z⟩
  .have e:b=it:=by simpa using hb
   subst e
   obtain⟨o,e,c,d⟩:=hit
   exact⟨o,e,fun v z=>by rw[d]at z;cases z⟩
 keep:=fun i h h' st k=>by
  obtain⟨⟨old,he⟩,hit⟩:=st
  exact⟨⟨old,k e (by simp) _ he⟩,hit.at fun o e=>k it (by simp) o e⟩
 item:=by
  intro X hP hw hK hc i pins s σ H E I hf st hg
  subst hP hw hK
  obtain⟨xs,x,hq,hx⟩:=hg
  obtain⟨its,rv,p,hz⟩:=I.list hq
  obtain⟨u,hu,ru⟩:=rv.get hx
  obtain⟨⟨old,he⟩,hit⟩:=st
  refine Rd.enumC_next he hit p.isList (x:=u) (by simpa using hu) hei fun h1 ho hit' hT hsz hk=>⟨_,rfl,?_⟩
  refine wpAny_letOwnedTupleGo_enum ho fun h2 he2 hs2=>?_
  have hTn:H s.heap.objs.size=none:=I.hok.fresh (Ai _)
  have helt:e<s.heap.objs.size:=Br he
  have hilt:it<s.heap.objs.size:=by obtain⟨_,x,_⟩:=hit;exact Br x
  have I1:A4 X pins σ (upd H s.heap.objs.size (.tup [.int ((i:Int)+1),x])) {s with heap:=s.heap.push {cls:=.type "tuple",data:=.seq #[.int ((i:Int)+1) s.toks,u]},toks:=s.toks+1}:=I.laid (t':=s.toks+1) (o:=.tup [.int ((i:Int)+1),x]) (fun b o e=>BR _ e) (Ai _) ⟨AG rfl,[.int ((i:Int)+1) s.toks,u],.cons ⟨_,rfl⟩ (.cons ru .nil),Fu.new _ _⟩
  have I2:A4 X pins σ (upd H s.heap.objs.size (.tup [.int ((i:Int)+1),x])) {s with heap:=h2,toks:=s.toks+1}:=by
   refine A4.turnedL (s:={s with heap:=s.heap.push {cls:=.type "tuple",data:=.seq #[.int ((i:Int)+1) s.toks,u]},toks:=s.toks+1}) (h':=h2) (ch:=[e,it]) (t':=s.toks+1) I1 (fun b o hb q=>?_) (fun b hb=>?_)
   .have nbe:b≠e:=fun z=>hb (by simp[z])
    have nbi:b≠it:=fun z=>hb (by simp[z])
    show h2.get? b=some o
    rw[hs2.2 b nbe]
    rcases Heap.get?_push_cases q with⟨rfl,rfl⟩|q
    .exact hT
    .exact hk b o nbe nbi q
   .obtain⟨f0,f1,f2,f3,f4,f5⟩:=hf b hb
    have nb:b≠s.heap.objs.size:=by
     rcases AQ.mp hb with rfl|hb
     .exact Cg helt
     .have:b=it:=by simpa using hb
      subst this
      exact Cg hilt
    exact⟨by rw[A8 nb];exact f0,f1,f2,f3,f4,f5⟩
  refine⟨.ref s.heap.objs.size,_,I2,rfl,⟨x,_,fun ys hy=>by rw[I.list_inj hy hq];exact hx,hTn,rfl,rfl⟩,⟨⟨_,by simpa using he2⟩,hit'.at fun o y=>(hs2.2 it hei.symm).trans y⟩,fun b hb=>?_⟩
  obtain⟨f0,f1,f2,f3,f4,f5⟩:=hf b hb
  have nb:b≠s.heap.objs.size:=by
   rcases AQ.mp hb with rfl|hb
   .exact Cg helt
   .have:b=it:=by simpa using hb
    subst this
    exact Cg hilt
  rw[A8 nb]
  exact f0
 done:=by
  intro X hP hw hK hc i pins s σ H E I hf st hg
  subst hP hw hK
  obtain⟨xs,hq,hx⟩:=hg
  obtain⟨its,rv,p,hz⟩:=I.list hq
  obtain⟨⟨old,he⟩,hit⟩:=st
  have hl:=rv.length
  refine Rd.enumC_end (I.ok.hd hc) he hit p.isList (by simp;omega) fun h' eb=>⟨rfl,?_⟩
  exact I.turnedL (ch:=[e,it]) (t':=s.toks) (fun b o hb q=>eb b o (fun z=>hb (by simp[z])) q) hf
 self:=fun _ _ _ _ _ st h=>by
  obtain⟨⟨old,he⟩,_⟩:=st
  exact wpAny_pyIter_enum he h
def Sk (K:Xa)(ta:TA):TI:=fun σ H R=>ta σ H fun vs H1=>∃a:Addr,vs=[.ref a]/\(∃xs,A3 K H1 a xs)/\R (Ht K a) H1
theorem VP {X:Cx}{a:Expr}{ta:TA}{p pos kp ip:Pos}{elts:List Expr}{x1 j:Nat}{pos2:Pos}(hg:Gl X "enumerate")(hm:X.mg "enumerate"=none)(ha:PA X [a] ta)(hs:starEach [a] X.env=[(false,eval a X.env)]:=by rfl):PI X (.Tuple elts x1 pos2) (.Call (.Name "enumerate" p) [a] [⟨some "start",.Constant (.int 1) j ip,kp⟩] pos) (Sk X.K ta):=by
 intro pins s σ H R I h
 refine GU (Ha I hg hm boot_enumerate ?_)
 refine Rd.callWith_kwT (As (ha pos pins s σ H _ I h) fun us s1 zz=>?_) (by rw[hs];rfl) (by rw[hs];rfl)
 obtain⟨vs,H1,I1,r1,q1⟩:=zz
 refine PyProof.Rows.kws_cons (wpAny_Constant_int (PyProof.Rows.kws_nil ?_))
 obtain⟨l,rfl,⟨xs,hq⟩,q⟩:=q1
 cases r1 with
 |
  cons r rr=>
  cases rr
  cases r
  have I2:=I1.tok (s1.toks+1)
  obtain⟨its,rv,pl,hz⟩:=I2.list hq
  refine Rd.call_enum_start pl.isList fun h' he hit hsz hk=>?_
  refine wpAny_pyIter_enum he ?_
  refine⟨_,[s1.heap.objs.size+1,s1.heap.objs.size],_,_,H1,rfl,I2.kept (t':=s1.toks+1) hk,Sb l _ _ (JX (JY _)),⟨⟨_,he⟩,hit⟩,fun b hb=>?_,q⟩
  rcases AQ.mp hb with rfl|hb
  .exact I2.fpOk (JZ _) (I2.hok.fresh (JZ _))
  .have e:b=s1.heap.objs.size:=by simpa using hb
   subst e
   exact I2.fpOk (Ai _) (I2.hok.fresh (Ai _))
theorem Uo {K:Xa}{a:Addr}{xs:List V}{g:TG}{tb:TS}{D:D9}{σ:St}{H:Hp}(Pv:Nat->St->Hp->Prop)(h0:Pv 0 σ H)(hl:∀i σ H,i<=xs.length->Pv i σ H->A3 K H a xs)
  (hs:∀i x T σ H,xs[i]?=some x->Pv i σ H->H T=none->g (.ref T) σ (upd H T (.tup [.int ((i:Int)+1),x])) fun σ2 H2=>tb {D with nx:=Pv (i+1),ct:=Pv (i+1),bk:=D.nx} σ2 H2) (hd:∀σ H,Pv xs.length σ H->D.nx σ H) :
  ∃W:Nat->Nat->St->Hp->Prop,(∃m,W 0 m σ H)/\∀i m σ H,W i m σ H->
   ((Ht K a).stop i H/\D.nx σ H)\/((Ht K a).go i H/\∃N:St->Hp->Prop,(∀σ' H',N σ' H'->∃m',m'<m/\W (i+1) m' σ' H')/\∀x H',(Ht K a).yld i H x H'->g x σ H' fun σ2 H2=>tb {D with nx:=N,ct:=N,bk:=D.nx} σ2 H2):=by
 refine⟨fun i m σ H=>m=xs.length-i/\i<=xs.length/\Pv i σ H,⟨xs.length,by simp,BC _,h0⟩,?_⟩
 rintro i m σ H ⟨rfl,hi,p⟩
 have q:=hl i σ H hi p
 by_cases hlt:i<xs.length
 .refine .inr ⟨⟨xs,xs[i],q,Bg hlt⟩,Pv (i+1),fun σ' H' p'=>⟨xs.length-(i+1),by omega,rfl,hlt,p'⟩,fun v H' y=>?_⟩
  obtain⟨x,T,hx,hT,rfl,rfl⟩:=y
  exact hs i x T σ H (hx xs q) p hT
 .have e:i=xs.length:=by omega
  subst e
  exact .inl ⟨⟨xs,q,Ai _⟩,hd σ H p⟩
theorem PH {X:Cx}{pins:List (Addr×Obj)}{σ:St}{H:Hp}{s:Shared}{A:Around}{E:Value->Shared->Prop}{a:Addr}{kvs:List (Bb×V)}{k:Bb}{x:V}{u r:Value}{Q:Value->Shared->Prop}(I:A4 X pins σ H s)(e:H a=some (.dK kvs))(ry:Ay (kV k) u)(rx:Ay x r)(hz:kvs.length<=1000000)
  (h1:∀v w' s',CO kvs k=some v->A4 X pins σ H s'->Ay v w'->Q w' s')
  (h2:CO kvs k=none->∀s',A4 X pins σ (upd H a (.dK (Fd kvs k x))) s'->Q r s'):wpAny (model X.prog X.w) A (call (.builtin "dict.setdefault") [.ref a,u,r]) Q E s:=by
 obtain⟨z,hd,vs,rel,dd⟩:=RT I.hok e
 have hl:(Fd kvs k x).length<=sizeLine:=by have:=VO kvs k x;have:=Ic;omega
 refine call_meetsIn W2 dd.typeIs PySem.F.entry_dict_setdefault (PySem.F.args_dict_setdefault_3 _ _ _) (kt_meets_setdefault (Dv X.prog X.w) a (Jl ry) hd r)
  ⟨vs,dd,by rw[←rel.length];exact z,fun v hv=>?_,fun hn h' dd' hs=>?_⟩
 .have rl:=rel.val k
  rw[hv]at rl
  cases l:CO kvs k with
  |none=>rw[l]at rl;exact rl.elim
  |some v0=>rw[l]at rl;exact h1 v0 v _ l (I.tok _) rl
 .have rl:=rel.val k
  rw[hn]at rl
  have he:∃q,h'.get? a=some q:=by obtain⟨q,_,_,hq,_⟩:=dd';exact⟨q,hq⟩
  cases l:CO kvs k with
  |some v0=>rw[l]at rl;exact rl.elim
  |none=>exact h2 l _ (Ts I (by rw[e];exact True.intro) hs he (OW hl hd (rel.put k rx) dd'))
def OY (td ty tx:TE):TE:=fun σ H Q=>td σ H fun x H1=>∃a,x = .ref a/\Nr H1 a/\ty σ H1 fun y H2=>tx σ H2 fun z H3=>∃kvs k,H3 a=some (.dK kvs)/\y=kV k/\kvs.length<=1000000/\
 (∀v,CO kvs k=some v->Q v H3)/\(CO kvs k=none->Q z (upd H3 a (.dK (Fd kvs k z))))
theorem R0 {X:Cx}{o e f:Expr}{td ty tx:TE}{apos cpos:Pos}(ho:PE X o td)(he:PE X e ty)(hf:PE X f tx)(m:M2 X o "setdefault" apos e f cpos):PE X (.Call (.Attribute o "setdefault" apos) [e,f] [] cpos) (OY td ty tx):=by
 intro pins s σ H Q I h
 refine wpAny_Call_method m.base m.few m.line PySem.F.plainAttrs_dict W2 PySem.F.type_dict_setdefault (As (ho pins s σ H _ I h) fun u s1 zz=>?_)
 obtain⟨x,H1,I1,rx,a,ex,d,q1⟩:=zz
 subst ex
 obtain rfl:u=Value.ref a:=rx
 obtain⟨t1,t2,_⟩:=Vz I1 d
 refine⟨t1,t2,?_⟩
 rw[m.trees]
 refine Calls.callWith_builtin rfl (Calls.evalArgs_plain (Calls.spliced_cons (As (he pins s1 σ H1 _ I1 q1) fun iv s2 ⟨y,H2,I2,ry,q2⟩=>
  Calls.spliced_cons (As (hf pins s2 σ H2 _ I2 q2) fun fv s3 ⟨z,H3,I3,rz,kvs,k,ea,ey,hz,q3,q4⟩=>Calls.spliced_nil ?_))))
 subst ey
 exact PH I3 ea ry rz hz (fun v w' s4 l I4 rw'=>⟨v,H3,I4,rw',q3 v l⟩) fun l s4 I4=>⟨z,_,I4,rz,q4 l⟩
def Lc (P:Program)(w:World)(K:Xa)(a:Addr)(kvs:List (Bb×V)):Prop:=
 (a==sysModules)=false/\∀h:Heap,K.In h->∃vs,KV kvs vs/\h.DictOf (Dv P w) a vs
def Q9 (P:Program)(w:World)(K:Xa)(td ty:TE):TE:=fun σ H Q=>td σ H fun x H1=>ty σ H1 fun y H2=>∃a kvs k v,x = .ref a/\Lc P w K a kvs/\y=kV k/\CO kvs k=some v/\Q v H2
theorem Je {X:Cx}{o i:Expr}{pos:Pos}{td ty:TE}(ho:PE X o td)(hi:PE X i ty)(hs:NP i):PE X (.Subscript o i pos) (Q9 X.prog X.w X.K td ty):=by
 intro pins s σ H Q I h
 refine VJ PySem.F.slot_dict_getitem.lookup hs (As (ho pins s σ H _ I h) fun u s1 zz=>?_)
 obtain⟨x,H1,I1,rx,q1⟩:=zz
 refine As (hi pins s1 σ H1 _ I1 q1) fun iv s2 zz=>?_
 obtain⟨y,H2,I2,ry,a,kvs,k,v,ex,g,ey,l,q2⟩:=zz
 subst ex ey
 obtain rfl:u=Value.ref a:=rx
 obtain⟨vs,rel,dd⟩:=g.2 s2.heap I2.kIn
 obtain⟨w',hw,rw'⟩:=Fb.some_of (v:=v) (o:=valueAt vs k) (by rw[←l];exact rel.val k)
 exact⟨dd.typeIs,wpAny_getItem_of (Jl ry) dd.mapOf hw ⟨v,H2,I2.tok _,rw',q2⟩⟩
theorem To {P:Program}{w:World}{K:Xa}{u:Addr}{ep:Nat}{x0 x1 x2 x3:Str}{y0 y1 y2 y3:Int}{h0 h1 h2 h3:Int}{t0 t1 t2 t3 s0 s1 s2 s3:Tok}
  (q:K.lookup u=some ⟨.type "dict",none,.dict #[⟨h0,.str x0 t0,.int y0 s0⟩,⟨h1,.str x1 t1,.int y1 s1⟩,⟨h2,.str x2 t2,.int y2 s2⟩,⟨h3,.str x3 t3,.int y3 s3⟩] ep,#[]⟩) (e0:h0=hashStr w x0) (e1:h1=hashStr w x1) (e2:h2=hashStr w x2) (e3:h3=hashStr w x3) (sm:(u==sysModules)=false)
  (nd:[x0,x1,x2,x3].Nodup):Lc P w K u [(.inr x0,.int y0),(.inr x1,.int y1),(.inr x2,.int y2),(.inr x3,.int y3)]:=⟨sm,fun h X=>by
 subst e0 e1 e2 e3
 have is:∀(x:Str) (t:Tok),(Dv P w).is (.inr x) (.str x t)=true:=fun x t=>Jl (k:=.inr x) ⟨t,rfl⟩
 refine⟨[(.inr x0,.int y0 s0),(.inr x1,.int y1 s1),(.inr x2,.int y2 s2),(.inr x3,.int y3 s3)],.cons ⟨rfl,⟨_,rfl⟩⟩ (.cons ⟨rfl,⟨_,rfl⟩⟩ (.cons ⟨rfl,⟨_,rfl⟩⟩ (.cons ⟨rfl,⟨_,rfl⟩⟩ .nil))),_,_,_,X _ _ q,⟨rfl,rfl,rfl⟩,rfl,fun e he=>?_,.cons (is _ _) rfl (.cons (is _ _) rfl (.cons (is _ _) rfl (.cons (is _ _) rfl .nil))),?_⟩
 .simp only[List.mem_toArray,AQ,CL,or_false]at he
  rcases he with rfl|rfl|rfl|rfl
  .exact⟨.inr x0,is _ _,rfl⟩
  .exact⟨.inr x1,is _ _,rfl⟩
  .exact⟨.inr x2,is _ _,rfl⟩
  .exact⟨.inr x3,is _ _,rfl⟩
 .simp only[BS,K2,G5,AQ,CL,or_false,not_or,Sum.inr.injEq,OT,List.nodup_nil,and_true]at nd ⊢
  exact nd⟩
section
variable {X:Cx}
def JI (K:Xa)(neg:Bool):R2:=fun x y H Q=>∃p q xs,x = .ref p/\y = .ref q/\A3 K H p xs/\A3 K H q []/\Q (.bl (if neg then !xs.isEmpty else xs.isEmpty)) H
theorem On {neg:Bool}(hu:X.A.units+64<cLine):Bq X (compareOp (if neg then .NotEq else .Eq)) (JI X.K neg):=by
 intro pins s σ H x y v u Q I rx ry h
 obtain⟨p,q,xs,rfl,rfl,hp,hq,q'⟩:=h
 cases rx;cases ry
 have key:SeqAt.RcAt X.A s (.ref p) (.ref q) xs.isEmpty/\SeqAt.RcNeAt X.A s (.ref p) (.ref q) (!xs.isEmpty):=by
  obtain⟨its,rv,pl,_⟩:=I.list hp
  obtain⟨jts,rv',pl',_⟩:=I.list hq
  have l1:=rv.length
  have l2:0=jts.length:=rv'.length
  cases xs with
  |
   nil=>
   have l1:0=its.length:=l1
   have hsz:its.toArray.size=jts.toArray.size:=by rw[B8,B8];omega
   have a:=SeqAt.RcAt.lists (A:=X.A) (e:=fun _=>true) pl.isList pl'.isList hsz (by omega) (fun j u v=>absurd u (by rw[B8];omega))
   have b:=SeqAt.RcNeAt.lists (A:=X.A) (e:=fun _=>true) pl.isList pl'.isList hsz (by omega) (fun j u v=>absurd u (by rw[B8];omega))
   have e:its.toArray.size=0:=by rw[B8];omega
   rw[e]at a b
   exact⟨a,b⟩
  |
   cons x0 xs=>
   rw[AW]at l1
   have hne:(its.toArray.size != jts.toArray.size)=true:=by
    rw[B8,B8]
    simp only[Eh,ne_eq];omega
   exact⟨SeqAt.RcAt.lists_lengths pl.isList pl'.isList hne (by omega),SeqAt.RcNeAt.lists_lengths pl.isList pl'.isList hne (by omega)⟩
 cases neg with
 |false=>exact key.1 X.prog X.w X.xe _ ⟨.bl _,H,I,rfl,q'⟩
 |true=>exact key.2 X.prog X.w X.xe _ ⟨.bl _,H,I,rfl,q'⟩
theorem KF (hu:X.A.units+64<cLine):Bq X (compareOp .Eq) (JI X.K false):=On (neg:=false) hu
theorem Hs (hu:X.A.units+64<cLine):Bq X (compareOp .NotEq) (JI X.K true):=On (neg:=true) hu
end
end L2
namespace Bd
end Bd
namespace L2
open PySem PySem.Spec PyProof.Rows Bd
section
variable {es:List Expr}{env:Env}{p:Pos}
theorem Dx {c:Const}{n:Nat}:starEach (.Constant c n p::es) env=(false,eval (.Constant c n p) env)::starEach es env:=rfl
theorem F1 {x:Str}:starEach (.Name x p::es) env=(false,eval (.Name x p) env)::starEach es env:=rfl
theorem L7 {a b:Expr}{o:Operator}:starEach (.BinOp a o b p::es) env=(false,eval (.BinOp a o b p) env)::starEach es env:=rfl
theorem L4 {f:Expr}{as:List Expr}{ks:List Keyword}:starEach (.Call f as ks p::es) env=(false,eval (.Call f as ks p) env)::starEach es env:=rfl
theorem FI {a b:Expr}:starEach (.Subscript a b p::es) env=(false,eval (.Subscript a b p) env)::starEach es env:=rfl
theorem Gu {as:List Expr}{n:Nat}:starEach (.Tuple as n p::es) env=(false,eval (.Tuple as n p) env)::starEach es env:=rfl
end
@[irreducible] def F4 (X:Cx) (es:List Expr) (t:TA):Prop:=PA X es t
section
variable {X:Cx}{e:Expr}{es:List Expr}{te:TE}{t:TA}{pos:Pos}
theorem DR:F4 X [] Fz:=by unfold F4;exact A2
theorem Bc (ha:PE X e te)(hr:F4 X es t)(hs:starEach (e::es) X.env=(false,eval e X.env)::starEach es X.env):F4 X (e::es) (FS te t):=by unfold F4 at *;exact A0 ha hr hs
theorem NQ (h:F4 X es t):PE X (.List es pos) (KR t):=by unfold F4 at h;exact Bl h
theorem Em {x1:Nat}(h:F4 X es t):PE X (.Tuple es x1 pos) (Oe t):=by unfold F4 at h;exact CU h
end
theorem Ox {c:TT}{tb:TS}{D:D9}{σ:St}{H:Hp}(k:Nat)(Pv:Nat->St->Hp->Prop)(h0:Pv 0 σ H)
  (hs:∀i σ H,i<=k->Pv i σ H->c σ H fun b H1=>if b=true then i<k/\tb {D with nx:=Pv (i+1),ct:=Pv (i+1),bk:=D.nx} σ H1 else D.nx σ H1)
  (mono:∀σ H Q Q',(∀b H1,Q b H1->Q' b H1)->c σ H Q->c σ H Q'):Jd c tb D σ H:=by
 refine⟨fun m σ H=>∃i,i<=k/\m=k-i/\Pv i σ H,⟨_,0,BC _,rfl,h0⟩,?_⟩
 rintro m σ H ⟨i,hi,rfl,p⟩
 refine mono σ H _ _ (fun b H1 q=>?_) (hs i σ H hi p)
 cases b with
 |true=>exact⟨Pv (i+1),fun σ' H' p'=>⟨k-(i+1),by have:=q.1;omega,i+1,by have:=q.1;omega,rfl,p'⟩,q.2⟩
 |false=>exact q
end L2
namespace Bd
end Bd
namespace L2
open PySem PySem.Spec PyProof.Rows
section
open Bd
end
section
open Bd
end
def IX (C:Addr)(fs:List Str):Sp:=fun as H Q _=>∃(x dx:Addr) (vs:List V),as = .ref x::vs/\vs.length=fs.length/\H x=some (.ins C dx [])/\∀H',(∀b o,H b=some o->b≠x->H' b=some o)->(∃dx,H' x=some (.ins C dx (fs.zip vs)))->Q .non H'
structure Cs where
 n:Addr
 v:Addr
 c:Addr
 j:Addr
end L2
namespace PySem
open Builtin
open AutoSeq1 (wpAny_loadPart')
end PySem
namespace L2
open PySem PySem.Spec PyProof.Rows
section
variable {X:Cx}
end
section
open Bd
theorem dS {x y:Str}(h:x≠y):decide (V.str x=V.str y)=false:=BI fun e=>h (V.str.inj e)
theorem Qz {K:Xa}{a:Addr}{xs:List V}{ρ:List (Option Nat)}{g:TG}{tt:TT}{te:TE}{σ:St}{H:Hp}{Q:VK}(Pv:Nat->List V->Hp->Prop)(h0:Pv 0 [] H)(hlen:xs.length<=sizeLine)(hl:∀i ys H,i<=xs.length->Pv i ys H->A3 K H a xs/\ys.length<=i)
  (hs:∀i x ys H,xs[i]?=some x->Pv i ys H->g x (BK ρ σ) H fun σ2 H3=>Im ρ σ σ2/\tt σ2 H3 fun ok H4=>if ok=true then te σ2 H4 fun v H5=>Pv (i+1) (ys++[v]) H5 else Pv (i+1) ys H4)
  (hd:∀ys H,Pv xs.length ys H->∀p,H p=none->Q (.ref p) (upd H p (.lst ys))):FQ ρ g tt te σ Q (FM K a) H:=by
 refine⟨fun i m ys H=>m=xs.length-i/\i<=xs.length/\Pv i ys H,⟨_,rfl,BC _,h0⟩,?_⟩
 rintro i m ys H ⟨rfl,hi,p⟩
 obtain⟨hq,hy⟩:=hl i ys H hi p
 by_cases hlt:i<xs.length
 .refine .inr ⟨⟨xs,xs[i],hq,by simp[hlt]⟩,by omega,Pv (i+1),fun ys' H'' p'=>⟨xs.length-(i+1),by omega,rfl,hlt,p'⟩,fun x H' y=>?_⟩
  obtain⟨e,y2⟩:=y
  subst e
  exact hs i x ys _ (y2 xs hq) p
 .have e:i=xs.length:=by omega
  subst e
  exact .inl ⟨⟨xs,hq,Ai _⟩,by omega,hd ys H p⟩
end
section
open PySem.SeqAt
open PySem.AutoSeq1 (wpAny_loadPart')
open PySem.MeetsSeq PySem.MeetsSeq2 PySem.MeetsSeq3
end
section
variable {prog:Program}{w:World}{A:Around}{E:Value->Shared->Prop}{s:Shared}
end
section
variable {prog:Program}{w:World}{A:Around}{E:Value->Shared->Prop}{s:Shared}
end
end L2
namespace Fo
variable {W L:Type}
section
variable (hdr:Nat->Bool->W->L)(dl:Nat->Int->List (Int×Int)->L)
end
end Fo
namespace Fo
variable {W L:Type}
end Fo
namespace L2
open PySem PySem.Spec PyProof.Rows
def AC {α:Type}(R:V->α->Prop)(xs:List V)(as:List α):Prop:=xs.length=as.length/\∀(i:Nat) (x:V) (a:α),xs[i]?=some x->as[i]?=some a->R x a
theorem AC.nil {α:Type}{R:V->α->Prop}:AC R [] []:=⟨rfl,fun i x a h=>by simp at h⟩
theorem AC.mono {α:Type}{R S:V->α->Prop}{xs:List V}{as:List α}(h:AC R xs as)(m:∀x a,R x a->S x a):AC S xs as:=⟨h.1,fun i x a p q=>m _ _ (h.2 i x a p q)⟩
theorem AC.get {α:Type}{R:V->α->Prop}{xs:List V}{as:List α}{i:Nat}{a:α}(h:AC R xs as)(ha:as[i]?=some a):∃x,xs[i]?=some x/\R x a:=by
 have hi:i<xs.length:=by rw[h.1];exact(BM.mp ha).1
 exact⟨_,Bg hi,h.2 i _ a (Bg hi) ha⟩
theorem AC.get' {α:Type}{R:V->α->Prop}{xs:List V}{as:List α}{i:Nat}{x:V}(h:AC R xs as)(hx:xs[i]?=some x):∃a,as[i]?=some a/\R x a:=by
 have hi:i<as.length:=by rw[←h.1];exact(BM.mp hx).1
 exact⟨_,Bg hi,h.2 i x _ hx (Bg hi)⟩
theorem AC.app {α:Type}{R:V->α->Prop}{xs ys:List V}{as bs:List α}(h:AC R xs as)(g:AC R ys bs):AC R (xs++ys) (as++bs):=by
 refine⟨by rw[Au,Au,h.1,g.1],fun i x a p q=>?_⟩
 by_cases l:i<xs.length
 .rw[DM l]at p
  rw[DM (by rw[←h.1];exact l)]at q
  exact h.2 i x a p q
 .rw[E5 (by omega)]at p
  rw[E5 (by have:=h.1;omega)]at q
  rw[h.1]at p
  exact g.2 _ x a p q
theorem AC.one {α:Type}{R:V->α->Prop}{x:V}{a:α}(h:R x a):AC R [x] [a]:=⟨rfl,fun i y b p q=>by
 cases i with
 |zero=>cases p;cases q;exact h
 |succ i=>simp at p⟩
theorem AC.snoc {α:Type}{R:V->α->Prop}{xs:List V}{as:List α}{x:V}{a:α}(h:AC R xs as)(g:R x a):AC R (xs++[x]) (as++[a]):=h.app (.one g)
theorem AC.cons {α:Type}{R:V->α->Prop}{xs:List V}{as:List α}{x:V}{a:α}(g:R x a)(h:AC R xs as):AC R (x::xs) (a::as):=AC.app (.one g) h
def TK (H H':Hp):Prop := ∀(b:Addr) (xs:List V),H b=some (.tup xs)->H' b=some (.tup xs)
theorem TK.trans {H H' H'':Hp}(a:TK H H')(b:TK H' H''):TK H H'':=fun x xs h=>b x xs (a x xs h)
theorem A7.tk {H H':Hp}(e:A7 H H'):TK H H':=fun b xs h=>e b _ h
theorem TK.upd {H:Hp}{l:Addr}{xs:List V}{o:HO}(hl:H l=some (.lst xs)):TK H (upd H l o):=fun b ys hb=>by
 rw[A8 (CY hb hl (by intro z;cases z))]
 exact hb
theorem IH (z:Str):∀(x:Str) (ys:List Str),cds (Txt.join z (x::ys))=cds x++(ys.map fun y=>cds z++cds y).flatten:=by
 intro x ys
 show cds (Builtin.Str.glued z (x::ys))=_
 rw[StrLaws.glued_eq_join]
 induction ys generalizing x with
 |nil=>simp[Str.join]
 |
  cons y r ih=>
  show cds (x++z++Str.join z (y::r))=_
  rw[AN,AN,ih]
  simp
theorem KP {i:Int}(h:i<0):Str.ofString (toString i)="-"++Str.ofString (toString (0-i)):=by
 cases i with
 |ofNat n=>exact absurd h (by simp)
 |
  negSucc n=>
  have e:(0-Int.negSucc n)=((n+1:Nat):Int):=by omega
  rw[e]
  refine DK ?_
  rw[AN]
  show((Str.ofString ("-"++Nat.repr (n+1))).cps).toList=_
  have ap:∀a b:String,cds (Str.ofString (a++b))=cds (Str.ofString a)++cds (Str.ofString b):=fun a b=>by
   simp[cds,Str.ofString_eq_toList]
  exact ap "-" (Nat.repr (n+1))
theorem PU {i:Int}(h0 : -999999999999999999<=i)(h1:i<=999999999999999999):(Str.ofString (toString i)).length<=19:=by
 by_cases c:i<0
 .rw[KP c,←cds_len,AN,Au,cds_len,cds_len]
  have:=OJ (v:=0-i) (by omega) (k:=18) (by decide) (by show 0-i<10 ^ 18;omega)
  have e:("-":Str).length=1:=by decide +kernel
  omega
 .have:=OJ (v:=i) (by omega) (k:=18) (by decide) (by show i<10 ^ 18;omega)
  omega
theorem AX (x y:Str):(x++y).length=x.length+y.length:=by rw[←cds_len,AN,Au,cds_len,cds_len]
theorem IC {i:Int}(h0 : -999999999999999999<=i)(h1:i<=999999999999999999):i.natAbs.log2<1920:=by
 by_cases z:i.natAbs=0
 .rw[z];decide
 .have:i.natAbs<2 ^ 64:=by omega
  have:=(Nat.log2_lt z).mpr this
  omega
theorem RG {ys:List Str}{c:Nat}(h:∀y∈ys,y.length<=c):(ys.map (·.length)).sum<=c*ys.length:=by
 induction ys with
 |nil=>exact BC _
 |
  cons y ys ih=>
  have h1:=ih fun z hz=>h z (BH _ hz)
  have h2:=h y AY
  rw[BS,LP,AW,Nat.mul_succ]
  omega
theorem NM (z:Str)(ys:List Str):(Txt.join z ys).length<=(ys.map (·.length)).sum+ys.length*z.length:=by
 show(Builtin.Str.glued z ys).length<=_
 rw[StrLaws.glued_eq_join]
 exact StrLaws.join_length_le z ys
def ME (t:TE):Prop := ∀(σ:St) (H:Hp) (Q Q':VK),(∀v H1,Q v H1->Q' v H1)->t σ H Q->t σ H Q'
def MT (t:TT):Prop := ∀σ H Q Q',(∀b H1,Q b H1->Q' b H1)->t σ H Q->t σ H Q'
def MA (t:TA):Prop := ∀σ H Q Q',(∀b H1,Q b H1->Q' b H1)->t σ H Q->t σ H Q'
def MR (r:R2):Prop := ∀(x y:V) (H:Hp) (Q Q':VK),(∀v H1,Q v H1->Q' v H1)->r x y H Q->r x y H Q'
def MB (r:List V->Hp->VK->Prop):Prop := ∀(vs:List V) (H:Hp) (Q Q':VK),(∀v H1,Q v H1->Q' v H1)->r vs H Q->r vs H Q'
theorem ME.var (i:Nat):ME (Ej i):=fun σ H Q Q' hq zz=>by obtain⟨v,h,k⟩:=zz;exact⟨v,h,hq _ _ k⟩
theorem ME.c (v:V):ME (tC v):=fun σ H Q Q' hq h=>hq _ _ h
theorem ME.op {r:R2}{a b:TE}(hr:MR r)(ha:ME a)(hb:ME b):ME (EL r a b):=fun σ H Q Q' hq h=>ha _ _ _ _ (fun x H1 k=>hb _ _ _ _ (fun y H2 k=>hr _ _ _ _ _ hq k) k) h
theorem ME.lst {t:TA}(h:MA t):ME (KR t):=fun σ H Q Q' hq k=>h _ _ _ _ (fun xs H1 m=>⟨m.1,fun p hp=>hq _ _ (m.2 p hp)⟩) k
theorem ME.cb {r:List V->Hp->VK->Prop}{t:TA}(hr:MB r)(h:MA t):ME (JK r t):=fun σ H Q Q' hq k=>h _ _ _ _ (fun xs H1 m=>hr _ _ _ _ hq m) k
theorem MA.nil:MA Fz:=fun σ H Q Q' hq h=>hq _ _ h
theorem MA.cons {t:TE}{u:TA}(ht:ME t)(hu:MA u):MA (FS t u):=fun σ H Q Q' hq h=>ht _ _ _ _ (fun x H1 k=>hu _ _ _ _ (fun xs H2 m=>hq _ _ m) k) h
theorem MT.test {t:TE}(h:ME t):MT (Me t):=fun σ H Q Q' hq k=>h _ _ _ _ (fun x H1 ⟨b,e,m⟩=>⟨b,e,hq _ _ m⟩) k
theorem MR.i0 (g:Int->Int->V):MR (F8 g):=fun x y H Q Q' hq zz=>by obtain⟨i,j,a,b,d⟩:=zz;exact⟨i,j,a,b,hq _ _ d⟩
theorem MB.len {P R:Hp->Addr->List V->Prop}:MB (fun xs H Q=>∃p ys,xs=[V.ref p]/\(P H p ys\/R H p ys)/\Q (V.int (ys.length:Int)) H):=fun vs H Q Q' hq zz=>by obtain⟨p,ys,a,b,c⟩:=zz;exact⟨p,ys,a,b,hq _ _ c⟩
theorem Vy {v:V}{i:Nat}{b:TS}{D:D9}{σ:St}{H:Hp}(h:b D (σ.set i (some v)) H):DH (FP (tC v) (Ar i)) b D σ H:=h
end L2
namespace HT
open PySem PySem.Spec PyProof.Rows L2
section
variable {prog:Program}{w:World}{A:Around}{E:Value->Shared->Prop}{s:Shared}
end
end HT
namespace L2
open PySem PySem.Spec PyProof.Rows
set_option genInjectivity true in
inductive Tw where
 |n (i:Int)
 |v (z:Str)
 |c (z:Str) (sp:List (Str×Int))
 |j (z:Str) (l r:Tw)
def nS (i:Int):Str:=Str.ofString (toString i)
def B6 (s:Str×Int):Str:=if s.1="" then nS s.2 else if s.2=0 then s.1 else if 0<s.2 then s.1++"+"++nS s.2 else s.1++nS s.2
def Dd (s:Str×Int):Str:="["++B6 s++"]"
def Ba (z:Str)(sp:List (Str×Int)):Str:=z++Txt.join "" (sp.map Dd)
def EJ (b:Bool)(x:Str):Str:=if b=true then"("++x++")" else x
def hz (z:Str):Nat:=if z="*" then 2 else 1
namespace Tw
def hld:Tw->Nat
 |.j z _ _=>hz z
 |_=>3
def wr:Tw->Str
 |.n i=>nS i
 |.v z=>z
 |.c z sp=>Ba z sp
 |.j z l r=>EJ (decide (hld l<hz z)) (wr l)++z++EJ (decide (hld r<=hz z)) (wr r)
def sz:Tw->Nat
 |.j _ l r=>sz l+sz r
 |_=>1
end Tw
def EN:List Str:=["+","-","*"]
def ER (s:Str×Int):Prop:=s.1.length<=20/\-999999999999999999<=s.2/\s.2<=999999999999999999
def Tw.Ok:Tw->Prop
 |.n i=>0<=i/\i<=999999999999999999
 |.v z=>z.length<=20
 |.c z sp=>z.length<=20/\sp.length<=3/\∀s∈sp,ER s
 |.j z l r=>z∈EN/\Tw.Ok l/\Tw.Ok r
theorem Tw.sz_pos:∀t:Tw,1<=t.sz
 |.n _=>Ai _
 |.v _=>Ai _
 |.c _ _=>Ai _
 |.j _ l r=>C5 (Tw.sz_pos l) (OK _ _)
theorem Il {i:Int}(h0 : -999999999999999999<=i)(h1:i<=999999999999999999):(nS i).length<=19:=PU h0 h1
theorem UF:("+":Str).length=1:=by decide +kernel
theorem Fe {s:Str×Int}(h:ER s):(B6 s).length<=40:=by
 obtain⟨a,b,c⟩:=h
 have h1:=Il b c
 have h2:=UF
 unfold B6
 split
 .omega
 .split
  .omega
  .split
   .rw[AX,AX];omega
   .rw[AX];omega
theorem SM {s:Str×Int}(h:ER s):(Dd s).length<=42:=by
 have h1:=Fe h
 have h2:("[":Str).length=1:=by decide +kernel
 have h3:("]":Str).length=1:=by decide +kernel
 unfold Dd
 rw[AX,AX]
 omega
theorem S8:("":Str).length=0:=by decide +kernel
theorem MO {sp:List (Str×Int)}(hl:sp.length<=3)(h:∀s∈sp,ER s):((sp.map Dd).map (·.length)).sum+(sp.map Dd).length*("":Str).length<=126:=by
 have h1:=RG (ys:=sp.map Dd) (c:=42) fun y hy=>by
  obtain⟨s,hs,rfl⟩:=DE.mp hy
  exact SM (h s hs)
 rw[S8,Nat.mul_zero]
 rw[Ap]at h1
 omega
theorem Gq {z:Str}{sp:List (Str×Int)}(hz:z.length<=20)(hl:sp.length<=3)(h:∀s∈sp,ER s):(Ba z sp).length<=146:=by
 have h1:=NM "" (sp.map Dd)
 have h2:=MO hl h
 unfold Ba
 rw[AX]
 omega
theorem JD (b:Bool)(x:Str):(EJ b x).length<=x.length+2:=by
 have h2:("(":Str).length=1:=by decide +kernel
 have h3:(")":Str).length=1:=by decide +kernel
 unfold EJ
 split
 .rw[AX,AX];omega
 .omega
theorem Ng {z:Str}(h:z∈EN):z.length<=1:=by
 have:∀w∈EN,w.length<=1:=by decide +kernel
 exact this z h
theorem Tw.wr_len:∀{t:Tw},t.Ok->t.wr.length+5<=200*t.sz
 |
  .n i,h=>by
  have:=Il (i:=i) (by have:=h.1;omega) h.2
  show(nS i).length+5<=200*1
  omega
 |
  .v z,h=>by
  have h:z.length<=20:=h
  show z.length+5<=200*1
  omega
 |
  .c z sp,h=>by
  have:=Gq h.1 h.2.1 h.2.2
  show(Ba z sp).length+5<=200*1
  omega
 |
  .j z l r,h=>by
  obtain⟨h0,h1,h2⟩:=h
  have a1:=Tw.wr_len h1
  have a2:=Tw.wr_len h2
  have a0:=Ng h0
  have b1:=JD (decide (hld l<hz z)) (wr l)
  have b2:=JD (decide (hld r<=hz z)) (wr r)
  show(EJ (decide (hld l<hz z)) (wr l)++z++EJ (decide (hld r<=hz z)) (wr r)).length+5<=200*(sz l+sz r)
  rw[AX,AX]
  omega
theorem Rc {s:Str×Int}(h1:¬s.1="")(h2:¬s.2=0):B6 s=s.1++(if s.2<0 then("-":Str) else"+")++nS (if s.2<0 then -s.2 else s.2):=by
 unfold B6
 rw[Ae h1,Ae h2]
 by_cases c:s.2<0
 .rw[Ae (by omega),Ag c,Ag c]
  unfold nS
  rw[KP c,show(0-s.2) = -s.2 by omega]
  exact DK (by rw[AN,AN,AN,AN,Co])
 .rw[Ag (by omega),Ae c,Ae c]
def BY (H:Hp)(x:V)(s:Str×Int):Prop := ∃t,x = .ref t/\H t=some (.tup [.str s.1,.int s.2])
def Ee (H:Hp)(p:Addr)(sp:List (Str×Int)):Prop := ∃xs,H p=some (.tup xs)/\AC (BY H) xs sp
theorem BY.tk {H H':Hp}{x:V}{s:Str×Int}(k:TK H H')(h:BY H x s):BY H' x s:=by obtain⟨t,e,h⟩:=h;exact⟨t,e,k _ _ h⟩
theorem Ee.tk {H H':Hp}{p:Addr}{sp:List (Str×Int)}(k:TK H H')(h:Ee H p sp):Ee H' p sp:=by obtain⟨xs,e,h⟩:=h;exact⟨xs,k _ _ e,h.mono fun _ _ z=>z.tk k⟩
def E9 (H:Hp):Tw->V->Prop
 |.n i,x=>∃t,x = .ref t/\H t=some (.tup [.str "n",.int i])
 |.v z,x=>∃t,x = .ref t/\H t=some (.tup [.str "v",.str z])
 |.c z sp,x=>∃t p,x = .ref t/\H t=some (.tup [.str "c",.str z,.ref p])/\Ee H p sp
 |.j z l r,x=>∃t a b,x = .ref t/\H t=some (.tup [.str z,a,b])/\E9 H l a/\E9 H r b
theorem E9.tk {H H':Hp}(k:TK H H'):∀{t:Tw} {x:V},E9 H t x->E9 H' t x
 |.n i,x,h=>by obtain⟨t,e,h⟩:=h;exact⟨t,e,k _ _ h⟩
 |.v z,x,h=>by obtain⟨t,e,h⟩:=h;exact⟨t,e,k _ _ h⟩
 |.c z sp,x,h=>by obtain⟨t,p,e,h,g⟩:=h;exact⟨t,p,e,k _ _ h,g.tk k⟩
 |.j z l r,x,h=>by obtain⟨t,a,b,e,h,g1,g2⟩:=h;exact⟨t,a,b,e,k _ _ h,E9.tk k g1,E9.tk k g2⟩
def Bt (c:Cs)(H:Hp):Tw->V->Prop
 |.n i,x=>∃t dx,x = .ref t/\H t=some (.ins c.n dx [("n",.int i)])
 |.v z,x=>∃t dx,x = .ref t/\H t=some (.ins c.v dx [("name",.str z)])
 |.c z sp,x=>∃t dx p,x = .ref t/\H t=some (.ins c.c dx [("table",.str z),("spots",.ref p)])/\Ee H p sp
 |.j z l r,x=>∃t dx a b,x = .ref t/\H t=some (.ins c.j dx [("sign",.str z),("left",a),("right",b)])/\Bt c H l a/\Bt c H r b
theorem Bt.over {c:Cs}{H H':Hp}(e:A7 H H'):∀{t:Tw} {x:V},Bt c H t x->Bt c H' t x
 |.n i,x,h=>by obtain⟨t,dx,r,h⟩:=h;exact⟨t,dx,r,e _ _ h⟩
 |.v z,x,h=>by obtain⟨t,dx,r,h⟩:=h;exact⟨t,dx,r,e _ _ h⟩
 |.c z sp,x,h=>by obtain⟨t,dx,p,r,h,g⟩:=h;exact⟨t,dx,p,r,e _ _ h,g.tk (A7.tk e)⟩
 |.j z l r,x,h=>by obtain⟨t,dx,a,b,r,h,g1,g2⟩:=h;exact⟨t,dx,a,b,r,e _ _ h,Bt.over e g1,Bt.over e g2⟩
def DD (H:Hp)(x:V)(t:Tw):Prop := ∃p y,x = .ref p/\H p=some (.tup [.str t.wr,.int (t.hld:Int),y])/\E9 H t y
theorem DD.tk {H H':Hp}{x:V}{t:Tw}(k:TK H H')(h:DD H x t):DD H' x t:=by obtain⟨p,y,e,h,g⟩:=h;exact⟨p,y,e,k _ _ h,g.tk k⟩
def SA:Sp:=fun vs H Q _=>∃(x:V) (s:Str×Int),vs=[x]/\BY H x s/\ER s/\Q (.str (B6 s)) H
def Ut:Sp:=fun vs H Q _=>∃(z:Str) (x y:V) (l r:Tw),vs=[.str z,x,y]/\z∈EN/\DD H x l/\DD H y r/\l.Ok/\r.Ok/\l.sz+r.sz<=100/\∀(v:V) (H':Hp),A7 H H'->DD H' v (.j z l r)->Q v H'
structure F2 (H:Hp)(xs:List V)(ts:List Tw)(N:Nat):Prop where
 at':AC (DD H) xs ts
 ok:∀t∈ts,t.Ok
 sum:(ts.map Tw.sz).sum<=N
theorem F2.len {H:Hp}{xs:List V}{ts:List Tw}{N:Nat}(h:F2 H xs ts N):xs.length<=N:=by
 rw[h.at'.1]
 have:∀l:List Tw,l.length<=(l.map Tw.sz).sum:=fun l=>by
  induction l with
  |nil=>exact Ai _
  |cons t l ih=>have:=t.sz_pos;rw[BS,LP,AW];omega
 exact C5 (this ts) h.sum
theorem F2.push {H:Hp}{xs:List V}{ts:List Tw}{N:Nat}{x:V}{t:Tw}(h:F2 H xs ts N)(hx:DD H x t)(ht:t.Ok){M:Nat}(hM:N+t.sz<=M):F2 H (xs++[x]) (ts++[t]) M:=⟨h.at'.snoc hx,fun u hu=>by
 rcases Bj.mp hu with z|z
 .exact h.ok u z
 .rw[E6.mp z];exact ht,by
 have:=h.sum
 rw[B3,List.sum_append]
 show _+(t.sz+0)<=M
 omega⟩
theorem F2.pop {H:Hp}{xs:List V}{ts:List Tw}{N:Nat}(h:F2 H xs ts N)(hl:0<xs.length):∃ys x us t M,xs=ys++[x]/\ts=us++[t]/\F2 H ys us M/\DD H x t/\t.Ok/\M+t.sz<=N:=by
 obtain⟨n,hn⟩:∃n,xs.length=n+1:=⟨xs.length-1,by omega⟩
 obtain⟨ys,x,rfl,yl⟩:=F5 hn
 obtain⟨us,t,rfl,ul⟩:=F5 (h.at'.1.symm.trans hn)
 have hs:=h.sum
 rw[B3,List.sum_append]at hs
 have hs:(us.map Tw.sz).sum+(t.sz+0)<=N:=hs
 refine⟨ys,x,us,t,(us.map Tw.sz).sum,rfl,rfl,⟨⟨by omega,fun i x' t' a b=>?_⟩,fun u hu=>h.ok u (HX _ hu),Ai _⟩,?_,h.ok t (by simp),by omega⟩
 .exact h.at'.2 i x' t' (by rw[DM (BM.mp a).1];exact a) (by rw[DM (BM.mp b).1];exact b)
 .exact h.at'.2 ys.length x t (by rw[E5 (Ai _),EC];rfl) (by rw[yl,←ul,E5 (Ai _),EC];rfl)
theorem C9 {ys:List V}{x:V}:(ys++[x])[(ys++[x]).length-1]?=some x/\(ys++[x]).dropLast=ys:=by
 refine⟨?_,List.dropLast_concat⟩
 rw[Au,BD,Nat.add_sub_cancel,E5 (Ai _),EC]
 rfl
theorem Oy (c:Int){far:Int}(h:far=999999999999999999) : -999999999999999999<=Fn c far/\Fn c far<=999999999999999999:=by
 subst h
 unfold Fn
 split
 .have:=BU (c/3) (show(7:Int)≠0 by decide)
  have:=C0 (c/3) (show(0:Int)<7 by decide)
  omega
 .have:=BU (c/3) (show(2*999999999999999999+1:Int)≠0 by decide)
  have:=C0 (c/3) (show(0:Int)<2*999999999999999999+1 by decide)
  omega
theorem Qc {z:Str}(h:z∈EN):z≠"n"/\z≠"v"/\z≠"c":=by
 have:∀w∈EN,w≠"n"/\w≠"v"/\w≠"c":=by decide +kernel
 exact this z h
theorem NO {i:Int}(h0:0<=i)(h1:i<3):∃c:Nat,Bz (cds (Str.ofString "+-*")) i=some c/\(⟨#[c]⟩:Str)∈EN:=by
 have:i=0\/i=1\/i=2:=by omega
 rcases this with rfl|rfl|rfl
 .exact⟨43,by decide +kernel,by decide +kernel⟩
 .exact⟨45,by decide +kernel,by decide +kernel⟩
 .exact⟨42,by decide +kernel,by decide +kernel⟩
theorem Nf {xs:List Int}{w:List Nat}(he:xs.getD 0 0%2=0)(k:Int):(Bw xs w k).head?=w.head?:=by
 unfold Bw Gs
 rw[Ag he]
 have h0:=BU (Cf xs+3*k) (show(8:Int)≠0 by decide)
 obtain⟨m,hm⟩:∃m,(1+(Cf xs+3*k)%8).toNat=m+1:=⟨((Cf xs+3*k)%8).toNat,by omega⟩
 rw[hm]
 cases w with
 |nil=>rfl
 |cons _ _=>rfl
theorem O9 {xs:List Int}{w:List Nat}(wl:w.length=8)(he:xs.getD 0 0%2=0)(k:Int):(Bw xs w k).length=(1+(Cf xs+3*k)%8).toNat:=by
 unfold Bw Gs
 rw[Ag he,Bh,wl]
 have h0:=BU (Cf xs+3*k) (show(8:Int)≠0 by decide)
 have h1:=C0 (Cf xs+3*k) (show(0:Int)<8 by decide)
 omega
theorem UK {xs:List Int}{w:List Nat}(he:¬xs.getD 0 0%2=0)(j k:Int):(Bw xs w j).length=(Bw xs w k).length:=by
 unfold Bw FY
 rw[Ae he,Ae he]
 simp only[Au,BD]
theorem NC {xs:List Int}{w:List Nat}(wl:w.length=8)(he:¬xs.getD 0 0%2=0)(k:Int):(Bw xs w k)[(CA xs).toNat]?=some (Do (xs.getD (2+CA xs).toNat 0+k)):=by
 unfold Bw FY
 have hl:=wl
 obtain⟨a0,a1⟩:=JB xs
 obtain⟨_,l1⟩:=HG xs
 rw[Ae he,Co,E5 (by rw[Bh];omega),Bh,hl]
 rw[show(CA xs).toNat-min (CA xs).toNat 8=0 by omega]
 rfl
theorem NS {xs:List Int}{w:List Nat}(wl:w.length=8){j k:Nat}(hj:j<8)(hk:k<8)(h:j≠k):Bw xs w (j:Int)≠Bw xs w (k:Int):=fun e=>by
 by_cases he:xs.getD 0 0%2=0
 .have:=congrArg List.length e
  rw[O9 wl he,O9 wl he]at this
  omega
 .have:=congrArg (fun l:List Nat=>l[(CA xs).toNat]?) e
  rw[NC wl he,NC wl he]at this
  have:=BP this
  unfold Do at this
  omega
theorem NF {xs:List Int}{w:List Nat}(wl:w.length=8){j k:Int}(hr:Bw xs w j∈Dm):[122,122]++Bw xs w j≠Bw xs w k:=fun e=>by
 by_cases he:xs.getD 0 0%2=0
 .have:=congrArg List.head? e
  rw[Nf he]at this
  have h2:=Nf (w:=w) he j
  rw[←this]at h2
  exact Px hr h2
 .have:=congrArg List.length e
  rw[Au,UK he j k]at this
  simp at this
theorem PL {xs:List Int}{w:List Nat}(wl:w.length=8){j k:Nat}(hj:j<8)(hk:k<8)(h:j≠k):Dz xs w (j:Int)≠Dz xs w (k:Int):=fun e=>by
 unfold Dz at e
 by_cases c1:Bw xs w (j:Int)∈Dm<;>by_cases c2:Bw xs w (k:Int)∈Dm
 .rw[Ag c1,Ag c2]at e
  exact NS wl hj hk h (List.append_cancel_left e)
 .rw[Ag c1,Ae c2]at e
  exact NF wl c1 e
 .rw[Ae c1,Ag c2]at e
  exact NF wl c2 e.symm
 .rw[Ae c1,Ae c2]at e
  exact NS wl hj hk h e
theorem Pm {xs:List Int}{w:List Nat}(wl:w.length=8):((List.range 8).map fun k:Nat=>Az (Dz xs w (k:Int))).Nodup:=by
 rw[List.nodup_iff_pairwise_ne,List.pairwise_map]
 refine(List.pairwise_lt_range (n:=8)).imp_of_mem fun{i j} hi hj h=>?_
 have hi:=HW.mp hi
 have hj:=HW.mp hj
 intro e
 have:=congrArg cds e
 rw[B7,B7]at this
 exact PL wl (by omega) (by omega) (by omega) this
end L2
namespace Rd
open PySem L2
set_option genInjectivity true in
inductive Tk where
 |s (c:Nat)
 |t (w:Tw)
set_option genInjectivity true in
inductive Ex where
 |lf (t:Tw)
 |br (e:Ex)
 |jn (c:Nat) (l r:Ex)
def st (c:Nat):Nat:=if c=40 then 0 else if c=42 then 2 else 1
def sg (c:Nat):Str:=⟨#[c]⟩
namespace Ex
def tk:Ex->List Tk
 |lf t=>[.t t]
 |br e=>.s 40::(e.tk++[.s 41])
 |jn c l r=>l.tk ++ .s c::r.tk
def hd:Ex->Nat
 |lf _=>3
 |br _=>3
 |jn c _ _=>st c
def sh:Ex->Tw
 |lf t=>t
 |br e=>e.sh
 |jn c l r=>.j (sg c) l.sh r.sh
def Ok:Ex->Prop
 |lf _=>True
 |br e=>e.Ok
 |jn c l r=>(c=43\/c=45\/c=42)/\l.Ok/\r.Ok/\st c<=l.hd/\st c<r.hd
theorem hd_pos:∀{e:Ex},e.Ok->1<=e.hd
 |lf _,_=>by show 1<=3;decide
 |br _,_=>by show 1<=3;decide
 |
  jn c l r,h=>by
  show 1<=st c
  rcases h.1 with rfl|rfl|rfl<;>decide
end Ex
def jw (k:Nat):List Nat->List Tw->List Tw×List Nat
 |[],T=>(T,[])
 |c::S,r::l::T=>if k<=st c then jw k S (.j (sg c) l r::T) else(r::l::T,c::S)
 |c::S,T=>(T,c::S)
theorem jw_no {k c:Nat}{S:List Nat}{T:List Tw}(h:st c<k):jw k (c::S) T=(T,c::S):=by
 match T with
 |[]=>rfl
 |[_]=>rfl
 |r::l::T=>show(if k<=st c then _ else _)=_;exact Ae (by omega)
theorem jw_yes {k c:Nat}{S:List Nat}{l r:Tw}{T:List Tw}(h:k<=st c):jw k (c::S) (r::l::T)=jw k S (.j (sg c) l r::T):=by
 show(if k<=st c then _ else _)=_;exact Ag h
structure Sta where
 T:List Tw
 S:List Nat
 due:Bool
def step (x:Sta):Tk->Option Sta
 |.t w=>if x.due then some ⟨w::x.T,x.S,false⟩ else none
 |
  .s c=>if c=40 then(if x.due then some ⟨x.T,40::x.S,true⟩ else none)
  else if x.due then none
  else if c=41 then match (jw 1 x.S x.T).2 with
   |[]=>none
   |_::S=>some ⟨(jw 1 x.S x.T).1,S,false⟩
  else some ⟨(jw (st c) x.S x.T).1,c::(jw (st c) x.S x.T).2,true⟩
def run:List Tk->Sta->Option Sta
 |[],x=>some x
 |
  k::ks,x=>match step x k with
  |some y=>run ks y
  |none=>none
theorem Ls {a b:List Tk}{x y:Sta}(h:run a x=some y):run (a++b) x=run b y:=by
 induction a generalizing x with
 |nil=>cases h;rfl
 |
  cons k ks ih=>
  rw[Dl,run]
  rw[run]at h
  cases hs:step x k with
  |none=>rw[hs]at h;cases h
  |some z=>rw[hs]at h;exact ih h
def Ld (S:List Nat)(k:Nat):Prop := ∀c S',S=c::S'->st c<k
theorem VW {S:List Nat}{k:Nat}{T:List Tw}(h:Ld S k):jw k S T=(T,S):=by
 cases S with
 |nil=>rfl
 |cons c S=>exact jw_no (h c S rfl)
theorem IG:∀{e:Ex} {T:List Tw} {S:List Nat},e.Ok->Ld S e.hd->∃T' S',run e.tk ⟨T,S,true⟩=some ⟨T',S',false⟩/\∀k,k<=e.hd->jw k S' T'=jw k S (e.sh::T)
 |.lf t,T,S,_,_=>⟨t::T,S,rfl,fun _ _=>rfl⟩
 |
  .br e,T,S,ok,hl=>by
  obtain⟨T',S',h1,h2⟩:=IG (e:=e) (T:=T) (S:=40::S) ok (fun c S' h=>by cases h;have:=Ex.hd_pos (e:=e) ok;show 0<e.hd;omega)
  refine⟨e.sh::T,S,?_,fun _ _=>rfl⟩
  have j:jw 1 S' T'=(e.sh::T,40::S):=by
   rw[h2 1 (Ex.hd_pos ok)];exact jw_no (by decide)
  show run (e.tk++[.s 41]) ⟨T,40::S,true⟩=_
  rw[Ls h1,run,step,Ae (by decide)]
  simp only[LO,Ig,EY]
  rw[j]
  rfl
 |
  .jn c l r,T,S,ok,hl=>by
  obtain⟨hc,okl,okr,k1,k2⟩:=ok
  have hl:Ld S (st c):=hl
  obtain⟨T1,S1,h1,h2⟩:=IG (e:=l) (T:=T) (S:=S) okl (fun c' S' h=>by have:=hl c' S' h;omega)
  obtain⟨T2,S2,g1,g2⟩:=IG (e:=r) (T:=l.sh::T) (S:=c::S) okr (fun c' S' h=>by cases h;exact k2)
  have j:jw (st c) S1 T1=(l.sh::T,S):=by rw[h2 _ k1];exact VW hl
  have n1:c≠40:=by omega
  have n2:c≠41:=by omega
  refine⟨T2,S2,?_,fun k hk=>?_⟩
  .show run (l.tk ++ .s c::r.tk) ⟨T,S,true⟩=_
   rw[Ls h1,run,step,Ae n1]
   simp only[LO,Ig]
   rw[Ae n2,j]
   exact g1
  .have hk:k<=st c:=hk
   rw[g2 k (by omega),jw_yes hk];rfl
theorem TJ {e:Ex}(ok:e.Ok):∃T' S',run e.tk ⟨[],[],true⟩=some ⟨T',S',false⟩/\jw 1 S' T'=([e.sh],[]):=by
 obtain⟨T',S',h1,h2⟩:=IG (e:=e) (T:=[]) (S:=[]) ok (fun c S' h=>by cases h)
 exact⟨T',S',h1,h2 1 (Ex.hd_pos ok)⟩
end Rd
namespace Rd
open PySem L2
def sg5:List Nat:=[43,45,42,40,41]
def ins (b:Bool)(c:Nat):Bool:=decide (c=91)||(b&&decide (c≠93))
def scan:Bool->List Nat->Nat
 |_,[]=>0
 |b,c::l=>if b=true\/c∉sg5 then 1+scan (ins b c) l else 0
def pass:Bool->List Nat->Option Bool
 |b,[]=>some b
 |b,c::l=>if b=true\/c∉sg5 then pass (ins b c) l else none
theorem Lm {b c:Bool}{x y:List Nat}(h:pass b x=some c):pass b (x++y)=pass c y:=by
 induction x generalizing b with
 |nil=>cases h;rfl
 |
  cons a x ih=>
  rw[Dl,pass]
  rw[pass]at h
  split
  .rename_i hc;rw[Ag hc]at h;exact ih h
  .rename_i hc;rw[Ae hc]at h;cases h
theorem Q8 {b c:Bool}{x y:List Nat}(h:pass b x=some c):scan b (x++y)=x.length+scan c y:=by
 induction x generalizing b with
 |nil=>cases h;exact(Nat.zero_add _).symm
 |
  cons a x ih=>
  rw[Dl,scan]
  rw[pass]at h
  split
  .rename_i hc
   rw[Ag hc]at h
   rw[ih h,AW]
   omega
  .rename_i hc;rw[Ae hc]at h;cases h
def pend:List Nat->Nat
 |[]=>0
 |c::l=>if c∈sg5 then 1 else scan false (c::l)
def ND (l:List Nat):Prop := ∀c r,l=c::r->c∈sg5
theorem SE {l:List Nat}(h:ND l):scan false l=0:=by
 cases l with
 |nil=>rfl
 |
  cons c l=>
  rw[scan,Ae]
  intro z
  rcases z with z|z
  .cases z
  .exact z (h c l rfl)
structure G3 (w:List Nat):Prop where
 pass:pass false w=some false
 head:∃c r,w=c::r/\c∉sg5
theorem G3.pend {w l:List Nat}(h:G3 w)(hs:ND l):Rd.pend (w++l)=w.length:=by
 obtain⟨c,r,e,hc⟩:=h.head
 have h1:=Q8 (y:=l) h.pass
 rw[SE hs,Nat.add_zero]at h1
 rw[←h1,e,Dl,Rd.pend,Ae hc]
theorem QR {w:List Nat}(h:∀c∈w,(48<=c/\c<=57)\/(97<=c/\c<=122)):Rd.pass false w=some false:=by
 induction w with
 |nil=>rfl
 |
  cons c w ih=>
  have hc:=h c AY
  have n5:c∉sg5:=fun z=>by
   unfold sg5 at z
   simp only[AQ,CL,or_false]at z
   omega
  rw[Rd.pass,Ag (.inr n5)]
  have e:ins false c=false:=by
   unfold ins
   rw[Bool.false_and,LC]
   exact BI (by omega)
  rw[e]
  exact ih fun d hd=>h d (BH _ hd)
theorem Mh {w:List Nat}(h:93∉w):Rd.pass true w=some true:=by
 induction w with
 |nil=>rfl
 |
  cons c w ih=>
  rw[Rd.pass,Ag (.inl rfl)]
  have e:ins true c=true:=by
   unfold ins
   rw[Bool.true_and,LL]
   exact .inr (B5 fun z=>h (z▸AY))
  rw[e]
  exact ih fun z=>h (BH _ z)
theorem O6 {w:List Nat}(h:∀c∈w,(48<=c/\c<=57)\/(97<=c/\c<=122))(hl:1<=w.length):G3 w:=by
 refine⟨QR h,?_⟩
 cases w with
 |nil=>exact absurd hl (by decide)
 |
  cons c w=>
  refine⟨c,w,rfl,fun z=>?_⟩
  have hc:=h c AY
  unfold sg5 at z
  simp only[AQ,CL,or_false]at z
  omega
theorem Oq {w:List Nat}(h:Bp w):G3 w:=O6 (fun c hc=>.inr ((HE c).mp (h.2.2.1 c hc))) h.1
theorem Pp {w:List Nat}(h:Ci w):G3 w:=O6 (fun c hc=>.inl (h.2.2.2 c hc)) h.1
theorem Rp:∀m:Nat,0<m->((Nat.toDigits 10 m).map Char.toNat).head?≠some 48:=by
 intro m
 induction m using Nat.strongRecOn with
 |
  _ m ih=>
  intro hm
  by_cases h:m<10
  .rw[Nat.toDigits_of_lt_base h]
   have:∀d:Nat,d<10->0<d->(Nat.digitChar d).toNat≠48:=by decide
   exact fun z=>this m h hm (BP z)
  .have hm2:m%10<10:=Nat.mod_lt m (by decide)
   have t:Nat.toDigits 10 (m/10)++Nat.toDigits 10 (m%10)=Nat.toDigits 10 (10*(m/10)+m%10):=Nat.toDigits_append_toDigits (by decide) (by omega) hm2
   rw[Nat.div_add_mod]at t
   rw[←t,B3]
   have ih1:=ih (m/10) (by omega) (by omega)
   cases hd:(Nat.toDigits 10 (m/10)).map Char.toNat with
   |
    nil=>
    have h:=toDigits_len_ge 10 (m/10)
    rw[List.map_eq_nil_iff.mp hd]at h
    exact absurd h (by decide)
   |cons c r=>rw[hd]at ih1;exact ih1
theorem nS_good {i:Int}(h0:0<=i)(h1:i<=999999999999999999):Ci (cds (nS i))/\El (cds (nS i))=i:=by
 have hl:=OJ (v:=i) h0 (k:=18) (by decide) (by show i<10 ^ 18;omega)
 obtain⟨m,rfl⟩:=Int.eq_ofNat_of_zero_le h0
 have e:cds (nS ((m:Nat):Int))=(Nat.toDigits 10 m).map Char.toNat:=PySem.W.KIN.signs_num m
 have hlen:(cds (nS ((m:Nat):Int))).length<=18:=by rw[cds_len];exact hl
 refine⟨⟨?_,hlen,?_,?_⟩,?_⟩
 .rw[e,Ap];exact toDigits_len_ge 10 m
 .rw[e]
  intro⟨a,b⟩
  by_cases hm:0<m
  .exact Rp m hm a
  .have:m=0:=by omega
   subst this
   exact absurd b (by decide)
 .intro c hc
  rw[e]at hc
  obtain⟨ch,hch,e2⟩:=DE.mp hc
  have r:=PyProof.Rows.digit_range (Nat.isDigit_of_mem_toDigits (by decide) (by decide) hch)
  rw[←e2]
  exact r
 .unfold El
  rw[e,PySem.W.KIN.val_back]
def SpN (s:Str×Int):Prop:=(s.1=""\/Bp (cds s.1))/\ER s
theorem bef_app {c:Nat}{x y:List Nat}(h:c∉x):Ck c (x++c::y)=x/\D4 c (x++c::y)=y:=by
 have e:(x++c::y).idxOf c=x.length:=by
  refine HL (by rw[E5 (Ai _),EC];rfl) fun k hk z=>h (by rw[DM hk]at z;exact CK z)
 unfold Ck D4
 rw[e]
 refine⟨GN,?_⟩
 rw[←Ia,K3]
 rfl
theorem name_no {w:List Nat}(h:Bp w){c:Nat}(hc:¬(97<=c/\c<=122)):c∉w:=fun z=>hc ((HE c).mp (h.2.2.1 c z))
theorem F6 {w:List Nat}(h:Ci w){c:Nat}(hc:¬(48<=c/\c<=57)):c∉w:=fun z=>hc (h.2.2.2 c z)
theorem Kq {i:Int}(h:i<0):cds (nS i)=45::cds (nS (0-i)):=by
 unfold nS
 rw[KP h,AN]
 rfl
theorem num_name {w:List Nat}(h:Ci w):¬Bp w:=fun z=>by
 cases w with
 |nil=>exact absurd h.1 (by decide)
 |
  cons a r=>
  have h1:=(HE a).mp (z.2.2.1 a AY)
  have h2:=h.2.2.2 a AY
  omega
theorem spot_read {s:Str×Int}(h:SpN s):Ew (cds (B6 s))=some (cds s.1,s.2):=by
 obtain⟨hn,_,b0,b1⟩:=h
 unfold B6
 by_cases e0:s.1=""
 .rw[Ag e0]
  have c0:cds s.1=[]:=by rw[e0];rfl
  rw[c0]
  by_cases hs:s.2<0
  .rw[Kq hs]
   obtain⟨g,d⟩:=nS_good (i:=0-s.2) (by omega) (by omega)
   generalize cds (nS (0-s.2))=w at g d
   have m45:(45:Nat)∈45::w:=AY
   have n43:(43:Nat)∉45::w:=fun z=>by
    rcases AQ.mp z with z|z
    .cases z
    .exact F6 g (by omega) z
   have ba:=bef_app (c:=45) (x:=[]) (y:=w) (by simp)
   unfold Ew
   rw[Ae (JH m45 (by omega)),Ae (JV m45 (by omega)),Ae n43,Ag m45]
   rw[K4]at ba
   rw[ba.1,ba.2,Ag g,Ag (.inr ⟨rfl,by omega⟩),d]
   congr 2
   omega
  .obtain⟨g,d⟩:=nS_good (i:=s.2) (by omega) (by omega)
   unfold Ew
   rw[Ae (num_name g),Ag g,d]
 .have hn:Bp (cds s.1):=hn.resolve_left e0
  rw[Ae e0]
  by_cases e1:s.2=0
  .rw[Ag e1]
   unfold Ew
   rw[Ag hn,e1]
  .rw[Ae e1]
   by_cases e2:0<s.2
   .rw[Ag e2,AN,AN]
    obtain⟨g,d⟩:=nS_good (i:=s.2) (by omega) (by omega)
    have ec:cds ("+":Str)=[43]:=by decide +kernel
    rw[ec,Co]
    show Ew (cds s.1++43::cds (nS s.2))=_
    have ba:=bef_app (c:=43) (x:=cds s.1) (y:=cds (nS s.2)) (name_no hn (by omega))
    have m:(43:Nat)∈cds s.1++43::cds (nS s.2):=CC _ AY
    unfold Ew
    rw[Ae (JH m (by omega)),Ae (JV m (by omega)),Ag m,ba.1,ba.2,Ag ⟨g,hn⟩,d]
   .rw[Ae e2,AN,Kq (by omega)]
    obtain⟨g,d⟩:=nS_good (i:=0-s.2) (by omega) (by omega)
    have ba:=bef_app (c:=45) (x:=cds s.1) (y:=cds (nS (0-s.2))) (name_no hn (by omega))
    have m:(45:Nat)∈cds s.1++45::cds (nS (0-s.2)):=CC _ AY
    have n43:(43:Nat)∉cds s.1++45::cds (nS (0-s.2)):=fun z=>by
     rcases Bj.mp z with z|z
     .exact name_no hn (by omega) z
     .rcases AQ.mp z with z|z
      .cases z
      .exact F6 g (by omega) z
    unfold Ew
    rw[Ae (JH m (by omega)),Ae (JV m (by omega)),Ae n43,Ag m,ba.1,ba.2,Ag g,Ag (.inl hn),d]
    congr 2
    omega
theorem spot_free {s:Str×Int}(h:SpN s){c:Nat}(hc:¬(97<=c/\c<=122)/\¬(48<=c/\c<=57)/\c≠43/\c≠45):c∉cds (B6 s):=by
 obtain⟨hn,_,b0,b1⟩:=h
 have kn:c∉cds (nS s.2):=by
  by_cases hs:s.2<0
  .rw[Kq hs]
   obtain⟨g,d⟩:=nS_good (i:=0-s.2) (by omega) (by omega)
   intro z
   rcases AQ.mp z with z|z
   .exact hc.2.2.2 z
   .exact F6 g hc.2.1 z
  .obtain⟨g,d⟩:=nS_good (i:=s.2) (by omega) (by omega)
   exact F6 g hc.2.1
 have ks:c∉cds s.1:=by
  rcases hn with e|e
  .rw[e]
   show c∉[]
   simp
  .exact name_no e hc.1
 unfold B6
 split
 .exact kn
 .split
  .exact ks
  .split
   .rw[AN,AN]
    have ec:cds ("+":Str)=[43]:=by decide +kernel
    rw[ec]
    intro z
    rcases Bj.mp z with z|z
    .rcases Bj.mp z with z|z
     .exact ks z
     .exact hc.2.2.1 (E6.mp z)
    .exact kn z
   .rw[AN]
    intro z
    rcases Bj.mp z with z|z
    .exact ks z
    .exact kn z
def inner:List (List Nat)->List Nat
 |[]=>[]
 |[a]=>a
 |a::b::l=>a++([93,91]++inner (b::l))
theorem NB:∀{sp:List (Str×Int)},sp≠[]->((sp.map Dd).map cds).flatten=91::(inner (sp.map fun s=>cds (B6 s))++[93])
 |[],h=>absurd rfl h
 |
  [s],_=>by
  show cds (Dd s)++[]=91::(cds (B6 s)++[93])
  rw[DL]
  unfold Dd
  rw[AN,AN]
  rfl
 |
  s::s2::sp,_=>by
  have ih:=NB (sp:=s2::sp) (DO _ _)
  show cds (Dd s)++(((s2::sp).map Dd).map cds).flatten=91::((cds (B6 s)++([93,91]++inner ((s2::sp).map fun s=>cds (B6 s))))++[93])
  rw[ih]
  unfold Dd
  rw[AN,AN]
  show[91]++cds (B6 s)++[93]++_=_
  simp
theorem inner_split:∀{l:List (List Nat)},l≠[]->(∀a∈l,93∉a)->IsSplit [93,91] (inner l) l
 |[],h,_=>absurd rfl h
 |[a],_,h=>.one' (h a AY)
 |a::b::l,_,h=>.cut' (h a AY) (inner_split (DO _ _) fun c hc=>h c (BH _ hc))
theorem cel_cds {z:Str}{sp:List (Str×Int)}(hs:sp≠[]):cds (Ba z sp)=cds z++91::(inner (sp.map fun s=>cds (B6 s))++[93]):=by
 unfold Ba
 rw[AN,Li,NB hs]
theorem TX {z:Str}{sp:List (Str×Int)}(hz:Bp (cds z))(hs:sp≠[])(h:∀s∈sp,SpN s):G3 (cds (Ba z sp)):=by
 have hw:=Oq hz
 obtain⟨c,r,e,hc⟩:=hw.head
 refine⟨?_,c,r++91::(inner (sp.map fun s=>cds (B6 s))++[93]),by rw[cel_cds hs,e];rfl,hc⟩
 have key:∀{l:List (List Nat)},(∀a∈l,93∉a)->Rd.pass true (inner l)=some true:=fun{l} hl=>by
  induction l with
  |nil=>rfl
  |
   cons a l ih=>
   cases l with
   |nil=>exact Mh (hl a AY)
   |
    cons b l=>
    show Rd.pass true (a++([93,91]++inner (b::l)))=_
    rw[Lm (Mh (hl a AY))]
    exact ih fun c hc=>hl c (BH _ hc)
 rw[cel_cds hs,Lm hw.pass]
 show Rd.pass true (inner (sp.map fun s=>cds (B6 s))++[93])=some false
 rw[Lm (key fun a ha=>?_)]
 .rfl
 .obtain⟨s,hs',rfl⟩:=DE.mp ha
  exact spot_free (h s hs') (by omega)
end Rd
namespace Rd
open PySem L2
def Tk.txt:Tk->Str
 |.s c=>⟨#[c]⟩
 |.t (.n i)=>nS i
 |.t (.v z)=>z
 |.t (.c z sp)=>Ba z sp
 |.t (.j z _ _)=>z
def Tk.Ok:Tk->Prop
 |.s c=>c∈sg5
 |.t (.n i)=>0<=i/\i<=999999999999999999
 |.t (.v z)=>Bp (cds z)
 |.t (.c z sp)=>Bp (cds z)/\sp≠[]/\sp.length<=3/\∀s∈sp,SpN s
 |.t (.j _ _ _)=>False
def PtAt (c:Cs)(H:Hp)(v:V):Tk->Prop
 |.s a=>v = .str ⟨#[a]⟩
 |.t w=>Bt c H w v
theorem PtAt.over {c:Cs}{H H':Hp}(e:A7 H H'){v:V}{k:Tk}(h:PtAt c H v k):PtAt c H' v k:=by
 cases k with
 |s a=>exact h
 |t w=>exact Bt.over e h
theorem Tk.whole {w:Tw}(h:(Tk.t w).Ok):G3 (cds (Tk.t w).txt):=by
 cases w with
 |n i=>exact Pp (nS_good h.1 h.2).1
 |v z=>exact Oq h
 |c z sp=>exact TX h.1 h.2.1 h.2.2.2
 |j _ _ _=>exact h.elim
def Dp:List Tk->Prop
 |.t _ :: .t w::l=>False
 |_::l=>Dp l
 |[]=>True
def txts (ks:List Tk):List Nat:=(ks.map fun k=>cds k.txt).flatten
theorem not_sign {z:Str}{c:Nat}{r:List Nat}(e:cds z=c::r)(hc:c∉sg5):(!(Builtin.Str.occurrences (Str.ofString "+-*()") z 0 (Str.ofString "+-*()").length 1).isEmpty)=false:=by
 rw[Bool.eq_false_iff]
 intro h
 obtain⟨i,h1,h2⟩:=(StrLaws.found_iff _ _).mp h
 rw[StrLaws.subAt_eq,E8]at h2
 have e2:(Str.ofString "+-*()").cps.toList=sg5:=by decide +kernel
 have e3:z.cps.toList=c::r:=e
 rw[e2,e3]at h2
 have h3:c∈(sg5.drop i).take z.length:=by rw[h2];exact AY
 exact hc (GM (Ga h3))
theorem is_sign {c:Nat}(hc:c∈sg5):(!(Builtin.Str.occurrences (Str.ofString "+-*()") ⟨#[c]⟩ 0 (Str.ofString "+-*()").length 1).isEmpty)=true:=by
 rw[Lp]
 have e2:cds (Str.ofString "+-*()")=sg5:=by decide +kernel
 rw[e2]
 exact B5 hc
def spPend:Sp:=fun vs H Q _=>∃(z:Str) (i:Nat),vs=[.str z,.int (i:Int)]/\i<(cds z).length/\z.length<=100000/\Q (.int ((i+pend ((cds z).drop i):Nat):Int)) H
def spCellOf (c:Cs):Sp:=fun vs H Q _=>∃(z:Str) (sp:List (Str×Int)),vs=[.str (Ba z sp)]/\(Tk.t (.c z sp)).Ok/\∀(x:V) (H':Hp),A7 H H'->Bt c H' (.c z sp) x->Q x H'
def spPartOf (c:Cs):Sp:=fun vs H Q _=>∃k:Tk,vs=[.str k.txt]/\k.Ok/\∀(x:V) (H':Hp),A7 H H'->PtAt c H' x k->Q x H'
def spPartsOf (c:Cs):Sp:=fun vs H Q _=>∃(z:Str) (ks:List Tk),vs=[.str z]/\cds z=txts ks/\z.length<=100000/\(∀k∈ks,k.Ok)/\Dp ks/\∀(l:Addr) (xs:List V) (H':Hp),A7 H H'->H l=none->H' l=some (.lst xs)->AC (PtAt c H') xs ks->Q (.ref l) H'
def nb (S:List Nat):Nat:=(S.filter (· != 40)).length
theorem nb_cons {a:Nat}{S:List Nat}(h:a≠40):nb (a::S)=nb S+1:=by
 unfold nb
 rw[E7,Ag (by simpa using h)]
 rfl
theorem Vl {S:List Nat}:nb (40::S)=nb S:=rfl
theorem L9 (k:Nat)(hk:1<=k):∀{S:List Nat} {T:List Tw},nb S<T.length->nb (jw k S T).2<(jw k S T).1.length/\T.length+nb (jw k S T).2=(jw k S T).1.length+nb S
 |[],T,h=>⟨by cases T<;>exact h,by cases T<;>rfl⟩
 |
  a::S,T,h=>by
  by_cases c:k<=st a
  .have n40:a≠40:=fun z=>by subst z;exact absurd c (by show ¬k<=0;omega)
   rw[nb_cons n40]at h ⊢
   match T,h with
   |
    r::l::T,h=>
    rw[jw_yes c]
    have:=L9 k hk (S:=S) (T:=.j (sg a) l r::T) (by rw[AW];rw[AW,AW]at h;omega)
    rw[AW]at this
    rw[AW,AW]
    omega
   |[_],h=>exact absurd h (by rw[BD];omega)
   |[],h=>exact absurd h (by rw[LG];omega)
  .rw[jw_no (by omega)]
   exact⟨h,rfl⟩
def B2 (l r:Addr)(H H':Hp):Prop := ∀b o,H b=some o->b≠l->b≠r->H' b=some o
def spJoinW (c:Cs):Sp:=fun vs H Q _=>∃(l r:Addr) (ts ss:List V) (T:List Tw) (S:List Nat) (k:Nat),vs=[.ref l,.ref r,.int (k:Int)]/\l≠r/\1<=k/\H l=some (.lst ts)/\H r=some (.lst ss)/\AC (fun v t=>Bt c H t v) ts T.reverse/\ss=S.reverse.map (fun a=>V.str (sg a))/\(∀a∈S,a∈sg5/\a≠41)/\nb S<T.length/\T.length<=1000/\
 ∀(ts' ss':List V) (H':Hp),B2 l r H H'->H' l=some (.lst ts')->H' r=some (.lst ss')->AC (fun v t=>Bt c H' t v) ts' (jw k S T).1.reverse->ss'=(jw k S T).2.reverse.map (fun a=>V.str (sg a))->Q .non H'
def spTermOf (c:Cs):Sp:=fun vs H Q _=>∃(l:Addr) (xs:List V) (ks:List Tk) (T:List Tw) (S:List Nat) (t:Tw),vs=[.ref l]/\H l=some (.lst xs)/\AC (PtAt c H) xs ks/\xs.length<=1000/\(∀k∈ks,k.Ok)/\run ks ⟨[],[],true⟩=some ⟨T,S,false⟩/\jw 1 S T=([t],[])/\∀(x:V) (H':Hp),A7 H H'->Bt c H' t x->Q x H'
theorem cut_last {α:Type}(l:List α)(c:α):Ca (l++[c]) none (some (-1))=l:=by
 unfold Ca
 have e:HT.sIx (l++[c]).length (l++[c]).length (some (-1))=l.length:=by
  unfold HT.sIx
  rw[Au,BD]
  dsimp only
  split<;>omega
 rw[HT.sIx_none,e,I0,Nat.sub_zero,GN]
theorem pend_cons {k:Tk}{l:List Tk}(ok:k.Ok)(okl:∀x∈l,x.Ok)(ad:Dp (k::l)):pend (cds k.txt++txts l)=(cds k.txt).length/\1<=(cds k.txt).length:=by
 cases k with
 |
  s c=>
  refine⟨?_,Ai _⟩
  show pend (c::txts l)=1
  rw[pend,Ag (show c∈sg5 from ok)]
 |
  t w=>
  have hw:=Tk.whole ok
  obtain⟨c,r,e,_⟩:=hw.head
  refine⟨hw.pend fun d r' e'=>?_,by rw[e,AW];omega⟩
  cases l with
  |nil=>cases e'
  |
   cons k' l=>
   cases k' with
   |
    s c'=>
    have e2:c'::txts l=d::r':=e'
    injection e2 with e3 _
    rw[←e3]
    exact okl (.s c') AY
   |t w'=>exact ad.elim
theorem Ni {k:Tk}{l:List Tk}(ad:Dp (k::l)):Dp l:=by
 cases k with
 |s c=>exact ad
 |
  t w=>
  cases l with
  |nil=>exact True.intro
  |
   cons k' l=>
   cases k' with
   |s c'=>exact ad
   |t w'=>exact ad.elim
theorem adj_drop:∀{ks:List Tk} (j:Nat),Dp ks->Dp (ks.drop j)
 |_,0,h=>h
 |[],_+1,h=>h
 |_::_,j+1,h=>adj_drop j (Ni h)
theorem txts_cons (k:Tk)(l:List Tk):txts (k::l)=cds k.txt++txts l:=rfl
theorem PtAt.some {c:Cs}{H:Hp}{v:V}{k:Tk}(ok:k.Ok)(h:PtAt c H v k):v≠.non:=by
 intro e
 subst e
 cases k with
 |s a=>cases h
 |
  t w=>
  cases w with
  |n i=>obtain⟨_,_,e,_⟩:=h;cases e
  |v z=>obtain⟨_,_,e,_⟩:=h;cases e
  |c z sp=>obtain⟨_,_,_,e,_⟩:=h;cases e
  |j _ _ _=>exact ok
def NL (H H':Hp):Prop := ∀b o,H b=some o->(∀xs,o≠.lst xs)->H' b=some o
theorem NL.of {H H':Hp}(e:A7 H H'):NL H H':=fun b o h _=>e b o h
theorem NL.trans {H H1 H2:Hp}(a:NL H H1)(b:NL H1 H2):NL H H2:=fun c o h n=>b c o (a c o h n) n
theorem NL.upd {H:Hp}{l:Addr}{xs ys:List V}(h:H l=some (.lst xs)):NL H (upd H l (.lst ys)):=fun b o e n=>by
 rw[A8 (fun z=>by rw[z,h]at e;exact n xs (BP e).symm)]
 exact e
theorem NL.tk {H H':Hp}(e:NL H H'):TK H H':=fun p xs h=>e _ _ h (fun _ z=>nomatch z)
theorem tb_nl {c:Cs}{H H':Hp}(e:NL H H'):∀{t:Tw} {x:V},Bt c H t x->Bt c H' t x
 |.n i,x,h=>by obtain⟨t,dx,r,h⟩:=h;exact⟨t,dx,r,e _ _ h (fun _ z=>nomatch z)⟩
 |.v z,x,h=>by obtain⟨t,dx,r,h⟩:=h;exact⟨t,dx,r,e _ _ h (fun _ z=>nomatch z)⟩
 |.c z sp,x,h=>by obtain⟨t,dx,p,r,h,g⟩:=h;exact⟨t,dx,p,r,e _ _ h (fun _ z=>nomatch z),g.tk e.tk⟩
 |.j z l r,x,h=>by obtain⟨t,dx,a,b,r,h,g1,g2⟩:=h;exact⟨t,dx,a,b,r,e _ _ h (fun _ z=>nomatch z),tb_nl e g1,tb_nl e g2⟩
theorem PtAt.nl {c:Cs}{H H':Hp}(e:NL H H'){v:V}{k:Tk}(h:PtAt c H v k):PtAt c H' v k:=by
 cases k with
 |s a=>exact h
 |t w=>exact tb_nl e h
def strV:List (Bb×V):=[(.inr "(",.int 0),(.inr "+",.int 1),(.inr "-",.int 1),(.inr "*",.int 2)]
theorem st_val {a:Nat}(h:a∈sg5/\a≠41):CO strV (.inr (sg a))=some (.int (st a:Int)):=by
 obtain⟨h5,n⟩:=h
 unfold sg5 at h5
 simp only[AQ,CL,or_false]at h5
 rcases h5 with rfl|rfl|rfl|rfl|rfl
 .decide +kernel
 .decide +kernel
 .decide +kernel
 .decide +kernel
 .exact absurd rfl n
theorem all2_pop {β:Type}{R:V->β->Prop}{xs:List V}{ys:List β}{y:β}(h:AC R xs (ys++[y])):∃xs' x,xs=xs'++[x]/\AC R xs' ys/\R x y:=by
 have hl:=h.1
 rw[Au,BD]at hl
 obtain⟨us,x,rfl,ul⟩:=F5 hl
 refine⟨us,x,rfl,⟨ul,fun i a b ha hb=>?_⟩,?_⟩
 .exact h.2 i a b (by rw[DM (BM.mp ha).1];exact ha) (by rw[DM (BM.mp hb).1];exact hb)
 .exact h.2 us.length x y (by rw[E5 (Ai _),EC];rfl) (by rw[ul,E5 (Ai _),EC];rfl)
theorem Ma:∀{a b:List Tk} {x y:Sta},run (a++b) x=some y->∃z,run a x=some z/\run b z=some y
 |[],b,x,y,h=>⟨x,rfl,h⟩
 |
  k::a,b,x,y,h=>by
  rw[Dl,run]at h
  cases hs:step x k with
  |none=>rw[hs]at h;cases h
  |
   some z=>
   rw[hs]at h
   obtain⟨u,h1,h2⟩:=Ma (a:=a) h
   exact⟨u,by rw[run,hs];exact h1,h2⟩
theorem run_at {ks:List Tk}{x y:Sta}{i:Nat}{k:Tk}(h:run ks x=some y)(hk:ks[i]?=some k):∃z u,run (ks.take i) x=some z/\step z k=some u/\run (ks.take (i+1)) x=some u:=by
 have hi:=(BM.mp hk).1
 have e:ks=ks.take i++(k::ks.drop (i+1)):=by
  have h2:=G9 hi
  rw[Bg hi]at hk
  rw[BP hk]at h2
  rw[←h2,LK]
 rw[e]at h
 obtain⟨z,h1,h2⟩:=Ma h
 rw[run]at h2
 cases hs:step z k with
 |none=>rw[hs]at h2;cases h2
 |
  some u=>
  refine⟨z,u,h1,hs,?_⟩
  rw[Di hk,Ls h1,run,hs]
  rfl
theorem Lr (k:Nat):∀{S:List Nat} {T:List Tw},∀c∈(jw k S T).2,c∈S
 |[],T,c,h=>by cases T<;>exact h
 |
  a::S,T,c,h=>by
  match T with
  |[]=>exact h
  |[_]=>exact h
  |
   r::l::T=>
   by_cases hk:k<=st a
   .rw[jw_yes hk]at h
    exact BH _ (Lr k c h)
   .rw[jw_no (by omega)]at h
    exact h
theorem MH (k:Nat)(hk:1<=k):∀{S:List Nat} {T:List Tw} {d:Nat} {S':List Nat},nb S<T.length->(jw k S T).2=d::S'->st d<k
 |[],T,d,S',_,h=>by cases T<;>cases h
 |
  a::S,T,d,S',hn,h=>by
  by_cases c:k<=st a
  .have n40:a≠40:=fun z=>by subst z;exact absurd c (by show ¬k<=0;omega)
   rw[nb_cons n40]at hn
   match T,hn with
   |
    r::l::T,hn=>
    rw[jw_yes c]at h
    exact MH k hk (by rw[AW];rw[AW,AW]at hn;omega) h
   |[_],hn=>exact absurd hn (by rw[BD];omega)
   |[],hn=>exact absurd hn (by rw[LG];omega)
  .rw[jw_no (by omega)]at h
   have h:a::S=d::S':=h
   injection h with e _
   rw[←e]
   omega
theorem P6 {d:Nat}(h:st d<1):d=40:=GO fun n=>by
 unfold st at h
 rw[Ae n]at h
 split at h<;>omega
structure Wt (x:Sta):Prop where
 sg:∀c∈x.S,c∈sg5/\c≠41
 nb:nb x.S+(if x.due then 0 else 1)=x.T.length
theorem Wt.step {x y:Sta}{k:Tk}(w:Wt x)(ok:k.Ok)(h:Rd.step x k=some y):Wt y:=by
 obtain⟨T,S,due⟩:=x
 have wn:=w.nb
 cases k with
 |
  t t=>
  cases due with
  |false=>cases h
  |
   true=>
   have h:some (⟨t::T,S,false⟩:Sta)=some y:=h
   cases h
   exact⟨w.sg,by have:Rd.nb S+0=T.length:=wn;show Rd.nb S+1=T.length+1;omega⟩
 |
  s c=>
  have ok:c∈sg5:=ok
  rw[Rd.step]at h
  by_cases c40:c=40
  .subst c40
   rw[Ag rfl]at h
   cases due with
   |false=>cases h
   |
    true=>
    have h:some (⟨T,40::S,true⟩:Sta)=some y:=h
    cases h
    refine⟨fun d hd=>?_,wn⟩
    rcases AQ.mp hd with rfl|z
    .exact⟨by decide,by decide⟩
    .exact w.sg d z
  .rw[Ae c40]at h
   cases due with
   |true=>cases h
   |
    false=>
    have wn:Rd.nb S+1=T.length:=wn
    rw[Ae (show ¬(Sta.due ⟨T,S,false⟩=true) from BQ)]at h
    by_cases c41:c=41
    .rw[Ag c41]at h
     have j:=L9 1 (Ai _) (S:=S) (T:=T) (by omega)
     cases hs:(jw 1 S T).2 with
     |nil=>simp only[hs]at h;cases h
     |
      cons d S'=>
      simp only[hs]at h
      cases h
      rw[hs]at j
      refine⟨fun e he=>w.sg e (Lr 1 e (by rw[hs];exact BH _ he)),?_⟩
      have e:=P6 (MH 1 (Ai _) (by omega) hs)
      subst e
      rw[Vl]at j
      show Rd.nb S'+1=(jw 1 S T).1.length
      omega
    .rw[Ae c41]at h
     cases h
     have j:=L9 (st c) (by unfold st;rw[Ae c40];split<;>decide) (S:=S) (T:=T) (by omega)
     refine⟨fun e he=>?_,?_⟩
     .rcases AQ.mp he with rfl|z
      .exact⟨ok,c41⟩
      .exact w.sg e (Lr _ e z)
     .show Rd.nb (c::(jw (st c) S T).2)+0=(jw (st c) S T).1.length
      rw[nb_cons c40]
      omega
theorem jw_len (k:Nat):∀{S:List Nat} {T:List Tw},(jw k S T).1.length<=T.length
 |[],T=>by cases T<;>exact Ai _
 |
  a::S,T=>by
  match T with
  |[]=>exact Ai _
  |[_]=>exact Ai _
  |
   r::l::T=>
   by_cases hk:k<=st a
   .rw[jw_yes hk]
    have:=jw_len k (S:=S) (T:=.j (sg a) l r::T)
    rw[AW]at this ⊢
    rw[AW]
    omega
   .rw[jw_no (by omega)]
    exact Ai _
theorem jw_len2 (k:Nat):∀{S:List Nat} {T:List Tw},(jw k S T).2.length<=S.length
 |[],T=>by cases T<;>exact Ai _
 |
  a::S,T=>by
  match T with
  |[]=>exact Ai _
  |[_]=>exact Ai _
  |
   r::l::T=>
   by_cases hk:k<=st a
   .rw[jw_yes hk,AW]
    have:=jw_len2 k (S:=S) (T:=.j (sg a) l r::T)
    omega
   .rw[jw_no (by omega)]
    exact Ai _
def bare (l:List Nat):List Nat:=stp 32 (if 59∈l then Ck 59 l else l)
def spBare:Sp:=fun vs H Q _=>∃z:Str,vs=[.str z]/\z.length<=100000/\∀H',A7 H H'->Q (.str (Az (bare (cds z)))) H'
def spWords:Sp:=fun vs H Q _=>∃z:Str,vs=[.str z]/\z.length<=100000/\∀(l:Addr) (H':Hp) (ps:List Str),A7 H H'->IsSplit [32] (cds z) (ps.map cds)->H' l=some (.lst ((ps.filter fun y:Str=>decide (y≠Str.ofString "")).map V.str))->Q (.ref l) H'
theorem split_many {y l:List Nat}{ps:List (List Nat)}(hy:1<=y.length)(h:IsSplit y l ps):ps.length<=l.length+1:=by
 induction h with
 |one _=>rw[BD];omega
 |cut _ _ ih=>rw[AW,Au,Au];omega
def Ln (C:Addr)(H:Hp)(d:Addr)(nm:List Str):Prop := ∃(dx:Addr) (fs:List (Str×V)) (n:Addr),H d=some (.ins C dx fs)/\fs.lookup (Str.ofString "names")=some (V.ref n)/\H n=some (.lst (nm.map V.str))
def knw (nm:List Str)(s:Str×Int):Bool:=decide (s.1=Str.ofString "")||decide (s.1∈nm)
def spKnown (C:Addr):Sp:=fun vs H Q _=>∃(d p:Addr) (nm:List Str) (sp:List (Str×Int)),vs=[.ref d,.ref p]/\Ln C H d nm/\Ee H p sp/\sp.length<=1000/\∀H',A7 H H'->Q (.bl (sp.all (knw nm))) H'
end Rd
namespace Pw
variable {T S:Type}
inductive Rr (T S:Type) where
 |opn (t:T):Rr T S
 |row (s:S):Rr T S
 |fin:Rr T S
abbrev Rw (T S:Type):=List (Nat×Rr T S)
end Pw
namespace L2
open PySem PySem.Spec PyProof.Rows
structure Ak where
 nm:Str
 lo:Str×Int
 hi:Str×Int
def Ak.Ok (t:Ak):Prop:=t.nm.length<=20/\ER t.lo/\ER t.hi
structure Dw where
 loops:List Ak
 tbl:Str
 sp:List (Str×Int)
 tm:Tw
 path:List Int
def Dw.txt (D:Dw):Str:=Ba D.tbl D.sp++" = "++D.tm.wr
def Jn (t:Ak):Str:="for "++t.nm++" "++B6 t.lo++" "++B6 t.hi
def Hi:Pw.Rr Ak Str->Str
 |.opn t=>Jn t
 |.row s=>s
 |.fin=>"end"
theorem S4 {t:Ak}(h:t.Ok):(Jn t).length<=200:=by
 obtain⟨h1,h2,h3⟩:=h
 have h2:=Fe h2
 have h3:=Fe h3
 have e:("for ":Str).length=4:=by decide +kernel
 have e2:(" ":Str).length=1:=by decide +kernel
 unfold Jn
 rw[AX,AX,AX,AX,AX]
 omega
def DS (H:Hp)(x:V)(t:Ak):Prop := ∃(p:Addr) (a b:V),x = .ref p/\H p=some (.tup [.str t.nm,a,b])/\BY H a t.lo/\BY H b t.hi
theorem DS.tk {H H':Hp}{x:V}{t:Ak}(k:TK H H')(h:DS H x t):DS H' x t:=by obtain⟨p,a,b,e,h,g1,g2⟩:=h;exact⟨p,a,b,e,k _ _ h,g1.tk k,g2.tk k⟩
def FA (H:Hp)(o:Addr)(ts:List Ak):Prop := ∃xs,H o=some (.lst xs)/\AC (DS H) xs ts
theorem FA.over {H H':Hp}{o:Addr}{ts:List Ak}(e:A7 H H')(h:FA H o ts):FA H' o ts:=by obtain⟨xs,h,g⟩:=h;exact⟨xs,e _ _ h,g.mono fun _ _ z=>z.tk (A7.tk e)⟩
def II (H:Hp)(o:Addr)(x:V)(D:Dw):Prop := ∃(p ps pt:Addr) (sh:V),x = .ref p/\H p=some (.tup [.ref o,.str D.tbl,.ref ps,sh,.ref pt,.str D.txt])/\FA H o D.loops/\Ee H ps D.sp/\E9 H D.tm sh/\H pt=some (.tup (D.path.map V.int))
def Ei (H:Hp)(x:V)(D:Dw):Prop := ∃o,II H o x D
theorem Ei.over {H H':Hp}{x:V}{D:Dw}(e:A7 H H')(h:Ei H x D):Ei H' x D:=by obtain⟨o,p,ps,pt,sh,r,h0,h1,h2,h3,h4⟩:=h;exact⟨o,p,ps,pt,sh,r,e _ _ h0,h1.over e,h2.tk (A7.tk e),h3.tk (A7.tk e),e _ _ h4⟩
def DV (C:Addr)(c:Cs)(H:Hp)(x:V)(D:Dw):Prop := ∃(p dx nm lo hi ps pt:Addr) (ob:V) (ls hs:List V),x = .ref p/\H p=some (.ins C dx [("names",.ref nm),("lows",.ref lo),("highs",.ref hi),("table",.str D.tbl),("spots",.ref ps),("term",ob),("path",.ref pt)])/\H nm=some (.tup (D.loops.map fun t=>V.str t.nm))/\H lo=some (.tup ls)/\AC (fun v t=>BY H v (Ak.lo t)) ls D.loops/\H hi=some (.tup hs)/\AC (fun v t=>BY H v (Ak.hi t)) hs D.loops/\Ee H ps D.sp/\Bt c H D.tm ob/\H pt=some (.tup (D.path.map V.int))
theorem DV.over {C:Addr}{c:Cs}{H H':Hp}{x:V}{D:Dw}(e:A7 H H')(h:DV C c H x D):DV C c H' x D:=by
 obtain⟨p,dx,nm,lo,hi,ps,pt,ob,ls,hs,rfl,h0,h1,h2,h3,h4,h5,h6,h7,h8⟩:=h
 exact⟨p,dx,nm,lo,hi,ps,pt,ob,ls,hs,rfl,e _ _ h0,e _ _ h1,e _ _ h2,h3.mono fun _ _ z=>z.tk (A7.tk e),e _ _ h4,h5.mono fun _ _ z=>z.tk (A7.tk e),h6.tk (A7.tk e),h7.over e,e _ _ h8⟩
def UC (C:Addr)(c:Cs)(H:Hp)(l:Addr)(Ds:List Dw):Prop := ∃xs,H l=some (.lst xs)/\AC (DV C c H) xs Ds
def SX (CP C:Addr)(c:Cs)(H:Hp)(v:V)(n:Int)(Ds:List Dw):Prop := ∃(x dx dl:Addr),v = .ref x/\H x=some (.ins CP dx [("size",.int n),("deeds",.ref dl)])/\UC C c H dl Ds
def wo2 (H:Hp)(a b:Addr):Hp:=fun x=>if x=a\/x=b then none else H x
theorem BZ {H:Hp}{a b:Addr}:A7 (wo2 H a b) H:=fun x o h=>by
 unfold wo2 at h
 split at h
 .cases h
 .exact h
theorem Kt {H H':Hp}{a b:Addr}(e:A7 H H'):A7 (wo2 H a b) (wo2 H' a b):=fun x o h=>by
 unfold wo2 at h ⊢
 split at h
 .cases h
 .rename_i c;rw[Ae c];exact e x o h
theorem KH {H:Hp}{a b:Addr}{o:HO}:wo2 (upd H a o) a b=wo2 H a b:=by
 funext x
 unfold wo2
 by_cases c:x=a\/x=b
 .rw[Ag c,Ag c]
 .rw[Ae c,Ae c,A8 fun z=>c (.inl z)]
theorem KN {H:Hp}{a b:Addr}{o:HO}:wo2 (upd H b o) a b=wo2 H a b:=by
 funext x
 unfold wo2
 by_cases c:x=a\/x=b
 .rw[Ag c,Ag c]
 .rw[Ae c,Ae c,A8 fun z=>c (.inr z)]
theorem Ge {H:Hp}{a b x:Addr}{o:HO}(h:H x=some o)(h1:x≠a)(h2:x≠b):wo2 H a b x=some o:=by
 unfold wo2
 rw[Ae (fun z=>z.elim h1 h2)]
 exact h
theorem Qq (z:Str)(l:List Str):Dj (.str z) (l.map V.str)=decide (z∈l):=by
 unfold Dj
 induction l with
 |nil=>rfl
 |
  cons y l ih=>
  rw[BS,HZ,ih]
  have e:E1 (.str y) (.str z)=decide (z=y):=by
   show(y==z)=_
   rw[E4]
   simp only[E8,DQ]
   exact⟨fun e=>e.symm,fun e=>e.symm⟩
  rw[e,E4]
  simp
def GI (H:Hp)(x:V)(p:Nat×Pw.Rr Ak Str):Prop := ∃t,x = .ref t/\H t=some (.tup [.int (p.1:Int),.str (Hi p.2)])
theorem GI.tk {H H':Hp}{x:V}{p:Nat×Pw.Rr Ak Str}(k:TK H H')(h:GI H x p):GI H' x p:=by obtain⟨t,e,h⟩:=h;exact⟨t,e,k _ _ h⟩
structure BX (H0 H:Hp)(rl dl o pt:Addr)(la:V)(ts:List Ak)(path:List Int)(R:Pw.Rw Ak Str)(Ds:List Dw)(tl:Ak):Prop where
 same:A7 H0 H
 op:FA (wo2 H rl dl) o ts
 pa:wo2 H rl dl pt=some (.lst (path.map V.int))
 la:DS H la tl
 rows:∃xs,H rl=some (.lst xs)/\AC (GI H) xs R
 deeds:∃ys,H dl=some (.lst ys)/\AC (Ei (wo2 H rl dl)) ys Ds
 rne:rl≠dl
 h0r:H0 rl=none
 h0d:H0 dl=none
theorem BX.over {H0 H H':Hp}{rl dl o pt:Addr}{la:V}{ts:List Ak}{path:List Int}{R:Pw.Rw Ak Str}{Ds:List Dw}{tl:Ak}(h:BX H0 H rl dl o pt la ts path R Ds tl)(e:A7 H H'):BX H0 H' rl dl o pt la ts path R Ds tl:=by
 obtain⟨xs,hx,ax⟩:=h.rows
 obtain⟨ys,hy,ay⟩:=h.deeds
 exact⟨h.same.trans e,h.op.over (Kt e),Kt e _ _ h.pa,h.la.tk (A7.tk e),⟨xs,e _ _ hx,ax.mono fun _ _ z=>z.tk (A7.tk e)⟩,⟨ys,e _ _ hy,ay.mono fun _ _ z=>z.over (Kt e)⟩,h.rne,h.h0r,h.h0d⟩
theorem BX.row {H0 H:Hp}{rl dl o pt:Addr}{la:V}{ts:List Ak}{path:List Int}{R:Pw.Rw Ak Str}{Ds:List Dw}{tl:Ak}(h:BX H0 H rl dl o pt la ts path R Ds tl){t:Addr}{xs:List V}{p:Nat×Pw.Rr Ak Str}(hx:H rl=some (.lst xs))(ht:H t=some (.tup [.int (p.1:Int),.str (Hi p.2)])):BX H0 (upd H rl (.lst (xs++[.ref t]))) rl dl o pt la ts path (R++[p]) Ds tl:=by
 obtain⟨xs',hx',ax⟩:=h.rows
 obtain⟨ys,hy,ay⟩:=h.deeds
 rw[hx]at hx'
 cases hx'
 have tk:TK H (upd H rl (.lst (xs++[.ref t]))):=TK.upd hx
 exact⟨fun b o hb=>by rw[A8 (AI hb h.h0r)];exact h.same _ _ hb,by rw[KH];exact h.op,by rw[KH];exact h.pa,h.la.tk tk,⟨_,A6,(ax.mono fun _ _ z=>z.tk tk).snoc ⟨t,rfl,tk _ _ ht⟩⟩,⟨ys,by rw[A8 h.rne.symm];exact hy,by rw[KH];exact ay⟩,h.rne,h.h0r,h.h0d⟩
theorem BX.deed {H0 H:Hp}{rl dl o pt:Addr}{la:V}{ts:List Ak}{path:List Int}{R:Pw.Rw Ak Str}{Ds:List Dw}{tl:Ak}(h:BX H0 H rl dl o pt la ts path R Ds tl){x:V}{ys:List V}{D:Dw}(hy:H dl=some (.lst ys))(hD:Ei (wo2 H rl dl) x D):BX H0 (upd H dl (.lst (ys++[x]))) rl dl o pt la ts path R (Ds++[D]) tl:=by
 obtain⟨xs,hx,ax⟩:=h.rows
 obtain⟨ys',hy',ay⟩:=h.deeds
 rw[hy]at hy'
 cases hy'
 have tk:TK H (upd H dl (.lst (ys++[x]))):=TK.upd hy
 exact⟨fun b o hb=>by rw[A8 (AI hb h.h0d)];exact h.same _ _ hb,by rw[KN];exact h.op,by rw[KN];exact h.pa,h.la.tk tk,⟨xs,by rw[A8 h.rne];exact hx,ax.mono fun _ _ z=>z.tk tk⟩,⟨_,A6,by rw[KN];exact ay.snoc hD⟩,h.rne,h.h0r,h.h0d⟩
theorem BX.newO {H0 H:Hp}{rl dl o pt:Addr}{la:V}{ts:List Ak}{path:List Int}{R:Pw.Rw Ak Str}{Ds:List Dw}{tl:Ak}(h:BX H0 H rl dl o pt la ts path R Ds tl){p:Addr}{vs:List V}{ts':List Ak}(hp:H p=none)(hv:AC (DS H) vs ts'):BX H0 (upd H p (.lst vs)) rl dl p pt la ts' path R Ds tl:=by
 have e:=Ac hp (.lst vs)
 have n:=h.over e
 obtain⟨xs,hx,_⟩:=h.rows
 obtain⟨ys,hy,_⟩:=h.deeds
 have n1:=(AI hx hp).symm
 have n2:=(AI hy hp).symm
 refine⟨n.same,⟨vs,Ge A6 n1 n2,hv.mono fun v t z=>?_⟩,n.pa,n.la,n.rows,n.deeds,n.rne,n.h0r,n.h0d⟩
 obtain⟨q,a,b,rfl,h0,⟨qa,rfl,ha⟩,⟨qb,rfl,hb⟩⟩:=z
 have g:∀{c:Addr} {zs:List V},H c=some (.tup zs)->wo2 (upd H p (.lst vs)) rl dl c=some (.tup zs):=fun{c zs} hc=>Ge (e _ _ hc) (CY hc hx (by intro z;cases z)) (CY hc hy (by intro z;cases z))
 exact⟨q,.ref qa,.ref qb,rfl,g h0,⟨qa,rfl,g ha⟩,⟨qb,rfl,g hb⟩⟩
theorem BX.newP {H0 H:Hp}{rl dl o pt:Addr}{la:V}{ts:List Ak}{path path':List Int}{R:Pw.Rw Ak Str}{Ds:List Dw}{tl:Ak}(h:BX H0 H rl dl o pt la ts path R Ds tl){p:Addr}(hp:H p=none):BX H0 (upd H p (.lst (path'.map V.int))) rl dl o p la ts path' R Ds tl:=by
 have n:=h.over (Ac hp (.lst (path'.map V.int)))
 obtain⟨xs,hx,_⟩:=h.rows
 obtain⟨ys,hy,_⟩:=h.deeds
 exact⟨n.same,n.op,Ge A6 (AI hx hp).symm (AI hy hp).symm,n.la,n.rows,n.deeds,n.rne,n.h0r,n.h0d⟩
theorem II.wo2' {H:Hp}{rl dl o:Addr}{x:V}{D:Dw}{xs ys:List V}{ts:List Ak}(h:II H o x D)(hx:H rl=some (.lst xs))(hy:H dl=some (.lst ys))(op:FA (L2.wo2 H rl dl) o ts)(eL:D.loops=ts):Ei (L2.wo2 H rl dl) x D:=by
 obtain⟨p,ps,pt,sh,rfl,h0,_,h2,h3,h4⟩:=h
 have tk:TK H (L2.wo2 H rl dl):=fun b zs hb=>Ge hb (CY hb hx (by intro z;cases z)) (CY hb hy (by intro z;cases z))
 exact⟨o,p,ps,pt,sh,rfl,tk _ _ h0,by rw[eL];exact op,h2.tk tk,h3.tk tk,tk _ _ h4⟩
theorem BX.start {H:Hp}{o pt rl dl q1 q2 la:Addr}(h1:H o=none)(h2:(upd H o (.lst [])) pt=none)(h3:(upd (upd H o (.lst [])) pt (.lst [.int 0])) rl=none)
  (h4:(upd (upd (upd H o (.lst [])) pt (.lst [.int 0])) rl (.lst [])) dl=none)
  (h5:(upd (upd (upd (upd H o (.lst [])) pt (.lst [.int 0])) rl (.lst [])) dl (.lst [])) q1=none)
  (h6:(upd (upd (upd (upd (upd H o (.lst [])) pt (.lst [.int 0])) rl (.lst [])) dl (.lst [])) q1 (.tup [.str (Str.ofString ""),.int 0])) q2=none)
  (h7:(upd (upd (upd (upd (upd (upd H o (.lst [])) pt (.lst [.int 0])) rl (.lst [])) dl (.lst [])) q1 (.tup [.str (Str.ofString ""),.int 0])) q2 (.tup [.str (Str.ofString ""),.int 0])) la=none) :
  BX H (upd (upd (upd (upd (upd (upd (upd H o (.lst [])) pt (.lst [.int 0])) rl (.lst [])) dl (.lst [])) q1 (.tup [.str (Str.ofString ""),.int 0])) q2 (.tup [.str (Str.ofString ""),.int 0])) la (.tup [.str (Str.ofString ""),.ref q1,.ref q2])) rl dl o pt (.ref la) [] [0] [] [] ⟨"",("",0),("",0)⟩:=by
 have s1:=Ac h1 (.lst [])
 have s2:=Ac h2 (.lst [.int 0])
 have s3:=Ac h3 (.lst [])
 have s4:=Ac h4 (.lst [])
 have s5:=Ac h5 (.tup [.str (Str.ofString ""),.int 0])
 have s6:=Ac h6 (.tup [.str (Str.ofString ""),.int 0])
 have s7:=Ac h7 (.tup [.str (Str.ofString ""),.ref q1,.ref q2])
 have a1:(upd H o (.lst [])) o=some (.lst []):=A6
 have b1:=s2 _ _ a1
 have b2:(upd (upd H o (.lst [])) pt (.lst [.int 0])) pt=some (.lst [.int 0]):=A6
 have c3:(upd (upd (upd H o (.lst [])) pt (.lst [.int 0])) rl (.lst [])) rl=some (.lst []):=A6
 have nOr:o≠rl:=AI b1 h3
 have nPr:pt≠rl:=AI b2 h3
 have nOd:o≠dl:=AI (s3 _ _ b1) h4
 have nPd:pt≠dl:=AI (s3 _ _ b2) h4
 have nrd:rl≠dl:=AI c3 h4
 have t:=((s4.trans s5).trans s6).trans s7
 have t5:=(s5.trans s6).trans s7
 refine⟨((s1.trans s2).trans s3).trans t,⟨[],Ge (t _ _ (s3 _ _ b1)) nOr nOd,.nil⟩,Ge (t _ _ (s3 _ _ b2)) nPr nPd,⟨la,.ref q1,.ref q2,rfl,A6,⟨q1,rfl,s7 _ _ (s6 _ _ A6)⟩,⟨q2,rfl,s7 _ _ A6⟩⟩,⟨[],t _ _ c3,.nil⟩,⟨[],t5 _ _ A6,.nil⟩,nrd,(s1.trans s2).free h3,((s1.trans s2).trans s3).free h4⟩
section
variable {X:Cx}
def Qm:V->V->Hp->VK->Prop:=fun o i H Q=>∃p xs v,o = .ref p/\i = .int (-1)/\H p=some (.lst (xs++[v]))/\Q v H
theorem Oh:Nl X Qm:=by
 intro pins s σ H o i ov iv Q I ro ri h
 obtain⟨p,xs,z,rfl,rfl,hp,q⟩:=h
 cases ro
 obtain⟨t,rfl⟩:=ri
 obtain⟨its,r,pl,hz⟩:=I.list (A3.of hp)
 obtain⟨j,h1,h2,h3,h4,h5⟩:=Ji (L1 xs z)
 obtain⟨w,ew,rw'⟩:=r.get h2
 have hl:=r.length
 have hn:=FW
 have fin:EP X pins σ Q w s:=⟨z,H,I,rw',q⟩
 have hj:((-1:Int)+(its.toArray.size:Int)).toNat=j:=by
  rw[LU (by omega) h4]at h1
  rw[B8,←hl]
  exact BP h1
 exact wpAny_getItem_list_neg pl.isList (by omega) (by rw[B8]<;>omega) (by omega) (by rw[hj];simpa using ew) fin
end
theorem R4 (n:Nat):E2 (n+1) (-1)=some n:=by
 unfold E2
 rw[Ae (by decide),Ag (by omega)]
 congr 1
 omega
end L2
namespace Rd
open PySem L2
structure Dr where
 sz:Option Int
 dd:List Dw
 lp:List Ak
 pa:List Int
 la:Int
structure Da where
 d:Addr
 dx:Addr
 dl:Addr
 tl:Addr
 nl:Addr
 ll:Addr
 hl:Addr
 pl:Addr
def Da.own (A:Da)(b:Addr):Prop:=b=A.d\/b=A.dl\/b=A.tl\/b=A.nl\/b=A.ll\/b=A.hl\/b=A.pl
def szV:Option Int->V
 |none=>.non
 |some n=>.int n
def Da.fs (A:Da)(v:V):List (Str×V):=[("size",v),("deeds",.ref A.dl),("tables",.ref A.tl),("names",.ref A.nl),("lows",.ref A.ll),("highs",.ref A.hl),("path",.ref A.pl)]
def Ob:HO->Prop
 |.tup _=>True
 |.ins _ _ fs=>fs.lookup (Str.ofString "size")=none
 |_=>False
def Kp (H H':Hp):Prop := ∀b o,H b=some o->Ob o->H' b=some o
theorem Kp.trans {H H1 H2:Hp}(a:Kp H H1)(b:Kp H1 H2):Kp H H2:=fun c o h n=>b c o (a c o h n) n
theorem Kp.lst {H:Hp}{l:Addr}{xs ys:List V}(h:H l=some (.lst xs)):Kp H (upd H l (.lst ys)):=fun b o e n=>by
 rw[A8 (fun z=>by rw[z,h]at e;cases e;exact n)]
 exact e
theorem Kp.tk {H H':Hp}(e:Kp H H'):TK H H':=fun p xs h=>e _ _ h True.intro
theorem tb_kp {c:Cs}{H H':Hp}(e:Kp H H'):∀{t:Tw} {x:V},Bt c H t x->Bt c H' t x
 |.n i,x,h=>let ⟨t,dx,r,h⟩:=h;⟨t,dx,r,e _ _ h (by show List.lookup _ _=none;rfl)⟩
 |.v z,x,h=>let ⟨t,dx,r,h⟩:=h;⟨t,dx,r,e _ _ h (by show List.lookup _ _=none;rfl)⟩
 |.c z sp,x,h=>let ⟨t,dx,p,r,h,g⟩:=h;⟨t,dx,p,r,e _ _ h (by show List.lookup _ _=none;rfl),g.tk e.tk⟩
 |.j z l r,x,h=>let ⟨t,dx,a,b,r,h,g1,g2⟩:=h;⟨t,dx,a,b,r,e _ _ h (by show List.lookup _ _=none;rfl),tb_kp e g1,tb_kp e g2⟩
theorem PtAt.kp {c:Cs}{H H':Hp}(e:Kp H H'){v:V}{k:Tk}(h:PtAt c H v k):PtAt c H' v k:=by
 cases k with
 |s a=>exact h
 |t w=>exact tb_kp e h
theorem Hh {C:Addr}{c:Cs}{H H':Hp}{x:V}{D:Dw}(e:Kp H H')(h:DV C c H x D):DV C c H' x D:=by
 obtain⟨p,dx,nm,lo,hi,ps,pt,ob,ls,hs,rfl,h0,h1,h2,h3,h4,h5,h6,h7,h8⟩:=h
 exact⟨p,dx,nm,lo,hi,ps,pt,ob,ls,hs,rfl,e _ _ h0 (by show List.lookup _ _=none;rfl),e _ _ h1 True.intro,e _ _ h2 True.intro,h3.mono fun _ _ z=>z.tk e.tk,e _ _ h4 True.intro,h5.mono fun _ _ z=>z.tk e.tk,h6.tk e.tk,tb_kp e h7,e _ _ h8 True.intro⟩
def tbK (tb:List (Str×Nat)):List (Bb×V):=tb.map fun p=>(.inr p.1,.int (p.2:Int))
structure DrAt (CD C:Addr)(c:Cs)(f:Str->Nat)(H:Hp)(A:Da)(D:Dr):Prop where
 o:H A.d=some (.ins CD A.dx (A.fs (szV D.sz)))
 dd:∃xs,H A.dl=some (.lst xs)/\AC (DV C c H) xs D.dd
 tb:∃tb,H A.tl=some (.dK (tbK tb))/\(∀p∈tb,p.2=f p.1)/\tb.length<=2000*D.dd.length
 nm:H A.nl=some (.lst (D.lp.map fun t=>V.str t.nm))
 lo:∃xs,H A.ll=some (.lst xs)/\AC (fun v t=>BY H v (Ak.lo t)) xs D.lp
 hi:∃xs,H A.hl=some (.lst xs)/\AC (fun v t=>BY H v (Ak.hi t)) xs D.lp
 pa:H A.pl=some (.lst ((D.pa++[D.la]).map V.int))
 nd:[A.dl,A.nl,A.ll,A.hl,A.pl].Nodup
 pl:D.pa.length=D.lp.length
def Out (A:Da)(H H':Hp):Prop := ∀b o,H b=some o->¬A.own b->H' b=some o
theorem Out.of {A:Da}{H H':Hp}(e:A7 H H'):Out A H H':=fun b o h _=>e b o h
theorem Out.trans {A:Da}{H H1 H2:Hp}(a:Out A H H1)(b:Out A H1 H2):Out A H H2:=fun c o h n=>b c o (a c o h n) n
theorem Out.put {A:Da}{H:Hp}{l:Addr}{u:HO}(h:A.own l):Out A H (upd H l u):=fun b o e n=>by
 rw[A8 (show b≠l from fun z=>n (by rw[z];exact h))]
 exact e
theorem DrAt.over {CD C:Addr}{c:Cs}{f:Str->Nat}{H H':Hp}{A:Da}{D:Dr}(e:A7 H H')(h:DrAt CD C c f H A D):DrAt CD C c f H' A D:=by
 obtain⟨xs,d1,d2⟩:=h.dd
 obtain⟨tb,t1,t2⟩:=h.tb
 obtain⟨ls,l1,l2⟩:=h.lo
 obtain⟨hs,h1,h2⟩:=h.hi
 exact⟨e _ _ h.o,⟨xs,e _ _ d1,d2.mono fun _ _ z=>z.over e⟩,⟨tb,e _ _ t1,t2⟩,e _ _ h.nm,⟨ls,e _ _ l1,l2.mono fun _ _ z=>z.tk (A7.tk e)⟩,⟨hs,e _ _ h1,h2.mono fun _ _ z=>z.tk (A7.tk e)⟩,e _ _ h.pa,h.nd,h.pl⟩
theorem DrAt.not_own {CD C:Addr}{c:Cs}{f:Str->Nat}{H:Hp}{A:Da}{D:Dr}(h:DrAt CD C c f H A D){b:Addr}{o:HO}(e:H b=some o)(ob:Ob o):¬A.own b:=by
 obtain⟨xs,d1,d2⟩:=h.dd
 obtain⟨tb,t1,t2⟩:=h.tb
 obtain⟨ls,l1,l2⟩:=h.lo
 obtain⟨hs,h1,h2⟩:=h.hi
 have key:∀{a:Addr} {u:HO},H a=some u->¬Ob u->b≠a:=fun{a u} ea nu z=>by
  rw[z,ea]at e
  exact nu (BP e▸ob)
 rintro (z|z|z|z|z|z|z)
 .exact key h.o (fun z=>by have z:List.lookup _ _=none:=z;exact absurd z (by show ¬some _=none;exact fun y=>nomatch y)) z
 .exact key d1 (fun z=>z) z
 .exact key t1 (fun z=>z) z
 .exact key h.nm (fun z=>z) z
 .exact key l1 (fun z=>z) z
 .exact key h1 (fun z=>z) z
 .exact key h.pa (fun z=>z) z
theorem DrAt.kp {CD C:Addr}{c:Cs}{f:Str->Nat}{H H':Hp}{A:Da}{D:Dr}(h:DrAt CD C c f H A D)(e:Out A H H'):Kp H H':=fun b o hb ob=>e b o hb (h.not_own hb ob)
def DrAt.drn {CD C:Addr}{c:Cs}{f:Str->Nat}{H:Hp}{A:Da}{D:Dr}(h:DrAt CD C c f H A D):Ln CD H A.d (D.lp.map (·.nm)):=⟨A.dx,_,A.nl,h.o,rfl,by rw[GP];exact h.nm⟩
def D0:Dr:=⟨none,[],[],[],0⟩
def spDrI (CD C:Addr)(c:Cs):Sp:=fun vs H Q _=>∃(x dx:Addr),vs=[.ref x]/\H x=some (.ins CD dx [])/\∀(H':Hp) (A:Da),A.d=x->(∀b o,H b=some o->b≠x->H' b=some o)->(∀b,A.own b->b≠x->H b=none)->(∀f,DrAt CD C c f H' A D0)->Q .non H'
def Kf (nm:List Str):Tk->Prop
 |.t (.v z)=>z∈nm
 |.t (.c _ sp)=>sp.all (knw nm)=true
 |_=>True
def spNamesK (CD:Addr)(c:Cs):Sp:=fun vs H Q _=>∃(d l:Addr) (nm:List Str) (xs:List V) (ks:List Tk),vs=[.ref d,.ref l]/\Ln CD H d nm/\H l=some (.lst xs)/\AC (PtAt c H) xs ks/\(∀k∈ks,k.Ok)/\(∀k∈ks,Kf nm k)/\∀H',A7 H H'->Q (.bl true) H'
def L0 (f:Str->Nat):Tk->Prop
 |.t (.c z sp)=>f z=sp.length
 |_=>True
def spTabs (CD:Addr)(c:Cs):Sp:=fun vs H Q _=>∃(d l dx t:Addr) (fs:List (Str×V)) (xs:List V) (ks:List Tk) (f:Str->Nat) (tb:List (Str×Nat)),vs=[.ref d,.ref l]/\H d=some (.ins CD dx fs)/\fs.lookup (Str.ofString "tables")=some (.ref t)/\H t=some (.dK (tbK tb))/\(∀p∈tb,p.2=f p.1)/\tb.length+ks.length<=100000/\H l=some (.lst xs)/\AC (PtAt c H) xs ks/\(∀k∈ks,k.Ok)/\(∀k∈ks,L0 f k)/\
 ∀(H':Hp) (tb':List (Str×Nat)),(∀b o,H b=some o->b≠t->H' b=some o)->H' t=some (.dK (tbK tb'))->(∀p∈tb',p.2=f p.1)->tb'.length<=tb.length+ks.length->Q (.bl true) H'
theorem tb_val {tb:List (Str×Nat)}{f:Str->Nat}(h:∀p∈tb,p.2=f p.1){z:Str}{v:V}(e:CO (tbK tb) (.inr z)=some v):v = .int (f z:Int):=by
 unfold CO tbK at e
 cases hf:(tb.map fun p=>((.inr p.1:Bb),V.int (p.2:Int))).find? (fun kv=>decide (kv.1=(.inr z:Bb))) with
 |none=>rw[hf]at e;cases e
 |
  some q=>
  rw[hf]at e
  obtain⟨p,hp,e2⟩:=DE.mp (List.mem_of_find?_eq_some hf)
  have e3:q.1=(.inr z:Bb):=by have:=List.find?_some hf;exact Kd this
  subst e2
  have e4:p.1=z:=Sum.inr.inj e3
  have e5:V.int (p.2:Int)=v:=BP e
  rw[←e5,h p hp,e4]
theorem tb_put {tb:List (Str×Nat)}{f:Str->Nat}(h:∀p∈tb,p.2=f p.1){z:Str}(e:CO (tbK tb) (.inr z)=none):∃tb',Fd (tbK tb) (.inr z) (.int (f z:Int))=tbK tb'/\(∀p∈tb',p.2=f p.1)/\tb'.length=tb.length+1:=by
 refine⟨tb++[(z,f z)],?_,fun p hp=>?_,by rw[Au];rfl⟩
 .have hn:(tbK tb).find? (fun kv=>decide (kv.1=(.inr z:Bb)))=none:=by
   unfold CO at e
   cases hf:(tbK tb).find? (fun kv=>decide (kv.1=(.inr z:Bb))) with
   |none=>rfl
   |some q=>rw[hf]at e;cases e
  have hany:(tbK tb).any (fun kv=>decide (kv.1=(.inr z:Bb)))=false:=by
   rw[List.any_eq_false]
   exact List.find?_eq_none.mp hn
  unfold Fd
  rw[hany]
  unfold tbK
  rw[B3]
  rfl
 .rcases Bj.mp hp with hp|hp
  .exact h p hp
  .rw[E6.mp hp]
theorem flat_strs (nm:List Str):(nm.map V.str).all CM=true:=by
 rw[EU]
 intro x hx
 obtain⟨z,_,rfl⟩:=DE.mp hx
 rfl
theorem in_strs (nm:List Str)(z:Str):Dj (.str z) (nm.map V.str)=decide (z∈nm):=by
 induction nm with
 |nil=>rfl
 |
  cons a l ih=>
  have e:Dj (.str z) ((a::l).map V.str)=(decide (a=z)||Dj (.str z) (l.map V.str)):=rfl
  rw[e,ih,←Bool.decide_or]
  exact decide_eq_decide.mpr (by rw[AQ];exact⟨fun h=>h.elim (fun h=>.inl h.symm) .inr,fun h=>h.elim (fun h=>.inl h.symm) .inr⟩)
theorem put2 {H:Hp}{l x:Addr}{u v w:HO}(hl:H l=none)(hx:H x=some u):l≠x/\(upd (upd H l v) x w) l=some v/\∀b o,H b=some o->b≠x->(upd (upd H l v) x w) b=some o:=by
 have n:l≠x:=fun e=>by rw[e,hx]at hl;cases hl
 refine⟨n,by rw[A8 n];exact A6,fun b o e nb=>?_⟩
 rw[A8 nb,A8 (AI e hl)]
 exact e
def Pa (D:Dr)(t:Ak):Dr:=⟨D.sz,D.dd,D.lp++[t],D.pa++[D.la],0⟩
def R6 (D:Dr)(tb:Str)(sp:List (Str×Int))(t:Tw):Dr:=⟨D.sz,D.dd++[⟨D.lp,tb,sp,t,D.pa++[D.la]⟩],D.lp,D.pa,D.la+1⟩
theorem cel_no {z:Str}{sp:List (Str×Int)}(ok:(Tk.t (.c z sp)).Ok){c:Nat}(hc:¬(97<=c/\c<=122)/\¬(48<=c/\c<=57)/\c≠43/\c≠45/\c≠91/\c≠93:=by omega):c∉cds (Ba z sp):=by
 obtain⟨hz,hne,_,hsp⟩:=ok
 have key:∀{l:List (List Nat)},(∀a∈l,c∉a)->c∉inner l:=fun{l} hl=>by
  induction l with
  |nil=>intro z;cases z
  |
   cons a l ih=>
   cases l with
   |nil=>exact hl a AY
   |
    cons b l=>
    intro z
    have z:c∈a++([93,91]++inner (b::l)):=z
    rcases Bj.mp z with z|z
    .exact hl a AY z
    .rcases Bj.mp z with z|z
     .simp only[AQ,CL,or_false]at z
      omega
     .exact ih (fun x hx=>hl x (BH _ hx)) z
 rw[cel_cds hne]
 intro z
 rcases Bj.mp z with z|z
 .exact name_no hz hc.1 z
 .rcases AQ.mp z with z|z
  .omega
  .rcases Bj.mp z with z|z
   .refine key (fun a ha=>?_) z
    obtain⟨s,hs,rfl⟩:=DE.mp ha
    exact spot_free (hsp s hs) ⟨hc.1,hc.2.1,hc.2.2.1,hc.2.2.2.1⟩
   .have:=E6.mp z
    omega
theorem map_cds_inj:∀{a b:List Str},a.map cds=b.map cds->a=b
 |[],[],_=>rfl
 |[],_::_,h=>nomatch h
 |_::_,[],h=>nomatch h
 |
  x::a,y::b,h=>by
  rw[BS,BS]at h
  injection h with h1 h2
  rw[DK h1,map_cds_inj h2]
theorem QS (c:Nat)(l:List Nat):(stp c l).length<=l.length:=by
 unfold stp
 rw[K5]
 have h1:=(List.dropWhile_sublist (· == c) (l:=(l.dropWhile (· == c)).reverse)).length_le
 have h2:=(List.dropWhile_sublist (· == c) (l:=l)).length_le
 rw[K5]at h1
 omega
theorem bare_len (l:List Nat):(bare l).length<=l.length:=by
 unfold bare
 have h:=QS 32 (if 59∈l then Ck 59 l else l)
 split at h
 .unfold Ck at h ⊢
  rename_i hc
  rw[Ag hc]
  rw[Bh]at h
  omega
 .rename_i hc
  rw[Ae hc]
  exact h
theorem set_last (xs:List V)(v w:V):(xs++[v]).set xs.length w=xs++[w]:=by
 rw[List.set_append_right _ _ (Ai _),EC]
 rfl
theorem ix_end (xs:List V)(v:V):E2 (xs++[v]).length (-1)=some xs.length:=by
 rw[Au]
 exact R4 _
section
variable {CD C:Addr}{c:Cs}{f:Str->Nat}{H H':Hp}{A:Da}{D:Dr}
theorem DrAt.ne (h:DrAt CD C c f H A D):A.nl≠A.d/\A.ll≠A.d/\A.hl≠A.d/\A.pl≠A.d/\A.dl≠A.d/\A.tl≠A.d/\A.nl≠A.tl/\A.ll≠A.tl/\A.hl≠A.tl/\A.pl≠A.tl/\A.dl≠A.tl:=by
 obtain⟨xs,d1,d2⟩:=h.dd
 obtain⟨tb,t1,t2⟩:=h.tb
 obtain⟨ls,l1,l2⟩:=h.lo
 obtain⟨hs,h1,h2⟩:=h.hi
 exact⟨CY h.nm h.o (by intro z;cases z),CY l1 h.o (by intro z;cases z),CY h1 h.o (by intro z;cases z),CY h.pa h.o (by intro z;cases z),CY d1 h.o (by intro z;cases z),CY t1 h.o (by intro z;cases z),CY h.nm t1 (by intro z;cases z),CY l1 t1 (by intro z;cases z),CY h1 t1 (by intro z;cases z),CY h.pa t1 (by intro z;cases z),CY d1 t1 (by intro z;cases z)⟩
theorem DrAt.nds (h:DrAt CD C c f H A D):(A.dl≠A.nl/\A.dl≠A.ll/\A.dl≠A.hl/\A.dl≠A.pl)/\(A.nl≠A.ll/\A.nl≠A.hl/\A.nl≠A.pl)/\(A.ll≠A.hl/\A.ll≠A.pl)/\A.hl≠A.pl:=by
 have:=h.nd
 simp only[G5,AQ,CL,or_false,not_or,List.nodup_nil,OT,and_true]at this
 exact this
theorem DrAt.size (h:DrAt CD C c f H A D)(n:Int):Out A H (upd H A.d (.ins CD A.dx (Ab "size" (.int n) (A.fs (szV D.sz)))))/\DrAt CD C c f (upd H A.d (.ins CD A.dx (Ab "size" (.int n) (A.fs (szV D.sz))))) A ⟨some n,D.dd,D.lp,D.pa,D.la⟩:=by
 have out:Out A H (upd H A.d (.ins CD A.dx (Ab "size" (.int n) (A.fs (szV D.sz))))):=Out.put (.inl rfl)
 have kp:=h.kp out
 obtain⟨n1,n2,n3,n4,n5,n6,_⟩:=h.ne
 obtain⟨xs,d1,d2⟩:=h.dd
 obtain⟨tb,t1,t2⟩:=h.tb
 obtain⟨ls,l1,l2⟩:=h.lo
 obtain⟨hs,h1,h2⟩:=h.hi
 exact⟨out,A6,⟨xs,by rw[A8 n5];exact d1,d2.mono fun _ _ z=>Hh kp z⟩,⟨tb,by rw[A8 n6];exact t1,t2⟩,by rw[A8 n1];exact h.nm,⟨ls,by rw[A8 n2];exact l1,l2.mono fun _ _ z=>z.tk kp.tk⟩,⟨hs,by rw[A8 n3];exact h1,h2.mono fun _ _ z=>z.tk kp.tk⟩,by rw[A8 n4];exact h.pa,h.nd,h.pl⟩
def four (H:Hp)(A:Da)(a b c d:List V):Hp:=upd (upd (upd (upd H A.nl (.lst a)) A.ll (.lst b)) A.hl (.lst c)) A.pl (.lst d)
theorem DrAt.four (h:DrAt CD C c f H A D){lp:List Ak}{pa:List Int}{la:Int}{ls hs:List V}(hl:AC (fun v t=>BY H v (Ak.lo t)) ls lp)(hh:AC (fun v t=>BY H v (Ak.hi t)) hs lp)(pl:pa.length=lp.length) :
  Out A H (Rd.four H A (lp.map fun t=>V.str t.nm) ls hs ((pa++[la]).map V.int))/\DrAt CD C c f (Rd.four H A (lp.map fun t=>V.str t.nm) ls hs ((pa++[la]).map V.int)) A ⟨D.sz,D.dd,lp,pa,la⟩:=by
 have out:Out A H (Rd.four H A (lp.map fun t=>V.str t.nm) ls hs ((pa++[la]).map V.int)):=(((Out.put (.inr (.inr (.inr (.inl rfl))))).trans (Out.put (.inr (.inr (.inr (.inr (.inl rfl))))))).trans (Out.put (.inr (.inr (.inr (.inr (.inr (.inl rfl)))))))).trans (Out.put (.inr (.inr (.inr (.inr (.inr (.inr rfl)))))))
 have kp:=h.kp out
 obtain⟨n1,n2,n3,n4,n5,n6,m1,m2,m3,m4,m5⟩:=h.ne
 obtain⟨⟨a1,a2,a3,a4⟩,⟨b1,b2,b3⟩,⟨c1,c2⟩,e1⟩:=h.nds
 obtain⟨xs,d1,d2⟩:=h.dd
 obtain⟨tb,t1,t2⟩:=h.tb
 refine⟨out,?_,⟨xs,?_,d2.mono fun _ _ z=>Hh kp z⟩,⟨tb,?_,t2⟩,?_,⟨ls,?_,hl.mono fun _ _ z=>z.tk kp.tk⟩,⟨hs,?_,hh.mono fun _ _ z=>z.tk kp.tk⟩,A6,h.nd,pl⟩
 .unfold Rd.four;rw[A8 (Ne.symm n4),A8 (Ne.symm n3),A8 (Ne.symm n2),A8 (Ne.symm n1)];exact h.o
 .unfold Rd.four;rw[A8 a4,A8 a3,A8 a2,A8 a1];exact d1
 .unfold Rd.four;rw[A8 (Ne.symm m4),A8 (Ne.symm m3),A8 (Ne.symm m2),A8 (Ne.symm m1)];exact t1
 .unfold Rd.four;rw[A8 b3,A8 b2,A8 b1];exact A6
 .unfold Rd.four;rw[A8 c2,A8 c1];exact A6
 .unfold Rd.four;rw[A8 e1];exact A6
theorem DrAt.deed {H0:Hp}(h:DrAt CD C c f H0 A D){tb:List (Str×Nat)}{xs:List V}{x:V}{W:Dw}(o:H A.d=some (.ins CD A.dx (A.fs (szV D.sz))))(nm:H A.nl=some (.lst (D.lp.map fun t=>V.str t.nm))){ls hs:List V}(l1:H A.ll=some (.lst ls))(l2:AC (fun v t=>BY H v (Ak.lo t)) ls D.lp)(h1:H A.hl=some (.lst hs))(h2:AC (fun v t=>BY H v (Ak.hi t)) hs D.lp)(pa:H A.pl=some (.lst (D.pa.map V.int++[.int D.la])))
  (hd:H A.dl=some (.lst xs)) (pd:AC (DV C c H) xs D.dd) (hx:DV C c H x W) (ht:H A.tl=some (.dK (tbK tb))) (hf:∀p∈tb,p.2=f p.1) (hl:tb.length<=2000*(D.dd.length+1)) :
  Out A H (upd (upd H A.dl (.lst (xs++[x]))) A.pl (.lst (D.pa.map V.int++[.int (D.la+1)])))/\DrAt CD C c f (upd (upd H A.dl (.lst (xs++[x]))) A.pl (.lst (D.pa.map V.int++[.int (D.la+1)]))) A ⟨D.sz,D.dd++[W],D.lp,D.pa,D.la+1⟩:=by
 have out:Out A H (upd (upd H A.dl (.lst (xs++[x]))) A.pl (.lst (D.pa.map V.int++[.int (D.la+1)]))):=(Out.put (.inr (.inl rfl))).trans (Out.put (.inr (.inr (.inr (.inr (.inr (.inr rfl)))))))
 obtain⟨n1,n2,n3,n4,n5,n6,m1,m2,m3,m4,m5⟩:=h.ne
 obtain⟨⟨a1,a2,a3,a4⟩,⟨b1,b2,b3⟩,⟨c1,c2⟩,e1⟩:=h.nds
 have kp:Kp H (upd (upd H A.dl (.lst (xs++[x]))) A.pl (.lst (D.pa.map V.int++[.int (D.la+1)]))):=(Kp.lst hd).trans (Kp.lst ((A8 (Ne.symm a4)).trans pa))
 refine⟨out,?_,⟨xs++[x],?_,(pd.mono fun _ _ z=>Hh kp z).snoc (Hh kp hx)⟩,⟨tb,?_,hf,by rw[Au];exact hl⟩,?_,⟨ls,?_,l2.mono fun _ _ z=>z.tk kp.tk⟩,⟨hs,?_,h2.mono fun _ _ z=>z.tk kp.tk⟩,?_,h.nd,h.pl⟩
 .rw[A8 (Ne.symm n4),A8 (Ne.symm n5)];exact o
 .rw[A8 a4];exact A6
 .rw[A8 (Ne.symm m4),A8 (Ne.symm m5)];exact ht
 .rw[A8 b3,A8 (Ne.symm a1)];exact nm
 .rw[A8 c2,A8 (Ne.symm a2)];exact l1
 .rw[A8 e1,A8 (Ne.symm a3)];exact h1
 .rw[A6]
  show _=some (HO.lst ((D.pa++[D.la+1]).map V.int))
  rw[B3]
  rfl
theorem DrAt.tabs (h:DrAt CD C c f H A D)(e:∀b o,H b=some o->b≠A.tl->H' b=some o):Kp H H'/\Out A H H'/\H' A.d=some (.ins CD A.dx (A.fs (szV D.sz)))/\(∃xs,H' A.dl=some (.lst xs)/\AC (DV C c H') xs D.dd)/\H' A.nl=some (.lst (D.lp.map fun t=>V.str t.nm))/\(∃xs,H' A.ll=some (.lst xs)/\AC (fun v t=>BY H' v (Ak.lo t)) xs D.lp)/\(∃xs,H' A.hl=some (.lst xs)/\AC (fun v t=>BY H' v (Ak.hi t)) xs D.lp)/\H' A.pl=some (.lst ((D.pa++[D.la]).map V.int)):=by
 have out:Out A H H':=fun b o hb n=>e b o hb (fun z=>n (.inr (.inr (.inl z))))
 have kp:=h.kp out
 obtain⟨n1,n2,n3,n4,n5,n6,m1,m2,m3,m4,m5⟩:=h.ne
 obtain⟨xs,d1,d2⟩:=h.dd
 obtain⟨ls,l1,l2⟩:=h.lo
 obtain⟨hs,h1,h2⟩:=h.hi
 exact⟨kp,out,e _ _ h.o (Ne.symm n6),⟨xs,e _ _ d1 m5,d2.mono fun _ _ z=>Hh kp z⟩,e _ _ h.nm m1,⟨ls,e _ _ l1 m2,l2.mono fun _ _ z=>z.tk kp.tk⟩,⟨hs,e _ _ h1 m3,h2.mono fun _ _ z=>z.tk kp.tk⟩,e _ _ h.pa m4⟩
end
set_option genInjectivity true in
inductive Rk where
 |sz (n:Int)
 |opn (t:Ak)
 |fin
 |ded (tb:Str) (sp:List (Str×Int)) (ks:List Tk) (t:Tw)
def EF (f:Str->Nat)(D D':Dr):Rk->Prop
 |.sz n=>D.sz=none/\2<=n/\n<=999999999999999999/\D'=⟨some n,D.dd,D.lp,D.pa,D.la⟩
 |.opn t=>D.sz≠none/\D.lp.length<3/\Bp (cds t.nm)/\t.nm∉D.lp.map (·.nm)/\SpN t.lo/\SpN t.hi/\knw (D.lp.map (·.nm)) t.lo=true/\knw (D.lp.map (·.nm)) t.hi=true/\D'=Pa D t
 |.fin=>D.sz≠none/\∃(lp:List Ak) (t:Ak) (pa:List Int) (m:Int),D.lp=lp++[t]/\D.pa=pa++[m]/\D.la≠0/\D'=⟨D.sz,D.dd,lp,pa,m+1⟩
 |.ded tb sp ks t=>D.sz≠none/\D.dd.length<6/\(Tk.t (.c tb sp)).Ok/\(∀k∈ks,k.Ok)/\Dp ks/\ks.length<=999/\(∃T S,run ks ⟨[],[],true⟩=some ⟨T,S,false⟩/\jw 1 S T=([t],[]))/\(∀k∈Tk.t (.c tb sp)::ks,Kf (D.lp.map (·.nm)) k)/\(∀k∈Tk.t (.c tb sp)::ks,L0 f k)/\D'=R6 D tb sp t
def dedT (tb:Str)(sp:List (Str×Int))(ks:List Tk):List Nat:=cds (Ba tb sp)++61::txts ks
def spSizeT (CD C:Addr)(c:Cs):Sp:=fun vs H Q _=>∃(f:Str->Nat) (A:Da) (D D':Dr) (w:Addr) (n:Int),vs=[.ref A.d,.ref w]/\DrAt CD C c f H A D/\H w=some (.lst [.str "size",.str (nS n)])/\EF f D D' (.sz n)/\∀H',Out A H H'->DrAt CD C c f H' A D'->Q (.bl true) H'
def spLoopT (CD C:Addr)(c:Cs):Sp:=fun vs H Q _=>∃(f:Str->Nat) (A:Da) (D D':Dr) (w:Addr) (t:Ak),vs=[.ref A.d,.ref w]/\DrAt CD C c f H A D/\H w=some (.lst [.str "for",.str t.nm,.str (B6 t.lo),.str (B6 t.hi)])/\EF f D D' (.opn t)/\∀H',Out A H H'->DrAt CD C c f H' A D'->Q (.bl true) H'
def spEndT (CD C:Addr)(c:Cs):Sp:=fun vs H Q _=>∃(f:Str->Nat) (A:Da) (D D':Dr) (w:Addr),vs=[.ref A.d,.ref w]/\DrAt CD C c f H A D/\H w=some (.lst [.str "end"])/\EF f D D' .fin/\∀H',Out A H H'->DrAt CD C c f H' A D'->Q (.bl true) H'
def spDeedT (CD C:Addr)(c:Cs):Sp:=fun vs H Q _=>∃(f:Str->Nat) (A:Da) (D D':Dr) (z:Str) (tb:Str) (sp:List (Str×Int)) (ks:List Tk) (t:Tw),vs=[.ref A.d,.str z]/\DrAt CD C c f H A D/\cds z=dedT tb sp ks/\z.length<=100000/\EF f D D' (.ded tb sp ks t)/\∀H',Out A H H'->DrAt CD C c f H' A D'->Q (.bl true) H'
def Wds (l:List Nat)(ws:List Str):Prop := ∃ps:List Str,IsSplit [32] l (ps.map cds)/\ps.filter (fun y:Str=>decide (y≠Str.ofString ""))=ws
theorem Wds.at {l:List Nat}{ws ps:List Str}(h:Wds l ws)(s:IsSplit [32] l (ps.map cds)):ps.filter (fun y:Str=>decide (y≠Str.ofString ""))=ws:=by
 obtain⟨p0,s0,e⟩:=h
 have:ps=p0:=map_cds_inj (s.fn s0)
 rw[this]
 exact e
def Ja (l:List Nat):Rk->Prop
 |.sz n=>Wds l ["size",nS n]
 |.opn t=>Wds l ["for",t.nm,B6 t.lo,B6 t.hi]
 |.fin=>Wds l ["end"]
 |.ded tb sp ks _=>(∃w ws,Wds l (w::ws)/\w≠"for"/\w≠"end"/\w≠"size")/\l.filter (·≠32)=dedT tb sp ks
def spTaken (CD C:Addr)(c:Cs):Sp:=fun vs H Q _=>∃(f:Str->Nat) (A:Da) (D D':Dr) (z:Str) (r:Rk),vs=[.ref A.d,.str z]/\DrAt CD C c f H A D/\z.length<=100000/\Ja (cds z) r/\EF f D D' r/\∀H',Out A H H'->DrAt CD C c f H' A D'->Q (.bl true) H'
inductive Rds (f:Str->Nat):List Str->Dr->Dr->Prop
 |nil {D}:Rds f [] D D
 |no {z zs D E}:bare (cds z)=[]->Rds f zs D E->Rds f (z::zs) D E
 |row {z zs D D' E r}:bare (cds z)≠[]->Ja (bare (cds z)) r->EF f D D' r->Rds f zs D' E->Rds f (z::zs) D E
theorem Rds.six {f:Str->Nat}{zs:List Str}{D E:Dr}(h:Rds f zs D E):D.dd.length<=6->E.dd.length<=6:=by
 induction h with
 |nil=>exact id
 |no _ _ ih=>exact ih
 |
  @row z zs D D' E r _ _ hs _ ih=>
  intro h6
  refine ih ?_
  cases r with
  |sz n=>obtain⟨_,_,_,rfl⟩:=hs;exact h6
  |opn t=>obtain⟨_,_,_,_,_,_,_,_,rfl⟩:=hs;exact h6
  |fin=>obtain⟨_,_,_,_,_,_,_,_,rfl⟩:=hs;exact h6
  |
   ded tb sp ks t=>
   obtain⟨_,h,_,_,_,_,_,_,_,rfl⟩:=hs
   show(D.dd++[_]).length<=6
   rw[Au,BD]
   omega
end Rd
namespace Rd
open PySem L2
def tf (ns:List Str)(z:Str):Nat:=(ns.idxOf z+1)/2
structure Lk (nms ns:List Str)(k:Tk):Prop where
 ok:k.Ok
 kn:Kf nms k
 tb:L0 (tf ns) k
def Ex.txt:Ex->Str
 |.lf t=>(Tk.t t).txt
 |.br e=>"("++e.txt++")"
 |.jn c l r=>l.txt++sg c++r.txt
theorem Md (a b:List Tk):txts (a++b)=txts a++txts b:=by
 unfold txts
 rw[B3,List.flatten_append]
theorem Ny (k:Tk):txts [k]=cds k.txt:=by rw[txts_cons];exact DL _
theorem Ex.txt_tk:∀e:Ex,cds e.txt=txts e.tk
 |.lf t=>(Ny _).symm
 |
  .br e=>by
  show cds ("("++e.txt++")")=txts (.s 40::(e.tk++[.s 41]))
  rw[AN,AN,Ex.txt_tk e,txts_cons,Md,Ny]
  have e1:cds ("(":Str)=[40]:=by decide +kernel
  have e2:cds (")":Str)=[41]:=by decide +kernel
  rw[e1,e2,Co]
  rfl
 |
  .jn c l r=>by
  show cds (l.txt++sg c++r.txt)=txts (l.tk ++ .s c::r.tk)
  rw[AN,AN,Ex.txt_tk l,Ex.txt_tk r,Md,txts_cons,Co]
  rfl
def Ex.lv:Ex->Nat
 |.lf _=>1
 |.br e=>e.lv
 |.jn _ l r=>l.lv+r.lv
structure FN (nms ns:List Str)(e:Ex):Prop where
 ok:e.Ok
 lk:∀k∈e.tk,Lk nms ns k
 ln:e.tk.length+5<=8*e.lv
theorem PX {c:Nat}{b:List Tk}(k:Tk)(h:Dp b):Dp (k :: .s c::b):=by
 cases k<;>exact h
theorem Km {c:Nat}{b:List Tk}(hb:Dp b):∀{a:List Tk},Dp a->Dp (a ++ .s c::b)
 |[],_=>hb
 |[k],_=>PX k hb
 |
  k::k2::a,h=>by
  have ih:=Km (c:=c) hb (Ni h)
  cases k with
  |s d=>exact ih
  |
   t w=>
   cases k2 with
   |s d=>exact ih
   |t w2=>exact h.elim
theorem Ex.adj:∀e:Ex,Dp e.tk
 |.lf t=>True.intro
 |.br e=>Km (b:=[]) (show Dp [] from True.intro) (Ex.adj e)
 |.jn c l r=>Km (Ex.adj r) (Ex.adj l)
def KnAt (H:Hp)(l:Addr)(nms:List Str):Prop:=H l=some (.lst ((("":Str)::nms).map V.str))/\nms.length<=3/\∀z∈nms,Bp (cds z)
def ES (H:Hp)(l:Addr)(ns:List Str):Prop:=H l=some (.lst (ns.map V.str))/\ns.length=8/\ns.Nodup/\∀z∈ns,Bp (cds z)
theorem KnAt.over {H H':Hp}{l:Addr}{nms:List Str}(e:A7 H H')(h:KnAt H l nms):KnAt H' l nms:=⟨e _ _ h.1,h.2⟩
theorem ES.over {H H':Hp}{l:Addr}{ns:List Str}(e:A7 H H')(h:ES H l ns):ES H' l ns:=⟨e _ _ h.1,h.2⟩
theorem strs_at {zs:List Str}{i:Int}(h0:0<=i)(h1:i<(zs.length:Int)):∃z:Str,Bz (zs.map V.str) i=some (.str z)/\zs[i.toNat]?=some z:=by
 obtain⟨k,rfl⟩:∃k:Nat,i=(k:Int):=⟨i.toNat,by omega⟩
 have hk:k<zs.length:=by omega
 exact⟨zs[k],EG (by rw[D8,Bg hk];rfl),by rw[Fj];exact Bg hk⟩
theorem idx_nodup {ns:List Str}{j:Nat}{z:Str}(nd:ns.Nodup)(h:ns[j]?=some z):ns.idxOf z=j:=by
 obtain⟨hj,e⟩:=BM.mp h
 rw[←e]
 exact List.Nodup.idxOf_getElem nd j hj
theorem spn_of {nms:List Str}{z:Str}{n:Int}(h:∀z∈nms,Bp (cds z))(hz:z∈("":Str)::nms)(n0 : -999999999999999999<=n)(n1:n<=999999999999999999):SpN (z,n)/\knw nms (z,n)=true:=by
 rcases AQ.mp hz with rfl|hz
 .exact⟨⟨.inl rfl,(by show(Str.ofString "").length<=20;decide +kernel),n0,n1⟩,rfl⟩
 .have hk:=h z hz
  refine⟨⟨.inr hk,?_,n0,n1⟩,?_⟩
  .have:=hk.2.1
   rw[cds_len]at this
   exact C5 this (by decide)
  .unfold knw
   rw[B5 hz,Bool.or_true]
theorem mem_behind {nms:List Str}{z:Str}{i:Int}(h:1<=i)(e:(("":Str)::nms)[i.toNat]?=some z):z∈nms:=by
 obtain⟨k,rfl⟩:∃k:Nat,i=((k+1:Nat):Int):=⟨i.toNat-1,by omega⟩
 rw[Fj,List.getElem?_cons_succ]at e
 exact CK e
theorem NV (x:Int):97<=Do x/\Do x<=122:=by
 unfold Do
 have h0:=BU x (show(26:Int)≠0 by decide)
 have h1:=C0 x (show(0:Int)<26 by decide)
 omega
theorem nameW_abc (xs:List Int):∀c∈F3 xs,97<=c/\c<=122:=fun c hc=>by
 unfold F3 at hc
 obtain⟨x,_,rfl⟩:=DE.mp hc
 exact NV x
theorem Sv {xs:List Int}{w:List Nat}(wl:w.length=8)(wb:∀c∈w,97<=c/\c<=122)(k:Int):1<=(Bw xs w k).length/\(Bw xs w k).length<=8/\∀c∈Bw xs w k,97<=c/\c<=122:=by
 obtain⟨lb0,lb1⟩:=HG xs
 obtain⟨ab0,ab1⟩:=JB xs
 unfold Bw
 split
 .unfold Gs
  have b0:=BU (Cf xs+3*k) (show(8:Int)≠0 by decide)
  have b1:=C0 (Cf xs+3*k) (show(0:Int)<8 by decide)
  rw[Bh,wl]
  exact⟨by omega,by omega,fun c hc=>wb c (Ga hc)⟩
 .unfold FY
  rw[Au,Au,BD,Bh,Bh,Cn,wl]
  refine⟨by omega,by omega,fun c hc=>?_⟩
  rcases Bj.mp hc with hc|hc
  .rcases Bj.mp hc with hc|hc
   .exact wb c (Ga hc)
   .rw[E6.mp hc];exact NV _
  .exact wb c (GM (Ga hc))
theorem nameC_ok {xs:List Int}{w:List Nat}(wl:w.length=8)(wb:∀c∈w,97<=c/\c<=122)(k:Int):Bp (Dz xs w k):=by
 obtain⟨h1,h2,h3⟩:=Sv (xs:=xs) wl wb k
 unfold Dz
 split
 .rename_i h
  have:∀r∈Dm,Bp ([122,122]++r):=by decide +kernel
  exact this _ h
 .rename_i h
  exact⟨h1,h2,fun c hc=>(HE c).mpr (h3 c hc),h⟩
def spNames23:Sp:=fun vs H Q _=>∃(c:Int),vs=[.int c,.int 8]/\∀(l:Addr) (H':Hp) (ns:List Str),A7 H H'->ES H' l ns->Q (.ref l) H'
def spSpot23:Sp:=fun vs H Q _=>∃(x y:Int) (kl:Addr) (nms:List Str),vs=[.int x,.int y,.ref kl]/\0<=x/\x<2147483647/\0<=y/\y<2147483647/\KnAt H kl nms/\∀(r:V) (H':Hp) (s:Str×Int),A7 H H'->BY H' r s->SpN s->knw nms s=true->Q r H'
def spCell23:Sp:=fun vs H Q _=>∃(rx kl nl:Addr) (xs:List Int) (nms ns:List Str),vs=[.ref rx,.ref kl,.ref nl]/\H rx=some (.lst (xs.map V.int))/\xs.length=5/\(∀x∈xs,0<=x/\x<2147483647)/\KnAt H kl nms/\ES H nl ns/\∀(r p:Addr) (H':Hp) (z:Str) (sp:List (Str×Int)),A7 H H'->H' r=some (.tup [.str z,.ref p,.str (Ba z sp)])->Ee H' p sp->Lk nms ns (.t (.c z sp))->Q (.ref r) H'
def spLeaf23:Sp:=fun vs H Q _=>∃(c:Int) (kl nl:Addr) (nms ns:List Str),vs=[.int c,.ref kl,.ref nl]/\KnAt H kl nms/\ES H nl ns/\∀(x:V) (H':Hp) (t:Tw),A7 H H'->(∃p y,x = .ref p/\H' p=some (.tup [.str (Tk.t t).txt,.int 3,y])/\E9 H' t y)->Lk nms ns (.t t)->Q x H'
def spSame23 (c:Cs)(n:Nat):Sp:=fun vs H Q _=>∃(x y:V) (t:Tw),vs=[x,y]/\Bt c H t x/\E9 H t y/\Tw.Ok t/\t.sz<=n/\∀H',A7 H H'->Q (.bl true) H'
def spSpots23:Sp:=fun vs H Q _=>∃(p q:Addr) (sp:List (Str×Int)),vs=[.ref p,.ref q]/\Ee H p sp/\Ee H q sp/\sp.length<=1000/\∀H',A7 H H'->Q (.bl true) H'
def GB (s:Str×Int):Tr:=.tup [.v (.str s.1),.v (.int s.2)]
theorem Mx {K:Xa}{H:Hp}:∀{xs:List V} {sp:List (Str×Int)},AC (BY H) xs sp->C4 K H xs (sp.map GB)
 |[],[],_=>.nil
 |[],_::_,g=>absurd g.1 (by simp)
 |_::_,[],g=>absurd g.1 (by simp)
 |
  x::xs,s::sp,g=>by
  obtain⟨t,rfl,e⟩:=g.2 0 x s rfl rfl
  exact .cons (.tup (Ah.of e) (.cons (.flat rfl) (.cons (.flat rfl) .nil))) (Mx ⟨Nat.succ.inj g.1,fun i y b p q=>g.2 (i+1) y b p q⟩)
theorem sps_tr {K:Xa}{H:Hp}{p:Addr}{sp:List (Str×Int)}(h:Ee H p sp):BE K H (.ref p) (.tup (sp.map GB)):=by obtain⟨_,e,g⟩:=h;exact .tup (Ah.of e) (Mx g)
theorem MZ:∀sp:List (Str×Int),Du (sp.map GB)<=2
 |[]=>by rw[K2,Du];exact BC _
 |
  s::sp=>by
  have:=MZ sp
  rw[BS,Du]
  have h:CH (GB s)<=2:=by unfold GB;rw[CH,Du,Du,Du,CH,CH];decide
  omega
theorem ne_same {K:Xa}{H:Hp}{x y:Addr}{t:Tr}{Q:VK}(hx:BE K H (.ref x) t)(hy:BE K H (.ref y) t)(hd:CH t<=60)(h:Q (.bl false) H):IW K true (.ref x) (.ref y) H Q:=by
 refine⟨t,t,hx,hy,⟨_,rfl⟩,⟨_,rfl⟩,N8 t,hd,?_⟩
 rw[IZ t hx.ok]
 exact h
theorem sps_dep (sp:List (Str×Int)):CH (.tup (sp.map GB))<=60:=by
 rw[CH]
 have:=MZ sp
 omega
def Kl (n:Nat)(l l':List Nat):Prop:=l'=l\/∃k,n<=k/\k<=l.length/\l'=l.take k++32::l.drop k
section
variable {H H':Hp}{nms ns:List Str}{xs:List V}{es:List Ex}{N:Nat}
end
theorem SU {nms ns:List Str}{ch:Nat}{l r l' r':Ex}(hc:ch=43\/ch=45\/ch=42)(okl:FN nms ns l)(okr:FN nms ns r)(hl:(l'=l/\st ch<=l.hd)\/l' = .br l)(hr:(r'=r/\st ch<r.hd)\/r' = .br r):FN nms ns (.jn ch l' r')/\(Ex.jn ch l' r').lv=l.lv+r.lv:=by
 have s3:st ch<3:=by rcases hc with rfl|rfl|rfl<;>decide
 have sgk:∀c,c∈sg5->Lk nms ns (.s c):=fun c hc=>⟨hc,True.intro,True.intro⟩
 have brk:∀{e:Ex},FN nms ns e->(∀k∈(Ex.br e).tk,Lk nms ns k):=fun{e} h k hk=>by
  have hk:k∈Tk.s 40::(e.tk++[.s 41]):=hk
  rcases AQ.mp hk with rfl|hk
  .exact sgk 40 (by decide)
  .rcases Bj.mp hk with hk|hk
   .exact h.lk k hk
   .rw[E6.mp hk];exact sgk 41 (by decide)
 have brl:∀e:Ex,(Ex.br e).tk.length=e.tk.length+2:=fun e=>by
  show(Tk.s 40::(e.tk++[.s 41])).length=_
  rw[AW,Au]
  rfl
 have key:∀{e e':Ex},FN nms ns e->(e'=e\/e' = .br e)->e'.Ok/\(∀k∈e'.tk,Lk nms ns k)/\e'.tk.length<=e.tk.length+2/\e'.lv=e.lv:=fun{e e'} h he=>by
  rcases he with rfl|rfl
  .exact⟨h.ok,h.lk,OK _ _,rfl⟩
  .exact⟨h.ok,brk h,Nat.le_of_eq (brl e),rfl⟩
 obtain⟨a1,a2,a3,a4⟩:=key okl (hl.imp And.left id)
 obtain⟨b1,b2,b3,b4⟩:=key okr (hr.imp And.left id)
 have hL:st ch<=l'.hd:=by rcases hl with⟨rfl,h⟩|rfl;exact h;exact G4 s3
 have hR:st ch<r'.hd:=by rcases hr with⟨rfl,h⟩|rfl;exact h;exact s3
 have lvE:(Ex.jn ch l' r').lv=l.lv+r.lv:=by show l'.lv+r'.lv=_;rw[a4,b4]
 refine⟨⟨⟨hc,a1,b1,hL,hR⟩,fun k hk=>?_,?_⟩,lvE⟩
 .have hk:k∈l'.tk ++ .s ch::r'.tk:=hk
  rcases Bj.mp hk with hk|hk
  .exact a2 k hk
  .rcases AQ.mp hk with rfl|hk
   .exact sgk ch (by rcases hc with rfl|rfl|rfl<;>decide)
   .exact b2 k hk
 .have h1:=okl.ln
  have h2:=okr.ln
  rw[lvE]
  show(l'.tk ++ .s ch::r'.tk).length+5<=_
  rw[Au,AW]
  omega
theorem Ul {n:Nat}{l l':List Nat}(h:Kl n l l'):l.length<=l'.length/\l'.length<=l.length+1:=by
 rcases h with rfl|⟨k,_,hk,rfl⟩
 .omega
 .rw[Au,AW,Bh,Cn]
  omega
theorem join_split:∀{rows:List Str},rows≠[]->(∀z∈rows,10∉cds z)->IsSplit [10] (cds (Txt.join "\n" rows)) (rows.map cds)
 |[],h,_=>absurd rfl h
 |
  [z],_,h=>by
  rw[IH]
  show IsSplit [10] (cds z++[]) [cds z]
  rw[DL]
  exact .one' (h z AY)
 |
  z::z2::rows,_,h=>by
  have ih:=join_split (rows:=z2::rows) (DO _ _) fun y hy=>h y (BH _ hy)
  rw[IH]at ih ⊢
  have e:cds ("\n":Str)=[10]:=by decide +kernel
  rw[BS,LM,e,Co]
  exact .cut' (h z AY) (by rw[e]at ih;exact ih)
theorem Nb:∀l:List Nat,∃ps:List (List Nat),IsSplit [32] l (l.takeWhile (· != 32)::ps)
 |[]=>⟨[],.one' (fun h=>nomatch h)⟩
 |
  c::l=>by
  obtain⟨ps,h⟩:=Nb l
  by_cases hc:c=32
  .subst hc
   exact⟨_,.cut' (p:=[]) (fun h=>nomatch h) h⟩
  .rw[Ib,Ag (Eh.mpr hc)]
   generalize hp:l.takeWhile (· != 32)::ps=qs at h
   have n32:32∉l.takeWhile (· != 32):=fun z=>by
    have:=EU.mp (List.all_takeWhile (p:=(· != 32)) (l:=l)) 32 z
    exact absurd rfl (Eh.mp this)
   cases h with
   |
    one _=>
    injection hp with e1 e2
    subst e2
    rw[e1]at n32 ⊢
    exact⟨[],.one' (fun z=>(AQ.mp z).elim (fun y=>hc y.symm) n32)⟩
   |
    cut hf ht=>
    injection hp with e1 e2
    subst e2
    rw[e1]at n32 ⊢
    exact⟨_,.cut' (p:=c::_) (fun z=>(AQ.mp z).elim (fun y=>hc y.symm) n32) ht⟩
theorem Ph {l:List Nat}{c:Nat}{r:List Nat}(e:l=c::r)(hc:c≠32):∃ws,Wds l (Az (l.takeWhile (· != 32))::ws):=by
 obtain⟨ps,h⟩:=Nb l
 have e1:l.takeWhile (· != 32)≠[]:=by rw[e,Ib,Ag (Eh.mpr hc)];exact DO _ _
 refine⟨(ps.map Az).filter (fun y:Str=>decide (y≠Str.ofString "")),(Az (l.takeWhile (· != 32)))::ps.map Az,?_,?_⟩
 .have:((Az (l.takeWhile (· != 32)))::ps.map Az).map cds=l.takeWhile (· != 32)::ps:=by
   rw[BS,GP,B7]
   congr 1
   exact(OG fun x _=>B7 x).trans (List.map_id _)
  rw[this]
  exact h
 .have hne:Az (l.takeWhile (· != 32))≠Str.ofString "":=fun z=>e1 (by have z:=congrArg cds z;rw[B7]at z;exact z)
  rw[E7,Ag (B5 hne)]
theorem Td (l:List Nat):(l.dropWhile (· == 32)).filter (· != 32)=l.filter (· != 32):=by
 induction l with
 |nil=>rfl
 |
  cons c l ih=>
  rw[Fk]
  split
  .rename_i h
   rw[ih,E7,Ae]
   simpa using h
  .rfl
theorem UM {c:Nat}{x r:List Nat}(hc:c≠32)(hx:32∉x)(hn:r.filter (· != 32)≠[]):∃r',stp 32 (c::x++r)=c::x++r'/\r'.filter (· != 32)=r.filter (· != 32):=by
 have h1:(c::x++r).dropWhile (· == 32)=c::x++r:=by
  rw[Dl,Fk,Ae]
  simpa using hc
 have h2:(c::x++r).reverse.dropWhile (· == 32)=r.reverse.dropWhile (· == 32)++(c::x).reverse:=by
  rw[LQ]
  have key:∀{a b:List Nat},a.filter (· != 32)≠[]->(a++b).dropWhile (· == 32)=a.dropWhile (· == 32)++b:=fun{a b} h=>by
   induction a with
   |nil=>exact absurd rfl h
   |
    cons d a ih=>
    rw[Dl,Fk,Fk]
    split
    .rename_i hd
     refine ih ?_
     rw[E7,Ae (by simpa using hd)]at h
     exact h
    .rfl
  refine key ?_
  rw[OL]
  simpa using hn
 refine⟨(r.reverse.dropWhile (· == 32)).reverse,?_,?_⟩
 .unfold stp
  rw[h1,h2,LQ,LN]
 .rw[OL,Td,OL,LN]
theorem VB (l:List Nat):l.filter (fun c=>decide (c≠32))=l.filter (· != 32):=by
 congr 1
 funext c
 by_cases h:c=32
 .rw[h];rfl
 .rw[B5 h]
  exact(Eh.mpr h).symm
theorem Mb {l:List Nat}(h:32∉l):l.filter (· != 32)=l:=List.filter_eq_self.mpr fun c hc=>Eh.mpr fun z=>h (z▸hc)
theorem IS {l:List Nat}(h:59∉l):bare l=stp 32 l:=by unfold bare;rw[Ae h]
def HI (tb:Str)(sp:List (Str×Int))(ks:List Tk)(l:List Nat):Prop := ∃r,l=cds tb++r/\r.filter (· != 32)=91::(inner (sp.map fun s=>cds (B6 s))++[93])++61::txts ks/\10∉r/\59∉r
theorem PF {tb:Str}{sp:List (Str×Int)}{ks:List Tk}{l:List Nat}(ok:(Tk.t (.c tb sp)).Ok)(h:HI tb sp ks l)(t:Tw):bare l≠[]/\Ja (bare l) (.ded tb sp ks t)/\10∉l:=by
 obtain⟨r,rfl,hf,h10,h59⟩:=h
 have hz:=ok.1
 have n59:59∉cds tb++r:=fun z=>(Bj.mp z).elim (name_no hz (by omega)) h59
 have n10:10∉cds tb++r:=fun z=>(Bj.mp z).elim (name_no hz (by omega)) h10
 have n32:32∉cds tb:=name_no hz (by omega)
 obtain⟨c,x,ex⟩:∃c x,cds tb=c::x:=by
  cases e:cds tb with
  |nil=>have:=hz.1;rw[e]at this;exact absurd this (by decide)
  |cons c x=>exact⟨c,x,rfl⟩
 have hc:c≠32:=fun z=>n32 (by rw[ex,z];exact AY)
 have hx:32∉x:=fun z=>n32 (by rw[ex];exact BH _ z)
 obtain⟨r',e1,e2⟩:=UM (r:=r) hc hx (by rw[hf];exact DO _ _)
 rw[←ex]at e1
 have hb:bare (cds tb++r)=cds tb++r':=(IS n59).trans e1
 rw[hb]
 refine⟨by rw[ex];exact DO _ _,⟨?_,?_⟩,n10⟩
 .obtain⟨ws,hw⟩:=Ph (l:=cds tb++r') (by rw[ex];rfl) hc
  have key:∀{a b:List Nat},32∉a->(a++b).takeWhile (· != 32)=a++b.takeWhile (· != 32):=fun{a b} h=>by
   induction a with
   |nil=>rfl
   |
    cons d a ih=>
    rw[Dl,Ib,Ag (Eh.mpr (show d≠32 from fun z=>h (by rw[z];exact AY))),ih fun z=>h (BH _ z)]
    rfl
  rw[key n32]at hw
  have hres:cds tb++r'.takeWhile (· != 32)∉Dm:=by
   cases r' with
   |nil=>rw[hf]at e2;exact absurd e2 (by intro z;cases z)
   |
    cons d r''=>
    by_cases hd:d=32
    .rw[Ib,Ae (by simpa using hd),DL]
     exact hz.2.2.2
    .rw[E7,Ag (Eh.mpr hd),hf]at e2
     injection e2 with e3 _
     intro z
     have m91:(91:Nat)∈cds tb++(d::r'').takeWhile (· != 32):=by
      rw[Ib,Ag (Eh.mpr hd),e3]
      exact CC _ AY
     generalize cds tb++(d::r'').takeWhile (· != 32)=u at z m91
     unfold Dm at z
     simp only[AQ,CL,or_false]at z
     rcases z with rfl|rfl|rfl
     .exact absurd m91 (by decide +kernel)
     .exact absurd m91 (by decide +kernel)
     .exact absurd m91 (by decide +kernel)
  have nr:∀u:Str,cds u∈Dm->Az (cds tb++r'.takeWhile (· != 32))≠u:=fun u hu z=>by
   have z:=congrArg cds z
   rw[B7]at z
   exact hres (z▸hu)
  exact⟨_,ws,hw,nr "for" (by decide +kernel),nr "end" (by decide +kernel),nr "size" (by decide +kernel)⟩
 .rw[VB,FF,Mb n32,e2,hf]
  unfold dedT
  rw[cel_cds ok.2.1,Co]
theorem V7 {l:List Nat}{c d:Nat}{r s:List Nat}(e1:l=c::r)(e2:l=s++[d])(hc:c≠32)(hd:d≠32):stp 32 l=l:=by
 unfold stp
 have h1:l.dropWhile (· == 32)=l:=by rw[e1,Fk,Ae (by simpa using hc)]
 have h2:l.reverse.dropWhile (· == 32)=l.reverse:=by rw[e2,LQ,List.reverse_singleton,List.singleton_append,Fk,Ae (by simpa using hd)]
 rw[h1,h2,LN]
theorem Q7 {l:List Nat}(h:l≠[])(n:32∉l):∃s d,l=s++[d]/\d≠32:=by
 refine⟨l.dropLast,l.getLast h,(W1 h).symm,fun z=>n ?_⟩
 rw[←z]
 exact List.getLast_mem h
def wj:List (List Nat)->List Nat
 |[]=>[]
 |[a]=>a
 |a::b::l=>a++([32]++wj (b::l))
theorem NG {c:Nat}(hc:c≠32):∀{ws:List (List Nat)},(∀w∈ws,c∉w)->c∉wj ws
 |[],_=>fun z=>nomatch z
 |[a],h=>h a AY
 |
  a::b::l,h=>fun z=>by
  have z:c∈a++([32]++wj (b::l)):=z
  rcases Bj.mp z with z|z
  .exact h a AY z
  .rcases Bj.mp z with z|z
   .exact hc (E6.mp z)
   .exact NG hc (ws:=b::l) (fun w hw=>h w (BH _ hw)) z
theorem Pq {s:Str×Int}(h:SpN s):cds (B6 s)≠[]:=fun z=>by
 have:=spot_read h
 rw[z]at this
 have e:Ew []=none:=by decide +kernel
 rw[e]at this
 cases this
theorem Ow {s:Str×Int}(h:SpN s):cds (B6 s)≠[]/\32∉cds (B6 s)/\59∉cds (B6 s)/\10∉cds (B6 s):=⟨Pq h,spot_free h (by omega),spot_free h (by omega),spot_free h (by omega)⟩
theorem QU {z:Str}(h:Bp (cds z)):cds z≠[]/\32∉cds z/\59∉cds z/\10∉cds z:=⟨fun e=>by have:=h.1;rw[e]at this;exact absurd this (by decide),name_no h (by omega),name_no h (by omega),name_no h (by omega)⟩
theorem TY {k:Tk}(ok:k.Ok){c:Nat}(hc:c=10\/c=32\/c=59):c∉cds k.txt:=by
 cases k with
 |
  s d=>
  intro z
  have z:c∈[d]:=z
  have ok:d∈sg5:=ok
  rw[←E6.mp z]at ok
  unfold sg5 at ok
  simp only[AQ,CL,or_false]at ok
  omega
 |
  t w=>
  cases w with
  |n i=>exact F6 (nS_good ok.1 ok.2).1 (by omega)
  |v z=>exact name_no ok (by omega)
  |c z sp=>exact cel_no ok (by omega)
  |j _ _ _=>exact ok.elim
theorem Kh {c:Nat}(hc:c=10\/c=32\/c=59):∀{ks:List Tk},(∀k∈ks,k.Ok)->c∉txts ks
 |[],_=>fun z=>nomatch z
 |
  k::ks,h=>fun z=>by
  rw[txts_cons]at z
  rcases Bj.mp z with z|z
  .exact TY (h k AY) hc z
  .exact Kh hc (ks:=ks) (fun x hx=>h x (BH _ hx)) z
theorem T3 {tb:Str}{sp:List (Str×Int)}{ks:List Tk}(ok:(Tk.t (.c tb sp)).Ok)(h:∀k∈ks,k.Ok):HI tb sp ks (dedT tb sp ks):=by
 have fr:∀{c:Nat},(c=10\/c=32\/c=59)->c∉91::(inner (sp.map fun s=>cds (B6 s))++[93])++61::txts ks:=fun{c} hc z=>by
  rcases Bj.mp z with z|z
  .have h1:=cel_no ok (c:=c) (by omega)
   rw[cel_cds ok.2.1]at h1
   exact h1 (CC _ z)
  .rcases AQ.mp z with z|z
   .omega
   .exact Kh hc h z
 refine⟨91::(inner (sp.map fun s=>cds (B6 s))++[93])++61::txts ks,?_,Mb (fr (.inr (.inl rfl))),fr (.inl rfl),fr (.inr (.inr rfl))⟩
 unfold dedT
 rw[cel_cds ok.2.1,Co]
theorem KQ {tb:Str}{sp:List (Str×Int)}{ks:List Tk}{l l':List Nat}(h:HI tb sp ks l)(b:Kl (cds tb).length l l'):HI tb sp ks l':=by
 rcases b with rfl|⟨k,h1,h2,rfl⟩
 .exact h
 .obtain⟨r,rfl,hf,n10,n59⟩:=h
  refine⟨r.take (k-(cds tb).length)++32::r.drop (k-(cds tb).length),?_,?_,?_,?_⟩
  .rw[List.take_append,List.drop_append,G8 h1,List.drop_of_length_le h1,Co]
   rfl
  .rw[FF,E7,Ae (by decide),←FF,LK]
   exact hf
  .intro z
   rcases Bj.mp z with z|z
   .exact n10 (Ga z)
   .rcases AQ.mp z with z|z
    .cases z
    .exact n10 (GM z)
  .intro z
   rcases Bj.mp z with z|z
   .exact n59 (Ga z)
   .rcases AQ.mp z with z|z
    .cases z
    .exact n59 (GM z)
theorem spn9:SpN ("",0)/\SpN ("",9):=⟨⟨.inl rfl,by decide +kernel,by decide,by decide⟩,⟨.inl rfl,by decide +kernel,by decide,by decide⟩⟩
end Rd
namespace Rd
open PySem L2
def Twk (nms ns:List Str):Tw->Prop
 |.j z l r=>z∈EN/\Twk nms ns l/\Twk nms ns r
 |.n i=>Lk nms ns (.t (.n i))
 |.v z=>Lk nms ns (.t (.v z))
 |.c z sp=>Lk nms ns (.t (.c z sp))
theorem Lk.tok {nms ns:List Str}{t:Tw}(h:Lk nms ns (.t t)):Tw.Ok t:=by
 have ok:=h.ok
 cases t with
 |n i=>exact ok
 |v z=>have:=ok.2.1;rw[cds_len]at this;exact C5 this (by decide)
 |c z sp=>exact⟨by have:=ok.1.2.1;rw[cds_len]at this;exact C5 this (by decide),ok.2.2.1,fun s hs=>(ok.2.2.2 s hs).2⟩
 |j z l r=>exact ok.elim
theorem Twk.ok {nms ns:List Str}:∀{t:Tw},Twk nms ns t->Tw.Ok t
 |.n i,h=>Lk.tok (t:=.n i) h
 |.v z,h=>Lk.tok (t:=.v z) h
 |.c z sp,h=>Lk.tok (t:=.c z sp) h
 |.j z l r,h=>⟨h.1,Twk.ok h.2.1,Twk.ok h.2.2⟩
theorem Lk.twk {nms ns:List Str}{t:Tw}(h:Lk nms ns (.t t)):Twk nms ns t:=by
 cases t with
 |j z l r=>exact h.ok.elim
 |n i=>exact h
 |v z=>exact h
 |c z sp=>exact h
def DG (z:Str):Nat:=if z="*" then 42 else if z="-" then 45 else 43
def Ed (b:Bool)(e:Ex):Ex:=if b=true then .br e else e
def BV:Tw->Ex
 |.j z l r=>.jn (DG z) (Ed (decide (l.hld<hz z)) (BV l)) (Ed (decide (r.hld<=hz z)) (BV r))
 |.n i=>.lf (.n i)
 |.v z=>.lf (.v z)
 |.c z sp=>.lf (.c z sp)
theorem Qu {z:Str}(h:z∈EN):sg (DG z)=z/\st (DG z)=hz z/\(DG z=43\/DG z=45\/DG z=42):=by
 have:∀w∈EN,sg (DG w)=w/\st (DG w)=hz w/\(DG w=43\/DG w=45\/DG w=42):=by decide +kernel
 exact this z h
theorem JU (b:Bool)(e:Ex):(Ed b e).txt=EJ b e.txt/\(Ed b e).sh=e.sh:=by
 cases b<;>exact⟨rfl,rfl⟩
theorem Ky {nms ns:List Str}{t:Tw}(h:Lk nms ns (.t t)):FN nms ns (.lf t):=⟨True.intro,fun k hk=>by rw[E6.mp hk];exact h,by show 1+5<=8*1;decide⟩
theorem FL {nms ns:List Str}:∀{t:Tw},Twk nms ns t->FN nms ns (BV t)/\(BV t).lv=t.sz/\(BV t).txt=t.wr/\(BV t).sh=t/\(BV t).hd=t.hld
 |.n i,h=>⟨Ky h,rfl,rfl,rfl,rfl⟩
 |.v z,h=>⟨Ky h,rfl,rfl,rfl,rfl⟩
 |.c z sp,h=>⟨Ky h,rfl,rfl,rfl,rfl⟩
 |
  .j z l r,h=>by
  obtain⟨hz3,hl,hr⟩:=h
  obtain⟨s1,s2,s3⟩:=Qu hz3
  obtain⟨a1,a2,a3,a4,a5⟩:=FL hl
  obtain⟨b1,b2,b3,b4,b5⟩:=FL hr
  have k1:∀{b:Bool} {e:Ex},Ed b e=e/\b=false\/Ed b e = .br e:=fun{b e}=>by
   cases b
   .exact .inl ⟨rfl,rfl⟩
   .exact .inr rfl
  obtain⟨j1,j2⟩:=SU (nms:=nms) (ns:=ns) (ch:=DG z) (l':=Ed (decide (l.hld<hz z)) (BV l)) (r':=Ed (decide (r.hld<=hz z)) (BV r)) s3 a1 b1
   (k1.imp (fun h=>⟨h.1,by have:=of_decide_eq_false h.2;omega⟩) id) (k1.imp (fun h=>⟨h.1,by have:=of_decide_eq_false h.2;omega⟩) id)
  refine⟨j1,?_,?_,?_,s2⟩
  .exact j2.trans (by rw[a2,b2];rfl)
  .show(Ed _ (BV l)).txt++sg (DG z)++(Ed _ (BV r)).txt=_
   rw[(JU _ _).1,(JU _ _).1,s1,a3,b3]
   rfl
  .show Tw.j (sg (DG z)) (Ed _ (BV l)).sh (Ed _ (BV r)).sh=_
   rw[(JU _ _).2,(JU _ _).2,s1,a4,b4]
theorem leaf_tp {nms ns:List Str}{H:Hp}{x:V}{t:Tw}(lk:Lk nms ns (.t t))(h:∃p y,x = .ref p/\H p=some (.tup [.str (Tk.t t).txt,.int 3,y])/\E9 H t y):DD H x t/\t.sz=1:=by
 cases t with
 |j z l r=>exact lk.ok.elim
 |n i=>exact⟨h,rfl⟩
 |v z=>exact⟨h,rfl⟩
 |c z sp=>exact⟨h,rfl⟩
structure StK (H:Hp)(nms ns:List Str)(xs:List V)(ts:List Tw)(N:Nat):Prop where
 at':AC (DD H) xs ts
 ok:∀t∈ts,Twk nms ns t
 sum:(ts.map Tw.sz).sum<=N
section
variable {H H':Hp}{nms ns:List Str}{xs:List V}{ts:List Tw}{N:Nat}
theorem StK.tk (k:TK H H')(h:StK H nms ns xs ts N):StK H' nms ns xs ts N:=⟨h.at'.mono fun _ _ z=>z.tk k,h.ok,h.sum⟩
theorem StK.old (h:StK H nms ns xs ts N):F2 H xs ts N:=⟨h.at',fun t ht=>(h.ok t ht).ok,h.sum⟩
theorem StK.len (h:StK H nms ns xs ts N):xs.length<=N:=h.old.len
theorem StK.push {x:V}{t:Tw}(h:StK H nms ns xs ts N)(hx:DD H x t)(ht:Twk nms ns t){M:Nat}(hM:N+t.sz<=M):StK H nms ns (xs++[x]) (ts++[t]) M:=by
 refine⟨h.at'.snoc hx,fun u hu=>?_,(h.old.push hx ht.ok hM).sum⟩
 rcases Bj.mp hu with z|z
 .exact h.ok u z
 .rw[E6.mp z];exact ht
theorem StK.pop (h:StK H nms ns xs ts N)(hl:0<xs.length):∃ys x us t M,xs=ys++[x]/\ts=us++[t]/\StK H nms ns ys us M/\DD H x t/\Twk nms ns t/\M+t.sz<=N:=by
 obtain⟨ys,x,us,t,M,rfl,rfl,s,hx,_,hM⟩:=h.old.pop hl
 exact⟨ys,x,us,t,M,rfl,rfl,⟨s.at',fun u hu=>h.ok u (HX _ hu),s.sum⟩,hx,h.ok t (by simp),hM⟩
end
def spTerm28:Sp:=fun vs H Q _=>∃(c:Int) (kl nl:Addr) (nms ns:List Str),vs=[.int c,.ref kl,.ref nl]/\KnAt H kl nms/\ES H nl ns/\∀(x:V) (H':Hp) (t:Tw),A7 H H'->DD H' x t->Twk nms ns t->t.sz<=5->Q x H'
structure J9 (nms:List Str)(t:Ak):Prop where
 nm:Bp (cds t.nm)
 nw:t.nm∉nms
 lo:SpN t.lo
 hi:SpN t.hi
 kl:knw nms t.lo=true
 kh:knw nms t.hi=true
theorem J9.ok {nms:List Str}{t:Ak}(h:J9 nms t):t.Ok:=⟨by have:=h.nm.2.1;rw[cds_len]at this;exact C5 this (by decide),h.lo.2,h.hi.2⟩
def lnm (ts:List Ak):List Str:=ts.map Ak.nm
def KI (ts:List Ak):Prop:=ts.length<=3/\∀t∈ts,Bp (cds t.nm)/\SpN t.lo/\SpN t.hi
def spLoop28:Sp:=fun vs H Q _=>∃(c:Int) (nl o:Addr) (la:V) (ns:List Str) (ts:List Ak) (tl:Ak),vs=[.int c,.ref nl,.ref o,la]/\ES H nl ns/\FA H o ts/\ts.length<=2/\KI ts/\DS H la tl/\SpN tl.lo/\SpN tl.hi/\∀(r:V) (H':Hp) (t:Ak),A7 H H'->DS H' r t->J9 (lnm ts) t->Q r H'
structure Dk (ns:List Str)(D:Dw):Prop where
 c:Lk (lnm D.loops) ns (.t (.c D.tbl D.sp))
 t:Twk (lnm D.loops) ns D.tm
 s:D.tm.sz<=5
def spDeed28:Sp:=fun vs H Q _=>∃(c:Int) (o pt nl:Addr) (ns:List Str) (ts:List Ak) (path:List Int),vs=[.int c,.ref o,.ref pt,.ref nl]/\ES H nl ns/\FA H o ts/\KI ts/\H pt=some (.lst (path.map V.int))/\path.length=ts.length+1/\∀(r:V) (H':Hp) (D:Dw),A7 H H'->II H' o r D->Dk ns D->D.loops=ts->D.path=path->Q r H'
theorem mr_eqE (K:Xa)(n:Bool):MR (JI K n):=fun x y H Q Q' hq zz=>by obtain⟨p,q,xs,a,b,c,d,e⟩:=zz;exact⟨p,q,xs,a,b,c,d,hq _ _ e⟩
def rkS:Rk->Str
 |.sz n=>"size "++nS n
 |.opn t=>Jn t
 |.fin=>"end"
 |.ded tb sp _ t=>Ba tb sp++" = "++t.wr
inductive Stps (f:Str->Nat):Dr->List Rk->Dr->Prop
 |nil {D}:Stps f D [] D
 |cons {D D' E k ks}:EF f D D' k->Stps f D' ks E->Stps f D (k::ks) E
theorem Stps.snoc {f:Str->Nat}{D E F:Dr}{ks:List Rk}{k:Rk}(h:Stps f D ks E)(s:EF f E F k):Stps f D (ks++[k]) F:=by
 induction h with
 |nil=>exact .cons s .nil
 |cons a _ ih=>exact .cons a (ih s)
def Dk.rk (D:Dw):Rk:=.ded D.tbl D.sp (BV D.tm).tk D.tm
theorem Dk.stp {ns:List Str}{D:Dw}(h:Dk ns D){n:Int}{Ds:List Dw}{pa:List Int}{la:Int}(d6:Ds.length<6)(hp:D.path=pa++[la]):EF (tf ns) ⟨some n,Ds,D.loops,pa,la⟩ ⟨some n,Ds++[D],D.loops,pa,la+1⟩ (Dk.rk D):=by
 obtain⟨e1,e2,e3,e4,e5⟩:=FL h.t
 have lk:∀k∈Tk.t (.c D.tbl D.sp)::(BV D.tm).tk,Lk (lnm D.loops) ns k:=fun k hk=>by
  rcases AQ.mp hk with rfl|hk
  .exact h.c
  .exact e1.lk k hk
 obtain⟨T,S,r1,r2⟩:=TJ e1.ok
 rw[e4]at r2
 refine⟨(fun z=>nomatch z),d6,h.c.ok,fun k hk=>(e1.lk k hk).ok,Ex.adj _,?_,⟨T,S,r1,r2⟩,fun k hk=>(lk k hk).kn,fun k hk=>(lk k hk).tb,?_⟩
 .have:=e1.ln
  have:=h.s
  omega
 .show _=Dr.mk _ (Ds++[_]) _ _ _
  rw[←hp]
theorem Iq {ns nms:List Str}{t:Tw}(h:Twk nms ns t):cds t.wr=txts (BV t).tk:=by
 obtain⟨e1,e2,e3,e4,e5⟩:=FL h
 rw[←e3]
 exact Ex.txt_tk _
def Rok (ns:List Str):Rk->Prop
 |.sz n=>2<=n/\n<=999999999999999999
 |.opn t=>Bp (cds t.nm)/\SpN t.lo/\SpN t.hi
 |.fin=>True
 |.ded tb sp ks t=>∃nms,Lk nms ns (.t (.c tb sp))/\Twk nms ns t/\ks=(BV t).tk/\t.sz<=5
theorem Dk.rok {ns:List Str}{D:Dw}(h:Dk ns D):Rok ns (Dk.rk D):=⟨lnm D.loops,h.c,h.t,rfl,h.s⟩
structure Rn (ns:List Str)(R:Pw.Rw Ak Str)(ts:List Ak)(path:List Int)(Ds:List Dw)(ks:List Rk)(pa:List Int)(la:Int):Prop where
 tx:R.map (fun p=>Hi p.2)=ks.map rkS
 pe:path=pa++[la]
 st:∀n:Int,Stps (tf ns) ⟨some n,[],[],[],0⟩ ks ⟨some n,Ds,ts,pa,la⟩
 ok:∀k∈ks,Rok ns k
 p0:(∀x∈pa,0<=x)/\0<=la
 l6:Ds.length<=5\/0<la
 nm:KI ts
 pl:pa.length=ts.length
 dn:0<la->Ds≠[]
 dk:∀D∈Ds,Dk ns D/\D.loops.length<=3/\D.path.length<=10
theorem Rn.start (ns:List Str):Rn ns [] [] [0] [] [] [] 0:=⟨rfl,rfl,fun _=>.nil,(fun _ h=>nomatch h),⟨(fun _ h=>nomatch h),Int.le_refl _⟩,.inl (by decide),⟨BC _,(fun _ h=>nomatch h)⟩,rfl,(fun h=>absurd h (by decide)),(fun _ h=>nomatch h)⟩
section
variable {ns:List Str}{R:Pw.Rw Ak Str}{ts:List Ak}{path:List Int}{Ds:List Dw}{ks:List Rk}{pa:List Int}{la:Int}
theorem Fx {α:Type}{P:α->Prop}{l:List α}{a:α}(h:∀x∈l,P x)(ha:P a):∀x∈l++[a],P x:=fun x hx=>by
 rcases Bj.mp hx with hx|hx
 .exact h x hx
 .rw[E6.mp hx];exact ha
theorem Rn.opn (h:Rn ns R ts path Ds ks pa la){t:Ak}(hl:ts.length<3)(ht:J9 (lnm ts) t)(d5:Ds.length<=5)(d:Nat):Rn ns (R++[(d,.opn t)]) (ts++[t]) (path++[0]) Ds (ks++[.opn t]) (pa++[la]) 0:=by
 refine⟨by rw[B3,B3,h.tx];rfl,by rw[h.pe],fun n=>(h.st n).snoc ⟨(fun z=>nomatch z),hl,ht.nm,ht.nw,ht.lo,ht.hi,ht.kl,ht.kh,rfl⟩,Fx h.ok ⟨ht.nm,ht.lo,ht.hi⟩,⟨Fx h.p0.1 h.p0.2,Int.le_refl _⟩,.inl d5,⟨by rw[Au,BD];omega,Fx h.nm.2 ⟨ht.nm,ht.lo,ht.hi⟩⟩,by rw[Au,Au,h.pl];rfl,(fun h=>absurd h (by decide)),h.dk⟩
theorem Rn.ded (h:Rn ns R ts path Ds ks pa la){D:Dw}(hD:Dk ns D)(hl:D.loops=ts)(hp:D.path=path)(d5:Ds.length<=5)(d:Nat):Rn ns (R++[(d,.row D.txt)]) ts (pa++[la+1]) (Ds++[D]) (ks++[Dk.rk D]) pa (la+1):=by
 have h2:=h.p0.2
 subst hl
 refine⟨by rw[B3,B3,h.tx];rfl,rfl,fun n=>(h.st n).snoc (hD.stp (by omega) (by rw[hp,h.pe])),Fx h.ok hD.rok,⟨h.p0.1,by omega⟩,.inr (by omega),h.nm,h.pl,(fun _=>by simp),Fx h.dk ⟨hD,h.nm.1,?_⟩⟩
 rw[hp,h.pe,Au,h.pl]
 have:=h.nm.1
 show _+1<=10
 omega
theorem Rn.fin {t:Ak}{m:Int}(h:Rn ns R (ts++[t]) path Ds ks (pa++[m]) la)(l0:la≠0)(d:Nat):Rn ns (R++[(d,.fin)]) ts (pa++[m+1]) Ds (ks++[.fin]) pa (m+1):=by
 have h2:=h.p0.2
 have hm:0<=m:=h.p0.1 m (by simp)
 refine⟨by rw[B3,B3,h.tx];rfl,rfl,fun n=>(h.st n).snoc ⟨(fun z=>nomatch z),ts,t,pa,m,rfl,rfl,l0,rfl⟩,Fx h.ok True.intro,⟨fun x hx=>h.p0.1 x (HX _ hx),by omega⟩,?_,⟨?_,fun x hx=>h.nm.2 x (HX _ hx)⟩,?_,(fun _=>h.dn (by omega)),h.dk⟩
 .exact .inr (by omega)
 .have:=h.nm.1
  rw[Au]at this
  omega
 .have:=h.pl
  rw[Au,Au]at this
  exact Nat.add_right_cancel this
theorem Rn.len (h:Rn ns R ts path Ds ks pa la):path.length=ts.length+1:=by
 rw[h.pe,Au,h.pl]
 rfl
end
end Rd
namespace EX
open PySem PySem.Spec PyProof.Rows
section
variable {M:Model}{A:Around}{E:Value->Shared->Prop}{s:Shared}
end
end EX
namespace EX
open PySem PySem.Spec PyProof.Rows
section
variable {M:Model}{A:Around}{E:Value->Shared->Prop}{s:Shared}{env:Env}
end
end EX
namespace EX
open PySem PySem.Spec PySem.Calls PyProof.Rows
section
variable {prog:Program}{w:World}{A:Around}{h:Heap}{g:Array GenState}{d:Drawn}{t:Nat}{os:OsState}{R:Result->Shared->Prop}
variable {nm q:Str}{C N:Addr}{bs bm bmB:List Value}{hdct:Bool}{sn:List Str}{sub:List Value}{ab:Bool}{col:Option Bool}{dd:Option Addr}{k0 k1 k2 k3 k5:Option Value}{B newId initId:String}
end
end EX
namespace EX
open PySem PySem.Spec PySem.Calls PyProof.Rows PySem.W PySem.Builtin PySem.Builtin.ObjectAttr
section
variable {prog:Program}{w:World}{A:Around}{E:Value->Shared->Prop}{s:Shared}{K:Frag}{x C:Addr}{ox:Obj}{od:Option Obj}{name:Str}{expr:Bool}
end
end EX
namespace EX
open PySem PySem.Spec PySem.Calls PyProof.Rows PySem.W PySem.Builtin PySem.Builtin.ObjectAttr
section
variable {prog:Program}{w:World}{A:Around}{E:Value->Shared->Prop}{s:Shared}{K:Frag}{x C:Addr}{ox:Obj}{od:Option Obj}
end
end EX
namespace EX
open PySem PySem.Spec PyProof.Rows
end EX
namespace L2
open PySem PySem.Spec PyProof.Rows EX
section
variable {P:Program}{w:World}{H:Hp}{h:Heap}{a C:Addr}{d:Option Addr}
end
section
variable {X:Cx}{pins:List (Addr×Obj)}{σ:St}{H:Hp}{s:Shared}{a C:Addr}{d:Option Addr}
end
section
variable {X:Cx}
variable {P:Program}{w:World}{K:Xa}{mg:Str->Option Value}{base:Heap}{N:List Str}{qual:Str}{scope:Scope}{f:Addr}{cd:Value}{A:Around}{outer:List Env}{s₀:Shared}{H₀:Hp}{E:XK}
end
section
variable {P:Program}{w:World}{K:Xa}{mg:Str->Option Value}{base:Heap}
end
section
variable {X:Cx}{Ek:St->XK}{e:Expr}{te:TE}{pos:Pos}
end
end L2
namespace EX
open PySem PySem.Spec PyProof.Rows
end EX
namespace L2
open PySem PySem.Spec PyProof.Rows EX
section
variable {X:Cx}{pins pins':List (Addr×Obj)}{σ:St}{H:Hp}{s:Shared}{a:Addr}{xe:Value->Shared->Prop}{pn:List (Addr×Obj)}
end
section
variable {X:Cx}{x n:Str}{np pos:Pos}{Dc:Addr}{b₀:Stmt}{suite:List Stmt}{rest:List ExceptHandler}{ts:Addr->TS}{th:Addr->Addr->Option Addr->TS}
end
section
variable {X:Cx}{k:Nat}{f C:Addr}{fd:FuncData}{ps:List Str}{sp:Sp}{dvs:List V}{ds:List Value}{Ek:St->XK}{x:Str}{p pos:Pos}{e:Expr}{es:List Expr}{t:TA}
end
end L2
namespace EX
open PySem PySem.Spec PySem.Calls PyProof.Rows PySem.W
section
variable {prog:Program}{w:World}{A:Around}{h:Heap}{g:Array GenState}{d:Drawn}{t:Nat}{os:OsState}{R:Result->Shared->Prop}{C N:Addr}{bm:List Value}
end
end EX
namespace L2
open PySem PySem.Spec PyProof.Rows
section
open EX
section
variable {X:Cx}{pins:List (Addr×Obj)}{σ:St}{H:Hp}{s:Shared}{M:Model}{A:Around}{E:Value->Shared->Prop}
end
section
variable {X:Cx}{x n:Str}{np pos:Pos}{Dc:Addr}{b₀:Stmt}{suite:List Stmt}{rest:List ExceptHandler}{ts:Addr->TS}{th:Addr->Addr->Option Addr->TS}{i:Nat}
end
section
variable {X:Cx}{k:Nat}{f C:Addr}{fd:FuncData}{ps:List Str}{sp:Sp}{CX:DX}{E:XK}{x:Str}{p pos:Pos}{e:Expr}{es:List Expr}{t:TA}
end
end
section
open EX
section
variable {X:Cx}{e o:Expr}{ta tv:TE}{f x:Str}{pos pos' p apos:Pos}
end
end
section
open EX
section
variable {P:Program}{w:World}{K:Xa}{mg:Str->Option Value}{base:Heap}
end
section
variable {X:Cx}{k:Nat}{f:Addr}{fd:FuncData}{ps:List Str}{sp:Sp}{x:Str}{p pos:Pos}{e:Expr}{es:List Expr}{t:TA}
end
end
section
open EX
end
end L2
namespace Rd
open PySem PySem.Spec L2 EX
def spProg28 (K:Xa):Sp:=fun vs H Q _=>∃(cl nl:Addr) (cs:List Int) (ns:List Str),vs=[.ref cl,.ref nl]/\A3 K H cl (cs.map V.int)/\cs.length<=63/\ES H nl ns/\∀(t rl dl:Addr) (H':Hp) (xs ys:List V) (R:Pw.Rw Ak Str) (Ds:List Dw) (ks:List Rk) (la:Int),A7 H H'->H' t=some (.tup [.ref rl,.ref dl])->H' rl=some (.lst xs)->AC (GI H') xs R->H' dl=some (.lst ys)->AC (Ei H') ys Ds->Rn ns R [] [la] Ds ks [] la->Ds≠[]->R.length<=70->Q (.ref t) H'
def CB:Rk->List Str
 |.sz n=>["size",nS n]
 |.opn t=>["for",t.nm,B6 t.lo,B6 t.hi]
 |.fin=>["end"]
 |.ded tb sp _ t=>[Ba tb sp,"=",t.wr]
theorem Mc (k:Rk):cds (rkS k)=wj ((CB k).map cds):=by
 have b:cds (" ":Str)=[32]:=by decide +kernel
 cases k with
 |
  sz n=>
  show cds ("size "++nS n)=cds "size"++([32]++cds (nS n))
  rw[AN,←Co]
  congr 1
 |
  opn t=>
  show cds ("for "++t.nm++" "++B6 t.lo++" "++B6 t.hi)=cds "for"++([32]++(cds t.nm++([32]++(cds (B6 t.lo)++([32]++cds (B6 t.hi))))))
  have e:cds ("for ":Str)=cds "for"++[32]:=by decide +kernel
  rw[AN,AN,AN,AN,AN,b,e]
  simp only[Co]
 |fin=>rfl
 |
  ded tb sp ks t=>
  show cds (Ba tb sp++" = "++t.wr)=cds (Ba tb sp)++([32]++(cds "="++([32]++cds t.wr)))
  have e:cds (" = ":Str)=[32]++(cds "="++[32]):=by decide +kernel
  rw[AN,AN,e]
  simp only[Co]
theorem KZ {nms ns:List Str}{t:Tw}(h:Twk nms ns t){c:Nat}(hc:c=10\/c=32\/c=59):c∉cds t.wr:=by
 rw[Iq h]
 exact Kh hc fun k hk=>((FL h).1.lk k hk).ok
theorem Tp {nms ns:List Str}{t:Tw}(h:Twk nms ns t):cds t.wr≠[]:=by
 rw[Iq h]
 obtain⟨e1,_⟩:=FL h
 intro z
 cases hk:(BV t).tk with
 |
  nil=>
  have:∀e:Ex,e.tk≠[]:=fun e=>by
   cases e with
   |lf t=>exact DO _ _
   |br e=>exact DO _ _
   |jn c l r=>show l.tk++_≠[];simp
  exact this _ hk
 |
  cons k l=>
  rw[hk,txts_cons]at z
  have h1:=(OM.mp z).1
  have ok:=(e1.lk k (by rw[hk];exact AY)).ok
  cases k with
  |s c=>cases h1
  |
   t w=>
   obtain⟨c,r,e,_⟩:=(Tk.whole ok).head
   rw[e]at h1
   cases h1
theorem RM {ns:List Str}{k:Rk}(h:Rok ns k):∀w∈CB k,cds w≠[]/\32∉cds w/\59∉cds w/\10∉cds w:=by
 intro w hw
 cases k with
 |
  sz n=>
  obtain⟨g,_⟩:=nS_good (i:=n) (by have:=h.1;omega) h.2
  simp only[CB,AQ,CL,or_false]at hw
  rcases hw with rfl|rfl
  .decide +kernel
  .exact⟨fun e=>by have:=g.1;rw[e]at this;exact absurd this (by decide),F6 g (by omega),F6 g (by omega),F6 g (by omega)⟩
 |
  opn t=>
  simp only[CB,AQ,CL,or_false]at hw
  rcases hw with rfl|rfl|rfl|rfl
  .decide +kernel
  .exact QU h.1
  .exact Ow h.2.1
  .exact Ow h.2.2
 |
  fin=>
  simp only[CB,AQ,CL,or_false]at hw
  subst hw
  decide +kernel
 |
  ded tb sp ks t=>
  obtain⟨nms,lk,tk,_,_⟩:=h
  simp only[CB,AQ,CL,or_false]at hw
  rcases hw with rfl|rfl|rfl
  .refine⟨fun e=>?_,cel_no lk.ok,cel_no lk.ok,cel_no lk.ok⟩
   have:=lk.ok.1.1
   rw[cel_cds lk.ok.2.1]at e
   have e:=(OM.mp e).1
   rw[e]at this
   exact absurd this (by decide)
  .decide +kernel
  .exact⟨Tp tk,KZ tk (.inr (.inl rfl)),KZ tk (.inr (.inr rfl)),KZ tk (.inl rfl)⟩
theorem TQ (k:Rk):CB k≠[]:=by cases k<;>exact DO _ _
theorem QF {ns nms:List Str}{tb:Str}{sp:List (Str×Int)}{t:Tw}(lk:Lk nms ns (.t (.c tb sp)))(tk:Twk nms ns t):HI tb sp (BV t).tk (cds (Ba tb sp++" = "++t.wr)):=by
 have e:cds (" = ":Str)=[32,61,32]:=by decide +kernel
 have d0:=T3 (ks:=(BV t).tk) lk.ok fun k hk=>((FL tk).1.lk k hk).ok
 have e0:cds (Ba tb sp++" = "++t.wr)=(dedT tb sp (BV t).tk).take (cds (Ba tb sp)).length++32::(61::32::txts (BV t).tk):=by
  rw[AN,AN,e,Iq tk]
  unfold dedT
  rw[GN,Co]
  rfl
 have cl:=congrArg List.length (cel_cds (z:=tb) lk.ok.2.1)
 rw[Au]at cl
 have b1:=KQ d0 (l':=(dedT tb sp (BV t).tk).take (cds (Ba tb sp)).length++32::(dedT tb sp (BV t).tk).drop (cds (Ba tb sp)).length) (.inr ⟨_,by omega,by unfold dedT;rw[Au];omega,rfl⟩)
 have e1:(dedT tb sp (BV t).tk).take (cds (Ba tb sp)).length++32::(dedT tb sp (BV t).tk).drop (cds (Ba tb sp)).length=cds (Ba tb sp)++[32,61]++txts (BV t).tk:=by
  unfold dedT
  rw[GN,K3,Co]
  rfl
 rw[e1]at b1
 refine KQ b1 (.inr ⟨(cds (Ba tb sp)++[32,61]).length,by rw[Au];omega,by rw[Au (as:=cds (Ba tb sp)++[32,61])];exact OK _ _,?_⟩)
 rw[GN,K3,AN,AN,e,Iq tk]
 simp only[Co,Dl,K4]
theorem Rds.app {f:Str->Nat}{a b:List Str}{D E F:Dr}(h:Rds f a D E)(g:Rds f b E F):Rds f (a++b) D F:=by
 induction h with
 |nil=>exact g
 |no hb _ ih=>exact .no hb (ih g)
 |row h1 h2 h3 _ ih=>exact .row h1 h2 h3 (ih g)
theorem cut_le (ns:List Int):(Ca ns (some 4) (some 59)).length<=ns.length:=by
 unfold Ca
 rw[Bh,Cn]
 omega
theorem sum_le {n:Nat}:∀{l:List Str},(∀y∈l,y.length<=n)->(l.map (·.length)).sum<=n*l.length
 |[],_=>Ai _
 |
  y::l,h=>by
  have h1:=h y AY
  have h2:=sum_le (l:=l) fun z hz=>h z (BH _ hz)
  rw[BS,LP,AW,Nat.mul_succ]
  omega
def isD:Rk->Bool
 |.ded _ _ _ _=>true
 |_=>false
theorem stps_sz {f:Str->Nat}{n:Int}{E:Dr}{ks:List Rk}(h0:2<=n)(h1:n<=999999999999999999)(h:Stps f ⟨some n,[],[],[],0⟩ ks E):Stps f D0 (.sz n::ks) E:=.cons ⟨rfl,h0,h1,rfl⟩ h
end Rd
namespace L2
open PySem PySem.Spec PyProof.Rows
theorem Od {c:Nat}{l:List Nat}{n i:Nat}(h:Rd.NoAt [c] l n)(hi:i<n):l[i]?≠some c:=fun e=>by
 refine h i hi ?_
 have hl:=(BM.mp e).1
 rw[G9 hl]
 rw[Bg hl]at e
 rw[BP e]
 rfl
def rp (c n:Nat)(l:List Nat):List Nat:=(l.map fun d=>if d=c then List.replicate n c else[d]).flatten
theorem Iy (c n:Nat)(a b:List Nat):rp c n (a++b)=rp c n a++rp c n b:=by
 unfold rp
 rw[B3,List.flatten_append]
theorem JL {c n:Nat}{l:List Nat}(h:c∉l):rp c n l=l:=by
 induction l with
 |nil=>rfl
 |
  cons d l ih=>
  have hd:d≠c:=fun z=>h (by rw[z];exact AY)
  show(if d=c then List.replicate n c else[d])++rp c n l=d::l
  rw[Ae hd,ih fun z=>h (BH _ z)]
  rfl
theorem NJ (c n:Nat):rp c n [c]=List.replicate n c:=by
 show(if c=c then List.replicate n c else[c])++[]=_
 rw[Ag rfl,DL]
theorem RZ (x z:Str)(c:Nat)(hc:c<256):cds (Txt.replace x ⟨#[c]⟩ z)=cds (Txt.join z (Txt.split x ⟨#[c]⟩)):=by
 unfold Txt.replace Txt.split
 cases hf:(Builtin.Str.occurrences x ⟨#[c]⟩ 0 x.length (x.length+1)).isEmpty
 .have e1:(false||((⟨#[c]⟩:Str).length==0&&z.length==0))=false:=rfl
  rw[e1]
  simp only[LO,Ig]
  rw[Ae]
  .rfl
  .intro hk
   rw[LL,DQ,DQ]at hk
   have hne:Builtin.Str.occurrences x ⟨#[c]⟩ 0 x.length (x.length+1)≠[]:=fun z=>by rw[z]at hf;cases hf
   have k1:=Rd.kind_le (x:=x) (y:=⟨#[c]⟩) (fun d hd=>by have e:d=c:=(by simpa[cds] using hd);omega)
   have k2:=Rd.kind_pos x
   have hl:x.length<1:=by
    rcases hk with z|z
    .exact z
    .omega
   obtain⟨f,hG,_⟩:=StrLaws.occ_tight x ⟨#[c]⟩ (Ai _)
   cases hL:Builtin.Str.occurrences x ⟨#[c]⟩ 0 x.length (x.length+1) with
   |nil=>exact hne hL
   |
    cons i r=>
    rw[hL]at hG
    have h1:=hG.2.1.1
    have:(⟨#[c]⟩:Str).length=1:=rfl
    omega
 .simp only[Bool.true_or,EY]
  split
  .exact congrArg cds (show x=Txt.join z [x] from rfl)
  .exact congrArg cds (show x=Txt.join z [x] from rfl)
theorem TZ {c n:Nat}{z:Str}(hz:cds z=List.replicate n c){l:List Nat}{ps:List (List Nat)}(h:Rd.IsSplit [c] l ps):∀qs:List Str,qs.map cds=ps->cds (Txt.join z qs)=rp c n l:=by
 induction h with
 |
  @one p hf=>
  intro qs e
  match qs,e with
  |
   [q],e=>
   injection e with e1 _
   rw[IH]
   show cds q++[]=_
   rw[DL,e1]
   refine(JL fun hm=>?_).symm
   obtain⟨i,hi⟩:=List.mem_iff_getElem?.mp hm
   exact Od hf (by have:=(BM.mp hi).1;omega) hi
 |
  @cut p l ps hf ht ih=>
  intro qs e
  match qs,e with
  |
   q::qs,e=>
   injection e with e1 e2
   have hq:qs≠[]:=fun y=>ht.ne (by rw[←e2,y];rfl)
   obtain⟨q2,qs2,rfl⟩:∃a b,qs=a::b:=by
    cases qs with
    |nil=>exact absurd rfl hq
    |cons a b=>exact⟨a,b,rfl⟩
   have ih2:=ih (q2::qs2) e2
   rw[IH]at ih2 ⊢
   rw[BS,LM,Co,ih2,Iy,Iy,NJ,e1,hz]
   congr 1
   refine(JL fun hm=>?_).symm
   obtain⟨i,hi⟩:=List.mem_iff_getElem?.mp hm
   have hl:=(BM.mp hi).1
   exact Od hf hl (by rw[DM hl];exact hi)
theorem Vj (x:Str)(c:Nat)(n:Int)(hc:c<256):cds (Txt.replace x ⟨#[c]⟩ (Txt.mul ⟨#[c]⟩ n))=rp c n.toNat (cds x):=by
 have h:=Rd.split_is x ⟨#[c]⟩ (Ai _) (fun d hd=>by have e:d=c:=(by simpa[cds] using hd);omega)
 have hcd:cds ⟨#[c]⟩=[c]:=rfl
 rw[hcd]at h
 rw[RZ x _ c hc]
 exact TZ (MM c n) h _ rfl
theorem Vc {prog:Program}{w:World}{A:Around}{E:Value->Shared->Prop}{s:Shared}{x:Str}{t u:Tok}{Q:Value->Shared->Prop}{n:Int}(hok:MulOk x n)(h:∀t' k,(t'=t\/t'=s.toks)->Q (.str (Txt.mul x n) t') {s with toks:=k}):wpAny (model prog w) A (binaryOp .Mult (.str x t) (.int n u)) Q E s:=by
 refine P.mul_str hok.1 hok.2.1 hok.2.2 ?_
 unfold Txt.mul at h
 by_cases h1:n<1
 .rw[Ag h1]
  have h':=h s.toks (s.toks+1) (.inr rfl)
  rw[Ag h1]at h'
  exact⟨by decide,h'⟩
 .rw[Ae h1]at h ⊢
  by_cases hc:(n==1||x.length==0)=true
  .rw[Ag hc]at h ⊢
   exact h t s.toks (.inl rfl)
  .rw[Ae hc]at h ⊢
   exact⟨fits_reps (hok.2.2 h1 (by simpa using hc)),h s.toks (s.toks+1) (.inr rfl)⟩
def He (K:Xa):Bool:=match K.lookup cStatics with
 |
  some ⟨_,_,.dict es _,_⟩=>es.toList.all (fun e=>match e.key with
  |.str _ _=>true
  |_=>false)&&(nsFind es sharingNotToldKey).isNone
 |_=>false
theorem SW {K:Xa}{h:Heap}(X:K.In h)(q:He K=true):NoneBooked h:=by
 unfold He at q
 split at q
 .rename_i c d es n sl ho
  rw[EB]at q
  refine⟨fun name=>nsFind es name,⟨_,es,n,X _ _ ho,rfl,fun e he=>?_,fun _=>rfl⟩,Option.isNone_iff_eq_none.mp q.2⟩
  have:=EU.mp q.1 e (OC.mpr he)
  split at this
  .rename_i k t hk
   exact⟨k,t,hk⟩
  .cases this
 .cases q
section
variable {X:Cx}{e o:Expr}{te to:TE}{pos:Pos}
def Nh (X:Cx)(e:Expr)(t:TE):Prop:=
 ∀(pins:List (Addr×Obj)) (s:Shared) (σ:St) (H:Hp) (Q:VK),A4 X pins σ H s->t σ H Q->wpAny (model X.prog X.w) X.A (eval e X.env) (fun v s'=>EP X pins σ Q v s'/\1<=s'.toks) X.xe s
def MJ (X:Cx)(st:Stmt)(t:TS):Prop:=
 ∀(pins:List (Addr×Obj)) (s:Shared) (σ:St) (H:Hp) (D:D9),A4 X pins σ H s->t D σ H->wpAny (model X.prog X.w) X.A (exec st X.env) (fun f s'=>SP X pins D f s'/\1<=s'.toks) X.xe s
def Om (X:Cx)(st:Stmt)(t:TS):Prop:=
 ∀(pins:List (Addr×Obj)) (s:Shared) (σ:St) (H:Hp) (D:D9),1<=s.toks->A4 X pins σ H s->t D σ H->wpAny (model X.prog X.w) X.A (exec st X.env) (SP X pins D) X.xe s
theorem OZ {i:Nat}{x:Str}{pos':Pos}(hN:X.N.Nodup)(hi:X.N[i]?=some x)(hx:Fp X.env.scope x)(he:Nh X e te)(hs:swapsWith e (some (.Name x pos')) pos.line X.env=pure false:=by rfl)(hf:X.fn x=true\/X.env.scope.names.lookup x=some .local:=by first|exact .inl rfl|exact .inr rfl|assumption) :
  MJ X (.Assign [.Name x pos'] e pos) (FP te (Ar i)):=by
 intro pins s σ H D I h
 refine wpAny_Assign_Name (As (he pins s σ H _ I h) fun v s1 zz=>?_) hs
 obtain⟨⟨y,H1,I1,r1,q1⟩,hp⟩:=zz
 exact Rd.wpAny_toks hp (Hu I1 hN hi hx r1 (fun s2 I2=>⟨_,H1,I2,q1⟩) hf)
theorem Qb {c:Expr}{tc:TT}{p2:Pos}(hc:PT X c tc)(he:Gm X e te):Om X (.If c [.Return (some e) p2] [] pos) (Jo tc (G1 te) GE):=by
 intro pins s σ H D hp I h
 refine wpAny_If (As (Rd.wpAny_toks hp (hc pins s σ H _ I h)) fun d s1 zz=>?_)
 obtain⟨⟨H1,I1,q1⟩,hp1⟩:=zz
 cases d with
 |
  true=>
  refine Kb (wpAny_Return_some (As (he pins s1 σ H1 _ hp1 I1 q1) fun v s2 zz=>?_))
  obtain⟨x,H2,I2,r2,q2⟩:=zz
  exact⟨x,σ,H2,I2,r2,q2⟩
 |false=>exact Ka ⟨σ,H1,I1,q1⟩
theorem VD {s1 s2:Stmt}{rest:List Stmt}{t1 t2 u:TS}(h1:MJ X s1 t1)(h2:Om X s2 t2)(h3:DB X rest u):DB X (s1::s2::rest) (DH t1 (DH t2 u)):=by
 intro pins s σ H D I h
 refine Kb (As (h1 pins s σ H {D with nx:=DH t2 u D} I h) fun f s1 zz=>?_)
 obtain⟨q,hp⟩:=zz
 cases f with
 |
  next=>
  obtain⟨σ',H',I',q⟩:=q
  refine Kb (As (h2 pins s1 σ' H' {D with nx:=u D} hp I' q) fun f s2 q=>?_)
  cases f with
  |
   next=>
   obtain⟨σ',H',I',q⟩:=q
   exact h3 pins s2 σ' H' D I' q
  |ret v=>exact q
  |brk=>exact q
  |cont=>exact q
 |ret v=>exact q
 |brk=>exact q
 |cont=>exact q
theorem PJ {c:Str}{j:Nat}{cp apos:Pos}(ho:PE X o to)
  (hbase:attributeBase o "find" X.env (eval o X.env)=eval o X.env:=by rfl)
  (hfew:((backTo pos (starEach [.Constant (.str c) j cp] X.env)).all (fun x=>!x.1)&&(backToKw pos (keywordEach [] X.env)).all (fun x=>x.1.isSome)
   && decide (([.Constant (.str c) j cp]:List Expr).length+([]:List Keyword).length+(if([]:List Keyword).isEmpty then 0 else 1)<30))=true:=by rfl)
  (hline:(apos.endLine==pos.line)=true:=by rfl) :
  Nh X (.Call (.Attribute o "find" apos) [.Constant (.str c) j cp] [] pos) (Ki X.K "str" (fun x xs H Q=>∃z y,x = .str z/\xs=[.str y]/\Q (.int (Txt.find z y)) H) to (FS (tC (.str c)) Fz)):=by
 intro pins s σ H Q I h
 refine LV hbase hfew hline rfl (As (ho pins s σ H _ I h) fun v s1 zz=>?_)
 obtain⟨x,H1,I1,r1,ty,q1⟩:=zz
 obtain⟨h1,h2⟩:=Ho I1 r1 ty
 refine⟨"str","str.find",F.plainAttrs_str,F.slot_str_find,F.type_str_find,h1,h2,?_⟩
 obtain⟨z,y,rfl,e,q⟩:=q1
 injection e with e _
 injection e with e
 subst e
 obtain⟨t,rfl⟩:=r1
 refine Calls.callWith_builtin rfl (Calls.evalArgs_plain ?_)
 show wpAny _ _ (spliced ((false,eval (.Constant (.str c) j cp) X.env)::[])) _ _ _
 refine Calls.spliced_cons (Ih (Calls.spliced_nil ?_))
 exact Rd.wpAny_toks (s:={s1 with toks:=s1.toks+1}) (OI (BC _)) (SC.find ⟨.int _,H1,I1.tok _,⟨_,rfl⟩,q⟩)
def TC (K:Xa)(c:Nat)(to te:TE):TE:=fun σ H Q=>to σ H fun x H1=>Iw K "str" x H1/\te σ H1 fun y H2=>∃(z:Str) (n:Int),x = .str z/\y = .int n/\0<=n/\n<=100/\z.length<=100000/\Q (.str (Az (rp c n.toNat (cds z)))) H2
theorem QY {c:Nat}{y w':Str}{j1 j2:Nat}{p1 p2 bp apos:Pos}(hnb:He X.K=true)(hy:y=⟨#[c]⟩)(hw:w'=⟨#[c]⟩)(hc:c<256)(ho:PE X o to)(he:PE X e te)
  (hbase:attributeBase o "replace" X.env (eval o X.env)=eval o X.env:=by rfl)
  (hfew:((backTo pos (starEach [.Constant (.str y) j1 p1,.BinOp (.Constant (.str w') j2 p2) .Mult e bp] X.env)).all (fun x=>!x.1)&&(backToKw pos (keywordEach [] X.env)).all (fun x=>x.1.isSome)
   && decide (([.Constant (.str y) j1 p1,.BinOp (.Constant (.str w') j2 p2) .Mult e bp]:List Expr).length+([]:List Keyword).length+(if([]:List Keyword).isEmpty then 0 else 1)<30))=true:=by rfl)
  (hline:(apos.endLine==pos.line)=true:=by rfl) :
  Gm X (.Call (.Attribute o "replace" apos) [.Constant (.str y) j1 p1,.BinOp (.Constant (.str w') j2 p2) .Mult e bp] [] pos) (TC X.K c to te):=by
 intro pins s σ H Q hp I h
 refine LV hbase hfew hline rfl (As (Rd.wpAny_toks hp (ho pins s σ H _ I h)) fun v s1 zz=>?_)
 obtain⟨⟨x,H1,I1,r1,ty,q1⟩,hp1⟩:=zz
 obtain⟨h1,h2⟩:=Ho I1 r1 ty
 refine⟨"str","str.replace",F.plainAttrs_str,F.slot_str_replace,F.type_str_replace,h1,h2,?_⟩
 refine Calls.callWith_builtin rfl (Calls.evalArgs_plain ?_)
 show wpAny _ _ (spliced ((false,eval (.Constant (.str y) j1 p1) X.env)::(false,eval (.BinOp (.Constant (.str w') j2 p2) .Mult e bp) X.env)::[])) _ _ _
 refine Calls.spliced_cons (Ih (Calls.spliced_cons ?_))
 refine wpAny_BinOp (Ih ?_)
 refine As (Rd.wpAny_toks (n:=s1.toks+1+1) (Ai _) (he pins {s1 with toks:=s1.toks+1+1} σ H1 _ (I1.tok _) q1)) fun v2 s2 zz=>?_
 obtain⟨⟨y2,H2,I2,r2,q2⟩,hp2⟩:=zz
 obtain⟨z,n,rfl,rfl,n0,n1,zl,q⟩:=q2
 obtain⟨t,rfl⟩:=r1
 obtain⟨t2,rfl⟩:=r2
 subst hy hw
 have ml:(Txt.mul ⟨#[c]⟩ n).length<=100:=len_mul_one rfl n1
 refine Vc (mulOk_of 4096 4096 (by show 1<=4096;decide) (by omega) (by omega) (by decide) (by decide)) fun t' k ht=>Calls.spliced_nil ?_
 have u1:s1.toks≠0:=by omega
 have ht:t'=s1.toks+1\/t'=s2.toks:=ht
 have hg:s1.toks<t':=by rcases ht with rfl|rfl<;>omega
 refine SC.replaceW2 100000 100 (by decide) u1 (fun y=>Nat.not_lt_zero _ (y▸hg)) (Cg hg) zl ml (fun t3 k3=>⟨.str _,H2,I2.tok _,⟨t3,?_⟩,q⟩) (SW (I2.tok k).kIn hnb)
 exact congrArg (fun y=>Value.str y t3) (DK (by rw[B7];exact Vj z c n hc))
end
end L2
namespace Rd
open PySem PySem.Spec L2 EX
theorem rk_short {ns:List Str}{k:Rk}(h:Rok ns k):(rkS k).length<=1300/\(isD k=false->(rkS k).length<=200):=by
 cases k with
 |
  sz n=>
  obtain⟨g,_⟩:=nS_good (i:=n) (by have:=h.1;omega) h.2
  have e:("size ":Str).length=5:=by decide +kernel
  have:=g.2.1
  rw[cds_len]at this
  have:(rkS (.sz n)).length<=200:=by
   show("size "++nS n).length<=200
   rw[AX]
   omega
  exact⟨by omega,fun _=>this⟩
 |
  opn t=>
  have hn:=h.1.2.1
  rw[cds_len]at hn
  have:=S4 (t:=t) ⟨by omega,h.2.1.2,h.2.2.2⟩
  have:(rkS (.opn t)).length<=200:=this
  exact⟨by omega,fun _=>this⟩
 |
  fin=>
  have:(rkS .fin).length<=200:=by show("end":Str).length<=200;decide +kernel
  exact⟨by omega,fun _=>this⟩
 |
  ded tb sp ks t=>
  obtain⟨nms,lk,tk,rfl,hs⟩:=h
  have e:(" = ":Str).length=3:=by decide +kernel
  have h1:=lk.tok
  have h1:=Gq h1.1 h1.2.1 h1.2.2
  have h2:=Tw.wr_len tk.ok
  refine⟨?_,fun z=>nomatch z⟩
  show(Ba tb sp++" = "++t.wr).length<=1300
  rw[AX,AX]
  omega
theorem Oj (m:Nat)(l:List Nat):(List.replicate m 32++l).dropWhile (· == 32)=l.dropWhile (· == 32):=by
 induction m with
 |zero=>rfl
 |
  succ m ih=>
  rw[ON,Dl,Fk,Ag (by decide)]
  exact ih
theorem RP {a b:List Nat}(h:a.filter (· != 32)≠[]):(a++b).dropWhile (· == 32)=a.dropWhile (· == 32)++b:=by
 induction a with
 |nil=>exact absurd rfl h
 |
  cons d a ih=>
  rw[Dl,Fk,Fk]
  split
  .rename_i hd
   refine ih ?_
   rw[E7,Ae (by simpa using hd)]at h
   exact h
  .rfl
theorem O8 {T:List Nat}(m j:Nat)(h:T.filter (· != 32)≠[]):stp 32 (List.replicate m 32++T++List.replicate j 32)=stp 32 T:=by
 unfold stp
 rw[Co,Oj,RP h,LQ,List.reverse_replicate,Oj]
theorem QB {T tail:List Nat}(m:Nat)(h59:59∉T)(hn:T.filter (· != 32)≠[])(ht:tail=[]\/∃j x,tail=List.replicate j 32++59::x):bare (List.replicate m 32++T++tail)=bare T:=by
 have r59:∀n:Nat,59∉List.replicate n 32:=fun n z=>absurd (K6 z) (by decide)
 rw[IS h59]
 rcases ht with rfl|⟨j,x,rfl⟩
 .rw[DL,IS fun z=>(Bj.mp z).elim (r59 m) h59]
  have:=O8 m 0 hn
  rw[List.replicate_zero,DL]at this
  exact this
 .unfold bare
  have e:List.replicate m 32++T++(List.replicate j 32++59::x)=(List.replicate m 32++T++List.replicate j 32)++59::x:=by simp only[Co]
  rw[e,Ag (CC _ AY),(bef_app fun z=>?_).1]
  .exact O8 m j hn
  .rcases Bj.mp z with z|z
   .exact(Bj.mp z).elim (r59 m) h59
   .exact r59 j z
def Dt (n:Nat):List (List Nat)->List Nat
 |[]=>[]
 |[a]=>a
 |a::b::l=>a++(List.replicate n 32++Dt n (b::l))
theorem Mo (n:Nat):∀{ws:List (List Nat)},(∀w∈ws,32∉w)->rp 32 n (wj ws)=Dt n ws
 |[],_=>rfl
 |[a],h=>JL (h a AY)
 |
  a::b::l,h=>by
  show rp 32 n (a++([32]++wj (b::l)))=a++(List.replicate n 32++Dt n (b::l))
  rw[Iy,Iy,NJ,JL (h a AY),Mo n fun w hw=>h w (BH _ hw)]
theorem PQ {l:List Nat}{ps:List (List Nat)}{a:List Nat}(ha:32∉a)(h:IsSplit [32] l ps):∀n:Nat,IsSplit [32] (a++(List.replicate (n+1) 32++l)) (a::(List.replicate n []++ps)):=by
 intro n
 induction n generalizing a with
 |zero=>exact .cut' ha h
 |
  succ n ih=>
  rw[ON,ON (n:=n) (a:=([]:List Nat)),Dl,Dl]
  have:=ih (a:=[]) (fun z=>nomatch z)
  exact .cut' ha this
theorem Nw (n:Nat):∀{ws:List (List Nat)},ws≠[]->(∀w∈ws,32∉w/\w≠[])->∃ps,IsSplit [32] (Dt (n+1) ws) ps/\ps.filter (fun p=>decide (p≠[]))=ws
 |[],h,_=>absurd rfl h
 |[a],_,h=>⟨[a],.one' (h a AY).1,by rw[E7,Ag (B5 (h a AY).2)];rfl⟩
 |
  a::b::l,_,h=>by
  obtain⟨ps,h1,h2⟩:=Nw n (ws:=b::l) (DO _ _) fun w hw=>h w (BH _ hw)
  refine⟨_,PQ (h a AY).1 h1 n,?_⟩
  rw[E7,Ag (B5 (h a AY).2),FF,h2]
  have:(List.replicate n ([]:List Nat)).filter (fun p=>decide (p≠[]))=[]:=List.filter_eq_nil_iff.mpr fun x hx=>by rw[K6 hx];decide
  rw[this]
  rfl
theorem SY {l:List Nat}{ps:List (List Nat)}{ws:List Str}(h:IsSplit [32] l ps)(e:ps.filter (fun p=>decide (p≠[]))=ws.map cds):Wds l ws:=by
 refine⟨ps.map Az,?_,?_⟩
 .rw[GP,show ps.map (cds∘Az)=ps from(OG fun x _=>B7 x).trans (List.map_id _)]
  exact h
 .refine map_cds_inj ?_
  rw[←e]
  clear h e
  induction ps with
  |nil=>rfl
  |
   cons p ps ih=>
   rw[BS,E7,E7]
   by_cases hp:p=[]
   .subst hp
    rw[Ae (by decide +kernel),Ae (by decide)]
    exact ih
   .have hne:Az p≠Str.ofString "":=fun z=>hp (by have z:=congrArg cds z;rw[B7]at z;exact z)
    rw[Ag (B5 hne),Ag (B5 hp),BS,ih,B7]
theorem Mf {c n:Nat}(hc:c≠32):∀{ws:List (List Nat)},(∀w∈ws,c∉w)->c∉Dt n ws
 |[],_=>fun z=>nomatch z
 |[a],h=>h a AY
 |
  a::b::l,h=>fun z=>by
  have z:c∈a++(List.replicate n 32++Dt n (b::l)):=z
  rcases Bj.mp z with z|z
  .exact h a AY z
  .rcases Bj.mp z with z|z
   .exact hc (K6 z)
   .exact Mf hc (ws:=b::l) (fun w hw=>h w (BH _ hw)) z
theorem NY (n:Nat):∀{ws:List (List Nat)},ws≠[]->(∀w∈ws,32∉w/\w≠[])->(∃c r,Dt n ws=c::r/\c≠32)/\∃s d,Dt n ws=s++[d]/\d≠32
 |[],h,_=>absurd rfl h
 |
  [a],_,h=>by
  obtain⟨h1,h2⟩:=h a AY
  refine⟨?_,Q7 h2 h1⟩
  cases a with
  |nil=>exact absurd rfl h2
  |cons c a=>exact⟨c,a,rfl,fun z=>h1 (z▸AY)⟩
 |
  a::b::l,_,h=>by
  obtain⟨_,s,d,e,hd⟩:=NY n (ws:=b::l) (DO _ _) fun w hw=>h w (BH _ hw)
  obtain⟨h1,h2⟩:=h a AY
  refine⟨?_,a++(List.replicate n 32++s),d,?_,hd⟩
  .cases a with
   |nil=>exact absurd rfl h2
   |cons c a=>exact⟨c,_,rfl,fun z=>h1 (z▸AY)⟩
  .show a++(List.replicate n 32++Dt n (b::l))=_
   rw[e]
   simp
structure IJ (k:Rk)(T:List Nat):Prop where
 ne:bare T≠[]
 rt:Ja (bare T) k
 n10:10∉T
 n59:59∉T
 nb:T.filter (· != 32)≠[]
 ln:T.length<=1400
theorem sprd_words {ns:List Str}{k:Rk}(h:Rok ns k)(hd:isD k=false)(n:Nat)(hn:n<=2):IJ k (rp 32 (n+1) (cds (rkS k))):=by
 have hw:=RM h
 have h2:∀w∈(CB k).map cds,32∉w/\w≠[]:=fun w hw'=>by
  obtain⟨z,hz,rfl⟩:=DE.mp hw'
  exact⟨(hw z hz).2.1,(hw z hz).1⟩
 have hm:(CB k).map cds≠[]:=fun z=>TQ k (List.map_eq_nil_iff.mp z)
 have fr:∀{c:Nat},c≠32->(∀w∈CB k,c∉cds w)->c∉Dt (n+1) ((CB k).map cds):=fun{c} hc hw'=>Mf hc fun w hw2=>by
  obtain⟨z,hz,rfl⟩:=DE.mp hw2
  exact hw' z hz
 have e:rp 32 (n+1) (cds (rkS k))=Dt (n+1) ((CB k).map cds):=by rw[Mc];exact Mo _ fun w hw=>(h2 w hw).1
 have len:(rp 32 (n+1) (cds (rkS k))).length<=3*(cds (rkS k)).length:=by
  generalize cds (rkS k)=l
  induction l with
  |nil=>exact Ai _
  |
   cons d l ih=>
   show((if d=32 then List.replicate (n+1) 32 else[d])++rp 32 (n+1) l).length<=3*(l.length+1)
   rw[Au]
   have:(if d=32 then List.replicate (n+1) 32 else[d]).length<=3:=by
    split
    .rw[OF];omega
    .show 1<=3;decide
   omega
 have l2:=(rk_short h).2 hd
 rw[←cds_len]at l2
 have n59:59∉Dt (n+1) ((CB k).map cds):=fr (by decide) fun w hw'=>(hw w hw').2.2.1
 have n10:10∉Dt (n+1) ((CB k).map cds):=fr (by decide) fun w hw'=>(hw w hw').2.2.2
 obtain⟨⟨c,r,e1,hc⟩,s,d,e2,hd2⟩:=NY (n+1) hm h2
 have hb:bare (Dt (n+1) ((CB k).map cds))=Dt (n+1) ((CB k).map cds):=(IS n59).trans (V7 e1 e2 hc hd2)
 obtain⟨ps,p1,p2⟩:=Nw n hm h2
 have W:=SY (ws:=CB k) p1 p2
 rw[e]at len ⊢
 refine⟨by rw[hb,e1];exact DO _ _,?_,n10,n59,?_,by omega⟩
 .rw[hb]
  cases k with
  |sz n=>exact W
  |opn t=>exact W
  |fin=>exact W
  |ded tb sp ks t=>cases hd
 .rw[e1,E7,Ag (Eh.mpr hc)]
  exact DO _ _
theorem sprd_ded {ns:List Str}{tb:Str}{sp:List (Str×Int)}{ks:List Tk}{t:Tw}{l':List Nat}(h:Rok ns (.ded tb sp ks t))(b:Kl (cds tb).length (cds (rkS (.ded tb sp ks t))) l'):IJ (.ded tb sp ks t) l':=by
 have hl:=(rk_short h).1
 have bl:=Ul b
 rw[cds_len]at bl
 obtain⟨nms,lk,tk,rfl,_⟩:=h
 have d:=KQ (QF lk tk) b
 obtain⟨r1,r2,r3⟩:=PF lk.ok d t
 obtain⟨r,e,hf,_,h59⟩:=d
 have n59:59∉l':=by rw[e];exact fun z=>(Bj.mp z).elim (name_no lk.ok.1 (by omega)) h59
 refine⟨r1,r2,r3,n59,?_,by omega⟩
 rw[e,FF]
 intro z
 have:=(OM.mp z).2
 rw[hf]at this
 cases this
def U8:Str:=⟨#[32,33,34,35,36,38,39,40,41,42,43,44,45,46,47,48,49,50,51,52,53,54,55,56,57,58,59,60,61,62,63,64,65,66,67,68,69,70,71,72,73,74,75,76,77,78,79,80,81,82,83,84,85,86,87,88,89,90,91,92,93,94,95,96,97,98,99,100,101,102,103,104,105,106,107,108,109,110,111,112,113,114,115,116,117,118,119,120,121,122,123,124,125,126]⟩
theorem sign_at {z:Str}(e:z=U8)(c:Int):∃d:Nat,Bz (cds z) (c%94)=some d/\d≠10:=by
 have h0:=BU c (show(94:Int)≠0 by decide)
 have h1:=C0 c (show(0:Int)<94 by decide)
 obtain⟨k,hk⟩:∃k:Nat,c%94=(k:Int):=⟨(c%94).toNat,by omega⟩
 have hl:(cds z).length=94:=by rw[e];rfl
 have hlt:k<(cds z).length:=by omega
 rw[hk]
 refine⟨(cds z)[k],EG (Bg hlt),fun hz=>?_⟩
 have hm:(cds z)[k]∈cds z:=EV hlt
 rw[hz,e]at hm
 exact absurd hm (by decide +kernel)
theorem no_bracket {ns:List Str}{k:Rk}(h:Rok ns k)(hd:isD k=false):91∉cds (rkS k):=by
 rw[Mc]
 refine NG (by decide) fun w hw=>?_
 obtain⟨y,hy,rfl⟩:=DE.mp hw
 cases k with
 |
  sz n=>
  obtain⟨g,_⟩:=nS_good (i:=n) (by have:=h.1;omega) h.2
  simp only[CB,AQ,CL,or_false]at hy
  rcases hy with rfl|rfl
  .decide +kernel
  .exact F6 g (by omega)
 |
  opn t=>
  simp only[CB,AQ,CL,or_false]at hy
  rcases hy with rfl|rfl|rfl|rfl
  .decide +kernel
  .exact name_no h.1 (by omega)
  .exact spot_free h.2.1 (by omega)
  .exact spot_free h.2.2 (by omega)
 |
  fin=>
  simp only[CB,AQ,CL,or_false]at hy
  subst hy
  decide +kernel
 |ded tb sp ks t=>cases hd
theorem at_bracket {ns:List Str}{tb:Str}{sp:List (Str×Int)}{ks:List Tk}{t:Tw}(h:Rok ns (.ded tb sp ks t)):GC 91 (cds (rkS (.ded tb sp ks t)))=(((cds tb).length:Nat):Int):=by
 obtain⟨nms,lk,_⟩:=h
 have e:cds (rkS (.ded tb sp ks t))=cds tb++91::(inner (sp.map fun s=>cds (B6 s))++[93]++cds (" = "++t.wr)):=by
  show cds (Ba tb sp++" = "++t.wr)=_
  rw[AN,AN,AN,cel_cds lk.ok.2.1]
  simp only[Co,Dl]
 rw[e]
 unfold GC
 rw[Ag (CC _ AY)]
 have n91:91∉cds tb:=name_no lk.ok.1 (by omega)
 rw[HL (i:=(cds tb).length) (by rw[E5 (Ai _),EC];rfl) fun k hk z=>n91 (by rw[DM hk]at z;exact CK z)]
def spSign:Sp:=fun vs H Q _=>∃c:Int,vs=[.int c]/\∀d:Nat,d≠10->Q (.str ⟨#[d]⟩) H
def spSpread:Sp:=fun vs H Q _=>∃(ns:List Str) (k:Rk) (x:Int),vs=[.str (rkS k),.int x]/\Rok ns k/\∀(z:Str) (H':Hp),A7 H H'->IJ k (cds z)->Q (.str z) H'
def Nz (kk:List Rk)(rows:List Str):Prop:=(∀y∈rows,y.length<=2000/\10∉cds y)/\rows.length<=3*kk.length+2/\∀(f:Str->Nat) (D E:Dr),Stps f D kk E->Rds f rows D E
theorem Nz.nil:Nz [] []:=⟨fun y hy=>(by cases hy),BC _,fun f D E h=>by cases h;exact .nil⟩
theorem Nz.row {kk:List Rk}{rows:List Str}{k:Rk}{z:Str}{T tail:List Nat}{m:Nat}(h:Nz kk rows)(s:IJ k T)(e:cds z=List.replicate m 32++T++tail)(ht:tail=[]\/∃j x,tail=List.replicate j 32++59::x)(hz:z.length<=2000/\10∉cds z):Nz (kk++[k]) (rows++[z]):=by
 refine⟨Fx h.1 hz,by rw[Au,Au];have:=h.2.1;show _+1<=3*(_+1)+2;omega,fun f D E hS=>?_⟩
 obtain⟨F,s1,s2⟩:∃F,Stps f D kk F/\EF f F E k:=by
  clear h s e
  generalize hk:kk++[k]=l at hS
  induction hS generalizing kk with
  |nil=>simp at hk
  |
   @cons D D' E a l st rest ih=>
   cases kk with
   |
    nil=>
    injection hk with e1 e2
    subst e1
    rw[←e2]at rest
    cases rest
    exact⟨D,.nil,st⟩
   |
    cons b kk=>
    injection hk with e1 e2
    subst e1
    obtain⟨F,a1,a2⟩:=ih e2
    exact⟨F,.cons st a1,a2⟩
 have hb:=QB m s.n59 s.nb ht
 rw[←e]at hb
 exact(h.2.2 f D F s1).app (.row (by rw[hb];exact s.ne) (by rw[hb];exact s.rt) s2 .nil)
theorem Nz.no {kk:List Rk}{rows:List Str}{z:Str}(h:Nz kk rows)(hl:rows.length+1<=3*kk.length+2)(hb:bare (cds z)=[])(hz:z.length<=2000/\10∉cds z):Nz kk (rows++[z]):=
 ⟨Fx h.1 hz,by rw[Au];exact hl,fun f D E hS=>(h.2.2 f D E hS).app (.no hb .nil)⟩
theorem rem_bare (x:List Nat):bare (59::x)=[]:=by
 unfold bare
 have:=bef_app (c:=59) (x:=[]) (y:=x) (fun z=>nomatch z)
 rw[K4]at this
 rw[Ag AY,this.1]
 rfl
theorem pickA {i:Int}(h0:0<=i)(h1:i<2):∃(u:Str) (j:Nat),Bz [V.str " ;",V.str ";"] i=some (.str u)/\cds u=List.replicate j 32++[59]/\u.length<=2:=by
 have:i=0\/i=1:=by omega
 rcases this with rfl|rfl
 .exact⟨" ;",1,rfl,by decide +kernel,by decide +kernel⟩
 .exact⟨";",0,rfl,by decide +kernel,by decide +kernel⟩
theorem pickB {i:Int}(h0:0<=i)(h1:i<4):∃u:Str,Bz [V.str "",V.str "  ",V.str ";",V.str " ; end"] i=some (.str u)/\bare (cds u)=[]/\10∉cds u/\u.length<=10:=by
 have:i=0\/i=1\/i=2\/i=3:=by omega
 rcases this with rfl|rfl|rfl|rfl
 .exact⟨"",rfl,by decide +kernel,by decide +kernel,by decide +kernel⟩
 .exact⟨"  ",rfl,by decide +kernel,by decide +kernel,by decide +kernel⟩
 .exact⟨";",rfl,by decide +kernel,by decide +kernel,by decide +kernel⟩
 .exact⟨" ; end",rfl,by decide +kernel,by decide +kernel,by decide +kernel⟩
def spNoisy:Sp:=fun vs H Q _=>∃(ns:List Str) (rl:Addr) (xs:List V) (R:Pw.Rw Ak Str) (ks:List Rk) (n c:Int),vs=[.ref rl,.int n,.int c]/\H rl=some (.lst xs)/\AC (GI H) xs R/\R.map (fun p=>Hi p.2)=ks.map rkS/\(∀k∈ks,Rok ns k)/\2<=n/\n<=999999999999999999/\ks.length<=70/\
 ∀(H':Hp) (rows:List Str),A7 H H'->rows≠[]->Nz (.sz n::ks) rows->Q (.str (Txt.join "\n" rows)) H'
def spReadB (CP C:Addr)(c:Cs):Sp:=fun vs H Q _=>∃(f:Str->Nat) (z:Str) (rows:List Str) (E:Dr) (n:Int),vs=[.str z]/\z.length<=900000/\IsSplit [10] (cds z) (rows.map cds)/\rows.length<=1000/\(∀y∈rows,y.length<=100000)/\Rds f rows D0 E/\E.sz=some n/\E.dd≠[]/\E.lp=[]/\∀(x dx fl:Addr) (ds:List V) (H':Hp),A7 H H'->H' x=some (.ins CP dx [("size",.int n),("deeds",.ref fl)])->H' fl=some (.lst ds)->AC (DV C c H') ds E.dd->H fl=none->Q (.ref x) H'
def spPInitN (C:Addr):Sp:=fun vs H Q _=>∃(x dx l:Addr) (v1:V) (xs:List V),vs=[.ref x,v1,.ref l]/\H x=some (.ins C dx [])/\H l=some (.lst xs)/\xs.length<=1000/\∀(H':Hp) (dl:Addr),(∀b o,H b=some o->b≠x->H' b=some o)->(∃dx,H' x=some (.ins C dx [("size",v1),("deeds",.ref dl)]))->H' dl=some (.lst xs)->H dl=none->Q .non H'
theorem all2_map {α β:Type}{R:V->β->Prop}{g:α->β}:∀{xs:List V} {as:List α},AC (fun v t=>R v (g t)) xs as->AC R xs (as.map g):=fun{xs as} h=>⟨by rw[Ap];exact h.1,fun i x b hx hb=>by
 rw[D8]at hb
 cases ha:as[i]? with
 |none=>rw[ha]at hb;cases hb
 |some a=>rw[ha]at hb;cases hb;exact h.2 i x a hx ha⟩
theorem Kr {K:Xa}{H:Hp}:∀{l:List V},l.all CM=true->C4 K H l (l.map Tr.v)
 |[],_=>.nil
 |
  x::l,h=>by
  rw[K1,EB]at h
  exact .cons (.flat h.1) (Kr h.2)
theorem NU:∀l:List V,Du (l.map Tr.v)<=1
 |[]=>by rw[K2,Du];exact BC _
 |
  x::l=>by
  have:=NU l
  rw[BS,Du,CH]
  omega
theorem flat_ne {K:Xa}{H:Hp}{x y:Addr}{l:List V}{Q:VK}(hf:l.all CM=true)(hx:H x=some (.tup l))(hy:H y=some (.tup l))(h:Q (.bl false) H):IW K true (.ref x) (.ref y) H Q:=
 ne_same (.tup (Ah.of hx) (Kr hf)) (.tup (Ah.of hy) (Kr hf)) (by rw[CH];have:=NU l;omega) h
theorem flat_ints (l:List Int):(l.map V.int).all CM=true:=by
 rw[EU]
 intro x hx
 obtain⟨z,_,rfl⟩:=DE.mp hx
 rfl
def spKept (C:Addr)(c:Cs):Sp:=fun vs H Q _=>∃(ns:List Str) (x y:V) (D:Dw),vs=[x,y]/\DV C c H x D/\Ei H y D/\Dk ns D/\D.loops.length<=3/\D.path.length<=10/\∀H',A7 H H'->Q (.bl true) H'
def spGood (CP C:Addr)(c:Cs):Sp:=fun vs H Q _=>∃(ns:List Str) (v:V) (n:Int) (dl:Addr) (ys:List V) (Ds:List Dw),vs=[v,.int n,.ref dl]/\SX CP C c H v n Ds/\H dl=some (.lst ys)/\AC (Ei H) ys Ds/\(∀D∈Ds,Dk ns D/\D.loops.length<=3/\D.path.length<=10)/\Ds.length<=10/\∀H',A7 H H'->Q (.bl true) H'
end Rd
namespace L2
open PySem PySem.Spec PyProof.Rows
section
variable {X:Cx}{pins:List (Addr×Obj)}{s:Shared}{σ:St}{H:Hp}
end
end L2
namespace PySem
open Builtin
open AutoSeq1 (wpAny_loadPart')
end PySem
namespace L2
open PySem PySem.Spec PyProof.Rows
end L2
namespace Fo
variable {W:Type}
end Fo
namespace PySem
open PySem.Spec PyProof.Rows
open AutoSeq1 (wpAny_loadPart')
end PySem
namespace L2
open PySem PySem.Spec PyProof.Rows
end L2
namespace HU
open PySem PySem.Spec
section
variable {prog:Program}{w:World}{A:Around}{E:Value->Shared->Prop}{s:Shared}
end
end HU
namespace L2
open PySem PySem.Spec PyProof.Rows
end L2
namespace Fw
open PySem L2
def B1 (i:Nat):Stmt:=PySem.Challenge.pw_furrow_k25_programs_read.main.body.getD i (.Pass ⟨0,0,0,0⟩)
abbrev J2:Stmt:=FJ (B1 3) 0
abbrev J1:Stmt:=FJ (B1 4) 0
abbrev JP:Stmt:=FJ (B1 5) 0
abbrev J5:Stmt:=FJ (B1 6) 0
abbrev JT:Stmt:=FJ (B1 8) 0
abbrev Iu:Stmt:=FJ (B1 9) 0
abbrev HB:Stmt:=B1 19
abbrev JA:Stmt:=B1 20
abbrev Jv:Stmt:=B1 21
abbrev JR:Stmt:=B1 23
abbrev JN:Stmt:=B1 24
abbrev Ik:Stmt:=B1 22
abbrev JF:Stmt:=B1 25
abbrev Hz:Stmt:=B1 26
abbrev J8:Stmt:=B1 45
abbrev Gw:Stmt:=B1 47
abbrev Jm:Stmt:=B1 46
abbrev J0:Stmt:=B1 44
abbrev Jz:Stmt:=B1 49
abbrev JC:Stmt:=B1 48
abbrev Jg:Stmt:=FJ (B1 34) 0
abbrev HK:Stmt:=B1 42
abbrev IK:Stmt:=B1 41
abbrev Ip:Stmt:=B1 43
abbrev Jy:Stmt:=B1 40
abbrev IQ:Stmt:=B1 37
abbrev IB:Stmt:=B1 38
abbrev JS:Stmt:=B1 39
abbrev Iv:Stmt:=B1 36
abbrev Jw:Stmt:=B1 35
abbrev Jx:Stmt:=B1 51
abbrev IU:Stmt:=B1 52
abbrev IE:Stmt:=B1 53
abbrev Hw:Stmt:=B1 54
abbrev Jh:Stmt:=B1 55
abbrev IA:Stmt:=B1 56
abbrev JM:Stmt:=B1 57
abbrev Gz:Stmt:=B1 58
abbrev Jk:Stmt:=B1 59
abbrev Jf:Stmt:=B1 60
abbrev IY:Stmt:=B1 61
abbrev Gf:Stmt:=B1 62
abbrev Hl:Stmt:=B1 63
abbrev Jr:Stmt:=B1 64
abbrev IF:Stmt:=B1 65
abbrev IM:Stmt:=B1 66
abbrev Hd:Stmt:=B1 67
abbrev JG:Stmt:=B1 68
abbrev Jq:Stmt:=B1 69
abbrev FB:Stmt:=B1 70
abbrev Hf:Stmt:=B1 71
abbrev JE:Stmt:=B1 72
theorem AZ {N P:List Str}{sc:Scope}(a:sc.kind = .function:=by rfl)(b:sc.isCoroutine=false:=by rfl)(c:sc.isGenerator=false:=by rfl)(d:N.Nodup:=by decide +kernel)(e:N.take P.length=P:=by rfl)(f:∀x∈P,sc.names.lookup x=some .local\/sc.names.lookup x=some .cell:=by decide +kernel)(g:∀y∈sc.names,y.2≠.free:=by decide +kernel):AU N P sc:=⟨a,b,c,d,e,f,g⟩
theorem Re:AU ["self","n"] ["self","n"] (AB J2):=AZ
theorem Se:AU ["self","name"] ["self","name"] (AB J1):=AZ
theorem Pg:AU ["self","table","spots"] ["self","table","spots"] (AB JP):=AZ
theorem Pf:AU ["self","sign","left","right"] ["self","sign","left","right"] (AB J5):=AZ
theorem U7:AU ["self","names","lows","highs","table","spots","term","path"] ["self","names","lows","highs","table","spots","term","path"] (AB JT):=AZ
theorem TB:AU ["self","size","deeds"] ["self","size","deeds"] (AB Iu):=AZ
theorem P4:AU ["text","signs"] ["text","signs"] (AB HB):=AZ
theorem Sf:AU ["text"] ["text"] (AB JA):=AZ
theorem OV:AU ["text"] ["text"] (AB Jv):=AZ
theorem NH:AU ["parts","number"] ["parts"] (AB JR):=AZ
theorem Mp:AU ["parts","number"] ["parts"] (AB JN):=AZ
theorem MW:AU ["text","number"] ["text"] (AB Ik):=AZ
theorem VZ:AU ["row"] ["row"] (AB JF):=AZ
theorem SJ:AU ["row"] ["row"] (AB Hz):=AZ
theorem IL:AU ["text","at","inside"] ["text","at"] (AB J8):=AZ
theorem Lv:AU ["text","parts","spots"] ["text"] (AB Gw):=AZ
theorem NR:AU ["text","number"] ["text"] (AB Jm):=AZ
theorem GL:AU ["text","parts","at","end","part"] ["text"] (AB J0):=AZ
theorem Lo:AU ["terms","signs","least","right","left"] ["terms","signs","least"] (AB Jz):=AZ
theorem FO:AU ["parts","terms","signs","due","part"] ["parts"] (AB JC):=AZ
theorem Tn:AU ["self"] ["self"] (AB Jg):=AZ
theorem RD:AU ["draft","spots"] ["draft","spots"] (AB HK):=AZ
theorem MP:AU ["draft","parts","part"] ["draft","parts"] (AB IK):=AZ
theorem Ly:AU ["draft","parts","part","many"] ["draft","parts"] (AB Ip):=AZ
theorem GY:AU ["draft","row","halves","cell","parts","term"] ["draft","row"] (AB Jy):=AZ
theorem Nm:AU ["draft","words","size"] ["draft","words"] (AB IQ):=AZ
theorem KU:AU ["draft","words","low","high"] ["draft","words"] (AB IB):=AZ
theorem Vi:AU ["draft","words"] ["draft","words"] (AB JS):=AZ
theorem M6:AU ["draft","row","words"] ["draft","row"] (AB Iv):=AZ
theorem Gk:AU ["text","rows","draft","line","row","bare"] ["text"] (AB Jw):=AZ
theorem TH:AU ["_law_script","_law_k"] ["_law_script","_law_k"] (AB Jx):=AZ
theorem UV:AU ["_law_found"] ["_law_found"] (AB IU):=AZ
theorem HQ:AU ["_law_cell_here","_law_many","_law_found","_law_number_here","_law_k"] ["_law_cell_here","_law_many"] (AB IE):=AZ
theorem DW:AU ["_law_cell_here","_law_many","_law_letters","_law_xs","_law_word","_law_long","_law_at","_law_found","_law_k","_law_sign_here","_law_name"] ["_law_cell_here","_law_many"] (AB Hw):=AZ
theorem Py:AU ["_law_cell_here","_law_far"] ["_law_cell_here","_law_far"] (AB Jh):=AZ
theorem QW:AU ["_law_spot_here"] ["_law_spot_here"] (AB IA):=AZ
theorem L6:AU ["_law_one","_law_other","_law_known","_law_n"] ["_law_one","_law_other","_law_known"] (AB JM):=AZ
theorem J6:AU ["_law_xs","_law_known","_law_names_here","_law_many","_law_table","_law_spots_here"] ["_law_xs","_law_known","_law_names_here"] (AB Gz):=AZ
theorem Hv:AU ["_law_cell_here","_law_known","_law_names_here","_law_xs","_law_n","_law_name","_law_one"] ["_law_cell_here","_law_known","_law_names_here"] (AB Jk):=AZ
theorem Gp:AU ["_law_sign_here","_law_left","_law_right","_law_hold","_law_one","_law_other"] ["_law_sign_here","_law_left","_law_right"] (AB Jf):=AZ
theorem Fl:AU ["_law_cell_here","_law_known","_law_names_here","_law_xs","_law_stack","_law_x","_law_right","_law_left"] ["_law_cell_here","_law_known","_law_names_here"] (AB IY):=AZ
theorem HD:AU ["_law_cell_here","_law_names_here","_law_opened","_law_last","_law_xs","_law_known","_law_rest","_law_low"] ["_law_cell_here","_law_names_here","_law_opened","_law_last"] (AB Gf):=AZ
theorem GJ:AU ["_law_cell_here","_law_opened","_law_path","_law_names_here","_law_known","_law_table","_law_spots_here","_law_text","_law_term_here"] ["_law_cell_here","_law_opened","_law_path","_law_names_here"] (AB Hl):=AZ
theorem Dg:AU ["_law_cells","_law_names_here","_law_opened","_law_path","_law_rows","_law_deeds","_law_last","_law_cell_here","_law_loop_here","_law_text"] ["_law_cells","_law_names_here"] (AB Jr):=AZ
theorem La:AU ["_law_cell_here","_law_some"] ["_law_cell_here"] (AB IF):=AZ
theorem Kx:AU ["_law_text","_law_x","_law_at"] ["_law_text","_law_x"] (AB IM):=AZ
theorem EI:AU ["_law_rows","_law_size","_law_cell_here","_law_texts","_law_xs","_law_found","_law_k","_law_x","_law_text"] ["_law_rows","_law_size","_law_cell_here"] (AB Hd):=AZ
theorem MF:AU ["_law_found","_law_due","_law_spot_here"] ["_law_found","_law_due"] (AB JG):=AZ
theorem Rq:AU ["_law_term_here","_law_shape"] ["_law_term_here","_law_shape"] (AB Jq):=AZ
theorem Ry:AU ["_law_found","_law_due"] ["_law_found","_law_due"] (AB FB):=AZ
theorem Qp:AU ["_law_found","_law_size","_law_deeds"] ["_law_found","_law_size","_law_deeds"] (AB Hf):=AZ
theorem FV:AU ["_law_script","_law_names_here","_law_size","_law_rows","_law_deeds","_law_text","_law_found"] ["_law_script"] (AB JE):=AZ
theorem U2:Cu (CV [(".0",.local),("sign",.local),("signs",.free)]) (AB HB)  ["text","signs"] ["sign","signs"] [none,some 1]=true:=by decide +kernel
theorem UB:(["sign","signs"]:List Str).Nodup:=by decide +kernel
theorem UP:Cu (CV [(".0",.local),("word",.local)]) (AB Hz)  ["row"] ["word"] [none]=true:=by decide +kernel
theorem RH:(["word"]:List Str).Nodup:=by decide +kernel
theorem Ta:Cu (CV [(".0",.local),("inner",.local),("spot_of",.globalImplicit)]) (AB Gw)  ["text","parts","spots"] ["inner"] [none]=true:=by decide +kernel
theorem QH:(["inner"]:List Str).Nodup:=by decide +kernel
theorem Te:Cu (CV [(".0",.local),("spot",.local)]) (AB Gw)  ["text","parts","spots"] ["spot"] [none]=true:=by decide +kernel
theorem QQ:(["spot"]:List Str).Nodup:=by decide +kernel
theorem Sg:Cu (CV [(".0",.local),("spot",.local),("draft",.free)]) (AB HK)  ["draft","spots"] ["spot","draft"] [none,some 0]=true:=by decide +kernel
theorem VX:(["spot","draft"]:List Str).Nodup:=by decide +kernel
theorem UT:Cu (CV [(".0",.local),("_law_x",.local),("_law_letters",.free)]) (AB Hw)  ["_law_cell_here","_law_many","_law_letters","_law_xs","_law_word","_law_long","_law_at","_law_found","_law_k","_law_sign_here","_law_name"] ["_law_x","_law_letters"] [none,some 2]=true:=by decide +kernel
theorem Rb:(["_law_x","_law_letters"]:List Str).Nodup:=by decide +kernel
theorem Ti:Cu (CV [(".0",.local),("_law_k",.local),("_law_spot",.globalImplicit),("_law_known",.free),("_law_xs",.free)]) (AB Gz)  ["_law_xs","_law_known","_law_names_here","_law_many","_law_table","_law_spots_here"] ["_law_k","_law_known","_law_xs"] [none,some 1,some 0]=true:=by decide +kernel
theorem TF:(["_law_k","_law_known","_law_xs"]:List Str).Nodup:=by decide +kernel
theorem U3:Cu (CV [(".0",.local),("_law_spot_here",.local),("_law_spot_text",.globalImplicit)]) (AB Gz)  ["_law_xs","_law_known","_law_names_here","_law_many","_law_table","_law_spots_here"] ["_law_spot_here"] [none]=true:=by decide +kernel
theorem QI:(["_law_spot_here"]:List Str).Nodup:=by decide +kernel
theorem UG:Cu (CV [(".0",.local),("_law_one",.local)]) (AB Gf)  ["_law_cell_here","_law_names_here","_law_opened","_law_last","_law_xs","_law_known","_law_rest","_law_low"] ["_law_one"] [none]=true:=by decide +kernel
theorem QE:(["_law_one"]:List Str).Nodup:=by decide +kernel
theorem PB:Cu (CV [(".0",.local),("_law_name",.local),("_law_known",.free)]) (AB Gf)  ["_law_cell_here","_law_names_here","_law_opened","_law_last","_law_xs","_law_known","_law_rest","_law_low"] ["_law_name","_law_known"] [none,some 5]=true:=by decide +kernel
theorem QK:(["_law_name","_law_known"]:List Str).Nodup:=by decide +kernel
theorem SL:Cu (CV [(".0",.local),("_law_one",.local)]) (AB Hl)  ["_law_cell_here","_law_opened","_law_path","_law_names_here","_law_known","_law_table","_law_spots_here","_law_text","_law_term_here"] ["_law_one"] [none]=true:=by decide +kernel
theorem TU:(["_law_one"]:List Str).Nodup:=by decide +kernel
theorem Vb:Cu (CV [(".0",.local),("_law_deep",.local),("_law_text",.local)]) (AB Hd)  ["_law_rows","_law_size","_law_cell_here","_law_texts","_law_xs","_law_found","_law_k","_law_x","_law_text"] ["_law_deep","_law_text"] [none,none]=true:=by decide +kernel
theorem My:(["_law_deep","_law_text"]:List Str).Nodup:=by decide +kernel
theorem QC:Cu (CV [(".0",.local),("_law_one",.local)]) (AB FB)  ["_law_found","_law_due"] ["_law_one"] [none]=true:=by decide +kernel
theorem RY:(["_law_one"]:List Str).Nodup:=by decide +kernel
theorem Vk:Cu (CV [(".0",.local),("_law_one",.local)]) (AB FB)  ["_law_found","_law_due"] ["_law_one"] [none]=true:=by decide +kernel
theorem T7:(["_law_one"]:List Str).Nodup:=by decide +kernel
theorem U4:Cu (CV [(".0",.local),("_law_one",.local)]) (AB FB)  ["_law_found","_law_due"] ["_law_one"] [none]=true:=by decide +kernel
theorem Tc:(["_law_one"]:List Str).Nodup:=by decide +kernel
theorem T4:Cu (CV [(".0",.local),("_law_at",.local),("_law_whole",.globalImplicit)]) (AB FB)  ["_law_found","_law_due"] ["_law_at"] [none]=true:=by decide +kernel
theorem Q4:(["_law_at"]:List Str).Nodup:=by decide +kernel
theorem RF:Cu (CV [(".0",.local),("_law_k",.local),("_law_kept",.globalImplicit),("_law_deeds",.free),("_law_found",.free)]) (AB Hf)  ["_law_found","_law_size","_law_deeds"] ["_law_k","_law_deeds","_law_found"] [none,some 2,some 0]=true:=by decide +kernel
theorem SG:(["_law_k","_law_deeds","_law_found"]:List Str).Nodup:=by decide +kernel
structure B9 (K:Xa)(x:Str)(st:Stmt)(f:Addr)(d:FuncData):Prop where
 a:PySem.W.nsIn K mainGlobals x=some (some (.ref f))
 F:AO K x x st f d
structure FR (K:Xa)(C:Addr)(x q:Str)(st:Stmt)(f:Addr)(d:FuncData):Prop where
 a:PySem.W.findIn K (.ref C) x=some (some (.ref f))
 i:PySem.W.isFn K (.ref f)=true
 F:AO K x q st f d
structure ClA (K:Xa)(C:Addr)(x:Str):Prop where
 a:PySem.W.nsIn K mainGlobals x=some (some (.ref C))
 pg:PySem.W.plainGet K C Str.empty=true
 hd:PySem.W.hasDictIn K C=true
 po:PySem.W.plainOver K C=true
 sa:PySem.W.findIn K (.ref C) "__setattr__"=some (some (.builtin "object.__setattr__"))
 mi:PySem.W.makesIn K C=true
 kc:PySem.W.keepIn K (.ref C)=true
abbrev B0 (x q:Str)(st:Stmt)(ps:List Str):Prop := ∀(kV doc pm:Value) (an:Option Addr) (cdv ct:Value) (us:List Value),us.length=ps.length->bindArgs (PySem.W.fnOf x q (Hr st) (GG st) (AB st) .none kV doc pm an cdv ct) ⟨us,[]⟩=pure (ps.zip us)
structure Ad where
 f_T:Addr
 d_T:FuncData
 f_U:Addr
 d_U:FuncData
 f_V:Addr
 d_V:FuncData
 f_W:Addr
 d_W:FuncData
 f_X:Addr
 d_X:FuncData
 f_Y:Addr
 d_Y:FuncData
 f_m:Addr
 d_m:FuncData
 f_c:Addr
 d_c:FuncData
 f_a:Addr
 d_a:FuncData
 f_w:Addr
 d_w:FuncData
 f_x:Addr
 d_x:FuncData
 f_f:Addr
 d_f:FuncData
 f_y:Addr
 d_y:FuncData
 f_z:Addr
 d_z:FuncData
 f_A:Addr
 d_A:FuncData
 f_n:Addr
 d_n:FuncData
 f_B:Addr
 d_B:FuncData
 f_C:Addr
 d_C:FuncData
 f_j:Addr
 d_j:FuncData
 f_D:Addr
 d_D:FuncData
 f_Z:Addr
 d_Z:FuncData
 f_o:Addr
 d_o:FuncData
 f_E:Addr
 d_E:FuncData
 f_F:Addr
 d_F:FuncData
 f_G:Addr
 d_G:FuncData
 f_H:Addr
 d_H:FuncData
 f_I:Addr
 d_I:FuncData
 f_J:Addr
 d_J:FuncData
 f_K:Addr
 d_K:FuncData
 f_r:Addr
 d_r:FuncData
 f_k:Addr
 d_k:FuncData
 f_d:Addr
 d_d:FuncData
 f_b:Addr
 d_b:FuncData
 f_L:Addr
 d_L:FuncData
 f_p:Addr
 d_p:FuncData
 f_g:Addr
 d_g:FuncData
 f_h:Addr
 d_h:FuncData
 f_q:Addr
 d_q:FuncData
 f_s:Addr
 d_s:FuncData
 f_t:Addr
 d_t:FuncData
 f_M:Addr
 d_M:FuncData
 f_N:Addr
 d_N:FuncData
 f_u:Addr
 d_u:FuncData
 f_O:Addr
 d_O:FuncData
 f_l:Addr
 d_l:FuncData
 f_P:Addr
 d_P:FuncData
 f_Q:Addr
 d_Q:FuncData
 f_e:Addr
 d_e:FuncData
 f_i:Addr
 d_i:FuncData
 f_R:Addr
 d_R:FuncData
 f_v:Addr
 d_v:FuncData
 f_S:Addr
 d_S:FuncData
 c_Term:Addr
 c_Number:Addr
 c_Value:Addr
 c_Cell:Addr
 c_Joined:Addr
 c_Deed:Addr
 c_Program:Addr
 c_Draft:Addr
 u_FIGURES:Value
 u_LEAST_SIZE:Value
 u_LETTERS:Value
 u_MOST_DEEDS:Value
 u_MOST_FIGURES:Value
 u_MOST_LETTERS:Value
 u_MOST_LOOPS:Value
 u_MOST_SPOTS:Value
 u_ROW_WORDS:Addr
 u_SIGNS:Value
 u_STRENGTHS:Addr
structure Tx (w:World)(K:Xa)(mg:Str->Option Value)(a:Ad):Prop where
 F_T:AO K "__init__" "Number.__init__" J2 a.f_T a.d_T
 b_T:AL K a.d_T ["self","n"] []
 F_U:AO K "__init__" "Value.__init__" J1 a.f_U a.d_U
 b_U:AL K a.d_U ["self","name"] []
 F_V:AO K "__init__" "Cell.__init__" JP a.f_V a.d_V
 b_V:AL K a.d_V ["self","table","spots"] []
 F_W:AO K "__init__" "Joined.__init__" J5 a.f_W a.d_W
 b_W:AL K a.d_W ["self","sign","left","right"] []
 F_X:AO K "__init__" "Deed.__init__" JT a.f_X a.d_X
 b_X:AL K a.d_X ["self","names","lows","highs","table","spots","term","path"] []
 F_Y:AO K "__init__" "Program.__init__" Iu a.f_Y a.d_Y
 b_Y:AL K a.d_Y ["self","size","deeds"] []
 F_m:AO K "made_of" "made_of" HB a.f_m a.d_m
 b_m:AL K a.d_m ["text","signs"] []
 m_m:mg "made_of"=some (.ref a.f_m)
 F_c:AO K "number_of" "number_of" JA a.f_c a.d_c
 b_c:AL K a.d_c ["text"] []
 m_c:mg "number_of"=some (.ref a.f_c)
 F_a:AO K "is_name" "is_name" Jv a.f_a a.d_a
 b_a:AL K a.d_a ["text"] []
 m_a:mg "is_name"=some (.ref a.f_a)
 F_w:AO K "risen" "risen" JR a.f_w a.d_w
 b_w:AL K a.d_w ["parts"] []
 m_w:mg "risen"=some (.ref a.f_w)
 F_x:AO K "fallen" "fallen" JN a.f_x a.d_x
 b_x:AL K a.d_x ["parts"] []
 m_x:mg "fallen"=some (.ref a.f_x)
 F_f:AO K "spot_of" "spot_of" Ik a.f_f a.d_f
 b_f:AL K a.d_f ["text"] []
 m_f:mg "spot_of"=some (.ref a.f_f)
 F_y:AO K "bare_row" "bare_row" JF a.f_y a.d_y
 b_y:AL K a.d_y ["row"] []
 m_y:mg "bare_row"=some (.ref a.f_y)
 F_z:AO K "words_of" "words_of" Hz a.f_z a.d_z
 b_z:AL K a.d_z ["row"] []
 m_z:mg "words_of"=some (.ref a.f_z)
 F_A:AO K "part_end" "part_end" J8 a.f_A a.d_A
 b_A:AL K a.d_A ["text","at"] []
 m_A:mg "part_end"=some (.ref a.f_A)
 F_n:AO K "cell_of" "cell_of" Gw a.f_n a.d_n
 b_n:AL K a.d_n ["text"] []
 m_n:mg "cell_of"=some (.ref a.f_n)
 F_B:AO K "part_of" "part_of" Jm a.f_B a.d_B
 b_B:AL K a.d_B ["text"] []
 m_B:mg "part_of"=some (.ref a.f_B)
 F_C:AO K "parts_of" "parts_of" J0 a.f_C a.d_C
 b_C:AL K a.d_C ["text"] []
 m_C:mg "parts_of"=some (.ref a.f_C)
 F_j:AO K "join_waiting" "join_waiting" Jz a.f_j a.d_j
 b_j:AL K a.d_j ["terms","signs","least"] []
 m_j:mg "join_waiting"=some (.ref a.f_j)
 F_D:AO K "term_of" "term_of" JC a.f_D a.d_D
 b_D:AL K a.d_D ["parts"] []
 m_D:mg "term_of"=some (.ref a.f_D)
 F_Z:AO K "__init__" "Draft.__init__" Jg a.f_Z a.d_Z
 b_Z:AL K a.d_Z ["self"] []
 F_o:AO K "spots_known" "spots_known" HK a.f_o a.d_o
 b_o:AL K a.d_o ["draft","spots"] []
 m_o:mg "spots_known"=some (.ref a.f_o)
 F_E:AO K "names_known" "names_known" IK a.f_E a.d_E
 b_E:AL K a.d_E ["draft","parts"] []
 m_E:mg "names_known"=some (.ref a.f_E)
 F_F:AO K "tables_kept" "tables_kept" Ip a.f_F a.d_F
 b_F:AL K a.d_F ["draft","parts"] []
 m_F:mg "tables_kept"=some (.ref a.f_F)
 F_G:AO K "deed_taken" "deed_taken" Jy a.f_G a.d_G
 b_G:AL K a.d_G ["draft","row"] []
 m_G:mg "deed_taken"=some (.ref a.f_G)
 F_H:AO K "size_taken" "size_taken" IQ a.f_H a.d_H
 b_H:AL K a.d_H ["draft","words"] []
 m_H:mg "size_taken"=some (.ref a.f_H)
 F_I:AO K "loop_taken" "loop_taken" IB a.f_I a.d_I
 b_I:AL K a.d_I ["draft","words"] []
 m_I:mg "loop_taken"=some (.ref a.f_I)
 F_J:AO K "end_taken" "end_taken" JS a.f_J a.d_J
 b_J:AL K a.d_J ["draft","words"] []
 m_J:mg "end_taken"=some (.ref a.f_J)
 F_K:AO K "taken" "taken" Iv a.f_K a.d_K
 b_K:AL K a.d_K ["draft","row"] []
 m_K:mg "taken"=some (.ref a.f_K)
 F_r:AO K "read" "read" Jw a.f_r a.d_r
 b_r:AL K a.d_r ["text"] []
 m_r:mg "read"=some (.ref a.f_r)
 F_k:AO K "_law_cell_at" "_law_cell_at" Jx a.f_k a.d_k
 b_k:AL K a.d_k ["_law_script","_law_k"] []
 m_k:mg "_law_cell_at"=some (.ref a.f_k)
 F_d:AO K "_law_whole" "_law_whole" IU a.f_d a.d_d
 b_d:AL K a.d_d ["_law_found"] []
 m_d:mg "_law_whole"=some (.ref a.f_d)
 F_b:AO K "_law_stream" "_law_stream" IE a.f_b a.d_b
 b_b:AL K a.d_b ["_law_cell_here","_law_many"] []
 m_b:mg "_law_stream"=some (.ref a.f_b)
 F_L:AO K "_law_names" "_law_names" Hw a.f_L a.d_L
 b_L:AL K a.d_L ["_law_cell_here","_law_many"] []
 m_L:mg "_law_names"=some (.ref a.f_L)
 F_p:AO K "_law_number" "_law_number" Jh a.f_p a.d_p
 b_p:AL K a.d_p ["_law_cell_here","_law_far"] []
 m_p:mg "_law_number"=some (.ref a.f_p)
 F_g:AO K "_law_spot_text" "_law_spot_text" IA a.f_g a.d_g
 b_g:AL K a.d_g ["_law_spot_here"] []
 m_g:mg "_law_spot_text"=some (.ref a.f_g)
 F_h:AO K "_law_spot" "_law_spot" JM a.f_h a.d_h
 b_h:AL K a.d_h ["_law_one","_law_other","_law_known"] []
 m_h:mg "_law_spot"=some (.ref a.f_h)
 F_q:AO K "_law_cell" "_law_cell" Gz a.f_q a.d_q
 b_q:AL K a.d_q ["_law_xs","_law_known","_law_names_here"] []
 m_q:mg "_law_cell"=some (.ref a.f_q)
 F_s:AO K "_law_leaf" "_law_leaf" Jk a.f_s a.d_s
 b_s:AL K a.d_s ["_law_cell_here","_law_known","_law_names_here"] []
 m_s:mg "_law_leaf"=some (.ref a.f_s)
 F_t:AO K "_law_both" "_law_both" Jf a.f_t a.d_t
 b_t:AL K a.d_t ["_law_sign_here","_law_left","_law_right"] []
 m_t:mg "_law_both"=some (.ref a.f_t)
 F_M:AO K "_law_term" "_law_term" IY a.f_M a.d_M
 b_M:AL K a.d_M ["_law_cell_here","_law_known","_law_names_here"] []
 m_M:mg "_law_term"=some (.ref a.f_M)
 F_N:AO K "_law_loop" "_law_loop" Gf a.f_N a.d_N
 b_N:AL K a.d_N ["_law_cell_here","_law_names_here","_law_opened","_law_last"] []
 m_N:mg "_law_loop"=some (.ref a.f_N)
 F_u:AO K "_law_deed" "_law_deed" Hl a.f_u a.d_u
 b_u:AL K a.d_u ["_law_cell_here","_law_opened","_law_path","_law_names_here"] []
 m_u:mg "_law_deed"=some (.ref a.f_u)
 F_O:AO K "_law_program" "_law_program" Jr a.f_O a.d_O
 b_O:AL K a.d_O ["_law_cells","_law_names_here"] []
 m_O:mg "_law_program"=some (.ref a.f_O)
 F_l:AO K "_law_sign" "_law_sign" IF a.f_l a.d_l
 b_l:AL K a.d_l ["_law_cell_here"] []
 m_l:mg "_law_sign"=some (.ref a.f_l)
 F_P:AO K "_law_spread" "_law_spread" IM a.f_P a.d_P
 b_P:AL K a.d_P ["_law_text","_law_x"] []
 m_P:mg "_law_spread"=some (.ref a.f_P)
 F_Q:AO K "_law_noisy" "_law_noisy" Hd a.f_Q a.d_Q
 b_Q:AL K a.d_Q ["_law_rows","_law_size","_law_cell_here"] []
 m_Q:mg "_law_noisy"=some (.ref a.f_Q)
 F_e:AO K "_law_spots" "_law_spots" JG a.f_e a.d_e
 b_e:AL K a.d_e ["_law_found","_law_due"] []
 m_e:mg "_law_spots"=some (.ref a.f_e)
 F_i:AO K "_law_same" "_law_same" Jq a.f_i a.d_i
 b_i:AL K a.d_i ["_law_term_here","_law_shape"] []
 m_i:mg "_law_same"=some (.ref a.f_i)
 F_R:AO K "_law_kept" "_law_kept" FB a.f_R a.d_R
 b_R:AL K a.d_R ["_law_found","_law_due"] []
 m_R:mg "_law_kept"=some (.ref a.f_R)
 F_v:AO K "_law_good" "_law_good" Hf a.f_v a.d_v
 b_v:AL K a.d_v ["_law_found","_law_size","_law_deeds"] []
 m_v:mg "_law_good"=some (.ref a.f_v)
 F_S:AO K "law" "law" JE a.f_S a.d_S
 b_S:AL K a.d_S ["_law_script"] []
 m_S:mg "law"=some (.ref a.f_S)
 cl_Term:Dq K a.c_Term
 mc_Term:mg "Term"=some (.ref a.c_Term)
 cl_Number:Dq K a.c_Number
 mc_Number:mg "Number"=some (.ref a.c_Number)
 mk_Number:Mk K a.c_Number a.f_T
 n_Number_n:BN K a.c_Number "n"
 cl_Value:Dq K a.c_Value
 mc_Value:mg "Value"=some (.ref a.c_Value)
 mk_Value:Mk K a.c_Value a.f_U
 n_Value_name:BN K a.c_Value "name"
 cl_Cell:Dq K a.c_Cell
 mc_Cell:mg "Cell"=some (.ref a.c_Cell)
 mk_Cell:Mk K a.c_Cell a.f_V
 n_Cell_table:BN K a.c_Cell "table"
 n_Cell_spots:BN K a.c_Cell "spots"
 cl_Joined:Dq K a.c_Joined
 mc_Joined:mg "Joined"=some (.ref a.c_Joined)
 mk_Joined:Mk K a.c_Joined a.f_W
 n_Joined_sign:BN K a.c_Joined "sign"
 n_Joined_left:BN K a.c_Joined "left"
 n_Joined_right:BN K a.c_Joined "right"
 cl_Deed:Dq K a.c_Deed
 mc_Deed:mg "Deed"=some (.ref a.c_Deed)
 mk_Deed:Mk K a.c_Deed a.f_X
 n_Deed_names:BN K a.c_Deed "names"
 n_Deed_lows:BN K a.c_Deed "lows"
 n_Deed_highs:BN K a.c_Deed "highs"
 n_Deed_table:BN K a.c_Deed "table"
 n_Deed_spots:BN K a.c_Deed "spots"
 n_Deed_term:BN K a.c_Deed "term"
 n_Deed_path:BN K a.c_Deed "path"
 cl_Program:Dq K a.c_Program
 mc_Program:mg "Program"=some (.ref a.c_Program)
 mk_Program:Mk K a.c_Program a.f_Y
 n_Program_size:BN K a.c_Program "size"
 n_Program_deeds:BN K a.c_Program "deeds"
 cl_Draft:Dq K a.c_Draft
 mc_Draft:mg "Draft"=some (.ref a.c_Draft)
 mk_Draft:Mk K a.c_Draft a.f_Z
 n_Draft_size:BN K a.c_Draft "size"
 n_Draft_deeds:BN K a.c_Draft "deeds"
 n_Draft_tables:BN K a.c_Draft "tables"
 n_Draft_names:BN K a.c_Draft "names"
 n_Draft_lows:BN K a.c_Draft "lows"
 n_Draft_highs:BN K a.c_Draft "highs"
 n_Draft_path:BN K a.c_Draft "path"
 ty_Number:∀(H:Hp) (x dx:Addr) (fs:List (Str×V)),H x=some (.ins a.c_Number dx fs)->Cz K H (.ref x) (.ref a.c_Number)
 is_Number_Term:PySem.W.kitOne K (.ref a.c_Number) (.ref a.c_Term)=some true
 is_Number_Number:PySem.W.kitOne K (.ref a.c_Number) (.ref a.c_Number)=some true
 is_Number_Value:PySem.W.kitOne K (.ref a.c_Number) (.ref a.c_Value)=some false
 is_Number_Cell:PySem.W.kitOne K (.ref a.c_Number) (.ref a.c_Cell)=some false
 is_Number_Joined:PySem.W.kitOne K (.ref a.c_Number) (.ref a.c_Joined)=some false
 is_Number_Deed:PySem.W.kitOne K (.ref a.c_Number) (.ref a.c_Deed)=some false
 is_Number_Program:PySem.W.kitOne K (.ref a.c_Number) (.ref a.c_Program)=some false
 is_Number_Draft:PySem.W.kitOne K (.ref a.c_Number) (.ref a.c_Draft)=some false
 ty_Value:∀(H:Hp) (x dx:Addr) (fs:List (Str×V)),H x=some (.ins a.c_Value dx fs)->Cz K H (.ref x) (.ref a.c_Value)
 is_Value_Term:PySem.W.kitOne K (.ref a.c_Value) (.ref a.c_Term)=some true
 is_Value_Number:PySem.W.kitOne K (.ref a.c_Value) (.ref a.c_Number)=some false
 is_Value_Value:PySem.W.kitOne K (.ref a.c_Value) (.ref a.c_Value)=some true
 is_Value_Cell:PySem.W.kitOne K (.ref a.c_Value) (.ref a.c_Cell)=some false
 is_Value_Joined:PySem.W.kitOne K (.ref a.c_Value) (.ref a.c_Joined)=some false
 is_Value_Deed:PySem.W.kitOne K (.ref a.c_Value) (.ref a.c_Deed)=some false
 is_Value_Program:PySem.W.kitOne K (.ref a.c_Value) (.ref a.c_Program)=some false
 is_Value_Draft:PySem.W.kitOne K (.ref a.c_Value) (.ref a.c_Draft)=some false
 ty_Cell:∀(H:Hp) (x dx:Addr) (fs:List (Str×V)),H x=some (.ins a.c_Cell dx fs)->Cz K H (.ref x) (.ref a.c_Cell)
 is_Cell_Term:PySem.W.kitOne K (.ref a.c_Cell) (.ref a.c_Term)=some true
 is_Cell_Number:PySem.W.kitOne K (.ref a.c_Cell) (.ref a.c_Number)=some false
 is_Cell_Value:PySem.W.kitOne K (.ref a.c_Cell) (.ref a.c_Value)=some false
 is_Cell_Cell:PySem.W.kitOne K (.ref a.c_Cell) (.ref a.c_Cell)=some true
 is_Cell_Joined:PySem.W.kitOne K (.ref a.c_Cell) (.ref a.c_Joined)=some false
 is_Cell_Deed:PySem.W.kitOne K (.ref a.c_Cell) (.ref a.c_Deed)=some false
 is_Cell_Program:PySem.W.kitOne K (.ref a.c_Cell) (.ref a.c_Program)=some false
 is_Cell_Draft:PySem.W.kitOne K (.ref a.c_Cell) (.ref a.c_Draft)=some false
 ty_Joined:∀(H:Hp) (x dx:Addr) (fs:List (Str×V)),H x=some (.ins a.c_Joined dx fs)->Cz K H (.ref x) (.ref a.c_Joined)
 is_Joined_Term:PySem.W.kitOne K (.ref a.c_Joined) (.ref a.c_Term)=some true
 is_Joined_Number:PySem.W.kitOne K (.ref a.c_Joined) (.ref a.c_Number)=some false
 is_Joined_Value:PySem.W.kitOne K (.ref a.c_Joined) (.ref a.c_Value)=some false
 is_Joined_Cell:PySem.W.kitOne K (.ref a.c_Joined) (.ref a.c_Cell)=some false
 is_Joined_Joined:PySem.W.kitOne K (.ref a.c_Joined) (.ref a.c_Joined)=some true
 is_Joined_Deed:PySem.W.kitOne K (.ref a.c_Joined) (.ref a.c_Deed)=some false
 is_Joined_Program:PySem.W.kitOne K (.ref a.c_Joined) (.ref a.c_Program)=some false
 is_Joined_Draft:PySem.W.kitOne K (.ref a.c_Joined) (.ref a.c_Draft)=some false
 is_str_Term:PySem.W.kitOne K (.type "str") (.ref a.c_Term)=some false
 is_str_Number:PySem.W.kitOne K (.type "str") (.ref a.c_Number)=some false
 is_str_Value:PySem.W.kitOne K (.type "str") (.ref a.c_Value)=some false
 is_str_Cell:PySem.W.kitOne K (.type "str") (.ref a.c_Cell)=some false
 is_str_Joined:PySem.W.kitOne K (.type "str") (.ref a.c_Joined)=some false
 is_str_Deed:PySem.W.kitOne K (.type "str") (.ref a.c_Deed)=some false
 is_str_Program:PySem.W.kitOne K (.type "str") (.ref a.c_Program)=some false
 is_str_Draft:PySem.W.kitOne K (.type "str") (.ref a.c_Draft)=some false
 ty_Deed:∀(H:Hp) (x dx:Addr) (fs:List (Str×V)),H x=some (.ins a.c_Deed dx fs)->Cz K H (.ref x) (.ref a.c_Deed)
 is_Deed_Term:PySem.W.kitOne K (.ref a.c_Deed) (.ref a.c_Term)=some false
 is_Deed_Number:PySem.W.kitOne K (.ref a.c_Deed) (.ref a.c_Number)=some false
 is_Deed_Value:PySem.W.kitOne K (.ref a.c_Deed) (.ref a.c_Value)=some false
 is_Deed_Cell:PySem.W.kitOne K (.ref a.c_Deed) (.ref a.c_Cell)=some false
 is_Deed_Joined:PySem.W.kitOne K (.ref a.c_Deed) (.ref a.c_Joined)=some false
 is_Deed_Deed:PySem.W.kitOne K (.ref a.c_Deed) (.ref a.c_Deed)=some true
 is_Deed_Program:PySem.W.kitOne K (.ref a.c_Deed) (.ref a.c_Program)=some false
 is_Deed_Draft:PySem.W.kitOne K (.ref a.c_Deed) (.ref a.c_Draft)=some false
 ty_Program:∀(H:Hp) (x dx:Addr) (fs:List (Str×V)),H x=some (.ins a.c_Program dx fs)->Cz K H (.ref x) (.ref a.c_Program)
 is_Program_Term:PySem.W.kitOne K (.ref a.c_Program) (.ref a.c_Term)=some false
 is_Program_Number:PySem.W.kitOne K (.ref a.c_Program) (.ref a.c_Number)=some false
 is_Program_Value:PySem.W.kitOne K (.ref a.c_Program) (.ref a.c_Value)=some false
 is_Program_Cell:PySem.W.kitOne K (.ref a.c_Program) (.ref a.c_Cell)=some false
 is_Program_Joined:PySem.W.kitOne K (.ref a.c_Program) (.ref a.c_Joined)=some false
 is_Program_Deed:PySem.W.kitOne K (.ref a.c_Program) (.ref a.c_Deed)=some false
 is_Program_Program:PySem.W.kitOne K (.ref a.c_Program) (.ref a.c_Program)=some true
 is_Program_Draft:PySem.W.kitOne K (.ref a.c_Program) (.ref a.c_Draft)=some false
 ty_Draft:∀(H:Hp) (x dx:Addr) (fs:List (Str×V)),H x=some (.ins a.c_Draft dx fs)->Cz K H (.ref x) (.ref a.c_Draft)
 is_Draft_Term:PySem.W.kitOne K (.ref a.c_Draft) (.ref a.c_Term)=some false
 is_Draft_Number:PySem.W.kitOne K (.ref a.c_Draft) (.ref a.c_Number)=some false
 is_Draft_Value:PySem.W.kitOne K (.ref a.c_Draft) (.ref a.c_Value)=some false
 is_Draft_Cell:PySem.W.kitOne K (.ref a.c_Draft) (.ref a.c_Cell)=some false
 is_Draft_Joined:PySem.W.kitOne K (.ref a.c_Draft) (.ref a.c_Joined)=some false
 is_Draft_Deed:PySem.W.kitOne K (.ref a.c_Draft) (.ref a.c_Deed)=some false
 is_Draft_Program:PySem.W.kitOne K (.ref a.c_Draft) (.ref a.c_Program)=some false
 is_Draft_Draft:PySem.W.kitOne K (.ref a.c_Draft) (.ref a.c_Draft)=some true
 nb:He K=true
 z_abs:mg "abs"=none
 z_all:mg "all"=none
 z_bool:mg "bool"=none
 z_enumerate:mg "enumerate"=none
 z_int:mg "int"=none
 z_isinstance:mg "isinstance"=none
 z_len:mg "len"=none
 z_list:mg "list"=none
 z_range:mg "range"=none
 z_str:mg "str"=none
 z_tuple:mg "tuple"=none
 g_FIGURES:mg "FIGURES"=some a.u_FIGURES
 r_FIGURES:Ay (.str "0123456789") a.u_FIGURES
 g_LEAST_SIZE:mg "LEAST_SIZE"=some a.u_LEAST_SIZE
 r_LEAST_SIZE:Ay (.int 2) a.u_LEAST_SIZE
 g_LETTERS:mg "LETTERS"=some a.u_LETTERS
 r_LETTERS:Ay (.str "abcdefghijklmnopqrstuvwxyz") a.u_LETTERS
 g_MOST_DEEDS:mg "MOST_DEEDS"=some a.u_MOST_DEEDS
 r_MOST_DEEDS:Ay (.int 6) a.u_MOST_DEEDS
 g_MOST_FIGURES:mg "MOST_FIGURES"=some a.u_MOST_FIGURES
 r_MOST_FIGURES:Ay (.int 18) a.u_MOST_FIGURES
 g_MOST_LETTERS:mg "MOST_LETTERS"=some a.u_MOST_LETTERS
 r_MOST_LETTERS:Ay (.int 8) a.u_MOST_LETTERS
 g_MOST_LOOPS:mg "MOST_LOOPS"=some a.u_MOST_LOOPS
 r_MOST_LOOPS:Ay (.int 3) a.u_MOST_LOOPS
 g_MOST_SPOTS:mg "MOST_SPOTS"=some a.u_MOST_SPOTS
 r_MOST_SPOTS:Ay (.int 3) a.u_MOST_SPOTS
 g_ROW_WORDS:mg "ROW_WORDS"=some (.ref a.u_ROW_WORDS)
 r_ROW_WORDS:Ay (.ref a.u_ROW_WORDS) (.ref a.u_ROW_WORDS)
 q_ROW_WORDS:∀H:Hp,Ah K H a.u_ROW_WORDS [.str "for",.str "end",.str "size"]
 g_SIGNS:mg "SIGNS"=some a.u_SIGNS
 r_SIGNS:Ay (.str "+-*()") a.u_SIGNS
 g_STRENGTHS:mg "STRENGTHS"=some (.ref a.u_STRENGTHS)
 r_STRENGTHS:Ay (.ref a.u_STRENGTHS) (.ref a.u_STRENGTHS)
 d_STRENGTHS:∀P:Program,Lc P w K a.u_STRENGTHS [(.inr "(",.int 0),(.inr "+",.int 1),(.inr "-",.int 1),(.inr "*",.int 2)]
def BA (a:Ad):Cs:=⟨a.c_Number,a.c_Value,a.c_Cell,a.c_Joined⟩
section
variable {P:Program}{w:World}{K:Xa}{mg:Str->Option Value}{base:Heap}{a:Ad}
theorem Mv (T:Tx w K mg a):AK P w K mg base AS 1 a.f_m a.d_m ["text","signs"] QV:=by
 refine T.F_m.ok P4 (fun vs H Q E h=>?_) (fun cdv A outer s H vs Q E hr h=>?_)
 .obtain⟨_,_,rfl,_⟩:=h;rfl
 obtain⟨z,y,rfl,hz,q⟩:=h
 refine⟨_,(@A9 _ _ _ (@Al _ _ _ _ (@AR _ _ _ _ _ _ _ _ _ (@Lx _ rfl) (by rfl) T.z_all KY (@A0 _ _ _ _ _ (@Dh _ _ _ _ _ _ _ ["sign","signs"] [none,some 1] _ _ _ _ (by rfl) (@Rg _ _ _ _ (pv 0)) U2 (fun _ _ _ _ _ _=>⟨(Bv (i:=0) UB rfl (.inl rfl)),@DZ _,(@DI _ _ _ _ _ _ _ _ J4 (pv 0) (pv 1) (by with_unfolding_all rfl))⟩) (by intro _;rfl)) A2 (by rfl)) (by decide) (by decide) (by rfl) (by rfl)))),?_⟩
 refine⟨_,rfl,z,rfl,?_⟩
 refine VR (z:=z) (fun i ys H'=>H'=H/\ys=((cds z).take i).map fun c=>V.bl (decide (c∈cds y))) ⟨rfl,rfl⟩ (Ax (by have:=cds_len z;omega)) (fun i ys H' hi p=>?_) (fun i c ys H' hc p=>?_) (fun ys H' p r hr'=>?_)
 .obtain⟨_,rfl⟩:=p
  rw[Ap,Bh];omega
 .obtain⟨rfl,rfl⟩:=p
  refine⟨_,rfl,_,rfl,_,_,rfl,rfl,rfl,?_⟩
  rw[Di hc,B3,Lp]
  rfl
 .obtain⟨rfl,rfl⟩:=p
  rw[DN]
  refine⟨r,(cds z).map fun c=>decide (c∈cds y),rfl,A3.of ?_,?_⟩
  .rw[A6,GP];rfl
  .have e:(((cds z).map fun c=>decide (c∈cds y)).all id)=decide (∀c∈cds z,c∈cds y):=by
    rw[E4]
    simp only[LR,EU,Function.comp,id,DQ]
   rw[e]
   exact q _ (Ac hr' _)
theorem HN (T:Tx w K mg a):AK P w K mg base AS 2 a.f_c a.d_c ["text"] R3:=by
 have G_m :=@Mv P w K mg base a T
 refine T.F_c.ok Sf (fun vs H Q E h=>?_) (fun cdv A outer s H vs Q E hr h=>?_)
 .obtain⟨_,rfl,_⟩:=h;rfl
 obtain⟨z,rfl,hz,q⟩:=h
 refine⟨_,(@A5 _ _ _ _ _ (@AE _ _ _ _ _ _ _ _ ((@BL _ _ _ _ _ _ _ (@An _ _ _ _ _ _ _ _ Bk (pv 0) Aw (@Am _ _ (by decide) (by decide))) (@BL _ _ _ _ _ _ _ (@An _ _ _ _ _ _ _ _ Ft (@AR _ _ _ _ _ _ _ _ _ HH (by rfl) T.z_len Bo (@A0 _ _ _ _ _ (pv 0) A2 (by rfl)) (by decide) (by decide) (by rfl) (by rfl)) (@C3 _ _ _ _ _ (by rfl) T.g_MOST_FIGURES T.r_MOST_FIGURES (by decide)) (@Am _ _ (by decide) (by decide))) (@C8 _ _ _ _ (@Cj _ _ _ _ (@Bx _ _ _ (@Av _ _ _ _ _ _ _ _ _ _ _ _ _ _ _ _ G_m (hr.mono (by omega)) (by rfl) T.m_m T.F_m.kp T.b_m .nil Ao (@A0 _ _ _ _ _ (pv 0) (@A0 _ _ _ _ _ (@C3 _ _ _ _ _ (by rfl) T.g_FIGURES T.r_FIGURES (by decide)) A2 (by rfl)) (by rfl)) (by decide) (by rfl) (by rfl)) (by intro _;rfl))))))).pt (@A9 _ _ _ (@Al _ _ _ _ BW)) AF) (@A5 _ _ _ _ _ (@AE _ _ _ _ _ _ _ _ ((@Df _ _ _ _ _ _ _ (@An _ _ _ _ _ _ _ _ Bk (@Af _ _ _ _ _ _ _ Es (pv 0) A1 (fun _ _=>rfl)) Aw (@Am _ _ (by decide) (by decide))) (@DY _ _ _ _ (@An _ _ _ _ _ _ _ _ D3 (pv 0) Aw (@Am _ _ (by decide) (by decide)))))).pt (@A9 _ _ _ (@Al _ _ _ _ BW)) AF) (@A9 _ _ _ (@Al _ _ _ _ (@CQ _ _ _ _ _ _ _ _ _ V1 (by rfl) T.z_int J7 (@A0 _ _ _ _ _ (pv 0) A2 (by rfl)) (by decide) (by decide) (by rfl) (by rfl)))))),?_⟩
 have qn:¬Ci (cds z)->∀H',A7 H H'->Q .non H':=fun h H' e=>by
  have:=q H' e
  unfold EZ at this
  rwa [Ae h]at this
 have hl:=cds_len z
 refine⟨_,rfl,rfl,_,rfl,?_⟩
 refine AD (fun c=>?_) (fun c=>?_)
 .have e:z="":=V.str.inj (dT c)
  refine Be ?_
  exact qn (fun g=>by have:=g.1;rw[GH.mp e]at this;simp at this) H (A7.refl H)
 have c1:¬z="":=fun e=>dF c (by rw[e])
 refine⟨_,rfl,_,rfl,Ax (by omega),_,_,rfl,rfl,_,rfl,?_⟩
 refine AD (fun c2=>?_) (fun c2=>?_)
 .have:=dT c2
  refine Be ?_
  exact qn (fun g=>by have:=g.2.1;omega) H (A7.refl H)
 have c3:=dF c2
 refine⟨_,rfl,z,_,rfl,hz,fun H1 e1=>?_⟩
 refine⟨_,rfl,?_⟩
 by_cases hm:∀c∈cds z,c∈cds "0123456789"
 case neg=>
  rw[BI hm]
  refine Be ?_
  exact qn (fun g=>hm fun c hc=>(OA c).mpr (g.2.2.2 c hc)) H1 e1
 rw[B5 hm]
 refine Aq ?_
 have hd:∀c∈cds z,48<=c/\c<=57:=fun c hc=>(OA c).mp (hm c hc)
 have hne:cds z≠[]:=fun e=>c1 (GH.mpr e)
 obtain⟨d,r,hdr⟩:∃d r,cds z=d::r:=by
  cases e:cds z with
  |nil=>exact absurd e hne
  |cons d r=>exact⟨d,r,rfl⟩
 refine⟨_,rfl,z,0,d,rfl,rfl,Ax (by omega),(by show Bz (cds z) ((0:Nat):Int)=some d;exact EG (by rw[hdr];rfl)),rfl,_,rfl,?_⟩
 have fin:Ci (cds z)->Q (.int ((NumText.digitsVal (cds z):Nat):Int)) H1:=fun g=>by
  have:=q H1 e1
  unfold EZ at this
  rwa [Ag g]at this
 have last:Ci (cds z)->_:=fun g=>(⟨_,rfl,z,_,rfl,intText_digits (x:=z) (fun c hc=>hd c hc) hne (by omega),by omega,fin g⟩:G1 (JK (fun xs H Q=>∃z n,xs=[V.str z]/\intText? z=some n/\z.length<=640/\Q (V.int n) H) (FS (Ej 0) Fz)) {nx:=fun x H'=>Q V.non H',rt:=Q} (L2.start ["text"] [V.str z]) H1)
 refine AD (fun c4=>?_) (fun c4=>?_)
 .have h48:d=48:=by
   have:=V.str.inj (dT c4)
   have h2:=Lj.mp this
   rw[MS]at h2
   simpa using h2
  refine⟨_,rfl,rfl,_,rfl,?_⟩
  by_cases hz0:z="0"
  .rw[B5 (congrArg V.str hz0)]
   refine Aq ?_
   refine last ?_
   rw[Lj.mp hz0]
   exact⟨by decide,by decide,by decide,by decide⟩
  .refine AD (fun _=>?_) (fun c5=>?_)
   .refine qn (fun g=>g.2.2.1 ⟨by rw[hdr,h48];rfl,?_⟩) H1 e1
    rw[hdr]
    cases r with
    |nil=>exact absurd (Lj.mpr (by rw[hdr,h48])) hz0
    |cons _ _=>simp
   .exact absurd (show(!decide (V.str z=V.str "0"))=true by rw[BI (fun e=>hz0 (V.str.inj e))];rfl) c5
 .refine Aq ?_
  refine last ⟨by rw[hdr];simp,by omega,fun⟨h1,_⟩=>?_,hd⟩
  rw[hdr]at h1
  have:d=48:=by simpa using h1
  exact dF c4 (by rw[this];congr 1)
theorem Gc (T:Tx w K mg a):AK P w K mg base AS 2 a.f_a a.d_a ["text"] Sx:=by
 have G_m :=@Mv P w K mg base a T
 refine T.F_a.ok OV (fun vs H Q E h=>?_) (fun cdv A outer s H vs Q E hr h=>?_)
 .obtain⟨_,rfl,_⟩:=h;rfl
 obtain⟨z,rfl,hz,q⟩:=h
 refine⟨_,(@A5 _ _ _ _ _ (@AE _ _ _ _ _ _ _ _ ((@BL _ _ _ _ _ _ _ (@An _ _ _ _ _ _ _ _ Bk (pv 0) Aw (@Am _ _ (by decide) (by decide))) (@C8 _ _ _ _ (@An _ _ _ _ _ _ _ _ Ft (@AR _ _ _ _ _ _ _ _ _ HH (by rfl) T.z_len Bo (@A0 _ _ _ _ _ (pv 0) A2 (by rfl)) (by decide) (by decide) (by rfl) (by rfl)) (@C3 _ _ _ _ _ (by rfl) T.g_MOST_LETTERS T.r_MOST_LETTERS (by decide)) (@Am _ _ (by decide) (by decide)))))).pt (@A9 _ _ _ (@Al _ _ _ _ Bu)) AF) (@A9 _ _ _ (@Al _ _ _ _ (@Et _ _ _ _ _ _ _ (@Av _ _ _ _ _ _ _ _ _ _ _ _ _ _ _ _ G_m (hr.mono (by omega)) (by rfl) T.m_m T.F_m.kp T.b_m .nil Ao (@A0 _ _ _ _ _ (pv 0) (@A0 _ _ _ _ _ (@C3 _ _ _ _ _ (by rfl) T.g_LETTERS T.r_LETTERS (by decide)) A2 (by rfl)) (by rfl)) (by decide) (by rfl) (by rfl)) (@Er _ _ _ _ _ (@DI _ _ _ _ _ _ _ _ L5 (pv 0) (@C3 _ _ _ _ _ (by rfl) T.g_ROW_WORDS T.r_ROW_WORDS (by decide)) (by with_unfolding_all rfl))))))),?_⟩
 have hl:=cds_len z
 have qn:¬Bp (cds z)->∀H',A7 H H'->Q (.bl false) H':=fun h H' e=>by
  have:=q H' e
  rwa [BI h]at this
 refine⟨_,rfl,rfl,_,rfl,?_⟩
 refine AD (fun c=>?_) (fun c=>?_)
 .have e:z="":=V.str.inj (dT c)
  refine Be ?_
  exact qn (fun g=>by have:=g.1;rw[GH.mp e]at this;simp at this) H (A7.refl H)
 have c1:¬z="":=fun e=>dF c (by rw[e])
 refine⟨_,rfl,_,rfl,Ax (by omega),_,_,rfl,rfl,_,rfl,?_⟩
 refine AD (fun c2=>?_) (fun c2=>?_)
 .have:=dT c2
  exact qn (fun g=>by have:=g.2.1;omega) H (A7.refl H)
 have c3:=dF c2
 refine⟨_,rfl,z,_,rfl,hz,fun H1 e1=>?_⟩
 refine⟨_,rfl,?_⟩
 have hne:1<=(cds z).length:=by
  cases e:cds z with
  |nil=>exact absurd (GH.mpr e) c1
  |cons _ _=>simp
 refine AD (fun c4=>?_) (fun c4=>?_)
 .have h4:=dT c4
  refine⟨_,rfl,a.u_ROW_WORDS,_,rfl,.inr (T.q_ROW_WORDS _),rfl,rfl,?_⟩
  have e2:Dj (V.str z) [.str "for",.str "end",.str "size"]=decide (cds z∈Dm):=by
   have:=Og (cds z)
   rwa [Ep]at this
  show Q (.bl (!Dj (V.str z) [.str "for",.str "end",.str "size"])) H1
  rw[e2]
  have:=q H1 e1
  have e3:decide (Bp (cds z))=!decide (cds z∈Dm):=by
   rw[E4]
   simp only[DQ,Bool.not_eq_true',decide_eq_false_iff_not]
   exact⟨fun g=>g.2.2.2,fun g=>⟨hne,by omega,h4,g⟩⟩
  rwa [e3]at this
 .exact qn (fun g=>dF c4 g.2.2.1) H1 e1
theorem Th (T:Tx w K mg a):AK P w K mg base AS 3 a.f_w a.d_w ["parts"] (Nu 43 Hk K):=by
 have G_c :=@HN P w K mg base a T
 have G_a :=@Gc P w K mg base a T
 refine T.F_w.ok NH (fun vs H Q E h=>?_) (fun cdv A outer s H vs Q E hr h=>?_)
 .obtain⟨_,_,rfl,_⟩:=h;rfl
 obtain⟨p,l,rfl,hp,hl,q⟩:=h
 obtain⟨b,m,e,hpv,h1,h0,hm0,hb,he⟩:=M4 43 l hl
 rw[hpv]at hp
 refine⟨_,(@A5 _ _ _ _ _ (@Aj _ _ (1) _ _ _ _ NH.nd rfl (.inl rfl) (@Av _ _ _ _ _ _ _ _ _ _ _ _ _ _ _ _ G_c (hr.mono (by omega)) (by rfl) T.m_c T.F_c.kp T.b_c .nil Ao (@A0 _ _ _ _ _ (@Af _ _ _ _ _ _ _ AH (pv 0) A1 (fun _ _=>rfl)) A2 (by rfl)) (by decide) (by rfl) (by rfl)) (by rfl) (by first|exact .inl rfl|exact .inr rfl|assumption)) (@A5 _ _ _ _ _ (@AE _ _ _ _ _ _ _ _ ((@BL _ _ _ _ _ _ _ (@An _ _ _ _ _ _ _ _ Ey (pv 1) BW (@Am _ _ (by decide) (by decide))) (@C8 _ _ _ _ (@Cj _ _ _ _ (@Bx _ _ _ (@Av _ _ _ _ _ _ _ _ _ _ _ _ _ _ _ _ G_a (hr.mono (by omega)) (by rfl) T.m_a T.F_a.kp T.b_a .nil Ao (@A0 _ _ _ _ _ (@Af _ _ _ _ _ _ _ AH (pv 0) A1 (fun _ _=>rfl)) A2 (by rfl)) (by decide) (by rfl) (by rfl)) (by intro _;rfl)))))).pt (@A9 _ _ _ (@Al _ _ _ _ BW)) AF) (@A9 _ _ _ (@Al _ _ _ _ (@CU _ _ _ _ _ (@A0 _ _ _ _ _ (@Af _ _ _ _ _ _ _ AH (pv 0) A1 (fun _ _=>rfl)) (@A0 _ _ _ _ _ (pv 1) A2 (by rfl)) (by rfl))))))),?_⟩
 have qn:Hk l=none->∀H',A7 H H'->Q .non H':=fun z=>by rw[z]at q;exact q
 refine⟨_,rfl,p,_,2,_,rfl,rfl,hp,rfl,_,rfl,he,fun H1 e1=>?_⟩
 rw[B7]
 refine⟨_,rfl,rfl,_,rfl,?_⟩
 by_cases g:Ci e
 case neg=>
  rw[B5 (Iz g)]
  refine Be (Be ?_)
  refine qn ?_ H1 e1
  unfold Hk
  by_cases hm:43∈l
  .rw[Ag hm,Ae (fun z=>g (by rw[(h1 hm).2];exact z.1))]
  .rw[Ae hm]
 have hm:43∈l:=Decidable.byContradiction fun z=>O4 (by rw[←(h0 z).2];exact g)
 rw[IP g]
 refine Aq ?_
 refine⟨_,rfl,p,_,0,_,rfl,rfl,e1.seqT hp,rfl,_,rfl,hb,fun H2 e2=>?_⟩
 rw[B7]
 refine⟨_,rfl,?_⟩
 unfold Hk at q
 rw[Ag hm,←(h1 hm).1,←(h1 hm).2]at q
 by_cases hn:Bp b
 .rw[B5 hn]
  rw[Ag ⟨g,hn⟩]at q
  refine Aq ?_
  exact⟨_,rfl,p,_,0,_,rfl,rfl,(e1.trans e2).seqT hp,rfl,_,rfl,AG rfl,fun r hr=>q r _ ((e1.trans e2).trans (Ac hr _)) A6⟩
 .rw[BI hn]
  rw[Ae (fun z=>hn z.2)]at q
  refine Be ?_
  exact q H2 (e1.trans e2)
theorem RB (T:Tx w K mg a):AK P w K mg base AS 3 a.f_x a.d_x ["parts"] (Nu 45 Jt K):=by
 have G_c :=@HN P w K mg base a T
 have G_a :=@Gc P w K mg base a T
 refine T.F_x.ok Mp (fun vs H Q E h=>?_) (fun cdv A outer s H vs Q E hr h=>?_)
 .obtain⟨_,_,rfl,_⟩:=h;rfl
 obtain⟨p,l,rfl,hp,hl,q⟩:=h
 obtain⟨b,m,e,hpv,h1,h0,hm0,hb,he⟩:=M4 45 l hl
 rw[hpv]at hp
 refine⟨_,(@A5 _ _ _ _ _ (@Aj _ _ (1) _ _ _ _ Mp.nd rfl (.inl rfl) (@Av _ _ _ _ _ _ _ _ _ _ _ _ _ _ _ _ G_c (hr.mono (by omega)) (by rfl) T.m_c T.F_c.kp T.b_c .nil Ao (@A0 _ _ _ _ _ (@Af _ _ _ _ _ _ _ AH (pv 0) A1 (fun _ _=>rfl)) A2 (by rfl)) (by decide) (by rfl) (by rfl)) (by rfl) (by first|exact .inl rfl|exact .inr rfl|assumption)) (@A5 _ _ _ _ _ (@AE _ _ _ _ _ _ _ _ (@An _ _ _ _ _ _ _ _ Ey (pv 1) BW (@Am _ _ (by decide) (by decide))) (@A9 _ _ _ (@Al _ _ _ _ BW)) AF) (@A5 _ _ _ _ _ (@AE _ _ _ _ _ _ _ _ ((@BL _ _ _ _ _ _ _ (@Bx _ _ _ (@Av _ _ _ _ _ _ _ _ _ _ _ _ _ _ _ _ G_a (hr.mono (by omega)) (by rfl) T.m_a T.F_a.kp T.b_a .nil Ao (@A0 _ _ _ _ _ (@Af _ _ _ _ _ _ _ AH (pv 0) A1 (fun _ _=>rfl)) A2 (by rfl)) (by decide) (by rfl) (by rfl)) (by intro _;rfl)) (@C8 _ _ _ _ ((@Df _ _ _ _ _ _ _ (@An _ _ _ _ _ _ _ _ Bk (@Af _ _ _ _ _ _ _ AH (pv 0) A1 (fun _ _=>rfl)) Aw (@Am _ _ (by decide) (by decide))) (@DY _ _ _ _ (@An _ _ _ _ _ _ _ _ Ft (pv 1) A1 (@Am _ _ (by decide) (by decide)))))).pt))).pt (@A9 _ _ _ (@Al _ _ _ _ (@CU _ _ _ _ _ (@A0 _ _ _ _ _ (@Af _ _ _ _ _ _ _ AH (pv 0) A1 (fun _ _=>rfl)) (@A0 _ _ _ _ _ (@CS _ _ _ _ _ _ CW (pv 1)) A2 (by rfl)) (by rfl))))) AF) (@A9 _ _ _ (@Al _ _ _ _ BW))))),?_⟩
 have qn:Jt l=none->∀H',A7 H H'->Q .non H':=fun z=>by rw[z]at q;exact q
 refine⟨_,rfl,p,_,2,_,rfl,rfl,hp,rfl,_,rfl,he,fun H1 e1=>?_⟩
 rw[B7]
 refine⟨_,rfl,rfl,_,rfl,?_⟩
 by_cases g:Ci e
 case neg=>
  rw[B5 (Iz g)]
  refine Be ?_
  refine qn ?_ H1 e1
  unfold Jt
  by_cases hm:45∈l
  .rw[Ag hm,Ae (fun z=>g (by rw[(h1 hm).2];exact z))]
  .rw[Ae hm]
 have hm:45∈l:=Decidable.byContradiction fun z=>O4 (by rw[←(h0 z).2];exact g)
 rw[IP g]
 refine Aq ?_
 refine⟨_,rfl,p,_,0,_,rfl,rfl,e1.seqT hp,rfl,_,rfl,hb,fun H2 e2=>?_⟩
 rw[B7]
 unfold Jt at q
 rw[Ag hm,←(h1 hm).1,←(h1 hm).2,Ag g]at q
 refine⟨_,rfl,?_⟩
 by_cases hn:Bp b
 .rw[B5 hn]
  rw[Ag (.inl hn)]at q
  refine Be (Be ?_)
  exact⟨_,rfl,p,_,0,_,rfl,rfl,(e1.trans e2).seqT hp,rfl,_,rfl,_,rfl,AG rfl,fun r hr=>q r _ ((e1.trans e2).trans (Ac hr _)) A6⟩
 rw[BI hn]
 refine Aq ?_
 refine⟨_,rfl,p,_,0,_,rfl,rfl,(e1.trans e2).seqT hp,rfl,rfl,_,rfl,?_⟩
 by_cases hb0:b=[]
 .subst hb0
  refine Be ?_
  refine⟨_,rfl,_,_,rfl,rfl,_,rfl,?_⟩
  refine AD (fun c=>?_) (fun c=>?_)
  .rw[Ag (.inr ⟨rfl,dT c⟩)]at q
   exact⟨_,rfl,p,_,0,_,rfl,rfl,(e1.trans e2).seqT hp,rfl,_,rfl,_,rfl,AG rfl,fun r hr=>q r _ ((e1.trans e2).trans (Ac hr _)) A6⟩
  .rw[Ae (fun z=>z.elim hn fun w=>dF c w.2)]at q
   exact q _ (e1.trans e2)
 .have e5:¬V.str (Az b)=V.str (Str.ofString ""):=fun z=>hb0 (by have:=GH.mp (V.str.inj z);rwa [B7]at this)
  rw[BI e5]
  refine Aq (Aq ?_)
  rw[Ae (fun z=>z.elim hn fun w=>hb0 w.1)]at q
  exact q _ (e1.trans e2)
theorem Oz (T:Tx w K mg a):AK P w K mg base AS 4 a.f_f a.d_f ["text"] (Qr Ew):=by
 have G_c :=@HN P w K mg base a T
 have G_a :=@Gc P w K mg base a T
 have G_w :=@Th P w K mg base a T
 have G_x :=@RB P w K mg base a T
 refine T.F_f.ok MW (fun vs H Q E h=>?_) (fun cdv A outer s H vs Q E hr h=>?_)
 .obtain⟨_,rfl,_⟩:=h;rfl
 obtain⟨z,rfl,hz,q⟩:=h
 refine⟨_,(@A5 _ _ _ _ _ (@AE _ _ _ _ _ _ _ _ (@Bx _ _ _ (@Av _ _ _ _ _ _ _ _ _ _ _ _ _ _ _ _ G_a (hr.mono (by omega)) (by rfl) T.m_a T.F_a.kp T.b_a .nil Ao (@A0 _ _ _ _ _ (pv 0) A2 (by rfl)) (by decide) (by rfl) (by rfl)) (by intro _;rfl)) (@A9 _ _ _ (@Al _ _ _ _ (@CU _ _ _ _ _ (@A0 _ _ _ _ _ (pv 0) (@A0 _ _ _ _ _ A1 A2 (by rfl)) (by rfl))))) AF) (@A5 _ _ _ _ _ (@Aj _ _ (1) _ _ _ _ MW.nd rfl (.inl rfl) (@Av _ _ _ _ _ _ _ _ _ _ _ _ _ _ _ _ G_c (hr.mono (by omega)) (by rfl) T.m_c T.F_c.kp T.b_c .nil Ao (@A0 _ _ _ _ _ (pv 0) A2 (by rfl)) (by decide) (by rfl) (by rfl)) (by rfl) (by first|exact .inl rfl|exact .inr rfl|assumption)) (@A5 _ _ _ _ _ (@AE _ _ _ _ _ _ _ _ (@An _ _ _ _ _ _ _ _ KB (pv 1) BW (@Am _ _ (by decide) (by decide))) (@A9 _ _ _ (@Al _ _ _ _ (@CU _ _ _ _ _ (@A0 _ _ _ _ _ Aw (@A0 _ _ _ _ _ (pv 1) A2 (by rfl)) (by rfl))))) AF) (@A5 _ _ _ _ _ (@AE _ _ _ _ _ _ _ _ (@An _ _ _ _ _ _ _ _ J4 Aw (pv 0) (by with_unfolding_all rfl)) (@A9 _ _ _ (@Al _ _ _ _ (@Av _ _ _ _ _ _ _ _ _ _ _ _ _ _ _ _ G_w (hr.mono (by omega)) (by rfl) T.m_w T.F_w.kp T.b_w .nil Ao (@A0 _ _ _ _ _ (@Bm _ _ _ _ _ _ _ _ _ _ _ _ Eg K7 K8 HR (pv 0) (@A0 _ _ _ _ _ Aw A2 (by rfl)) (by rfl) (by rfl) (by rfl) (by rfl) (by rfl)) A2 (by rfl)) (by decide) (by rfl) (by rfl)))) AF) (@A9 _ _ _ (@Al _ _ _ _ (@Av _ _ _ _ _ _ _ _ _ _ _ _ _ _ _ _ G_x (hr.mono (by omega)) (by rfl) T.m_x T.F_x.kp T.b_x .nil Ao (@A0 _ _ _ _ _ (@Bm _ _ _ _ _ _ _ _ _ _ _ _ Eg K7 K8 HR (pv 0) (@A0 _ _ _ _ _ Aw A2 (by rfl)) (by rfl) (by rfl) (by rfl) (by rfl) (by rfl)) A2 (by rfl)) (by decide) (by rfl) (by rfl)))))))),?_⟩
 refine⟨_,rfl,z,rfl,hz,fun H1 e1=>?_⟩
 refine⟨_,rfl,?_⟩
 by_cases hn:Bp (cds z)
 .rw[B5 hn]
  unfold Ew at q
  rw[Ag hn,]at q
  refine Be ?_
  refine⟨_,rfl,AG rfl,fun r hr=>q r _ (e1.trans (Ac hr _)) (by rw[Ep];exact A6)⟩
 rw[BI hn]
 refine Aq ?_
 refine⟨_,rfl,z,rfl,hz,fun H2 e2=>?_⟩
 have e12:=e1.trans e2
 refine⟨_,rfl,rfl,_,rfl,?_⟩
 unfold Ew at q
 rw[Ae hn]at q
 by_cases g:Ci (cds z)
 .rw[IP g]
  rw[Ag g]at q
  refine Be ?_
  refine⟨_,rfl,AG rfl,fun r hr=>q r _ (e12.trans (Ac hr _)) A6⟩
 rw[Iz g]
 rw[Ae g]at q
 refine Aq ?_
 refine⟨_,rfl,_,_,rfl,rfl,_,rfl,?_⟩
 have ep:(!(Builtin.Str.occurrences z (Str.ofString "+") 0 z.length 1).isEmpty)=decide (43∈cds z):=Lp z 43
 have hl:=cds_len z
 rw[ep]
 by_cases hp:43∈cds z
 .rw[B5 hp]
  rw[Ag hp]at q
  refine Be ?_
  refine⟨_,rfl,rfl,z,43,rfl,rfl,Ax (by omega),fun r hr=>?_⟩
  refine⟨r,cds z,rfl,Ah.of A6,by omega,?_⟩
  unfold Hk
  rw[Ag hp]
  exact q.over (e12.trans (Ac hr _))
 .rw[BI hp]
  rw[Ae hp]at q
  refine Aq ?_
  refine⟨_,rfl,rfl,z,45,rfl,rfl,Ax (by omega),fun r hr=>?_⟩
  refine⟨r,cds z,rfl,Ah.of A6,by omega,?_⟩
  exact Gn.over q (e12.trans (Ac hr _))
theorem V9 (T:Tx w K mg a):AK P w K mg base AS 1 a.f_T a.d_T ["self","n"] (IX a.c_Number ["n"]):=by
 refine T.F_T.ok Re (fun vs H Q E h=>?_) (fun cdv A outer s H vs Q E hr h=>?_)
 .obtain⟨_,_,vs,rfl,hl,_⟩:=h;rw[AW,hl];rfl
 obtain⟨x,dx,vs,rfl,hl,hx,q⟩:=h
 obtain⟨n,rfl⟩:∃n,vs=[n]:=by match vs,hl with|[n],_=>exact⟨n,rfl⟩
 refine⟨_,(@A9 _ _ _ (@C7 _ _ _ _ _ _ _ _ (pv 0) (pv 1) rfl)),?_⟩
 exact⟨_,rfl,_,rfl,x,_,dx,_,rfl,hx,T.cl_Number,T.n_Number_n,(by show 0<1000;decide),q _ (fun b o e hb=>by rw[A8 hb];exact e) ⟨dx,A6⟩⟩
theorem Uc (T:Tx w K mg a):AK P w K mg base AS 1 a.f_U a.d_U ["self","name"] (IX a.c_Value ["name"]):=by
 refine T.F_U.ok Se (fun vs H Q E h=>?_) (fun cdv A outer s H vs Q E hr h=>?_)
 .obtain⟨_,_,vs,rfl,hl,_⟩:=h;rw[AW,hl];rfl
 obtain⟨x,dx,vs,rfl,hl,hx,q⟩:=h
 obtain⟨n,rfl⟩:∃n,vs=[n]:=by match vs,hl with|[n],_=>exact⟨n,rfl⟩
 refine⟨_,(@A9 _ _ _ (@C7 _ _ _ _ _ _ _ _ (pv 0) (pv 1) rfl)),?_⟩
 exact⟨_,rfl,_,rfl,x,_,dx,_,rfl,hx,T.cl_Value,T.n_Value_name,(by show 0<1000;decide),q _ (fun b o e hb=>by rw[A8 hb];exact e) ⟨dx,A6⟩⟩
theorem PD (T:Tx w K mg a):AK P w K mg base AS 1 a.f_V a.d_V ["self","table","spots"] (IX a.c_Cell ["table","spots"]):=by
 refine T.F_V.ok Pg (fun vs H Q E h=>?_) (fun cdv A outer s H vs Q E hr h=>?_)
 .obtain⟨_,_,vs,rfl,hl,_⟩:=h;rw[AW,hl];rfl
 obtain⟨x,dx,vs,rfl,hl,hx,q⟩:=h
 obtain⟨n,m,rfl⟩:∃n m,vs=[n,m]:=by match vs,hl with|[n,m],_=>exact⟨n,m,rfl⟩
 refine⟨_,(@A5 _ _ _ _ _ (@C7 _ _ _ _ _ _ _ _ (pv 0) (pv 1) rfl) (@A9 _ _ _ (@C7 _ _ _ _ _ _ _ _ (pv 0) (pv 2) rfl))),?_⟩
 refine⟨_,rfl,_,rfl,x,_,dx,_,rfl,hx,T.cl_Cell,T.n_Cell_table,(by show 0<1000;decide),?_⟩
 refine⟨_,rfl,_,rfl,x,_,dx,_,rfl,A6,T.cl_Cell,T.n_Cell_spots,(by show 1<1000;decide),?_⟩
 exact q _ (fun b o e hb=>by
  repeat rw[A8 hb]
  exact e) ⟨dx,A6⟩
theorem Pc (T:Tx w K mg a):AK P w K mg base AS 1 a.f_W a.d_W ["self","sign","left","right"] (IX a.c_Joined ["sign","left","right"]):=by
 refine T.F_W.ok Pf (fun vs H Q E h=>?_) (fun cdv A outer s H vs Q E hr h=>?_)
 .obtain⟨_,_,vs,rfl,hl,_⟩:=h;rw[AW,hl];rfl
 obtain⟨x,dx,vs,rfl,hl,hx,q⟩:=h
 obtain⟨n,m,o,rfl⟩:∃n m o,vs=[n,m,o]:=by match vs,hl with|[n,m,o],_=>exact⟨n,m,o,rfl⟩
 refine⟨_,(@A5 _ _ _ _ _ (@C7 _ _ _ _ _ _ _ _ (pv 0) (pv 1) rfl) (@A5 _ _ _ _ _ (@C7 _ _ _ _ _ _ _ _ (pv 0) (pv 2) rfl) (@A9 _ _ _ (@C7 _ _ _ _ _ _ _ _ (pv 0) (pv 3) rfl)))),?_⟩
 refine⟨_,rfl,_,rfl,x,_,dx,_,rfl,hx,T.cl_Joined,T.n_Joined_sign,(by show 0<1000;decide),?_⟩
 refine⟨_,rfl,_,rfl,x,_,dx,_,rfl,A6,T.cl_Joined,T.n_Joined_left,(by show 1<1000;decide),?_⟩
 refine⟨_,rfl,_,rfl,x,_,dx,_,rfl,A6,T.cl_Joined,T.n_Joined_right,(by show 2<1000;decide),?_⟩
 exact q _ (fun b o e hb=>by
  repeat rw[A8 hb]
  exact e) ⟨dx,A6⟩
theorem Ur (T:Tx w K mg a):AK P w K mg base AS 1 a.f_X a.d_X ["self","names","lows","highs","table","spots","term","path"] (QX a.c_Deed):=by
 refine T.F_X.ok U7 (fun vs H Q E h=>?_) (fun cdv A outer s H vs Q E hr h=>?_)
 .obtain⟨_,_,_,_,_,_,_,_,_,rfl,_⟩:=h;rfl
 obtain⟨x,dx,v1,v2,v3,v4,v5,v6,v7,rfl,hx,q⟩:=h
 refine⟨_,(@A5 _ _ _ _ _ (@C7 _ _ _ _ _ _ _ _ (pv 0) (pv 1) rfl) (@A5 _ _ _ _ _ (@C7 _ _ _ _ _ _ _ _ (pv 0) (pv 2) rfl) (@A5 _ _ _ _ _ (@C7 _ _ _ _ _ _ _ _ (pv 0) (pv 3) rfl) (@A5 _ _ _ _ _ (@C7 _ _ _ _ _ _ _ _ (pv 0) (pv 4) rfl) (@A5 _ _ _ _ _ (@C7 _ _ _ _ _ _ _ _ (pv 0) (pv 5) rfl) (@A5 _ _ _ _ _ (@C7 _ _ _ _ _ _ _ _ (pv 0) (pv 6) rfl) (@A9 _ _ _ (@C7 _ _ _ _ _ _ _ _ (pv 0) (pv 7) rfl)))))))),?_⟩
 refine⟨_,rfl,_,rfl,x,_,dx,_,rfl,hx,T.cl_Deed,T.n_Deed_names,(by show 0<1000;decide),?_⟩
 refine⟨_,rfl,_,rfl,x,_,dx,_,rfl,A6,T.cl_Deed,T.n_Deed_lows,(by show 1<1000;decide),?_⟩
 refine⟨_,rfl,_,rfl,x,_,dx,_,rfl,A6,T.cl_Deed,T.n_Deed_highs,(by show 2<1000;decide),?_⟩
 refine⟨_,rfl,_,rfl,x,_,dx,_,rfl,A6,T.cl_Deed,T.n_Deed_table,(by show 3<1000;decide),?_⟩
 refine⟨_,rfl,_,rfl,x,_,dx,_,rfl,A6,T.cl_Deed,T.n_Deed_spots,(by show 4<1000;decide),?_⟩
 refine⟨_,rfl,_,rfl,x,_,dx,_,rfl,A6,T.cl_Deed,T.n_Deed_term,(by show 5<1000;decide),?_⟩
 refine⟨_,rfl,_,rfl,x,_,dx,_,rfl,A6,T.cl_Deed,T.n_Deed_path,(by show 6<1000;decide),?_⟩
 exact q _ (fun b o e hb=>by
  repeat rw[A8 hb]
  exact e) ⟨dx,A6⟩
theorem Q5 (T:Tx w K mg a):AK P w K mg base AS 1 a.f_Y a.d_Y ["self","size","deeds"] (Rd.spPInitN a.c_Program):=by
 refine T.F_Y.ok TB (fun vs H Q E h=>?_) (fun cdv A outer s H vs Q E hr h=>?_)
 .obtain⟨_,_,_,_,_,rfl,_⟩:=h;rfl
 obtain⟨x,dx,p,v1,ys,rfl,hx,hp,yl,q⟩:=h
 refine⟨_,(@A5 _ _ _ _ _ (@C7 _ _ _ _ _ _ _ _ (pv 0) (pv 1) rfl) (@A9 _ _ _ (@C7 _ _ _ _ _ _ _ _ (pv 0) (@CQ _ _ _ _ _ _ _ _ _ Pt (by rfl) T.z_list O7 (@A0 _ _ _ _ _ (pv 2) A2 (by rfl)) (by decide) (by decide) (by rfl) (by rfl)) rfl))),?_⟩
 refine⟨_,rfl,_,rfl,x,_,dx,_,rfl,hx,T.cl_Program,T.n_Program_size,(by show 0<1000;decide),?_⟩
 have npx:p≠x:=CY hp hx (by intro z;cases z)
 refine⟨_,rfl,p,ys,rfl,.inl (A3.of (by rw[A8 npx];exact hp)),fun l hl=>?_⟩
 have nxl:x≠l:=fun e=>by rw[e,A6]at hl;cases hl
 have hlH:H l=none:=by rw[A8 (Ne.symm nxl)]at hl;exact hl
 refine⟨_,rfl,x,_,dx,_,rfl,(by rw[A8 nxl];exact A6),T.cl_Program,T.n_Program_deeds,(by show 1<1000;decide),?_⟩
 refine q _ l (fun b o e hb=>?_) ⟨dx,A6⟩ (by rw[A8 (Ne.symm nxl)];exact A6) hlH
 rw[A8 hb,A8 (AI e hlH),A8 hb]
 exact e
theorem Rt (T:Tx w K mg a):AK P w K mg base AS 1 a.f_y a.d_y ["row"] Rd.spBare:=by
 refine T.F_y.ok VZ (fun vs H Q E h=>?_) (fun cdv A outer s H vs Q E hr h=>?_)
 .obtain⟨_,rfl,_⟩:=h;rfl
 obtain⟨z,rfl,hz,q⟩:=h
 have hlen:=cds_len z
 refine⟨_,(@A9 _ _ _ (@Al _ _ _ _ (@Bm _ _ _ _ _ _ _ _ _ _ _ _ Eg PySem.F.slot_str_strip PySem.F.type_str_strip VY (@Af _ _ _ _ _ _ _ AH (@Bm _ _ _ _ _ _ _ _ _ _ _ _ Eg K7 K8 HR (pv 0) (@A0 _ _ _ _ _ Aw A2 (by rfl)) (by rfl) (by rfl) (by rfl) (by rfl) (by rfl)) A1 (fun _ _=>rfl)) (@A0 _ _ _ _ _ Aw A2 (by rfl)) (by rfl) (by rfl) (by rfl) (by rfl) (by rfl)))),?_⟩
 refine⟨_,rfl,rfl,z,59,rfl,rfl,Ax (by omega),fun r hr'=>?_⟩
 have q2:=q _ (Ac hr' (.tup (De 59 (cds z))))
 unfold Rd.bare at q2
 by_cases h59:59∈cds z
 .rw[Ag h59]at q2
  have e:De 59 (cds z)=[.str (Az (Ck 59 (cds z))),.str ⟨#[59]⟩,.str (Az (D4 59 (cds z)))]:=Ag h59
  refine⟨r,_,0,.str (Az (Ck 59 (cds z))),rfl,rfl,Ah.of A6,(by rw[e];rfl),rfl,_,32,rfl,rfl,?_,?_⟩
  .rw[CN]
   unfold Ck
   exact Ax (by rw[Bh];omega)
  .rw[B7]
   exact q2
 .rw[Ae h59]at q2
  have e:De 59 (cds z)=[.str (Az (cds z)),.str "",.str ""]:=Ae h59
  refine⟨r,_,0,.str (Az (cds z)),rfl,rfl,Ah.of A6,(by rw[e];rfl),rfl,_,32,rfl,rfl,?_,?_⟩
  .rw[CN];exact Ax (by omega)
  .rw[B7]
   exact q2
theorem Sd (T:Tx w K mg a):AK P w K mg base AS 1 a.f_z a.d_z ["row"] Rd.spWords:=by
 refine T.F_z.ok SJ (fun vs H Q E h=>?_) (fun cdv A outer s H vs Q E hr h=>?_)
 .obtain⟨_,rfl,_⟩:=h;rfl
 obtain⟨z,rfl,hz,q⟩:=h
 have hlen:=cds_len z
 refine⟨_,(@A9 _ _ _ (@Al _ _ _ _ (@Dh _ _ _ _ _ _ _ ["word"] [none] _ _ _ _ (by rfl) (@DC _ _ _ _ (@Bm _ _ _ _ _ _ _ _ _ _ _ _ Eg OO OP KL (pv 0) (@A0 _ _ _ _ _ Aw A2 (by rfl)) (by rfl) (by rfl) (by rfl) (by rfl) (by rfl))) UP (fun _ _ _ _ _ _=>⟨(Bv (i:=0) RH rfl (.inl rfl)),(@ID _ _ _ (@An _ _ _ _ _ _ _ _ D3 (pv 0) Aw (@Am _ _ (by decide) (by decide)))),(pv 0)⟩) (by intro _;rfl)))),?_⟩
 refine⟨_,rfl,rfl,z,_,rfl,rfl,by decide +kernel,?_,by omega,fun l ps hl hs=>?_⟩
 .have e:cds (Str.ofString " ")=[32]:=by decide +kernel
  rw[e]
  intro c hc
  rw[E6.mp hc]
  decide
 have e:cds (Str.ofString " ")=[32]:=by decide +kernel
 rw[e]at hs
 refine⟨l,rfl,⟨_,A3.of A6⟩,?_⟩
 have pl:ps.length<=100001:=by
  have:=Rd.split_many (Ai _) hs
  rw[Ap]at this
  omega
 refine F0 (xs:=ps.map V.str) (fun i ys H'=>H'=upd H l (.lst (ps.map V.str))/\ys=((ps.take i).filter fun y:Str=>decide (y≠Str.ofString "")).map V.str) ⟨rfl,rfl⟩ (Ax (by rw[Ap];omega)) (fun i ys H' hi p=>?_) (fun i x ys H' hc p=>?_) (fun ys H' p t ht=>?_)
 .obtain⟨rfl,rfl⟩:=p
  refine⟨A3.of A6,?_⟩
  rw[Ap]
  have h1:=LS (fun y:Str=>decide (y≠Str.ofString "")) (ps.take i)
  rw[Bh]at h1
  omega
 .obtain⟨rfl,rfl⟩:=p
  rw[D8]at hc
  cases hy:ps[i]? with
  |none=>rw[hy]at hc;cases hc
  |
   some y=>
   rw[hy]at hc
   cases hc
   refine⟨_,rfl,rfl,_,rfl,?_⟩
   have k1:(V.str y=V.str (Str.ofString ""))↔y=Str.ofString "":=⟨fun e=>V.str.inj e,fun e=>by rw[e]⟩
   rw[Di hy,FF]
   refine AD (fun c=>?_) (fun c=>?_)
   .have n:y≠Str.ofString "":=fun e=>by rw[B5 (k1.mpr e)]at c;cases c
    refine⟨_,rfl,rfl,?_⟩
    rw[E7,Ag (B5 n),B3]
    rfl
   .have n:y=Str.ofString "":=GO fun n=>c (by rw[BI fun e=>n (k1.mp e)];rfl)
    refine⟨rfl,?_⟩
    rw[E7,Ae (by rw[DQ];exact fun z=>z n),List.filter_nil,DL]
 .obtain⟨rfl,rfl⟩:=p
  rw[Ap,DN]
  exact q t _ ps ((Ac hl _).trans (Ac ht _)) hs A6
theorem Sl (T:Tx w K mg a):AK P w K mg base AS 1 a.f_A a.d_A ["text","at"] Rd.spPend:=by
 refine T.F_A.ok IL (fun vs H Q E h=>?_) (fun cdv A outer s H vs Q E hr h=>?_)
 .obtain⟨_,_,rfl,_⟩:=h;rfl
 obtain⟨z,i,rfl,hi,hz,q⟩:=h
 have hlen:=cds_len z
 have at':∀k:Nat,k<(cds z).length->∃c,(cds z).drop k=c::(cds z).drop (k+1)/\Bz z.cps.toList ((k:Nat):Int)=some c:=fun k hk=>⟨(cds z)[k],G9 hk,EG (Bg hk)⟩
 have zl:z.length<=sizeLine:=Ax (by omega)
 refine⟨_,(@A5 _ _ _ _ _ (@AE _ _ _ _ _ _ _ _ (@An _ _ _ _ _ _ _ _ J4 (@Af _ _ _ _ _ _ _ Es (pv 0) (pv 1) (fun _ _=>rfl)) (@C3 _ _ _ _ _ (by rfl) T.g_SIGNS T.r_SIGNS (by decide)) (by with_unfolding_all rfl)) (@A9 _ _ _ (@Al _ _ _ _ (@Aa _ _ _ _ _ _ _ _ C1 (pv 1) A1))) AF) (@A5 _ _ _ _ _ (@Aj _ _ (2) _ _ _ _ IL.nd rfl (.inl rfl) Bu (by rfl) (by first|exact .inl rfl|exact .inr rfl|assumption)) (@A5 _ _ _ _ _ (@HV _ _ _ _ _ _ PassesOwn.never ((@Df _ _ _ _ _ _ _ (@An _ _ _ _ _ _ _ _ Eu (pv 1) (@AR _ _ _ _ _ _ _ _ _ HH (by rfl) T.z_len Bo (@A0 _ _ _ _ _ (pv 0) A2 (by rfl)) (by decide) (by decide) (by rfl) (by rfl)) (@Am _ _ (by decide) (by decide))) (@DY _ _ _ _ ((@BL _ _ _ _ _ _ _ (@Bx _ _ _ (pv 2) (by intro _;rfl)) (@C8 _ _ _ _ (@An _ _ _ _ _ _ _ _ Vd (@Af _ _ _ _ _ _ _ Es (pv 0) (pv 1) (fun _ _=>rfl)) (@C3 _ _ _ _ _ (by rfl) T.g_SIGNS T.r_SIGNS (by decide)) (by with_unfolding_all rfl))))).pt))).pt (@A5 _ _ _ _ _ (@Aj _ _ (2) _ _ _ _ IL.nd rfl (.inl rfl) (@Kz _ _ _ _ _ _ _ (@DI _ _ _ _ _ _ _ _ Bk (@Af _ _ _ _ _ _ _ Es (pv 0) (pv 1) (fun _ _=>rfl)) Aw (@Am _ _ (by decide) (by decide))) (@Er _ _ _ _ _ (@Et _ _ _ _ _ _ _ (pv 2) (@Er _ _ _ _ _ (@DI _ _ _ _ _ _ _ _ D3 (@Af _ _ _ _ _ _ _ Es (pv 0) (pv 1) (fun _ _=>rfl)) Aw (@Am _ _ (by decide) (by decide))))))) (by rfl) (by first|exact .inl rfl|exact .inr rfl|assumption)) (@A9 _ _ _ (@QG _ _ (1) _ _ _ _ _ _ IL.nd rfl (.inl rfl) A1 Kk (by first|exact .inl rfl|exact .inr rfl|assumption))))) (@A9 _ _ _ (@Al _ _ _ _ (pv 1)))))),?_⟩
 obtain⟨c,hd,hc⟩:=at' i hi
 refine⟨_,rfl,_,rfl,_,_,c,rfl,rfl,zl,hc,_,_,rfl,rfl,_,rfl,?_⟩
 refine AD (fun cc=>?_) (fun cc=>?_)
 .have h5:c∈Rd.sg5:=GO fun n=>BQ ((Rd.not_sign (z:=⟨#[c]⟩) (c:=c) (r:=[]) rfl n).symm.trans cc)
  refine⟨_,rfl,_,_,rfl,rfl,?_⟩
  rw[hd,Rd.pend,Ag h5]at q
  exact q
 have h5:c∉Rd.sg5:=fun n=>cc (Rd.is_sign n)
 have ep:Rd.pend ((cds z).drop i)=Rd.scan false ((cds z).drop i):=by rw[hd,Rd.pend,Ae h5]
 rw[ep]at q
 dsimp only[Ar]
 refine⟨fun m σ' H'=>H'=H/\∃(j:Nat) (b:Bool),σ'=[some (.str z),some (.int ((i+j:Nat):Int)),some (.bl b)]/\i+j<=(cds z).length/\m=(cds z).length-(i+j)/\Rd.scan false ((cds z).drop i)=j+Rd.scan b ((cds z).drop (i+j)),⟨_,rfl,0,false,rfl,by omega,rfl,by rw[Nat.zero_add,Nat.add_zero]⟩,?_⟩
 rintro m σ' H' ⟨rfl,j,b,rfl,hj,rfl,hs⟩
 refine⟨_,rfl,_,rfl,_,rfl,zl,_,_,rfl,rfl,_,rfl,?_⟩
 refine AD (fun lt=>?_) (fun ge=>?_)
 .have lt:((i+j:Nat):Int)<((z.length:Nat):Int):=dT lt
  obtain⟨d,hd2,hd3⟩:=at' (i+j) (by omega)
  rw[hd2]at hs
  have stp:(b=true\/d∉Rd.sg5)->Rd.scan false ((cds z).drop i)=(j+1)+Rd.scan (Rd.ins b d) ((cds z).drop (i+(j+1))):=fun hc2=>by
   rw[Rd.scan,Ag hc2]at hs
   rw[hs,show i+(j+1)=i+j+1 by omega]
   omega
  have body:∀(D:D9),(b=true\/d∉Rd.sg5)->∃N:St->Hp->Prop,(∀σ' H'',N σ' H''->∃m',m'<(cds z).length-(i+j)/\(H''=H'/\∃(j:Nat) (b:Bool),σ'=[some (.str z),some (.int ((i+j:Nat):Int)),some (.bl b)]/\i+j<=(cds z).length/\m'=(cds z).length-(i+j)/\Rd.scan false ((cds z).drop i)=j+Rd.scan b ((cds z).drop (i+j))))/\
    DH (FP (Nn (EL Mq (EL L3 (Ej 0) (Ej 1)) (tC (V.str (Str.ofString "[")))) (Lb (Ej 2) (EL O2 (EL L3 (Ej 0) (Ej 1)) (tC (V.str (Str.ofString "]")))))) (Ar 2)) (Ku 1 (tC (V.int 1)) (Lw fun i j=>i+j)) {D with nx:=N,ct:=N} [some (V.str z),some (V.int ((i+j:Nat):Int)),some (V.bl b)] H':=fun D hc2=>by
   refine⟨fun σ'' H''=>H''=H'/\σ''=[some (.str z),some (.int (((i+j:Nat):Int)+1)),some (.bl (Rd.ins b d))],fun σ'' H'' hN=>?_,?_⟩
   .obtain⟨rfl,rfl⟩:=hN
    exact⟨_,(by omega:(cds z).length-(i+(j+1))<(cds z).length-(i+j)),rfl,j+1,Rd.ins b d,rfl,by omega,rfl,stp hc2⟩
   .refine⟨_,rfl,_,rfl,_,_,d,rfl,rfl,zl,hd3,rfl,_,rfl,?_⟩
    have k1:∀e:Nat,(V.str ⟨#[d]⟩=V.str ⟨#[e]⟩)↔d=e:=fun e=>⟨fun x=>by injection x with x;injection x with x;simpa using x,fun x=>by rw[x]⟩
    have fin:∀b',b'=Rd.ins b d->Ar 2 (V.bl b') [some (V.str z),some (V.int ((i+j:Nat):Int)),some (V.bl b)] H' fun σ2 H2=>Ku 1 (tC (V.int 1)) (Lw fun i j=>i+j) {D with nx:=fun σ'' H''=>H''=H'/\σ''=[some (.str z),some (.int (((i+j:Nat):Int)+1)),some (.bl (Rd.ins b d))],ct:=fun σ'' H''=>H''=H'/\σ''=[some (.str z),some (.int (((i+j:Nat):Int)+1)),some (.bl (Rd.ins b d))]} σ2 H2:=fun b' eb=>by
     subst eb
     dsimp only[Ar]
     exact⟨_,rfl,_,_,rfl,rfl,rfl,rfl⟩
    refine AD (fun c1=>?_) (fun c1=>?_)
    .refine fin true ?_
     have e:d=91:=(k1 91).mp (dT c1)
     unfold Rd.ins
     rw[B5 e,Bool.true_or]
    .have e:d≠91:=fun x=>dF c1 ((k1 91).mpr x)
     refine⟨_,rfl,b,rfl,?_⟩
     refine AD (fun c2=>?_) (fun c2=>?_)
     .refine⟨_,rfl,_,rfl,_,_,d,rfl,rfl,zl,hd3,rfl,fin _ ?_⟩
      unfold Rd.ins
      rw[BI e,c2,Bool.false_or,Bool.true_and]
      show(!decide (V.str ⟨#[d]⟩=V.str ⟨#[93]⟩))=decide (d≠93)
      rw[←decide_not]
      exact decide_eq_decide.mpr (not_congr (k1 93))
     .refine fin false ?_
      unfold Rd.ins
      rw[BI e,Bool.eq_false_iff.mpr c2]
      rfl
  refine⟨_,rfl,b,rfl,?_⟩
  refine AD (fun hb=>?_) (fun hb=>?_)
  .exact body {nx:=fun _ _=>True,rt:=Q,bk:=G1 (Ej 1) {nx:=fun _ H'=>Q V.non H',rt:=Q}} (.inl hb)
  .refine⟨_,rfl,_,rfl,_,_,d,rfl,rfl,zl,hd3,_,_,rfl,rfl,_,rfl,?_⟩
   refine AD (fun c3=>?_) (fun c3=>?_)
   .exact body {nx:=fun _ _=>True,rt:=Q,bk:=G1 (Ej 1) {nx:=fun _ H'=>Q V.non H',rt:=Q}} (.inr fun n=>by rw[Rd.is_sign n]at c3;cases c3)
   .have h6:d∈Rd.sg5:=GO fun n=>c3 (by rw[Rd.not_sign (z:=⟨#[d]⟩) (c:=d) (r:=[]) rfl n];rfl)
    rw[Rd.scan,Ae (fun x=>x.elim hb fun y=>y h6),Nat.add_zero]at hs
    rw[hs]at q
    exact⟨_,rfl,q⟩
 .have ge:¬((i+j:Nat):Int)<((z.length:Nat):Int):=dF ge
  have nl:(cds z).drop (i+j)=[]:=LJ (by omega)
  rw[nl]at hs
  have hs:Rd.scan false ((cds z).drop i)=j:=hs
  rw[hs]at q
  exact⟨_,rfl,q⟩
theorem Nk (T:Tx w K mg a):AK P w K mg base AS 5 a.f_n a.d_n ["text"] (Rd.spCellOf (BA a)):=by
 have G_a :=@Gc P w K mg base a T
 have G_f :=@Oz P w K mg base a T
 have G_V :=@PD P w K mg base a T
 refine T.F_n.ok Lv (fun vs H Q E h=>?_) (fun cdv A outer s H vs Q E hr h=>?_)
 .obtain⟨_,_,rfl,_⟩:=h;rfl
 obtain⟨z,sp,rfl,ok,q⟩:=h
 obtain⟨hz,hne,hl3,hsp⟩:=ok
 have hcel:=Rd.cel_cds (z:=z) hne
 have hcl:(Ba z sp).length<=146:=Gq (by have:=hz.2.1;rw[cds_len]at this;omega) hl3 fun s hs=>(hsp s hs).2
 have nz:91∉cds z:=Rd.name_no hz (by omega)
 generalize hI:Rd.inner (sp.map fun s=>cds (B6 s))=I at hcel
 have hp:De 91 (cds (Ba z sp))=[.str z,.str ⟨#[91]⟩,.str (Az (I++[93]))]:=by
  unfold De
  rw[hcel,Ag (CC _ AY),(Rd.bef_app nz).1,(Rd.bef_app nz).2,Ep]
 have zl:z.length<=1000:=by have:=hz.2.1;rw[cds_len]at this;omega
 refine⟨_,(@A5 _ _ _ _ _ (@Aj _ _ (1) _ _ _ _ Lv.nd rfl (.inl rfl) (@Bm _ _ _ _ _ _ _ _ _ _ _ _ Eg K7 K8 HR (pv 0) (@A0 _ _ _ _ _ Aw A2 (by rfl)) (by rfl) (by rfl) (by rfl) (by rfl) (by rfl)) (by rfl) (by first|exact .inl rfl|exact .inr rfl|assumption)) (@A5 _ _ _ _ _ (@AE _ _ _ _ _ _ _ _ ((@BL _ _ _ _ _ _ _ (@Cj _ _ _ _ (@Bx _ _ _ (@Av _ _ _ _ _ _ _ _ _ _ _ _ _ _ _ _ G_a (hr.mono (by omega)) (by rfl) T.m_a T.F_a.kp T.b_a .nil Ao (@A0 _ _ _ _ _ (@Af _ _ _ _ _ _ _ AH (pv 1) A1 (fun _ _=>rfl)) A2 (by rfl)) (by decide) (by rfl) (by rfl)) (by intro _;rfl))) (@C8 _ _ _ _ (@Cj _ _ _ _ (@Bx _ _ _ (@Bm _ _ _ _ _ _ _ _ _ _ _ _ Eg PySem.F.slot_str_endswith PySem.F.type_str_endswith QJ (@Af _ _ _ _ _ _ _ AH (pv 1) A1 (fun _ _=>rfl)) (@A0 _ _ _ _ _ Aw A2 (by rfl)) (by rfl) (by rfl) (by rfl) (by rfl) (by rfl)) (by intro _;rfl)))))).pt (@A9 _ _ _ (@Al _ _ _ _ BW)) AF) (@A5 _ _ _ _ _ (@Aj _ _ (2) _ _ _ _ Lv.nd rfl (.inl rfl) (@CQ _ _ _ _ _ _ _ _ _ EM (by rfl) T.z_tuple DF (@A0 _ _ _ _ _ (@Dh _ _ _ _ _ _ _ ["inner"] [none] _ _ _ _ (by rfl) (@DC _ _ _ _ (@Bm _ _ _ _ _ _ _ _ _ _ _ _ Eg OO OP KL (@D1 _ _ _ _ _ _ _ _ _ _ Fm (@Af _ _ _ _ _ _ _ AH (pv 1) A1 (fun _ _=>rfl)) DT (@Cy _ _ _ (@CS _ _ _ _ _ _ CW A1))) (@A0 _ _ _ _ _ Aw A2 (by rfl)) (by rfl) (by rfl) (by rfl) (by rfl) (by rfl))) Ta (fun _ _ _ _ _ _=>⟨(Bv (i:=0) QH rfl (.inl rfl)),@DZ _,(@Av _ _ _ _ _ _ _ _ _ _ _ _ _ _ _ _ G_f (hr.mono (by omega)) (by rfl) T.m_f T.F_f.kp T.b_f .nil Ao (@A0 _ _ _ _ _ (pv 0) A2 (by rfl)) (by decide) (by rfl) (by rfl))⟩) (by intro _;rfl)) A2 (by rfl)) (by decide) (by decide) (by rfl) (by rfl)) (by rfl) (by first|exact .inl rfl|exact .inr rfl|assumption)) (@A5 _ _ _ _ _ (@AE _ _ _ _ _ _ _ _ ((@BL _ _ _ _ _ _ _ (@An _ _ _ _ _ _ _ _ Ft (@AR _ _ _ _ _ _ _ _ _ BJ (by rfl) T.z_len Bo (@A0 _ _ _ _ _ (pv 2) A2 (by rfl)) (by decide) (by decide) (by rfl) (by rfl)) (@C3 _ _ _ _ _ (by rfl) T.g_MOST_SPOTS T.r_MOST_SPOTS (by decide)) (@Am _ _ (by decide) (by decide))) (@C8 _ _ _ _ (@Cj _ _ _ _ (@Bx _ _ _ (@AR _ _ _ _ _ _ _ _ _ (@Lx _ rfl) (by rfl) T.z_all KY (@A0 _ _ _ _ _ (@Dh _ _ _ _ _ _ _ ["spot"] [none] _ _ _ _ (by rfl) (@GZ _ _ _ _ (pv 2)) Te (fun _ _ _ _ _ _=>⟨(Bv (i:=0) QQ rfl (.inl rfl)),@DZ _,(@DI _ _ _ _ _ _ _ _ KB (pv 0) BW (@Am _ _ (by decide) (by decide)))⟩) (by intro _;rfl)) A2 (by rfl)) (by decide) (by decide) (by rfl) (by rfl)) (by intro _;rfl)))))).pt (@A9 _ _ _ (@Al _ _ _ _ BW)) AF) (@A9 _ _ _ (@Al _ _ _ _ (@GA _ _ _ _ _ _ _ _ _ _ _ _ _ _ _ _ _ T.mk_Cell G_V (hr.mono (by omega)) (by rfl) T.mc_Cell T.b_V .nil Ao (@A0 _ _ _ _ _ (@Af _ _ _ _ _ _ _ AH (pv 1) A1 (fun _ _=>rfl)) (@A0 _ _ _ _ _ (pv 2) A2 (by rfl)) (by rfl)) (by decide) (by rfl) (by rfl)))))))),?_⟩
 refine⟨_,rfl,rfl,_,91,rfl,rfl,Ax (by omega),fun r hr'=>?_⟩
 rw[hp]
 dsimp only[Ar]
 refine⟨_,rfl,r,_,_,_,rfl,rfl,Ah.of A6,rfl,z,rfl,zl,fun H2 e2=>⟨_,rfl,?_⟩⟩
 rw[B5 hz]
 refine Aq ?_
 have hr2:=e2 _ _ (A6 (H:=H))
 refine⟨_,rfl,r,_,_,_,rfl,rfl,Ah.of hr2,rfl,rfl,_,93,rfl,rfl,_,rfl,?_⟩
 have lst:(cds (Az (I++[93]))).getLast?=some 93:=by rw[B7,List.getLast?_concat]
 rw[B5 lst]
 refine Aq ?_
 have hIl:(Az (I++[93])).length<=146:=by
  have e:=congrArg List.length hcel
  rw[cds_len,Au,AW]at e
  rw[CN]
  omega
 refine⟨_,rfl,r,_,_,_,rfl,rfl,Ah.of hr2,rfl,_,rfl,_,rfl,_,rfl,Ax (by omega),rfl,_,_,rfl,rfl,by decide +kernel,?_,?_,fun lp ps hlp hs=>?_⟩
 .have e:cds (Str.ofString "][")=[93,91]:=by decide +kernel
  rw[e]
  intro c hc
  simp only[AQ,CL,or_false]at hc
  omega
 .rw[B7,Rd.cut_last,CN]
  rw[CN,Au]at hIl
  omega
 have hps:ps.map cds=sp.map fun s=>cds (B6 s):=by
  have e:cds (Str.ofString "][")=[93,91]:=by decide +kernel
  rw[e,B7,B7,Rd.cut_last,←hI]at hs
  refine hs.fn (Rd.inner_split (by simpa using hne) fun x hx=>?_)
  obtain⟨s,hs',rfl⟩:=DE.mp hx
  exact Rd.spot_free (hsp s hs') (by omega)
 have psl:ps.length=sp.length:=by have:=congrArg List.length hps;simpa using this
 have H3s:=Ac hlp (.lst (ps.map V.str))
 refine⟨lp,rfl,⟨_,A3.of A6⟩,?_⟩
 refine F0 (xs:=ps.map V.str) (fun i ys H'=>A7 (upd H2 lp (.lst (ps.map V.str))) H'/\AC (BY H') ys (sp.take i)/\i<=sp.length) ⟨A7.refl _,⟨rfl,fun _ _ _ x=>by cases x⟩,BC _⟩ (Ax (by rw[Ap];omega)) (fun i ys H' hi p=>?_) (fun i x ys H' hc p=>?_) (fun ys H' p t ht=>?_)
 .exact⟨A3.of (p.1 _ _ A6),by rw[p.2.1.1,Bh];omega⟩
 .obtain⟨pe,pa,pi⟩:=p
  rw[D8]at hc
  cases hy:ps[i]? with
  |none=>rw[hy]at hc;cases hc
  |
   some y=>
   rw[hy]at hc
   cases hc
   have hil:i<sp.length:=by rw[←psl];exact(BM.mp hy).1
   have ey:cds y=cds (B6 sp[i]):=by
    have e:=congrArg (fun l:List (List Nat)=>l[i]?) hps
    simp only[D8,hy,Bg hil,Option.map_some]at e
    exact BP e
   have hn:=hsp sp[i] (EV hil)
   refine⟨_,rfl,y,rfl,?_,?_⟩
   .have:=Fe hn.2
    rw[←cds_len]at this ⊢
    rw[ey]
    omega
   rw[ey,Rd.spot_read hn]
   intro r5 H5 e5 h5
   rw[Ep]at h5
   refine⟨pe.trans e5,?_,hil⟩
   rw[Di (Bg hil)]
   exact(pa.mono fun _ _ x=>x.tk (A7.tk e5)).snoc ⟨r5,rfl,h5⟩
 obtain⟨pe,pa,-⟩:=p
 rw[Ap,psl,DN]at pa
 refine⟨t,ys,rfl,.inl ⟨A3.of A6,fun tp htp=>?_⟩⟩
 dsimp only[Ar]
 have s4:A7 H (upd (upd H' t (.lst ys)) tp (.tup ys)):=(Ac hr' _).trans (e2.trans (H3s.trans (pe.trans ((Ac ht _).trans (Ac htp _)))))
 have pa4:AC (BY (upd (upd H' t (.lst ys)) tp (.tup ys))) ys sp:=pa.mono fun _ _ x=>x.tk (A7.tk ((Ac ht _).trans (Ac htp _)))
 have htp4:(upd (upd H' t (.lst ys)) tp (.tup ys)) tp=some (.tup ys):=A6
 have hr4:(upd (upd H' t (.lst ys)) tp (.tup ys)) r=some (.tup [.str z,.str ⟨#[91]⟩,.str (Az (I++[93]))]):=((Ac ht _).trans (Ac htp _)) _ _ (pe _ _ (H3s _ _ hr2))
 generalize upd (upd H' t (.lst ys)) tp (.tup ys)=H4 at s4 pa4 htp4 hr4
 have yl:ys.length=sp.length:=pa.1
 refine⟨_,rfl,tp,ys,rfl,.inr (Ah.of htp4),_,_,rfl,rfl,_,rfl,?_⟩
 have nl:decide ((3:Int)<((ys.length:Nat):Int))=false:=BI (by omega)
 rw[nl]
 refine Aq ?_
 refine⟨_,rfl,tp,rfl,⟨_,Ah.of htp4⟩,?_⟩
 refine IR (xs:=ys) (fun i bs H'=>H'=H4/\bs=(List.replicate i true).map V.bl) ⟨rfl,rfl⟩ (Ax (by omega)) (fun i bs H' hi p=>?_) (fun i x bs H' hc p=>?_) (fun bs H' p t5 ht5=>?_)
 .obtain⟨rfl,rfl⟩:=p
  exact⟨Ah.of htp4,by simp⟩
 .obtain⟨rfl,rfl⟩:=p
  have hil:i<sp.length:=by rw[←yl];exact(BM.mp hc).1
  obtain⟨t6,rfl,_⟩:=pa4.2 i x sp[i] hc (Bg hil)
  refine⟨_,rfl,rfl,rfl,?_⟩
  rw[List.replicate_succ',B3]
  rfl
 obtain⟨rfl,rfl⟩:=p
 refine⟨t5,_,rfl,A3.of A6,_,rfl,?_⟩
 have al:(List.replicate ys.length true).all id=true:=by simp
 rw[al]
 refine Aq ?_
 have s5:=Ac ht5 (.lst ((List.replicate ys.length true).map V.bl))
 refine⟨_,rfl,r,_,0,_,rfl,rfl,Ah.of (s5 _ _ hr4),rfl,_,rfl,fun x dx nx ndx ne=>⟨x,dx,[_,_],rfl,rfl,A6,fun H6 k6 hx6=>⟨rfl,?_⟩⟩⟩
 obtain⟨dx6,hx6⟩:=hx6
 have e6:=FX nx ndx k6
 exact q _ _ (s4.trans (s5.trans e6)) ⟨x,dx6,tp,rfl,hx6,ys,(s5.trans e6) _ _ htp4,pa4.mono fun _ _ x=>x.tk (A7.tk (s5.trans e6))⟩
theorem RE (T:Tx w K mg a):AK P w K mg base AS 6 a.f_B a.d_B ["text"] (Rd.spPartOf (BA a)):=by
 have G_a :=@Gc P w K mg base a T
 have G_c :=@HN P w K mg base a T
 have G_n :=@Nk P w K mg base a T
 have G_U :=@Uc P w K mg base a T
 have G_T :=@V9 P w K mg base a T
 refine T.F_B.ok NR (fun vs H Q E h=>?_) (fun cdv A outer s H vs Q E hr h=>?_)
 .obtain⟨_,rfl,_⟩:=h;rfl
 obtain⟨k,rfl,ok,q⟩:=h
 refine⟨_,(@A5 _ _ _ _ _ (@AE _ _ _ _ _ _ _ _ (@An _ _ _ _ _ _ _ _ J4 (pv 0) (@C3 _ _ _ _ _ (by rfl) T.g_SIGNS T.r_SIGNS (by decide)) (by with_unfolding_all rfl)) (@A9 _ _ _ (@Al _ _ _ _ (pv 0))) AF) (@A5 _ _ _ _ _ (@AE _ _ _ _ _ _ _ _ (@Bx _ _ _ (@Av _ _ _ _ _ _ _ _ _ _ _ _ _ _ _ _ G_a (hr.mono (by omega)) (by rfl) T.m_a T.F_a.kp T.b_a .nil Ao (@A0 _ _ _ _ _ (pv 0) A2 (by rfl)) (by decide) (by rfl) (by rfl)) (by intro _;rfl)) (@A9 _ _ _ (@Al _ _ _ _ (@GA _ _ _ _ _ _ _ _ _ _ _ _ _ _ _ _ _ T.mk_Value G_U (hr.mono (by omega)) (by rfl) T.mc_Value T.b_U .nil Ao (@A0 _ _ _ _ _ (pv 0) A2 (by rfl)) (by decide) (by rfl) (by rfl)))) AF) (@A5 _ _ _ _ _ (@Aj _ _ (1) _ _ _ _ NR.nd rfl (.inl rfl) (@Av _ _ _ _ _ _ _ _ _ _ _ _ _ _ _ _ G_c (hr.mono (by omega)) (by rfl) T.m_c T.F_c.kp T.b_c .nil Ao (@A0 _ _ _ _ _ (pv 0) A2 (by rfl)) (by decide) (by rfl) (by rfl)) (by rfl) (by first|exact .inl rfl|exact .inr rfl|assumption)) (@A5 _ _ _ _ _ (@AE _ _ _ _ _ _ _ _ (@An _ _ _ _ _ _ _ _ KB (pv 1) BW (@Am _ _ (by decide) (by decide))) (@A9 _ _ _ (@Al _ _ _ _ (@GA _ _ _ _ _ _ _ _ _ _ _ _ _ _ _ _ _ T.mk_Number G_T (hr.mono (by omega)) (by rfl) T.mc_Number T.b_T .nil Ao (@A0 _ _ _ _ _ (pv 1) A2 (by rfl)) (by decide) (by rfl) (by rfl)))) AF) (@A9 _ _ _ (@Al _ _ _ _ (@Av _ _ _ _ _ _ _ _ _ _ _ _ _ _ _ _ G_n (hr.mono (by omega)) (by rfl) T.m_n T.F_n.kp T.b_n .nil Ao (@A0 _ _ _ _ _ (pv 0) A2 (by rfl)) (by decide) (by rfl) (by rfl)))))))),?_⟩
 refine⟨_,rfl,_,_,rfl,rfl,_,rfl,?_⟩
 cases k with
 |
  s c=>
  have e:=Rd.is_sign ok
  refine AD (fun _=>⟨_,rfl,q _ _ (A7.refl _) rfl⟩) (fun n=>absurd e n)
 |
  t w=>
  obtain⟨c,r,ec,hc⟩:=(Rd.Tk.whole ok).head
  have e:=Rd.not_sign ec hc
  refine AD (fun y=>absurd (e.symm.trans y) BQ) (fun _=>?_)
  cases w with
  |j _ _ _=>exact ok.elim
  |
   v z=>
   have hn:Bp (cds z):=ok
   refine⟨_,rfl,z,rfl,?_,fun H1 e1=>⟨_,rfl,?_⟩⟩
   .have:=hn.2.1;rw[cds_len]at this;omega
   refine AD (fun _=>?_) (fun n=>absurd (B5 hn) n)
   refine⟨_,rfl,fun x dx nx ndx ne=>⟨x,dx,[_],rfl,rfl,A6,fun H2 k2 hx2=>⟨rfl,?_⟩⟩⟩
   obtain⟨dx2,hx2⟩:=hx2
   exact q _ _ (e1.trans (FX nx ndx k2)) ⟨x,dx2,rfl,hx2⟩
  |
   n i=>
   obtain⟨g,d⟩:=Rd.nS_good ok.1 ok.2
   have l18:(nS i).length<=1000:=by have:=g.2.1;rw[cds_len]at this;omega
   refine⟨_,rfl,nS i,rfl,l18,fun H1 e1=>⟨_,rfl,?_⟩⟩
   refine AD (fun y=>absurd (dT y) (Rd.num_name g)) (fun _=>?_)
   refine⟨_,rfl,nS i,rfl,l18,fun H2 e2=>?_⟩
   rw[IP g,d]
   dsimp only[Ar]
   refine⟨_,rfl,rfl,_,rfl,?_⟩
   refine AD (fun _=>?_) (fun n=>absurd rfl n)
   refine⟨_,rfl,fun x dx nx ndx ne=>⟨x,dx,[_],rfl,rfl,A6,fun H3 k3 hx3=>⟨rfl,?_⟩⟩⟩
   obtain⟨dx3,hx3⟩:=hx3
   exact q _ _ (e1.trans (e2.trans (FX nx ndx k3))) ⟨x,dx3,rfl,hx3⟩
  |
   c z sp=>
   have ok':=ok
   obtain⟨hz,hne,hl3,hsp⟩:=ok
   have hcel:=Rd.cel_cds (z:=z) hne
   have hcl:(Ba z sp).length<=146:=Gq (by have:=hz.2.1;rw[cds_len]at this;omega) hl3 fun s hs=>(hsp s hs).2
   have m91:(91:Nat)∈cds (Ba z sp):=by rw[hcel];exact CC _ AY
   refine⟨_,rfl,Ba z sp,rfl,by omega,fun H1 e1=>⟨_,rfl,?_⟩⟩
   refine AD (fun y=>absurd (dT y) (JH m91 (by omega))) (fun _=>?_)
   refine⟨_,rfl,Ba z sp,rfl,by omega,fun H2 e2=>?_⟩
   rw[Iz (JV m91 (by omega))]
   dsimp only[Ar]
   refine⟨_,rfl,rfl,_,rfl,?_⟩
   refine AD (fun y=>absurd y (by decide)) (fun _=>?_)
   exact⟨_,rfl,z,sp,rfl,ok',fun x H3 e3 hx=>q _ _ (e1.trans (e2.trans e3)) hx⟩
theorem VG (T:Tx w K mg a):AK P w K mg base AS 7 a.f_C a.d_C ["text"] (Rd.spPartsOf (BA a)):=by
 have G_A :=@Sl P w K mg base a T
 have G_B :=@RE P w K mg base a T
 refine T.F_C.ok GL (fun vs H Q E h=>?_) (fun cdv A outer s H vs Q E hr h=>?_)
 .obtain⟨_,_,rfl,_⟩:=h;rfl
 obtain⟨z,ks,rfl,hz,zl,ok,ad,q⟩:=h
 have hlen:=cds_len z
 refine⟨_,(@A5 _ _ _ _ _ (@Aj _ _ (1) _ _ _ _ GL.nd rfl (.inl rfl) (@Bl _ _ _ _ A2) (by rfl) (by first|exact .inl rfl|exact .inr rfl|assumption)) (@A5 _ _ _ _ _ (@Aj _ _ (2) _ _ _ _ GL.nd rfl (.inl rfl) A1 (by rfl) (by first|exact .inl rfl|exact .inr rfl|assumption)) (@A5 _ _ _ _ _ (@HV _ _ _ _ _ _ PassesOwn.never (@An _ _ _ _ _ _ _ _ Eu (pv 2) (@AR _ _ _ _ _ _ _ _ _ HH (by rfl) T.z_len Bo (@A0 _ _ _ _ _ (pv 0) A2 (by rfl)) (by decide) (by decide) (by rfl) (by rfl)) (@Am _ _ (by decide) (by decide))) (@A5 _ _ _ _ _ (@Aj _ _ (3) _ _ _ _ GL.nd rfl (.inl rfl) (@Av _ _ _ _ _ _ _ _ _ _ _ _ _ _ _ _ G_A (hr.mono (by omega)) (by rfl) T.m_A T.F_A.kp T.b_A .nil Ao (@A0 _ _ _ _ _ (pv 0) (@A0 _ _ _ _ _ (pv 2) A2 (by rfl)) (by rfl)) (by decide) (by rfl) (by rfl)) (by rfl) (by first|exact .inl rfl|exact .inr rfl|assumption)) (@A5 _ _ _ _ _ (@Aj _ _ (4) _ _ _ _ GL.nd rfl (.inl rfl) (@Av _ _ _ _ _ _ _ _ _ _ _ _ _ _ _ _ G_B (hr.mono (by omega)) (by rfl) T.m_B T.F_B.kp T.b_B .nil Ao (@A0 _ _ _ _ _ (@D1 _ _ _ _ _ _ _ _ _ _ Fm (pv 0) (@Cy _ _ _ (pv 2)) (@Cy _ _ _ (pv 3))) A2 (by rfl)) (by decide) (by rfl) (by rfl)) (by rfl) (by first|exact .inl rfl|exact .inr rfl|assumption)) (@A5 _ _ _ _ _ (@AE _ _ _ _ _ _ _ _ (@An _ _ _ _ _ _ _ _ Ey (pv 4) BW (@Am _ _ (by decide) (by decide))) (@A9 _ _ _ (@Al _ _ _ _ BW)) AF) (@A5 _ _ _ _ _ (@BF _ _ _ _ (@Bm _ _ _ _ _ _ _ _ _ _ _ _ Bs Cp Cq Cc (pv 1) (@A0 _ _ _ _ _ (pv 4) A2 (by rfl)) (by rfl) (by rfl) (by rfl) (by rfl) (by rfl)) (by rfl)) (@A9 _ _ _ (@Aj _ _ (2) _ _ _ _ GL.nd rfl (.inl rfl) (pv 3) (by rfl) (by first|exact .inl rfl|exact .inr rfl|assumption)))))))) (@A9 _ _ _ (@Al _ _ _ _ (pv 1)))))),?_⟩
 refine⟨AG rfl,fun l hl=>?_⟩
 dsimp only[Ar]
 refine⟨fun m σ' H'=>∃(j i:Nat) (xs:List V) (o3 o4:Option V),σ'=[some (.str z),some (.ref l),some (.int (i:Int)),o3,o4]/\j<=ks.length/\m=ks.length-j/\(cds z).drop i=Rd.txts (ks.drop j)/\i<=(cds z).length/\xs.length<=i/\A7 H H'/\H' l=some (.lst xs)/\AC (Rd.PtAt (BA a) H') xs (ks.take j),⟨_,0,0,[],none,none,rfl,BC _,rfl,hz,BC _,BC _,Ac hl _,A6,rfl,fun _ _ _ x=>by cases x⟩,?_⟩
 rintro m σ' H1 ⟨j,i,xs,o3,o4,rfl,hj,rfl,hd,hi,hxl,e1,hl1,pa⟩
 refine⟨_,rfl,_,rfl,_,rfl,Ax (by omega),_,_,rfl,rfl,_,rfl,?_⟩
 refine AD (fun lt=>?_) (fun ge=>?_)
 .have lt:((i:Nat):Int)<((z.length:Nat):Int):=dT lt
  have jl:j<ks.length:=GO fun n=>by
   have nk:ks.drop j=[]:=LJ (by omega)
   rw[nk]at hd
   have:=congrArg List.length hd
   rw[Cn]at this
   have:(cds z).length-i=0:=this
   omega
  have ed:=G9 jl
  rw[ed,Rd.txts_cons]at hd
  have okj:=ok ks[j] (EV jl)
  obtain⟨hp,hp1⟩:=Rd.pend_cons okj (l:=ks.drop (j+1)) (fun x hx=>ok x (GM hx)) (by rw[←ed];exact Rd.adj_drop j ad)
  have hle:i+(cds (ks[j]).txt).length<=(cds z).length:=by
   have:=congrArg List.length hd
   rw[Cn,Au]at this
   omega
  refine⟨fun σ' H'=>∃m',m'<ks.length-j/\∃(j i:Nat) (xs:List V) (o3 o4:Option V),σ'=[some (.str z),some (.ref l),some (.int (i:Int)),o3,o4]/\j<=ks.length/\m'=ks.length-j/\(cds z).drop i=Rd.txts (ks.drop j)/\i<=(cds z).length/\xs.length<=i/\A7 H H'/\H' l=some (.lst xs)/\AC (Rd.PtAt (BA a) H') xs (ks.take j),fun σ' H' x=>x,?_⟩
  refine⟨_,rfl,_,rfl,z,i,rfl,by omega,zl,?_⟩
  rw[hd,hp]
  dsimp only[Ar]
  have ecut:Az (Ca (cds z) (some ((i:Nat):Int)) (some ((i+(cds (ks[j]).txt).length:Nat):Int)))=(ks[j]).txt:=by
   rw[Kn _ (by omega) (by omega) (by omega) (by omega)]
   rw[show(((i:Nat):Int)).toNat=i by omega,show(((i+(cds (ks[j]).txt).length:Nat):Int)).toNat-i=(cds (ks[j]).txt).length by omega,hd,GN,Ep]
  refine⟨_,rfl,_,rfl,_,rfl,_,rfl,_,rfl,_,rfl,Ax (by omega),?_⟩
  rw[ecut]
  refine⟨ks[j],rfl,okj,fun x H2 e2 hx=>?_⟩
  dsimp only[Ar]
  refine⟨_,rfl,rfl,_,rfl,?_⟩
  refine AD (fun y=>absurd (dT y) (hx.some okj)) (fun _=>?_)
  have hl2:=e2 _ _ hl1
  have nl:=Rd.NL.upd (ys:=xs++[x]) hl2
  refine⟨_,rfl,.inl ⟨rfl,_,A3.of hl2⟩,_,rfl,l,_,_,rfl,rfl,hl2,Ce (by omega),_,rfl,?_⟩
  refine⟨ks.length-(j+1),by omega,j+1,i+(cds (ks[j]).txt).length,xs++[x],_,_,rfl,jl,rfl,?_,hle,by rw[Au,BD];omega,?_,A6,?_⟩
  .rw[←Ia,hd,K3]
  .exact fun b o e=>by rw[A8 (AI e hl)];exact e2 _ _ (e1 b o e)
  .rw[Di (Bg jl)]
   exact(pa.mono fun _ _ y=>(y.over e2).nl nl).snoc (hx.nl nl)
 .have ge:¬((i:Nat):Int)<((z.length:Nat):Int):=dF ge
  have nl:(cds z).drop i=[]:=LJ (by omega)
  rw[nl]at hd
  have jl:j=ks.length:=GO fun n=>by
   have jl:j<ks.length:=by omega
   have ed:=G9 jl
   rw[ed,Rd.txts_cons]at hd
   have hp1:=(Rd.pend_cons (ok ks[j] (EV jl)) (l:=ks.drop (j+1)) (fun x hx=>ok x (GM hx)) (by rw[←ed];exact Rd.adj_drop j ad)).2
   have:=congrArg List.length hd
   rw[Au]at this
   have:0=(cds (ks[j]).txt).length+(Rd.txts (ks.drop (j+1))).length:=this
   omega
  subst jl
  rw[DN]at pa
  exact⟨_,rfl,q l xs H1 e1 hl hl1 pa⟩
theorem Up (T:Tx w K mg a):AK P w K mg base AS 3 a.f_j a.d_j ["terms","signs","least"] (Rd.spJoinW (BA a)):=by
 have G_W :=@Pc P w K mg base a T
 refine T.F_j.ok Lo (fun vs H Q E h=>?_) (fun cdv A outer s H vs Q E hr h=>?_)
 .obtain⟨_,_,_,_,_,_,_,rfl,_⟩:=h;rfl
 obtain⟨l,r,ts,ss,Tt,S,k,rfl,lr,k1,hl,hr',pa,es,hS,hn,h1000,q⟩:=h
 subst es
 refine⟨_,(@A9 _ _ _ (@HV _ _ _ _ _ _ PassesOwn.never ((@Df _ _ _ _ _ _ _ (@An _ _ _ _ _ _ _ _ (@Hs _ (@Ez _ _ hr)) (pv 1) (@Bl _ _ _ _ A2) (@Am _ _ (by decide) (by decide))) (@DY _ _ _ _ (@An _ _ _ _ _ _ _ _ Vu (@Je _ _ _ _ _ _ (@C3 _ _ _ _ _ (by rfl) T.g_STRENGTHS T.r_STRENGTHS (by decide)) (@Af _ _ _ _ _ _ _ AV (pv 1) (@CS _ _ _ _ _ _ CW A1) (fun _ _=>rfl)) (fun _ _=>rfl)) (pv 2) (@Am _ _ (by decide) (by decide)))))).pt (@A5 _ _ _ _ _ (@Aj _ _ (3) _ _ _ _ Lo.nd rfl (.inl rfl) (@DU _ _ _ _ _ _ _ _ _ Bs ED EE Ef (pv 0) (by rfl) (by rfl)) (by rfl) (by first|exact .inl rfl|exact .inr rfl|assumption)) (@A5 _ _ _ _ _ (@Aj _ _ (4) _ _ _ _ Lo.nd rfl (.inl rfl) (@DU _ _ _ _ _ _ _ _ _ Bs ED EE Ef (pv 0) (by rfl) (by rfl)) (by rfl) (by first|exact .inl rfl|exact .inr rfl|assumption)) (@A9 _ _ _ (@BF _ _ _ _ (@Bm _ _ _ _ _ _ _ _ _ _ _ _ Bs Cp Cq Cc (pv 0) (@A0 _ _ _ _ _ (@GA _ _ _ _ _ _ _ _ _ _ _ _ _ _ _ _ _ T.mk_Joined G_W (hr.mono (by omega)) (by rfl) T.mc_Joined T.b_W .nil Ao (@A0 _ _ _ _ _ (@DU _ _ _ _ _ _ _ _ _ Bs ED EE Ef (pv 1) (by rfl) (by rfl)) (@A0 _ _ _ _ _ (pv 4) (@A0 _ _ _ _ _ (pv 3) A2 (by rfl)) (by rfl)) (by rfl)) (by decide) (by rfl) (by rfl)) A2 (by rfl)) (by rfl) (by rfl) (by rfl) (by rfl) (by rfl)) (by rfl))))))),?_⟩
 refine⟨fun m σ' H'=>∃(ts:List V) (T':List Tw) (S':List Nat) (o3 o4:Option V),σ'=[some (.ref l),some (.ref r),some (.int (k:Int)),o3,o4]/\m=S'.length/\Rd.B2 l r H H'/\H' l=some (.lst ts)/\H' r=some (.lst (S'.reverse.map fun a=>V.str (Rd.sg a)))/\AC (fun v t=>Bt (BA a) H' t v) ts T'.reverse/\(∀a∈S',a∈Rd.sg5/\a≠41)/\Rd.nb S'<T'.length/\T'.length<=1000/\Rd.jw k S' T'=Rd.jw k S Tt,⟨_,ts,Tt,S,none,none,rfl,rfl,fun b o e _ _=>e,hl,hr',pa,hS,hn,h1000,rfl⟩,?_⟩
 rintro m σ' H1 ⟨ts1,T1,S1,o3,o4,rfl,rfl,b1,hl1,hr1,pa1,hS1,hn1,l1,ej⟩
 refine⟨_,rfl,AG rfl,fun e0 he0=>?_⟩
 have r1:(upd H1 e0 (.lst [])) r=some (.lst (S1.reverse.map fun a=>V.str (Rd.sg a))):=by rw[A8 (AI hr1 he0)];exact hr1
 have l1':(upd H1 e0 (.lst [])) l=some (.lst ts1):=by rw[A8 (AI hl1 he0)];exact hl1
 have b2:Rd.B2 l r H (upd H1 e0 (.lst [])):=fun b o e n1 n2=>Ac he0 _ _ _ (b1 b o e n1 n2)
 have pa2:AC (fun v t=>Bt (BA a) (upd H1 e0 (.lst [])) t v) ts1 T1.reverse:=pa1.mono fun _ _ x=>Bt.over (Ac he0 _) x
 have he2:(upd H1 e0 (.lst [])) e0=some (.lst []):=A6
 generalize upd H1 e0 (.lst [])=H2 at r1 l1' b2 pa2 he2
 refine⟨r,e0,_,rfl,rfl,A3.of r1,A3.of he2,_,rfl,?_⟩
 have fin:Rd.jw k S1 T1=(T1,S1)->Q .non H2:=fun hj=>q ts1 _ H2 b2 l1' r1 (by rw[←ej,hj];exact pa2) (by rw[←ej,hj])
 cases S1 with
 |
  nil=>
  refine AD (fun y=>absurd y (by decide)) (fun _=>?_)
  exact AD (fun y=>absurd y BQ) (fun _=>fin (by cases T1<;>rfl))
 |
  cons c S2=>
  refine AD (fun _=>?_) (fun y=>absurd (by simp) y)
  have hc:=hS1 c AY
  have er:(c::S2).reverse.map (fun a=>V.str (Rd.sg a))=S2.reverse.map (fun a=>V.str (Rd.sg a))++[.str (Rd.sg c)]:=by rw[GQ,B3];rfl
  rw[er]at r1
  refine⟨_,rfl,_,rfl,r,_,_,_,rfl,rfl,A3.of r1,L1 _ _,a.u_STRENGTHS,Rd.strV,.inr (Rd.sg c),_,rfl,T.d_STRENGTHS P,rfl,Rd.st_val hc,_,rfl,_,_,rfl,rfl,_,rfl,?_⟩
  refine AD (fun ge=>?_) (fun lt=>fin (Rd.jw_no (by have:=dF lt;omega)))
  have ge:(k:Int)<=((Rd.st c:Nat):Int):=dT ge
  have n40:c≠40:=fun z=>by subst z;exact absurd ge (by show ¬(k:Int)<=0;omega)
  rw[Rd.nb_cons n40]at hn1
  match T1,hn1,l1,ej,pa2,fin with
  |[],hn1,_,_,_,_=>exact absurd hn1 (by show ¬_<0;omega)
  |[_],hn1,_,_,_,_=>exact absurd hn1 (by show ¬_<1;omega)
  |
   t2::t1::T2,hn1,l1,ej,pa2,_=>
   rw[Rd.jw_yes (by omega)]at ej
   rw[GQ,GQ]at pa2
   obtain⟨u1,x2,rfl,pa3,hx2⟩:=Rd.all2_pop pa2
   obtain⟨u2,x1,rfl,pa4,hx1⟩:=Rd.all2_pop pa3
   refine⟨fun σ' H'=>∃m',m'<(c::S2).length/\∃(ts:List V) (T':List Tw) (S':List Nat) (o3 o4:Option V),σ'=[some (.ref l),some (.ref r),some (.int (k:Int)),o3,o4]/\m'=S'.length/\Rd.B2 l r H H'/\H' l=some (.lst ts)/\H' r=some (.lst (S'.reverse.map fun a=>V.str (Rd.sg a)))/\AC (fun v t=>Bt (BA a) H' t v) ts T'.reverse/\(∀a∈S',a∈Rd.sg5/\a≠41)/\Rd.nb S'<T'.length/\T'.length<=1000/\Rd.jw k S' T'=Rd.jw k S Tt,fun σ' H' x=>x,?_⟩
   refine⟨_,rfl,.inl ⟨rfl,_,A3.of l1'⟩,l,_,x2,rfl,rfl,l1',C9.1,?_⟩
   rw[C9.2]
   dsimp only[Ar]
   refine⟨_,rfl,.inl ⟨rfl,_,A3.of A6⟩,l,_,x1,rfl,rfl,A6,C9.1,?_⟩
   rw[C9.2,NW]
   dsimp only[Ar]
   have n3:Rd.NL H2 (upd H2 l (.lst u2)):=Rd.NL.upd l1'
   have r3:(upd H2 l (.lst u2)) r=some (.lst (S2.reverse.map (fun a=>V.str (Rd.sg a))++[.str (Rd.sg c)])):=by rw[A8 (Ne.symm lr)];exact r1
   have l3:(upd H2 l (.lst u2)) l=some (.lst u2):=A6
   have b3:Rd.B2 l r H (upd H2 l (.lst u2)):=fun b o e m1 m2=>by rw[A8 m1];exact b2 b o e m1 m2
   generalize upd H2 l (.lst u2)=H3 at n3 r3 l3 b3
   refine⟨_,rfl,.inl ⟨rfl,_,A3.of l3⟩,_,rfl,.inl ⟨rfl,_,A3.of r3⟩,r,_,.str (Rd.sg c),rfl,rfl,r3,C9.1,?_⟩
   rw[C9.2]
   have n4:Rd.NL H3 (upd H3 r (.lst (S2.reverse.map fun a=>V.str (Rd.sg a)))):=Rd.NL.upd r3
   have r4:(upd H3 r (.lst (S2.reverse.map fun a=>V.str (Rd.sg a)))) r=some (.lst (S2.reverse.map fun a=>V.str (Rd.sg a))):=A6
   have l4:(upd H3 r (.lst (S2.reverse.map fun a=>V.str (Rd.sg a)))) l=some (.lst u2):=by rw[A8 lr];exact l3
   have b4:Rd.B2 l r H (upd H3 r (.lst (S2.reverse.map fun a=>V.str (Rd.sg a)))):=fun b o e m1 m2=>by rw[A8 m2];exact b3 b o e m1 m2
   generalize upd H3 r (.lst (S2.reverse.map fun a=>V.str (Rd.sg a)))=H4 at n4 r4 l4 b4
   refine⟨_,rfl,_,rfl,fun x dx nx ndx ne=>⟨x,dx,[_,_,_],rfl,rfl,A6,fun H5 k5 hx5=>⟨rfl,?_⟩⟩⟩
   obtain⟨dx5,hx5⟩:=hx5
   have e5:=FX nx ndx k5
   have l5:=e5 _ _ l4
   have n6:Rd.NL H5 (upd H5 l (.lst (u2++[.ref x]))):=Rd.NL.upd l5
   have u2l:u2.length<=1000:=by
    rw[pa4.1,K5]
    rw[AW,AW]at l1
    omega
   have n26:Rd.NL H2 (upd H5 l (.lst (u2++[.ref x]))):=n3.trans (n4.trans ((Rd.NL.of e5).trans n6))
   refine⟨l,_,_,rfl,rfl,l5,Ce (by omega),S2.length,JY _,u2++[.ref x],.j (Rd.sg c) t1 t2::T2,S2,_,_,rfl,rfl,fun b o e m1 m2=>?_,A6,?_,?_,fun d hd=>hS1 d (BH _ hd),?_,?_,ej⟩
   .rw[A8 m1];exact e5 _ _ (b4 b o e m1 m2)
   .rw[A8 (Ne.symm lr)];exact e5 _ _ r4
   .rw[GQ]
    exact(pa4.mono fun _ _ y=>Rd.tb_nl n26 y).snoc ⟨x,dx5,x1,x2,rfl,n6 _ _ hx5 (fun _ z=>nomatch z),Rd.tb_nl n26 hx1,Rd.tb_nl n26 hx2⟩
   .rw[AW]at hn1 ⊢
    rw[AW]at hn1
    omega
   .rw[AW]at l1 ⊢
    rw[AW]at l1
    omega
theorem PC (T:Tx w K mg a):AK P w K mg base AS 4 a.f_D a.d_D ["parts"] (Rd.spTermOf (BA a)):=by
 have G_j :=@Up P w K mg base a T
 refine T.F_D.ok FO (fun vs H Q E h=>?_) (fun cdv A outer s H vs Q E hr h=>?_)
 .obtain⟨_,_,_,_,_,_,rfl,_⟩:=h;rfl
 obtain⟨l,xs,ks,Tt,S,t,rfl,hl,pa,xl,ok,hrun,hj,q⟩:=h
 have isT:∀{H':Hp} {x:V} {w':Tw},Bt (BA a) H' w' x->∃ty,Cz K H' x ty/\PySem.W.kitOne K ty (.ref a.c_Term)=some true:=fun{H' x w'} hx=>by
  cases w' with
  |n i=>obtain⟨_,_,rfl,hx⟩:=hx;exact⟨_,T.ty_Number _ _ _ _ hx,T.is_Number_Term⟩
  |v z=>obtain⟨_,_,rfl,hx⟩:=hx;exact⟨_,T.ty_Value _ _ _ _ hx,T.is_Value_Term⟩
  |c z sp=>obtain⟨_,_,_,rfl,hx,_⟩:=hx;exact⟨_,T.ty_Cell _ _ _ _ hx,T.is_Cell_Term⟩
  |j z l r=>obtain⟨_,_,_,_,rfl,hx,_⟩:=hx;exact⟨_,T.ty_Joined _ _ _ _ hx,T.is_Joined_Term⟩
 refine⟨_,(@A5 _ _ _ _ _ (@Aj _ _ (1) _ _ _ _ FO.nd rfl (.inl rfl) (@Bl _ _ _ _ A2) (by rfl) (by first|exact .inl rfl|exact .inr rfl|assumption)) (@A5 _ _ _ _ _ (@Aj _ _ (2) _ _ _ _ FO.nd rfl (.inl rfl) (@Bl _ _ _ _ A2) (by rfl) (by first|exact .inl rfl|exact .inr rfl|assumption)) (@A5 _ _ _ _ _ (@Aj _ _ (3) _ _ _ _ FO.nd rfl (.inl rfl) Bu (by rfl) (by first|exact .inl rfl|exact .inr rfl|assumption)) (@A5 _ _ _ _ _ (@EH _ _ _ _ _ _ _ _ PassesOwn.never rfl (@DC _ _ _ _ (pv 0)) (Bv (i:=4) FO.nd rfl (.inl rfl)) (@A5 _ _ _ _ _ (@AE _ _ _ _ _ _ _ _ (@An _ _ _ _ _ _ _ _ D3 (pv 3) (@Kz _ _ _ _ _ _ _ (@AR _ _ _ _ _ _ _ _ _ CT (by rfl) T.z_isinstance D6 (@A0 _ _ _ _ _ (pv 4) (@A0 _ _ _ _ _ (@C3 _ _ (.ref a.c_Term) _ _ (by rfl) T.mc_Term rfl (by decide)) A2 (by rfl)) (by rfl)) (by decide) (by decide) (by rfl) (by rfl)) (@Er _ _ _ _ _ (@DI _ _ _ _ _ _ _ _ Bk (pv 4) Aw (@Am _ _ (by decide) (by decide))))) (@Am _ _ (by decide) (by decide))) (@A9 _ _ _ (@Al _ _ _ _ BW)) AF) (@A9 _ _ _ (@AE _ _ _ _ _ _ _ _ (@Bx _ _ _ (@AR _ _ _ _ _ _ _ _ _ CT (by rfl) T.z_isinstance D6 (@A0 _ _ _ _ _ (pv 4) (@A0 _ _ _ _ _ (@C3 _ _ (.ref a.c_Term) _ _ (by rfl) T.mc_Term rfl (by decide)) A2 (by rfl)) (by rfl)) (by decide) (by decide) (by rfl) (by rfl)) (by intro _;rfl)) (@A5 _ _ _ _ _ (@BF _ _ _ _ (@Bm _ _ _ _ _ _ _ _ _ _ _ _ Bs Cp Cq Cc (pv 1) (@A0 _ _ _ _ _ (pv 4) A2 (by rfl)) (by rfl) (by rfl) (by rfl) (by rfl) (by rfl)) (by rfl)) (@A9 _ _ _ (@Aj _ _ (3) _ _ _ _ FO.nd rfl (.inl rfl) Bu (by rfl) (by first|exact .inl rfl|exact .inr rfl|assumption)))) (@A9 _ _ _ (@AE _ _ _ _ _ _ _ _ (@An _ _ _ _ _ _ _ _ Bk (pv 4) Aw (@Am _ _ (by decide) (by decide))) (@A5 _ _ _ _ _ (@BF _ _ _ _ (@Av _ _ _ _ _ _ _ _ _ _ _ _ _ _ _ _ G_j (hr.mono (by omega)) (by rfl) T.m_j T.F_j.kp T.b_j .nil Ao (@A0 _ _ _ _ _ (pv 1) (@A0 _ _ _ _ _ (pv 2) (@A0 _ _ _ _ _ (@Je _ _ _ _ _ _ (@C3 _ _ _ _ _ (by rfl) T.g_STRENGTHS T.r_STRENGTHS (by decide)) Aw (fun _ _=>rfl)) A2 (by rfl)) (by rfl)) (by rfl)) (by decide) (by rfl) (by rfl)) (by rfl)) (@A5 _ _ _ _ _ (@AE _ _ _ _ _ _ _ _ (@An _ _ _ _ _ _ _ _ (@KF _ (@Ez _ _ hr)) (pv 2) (@Bl _ _ _ _ A2) (@Am _ _ (by decide) (by decide))) (@A9 _ _ _ (@Al _ _ _ _ BW)) AF) (@A9 _ _ _ (@BF _ _ _ _ (@DU _ _ _ _ _ _ _ _ _ Bs ED EE Ef (pv 2) (by rfl) (by rfl)) (by rfl))))) (@A5 _ _ _ _ _ (@AE _ _ _ _ _ _ _ _ (@An _ _ _ _ _ _ _ _ D3 (pv 4) Aw (@Am _ _ (by decide) (by decide))) (@A9 _ _ _ (@BF _ _ _ _ (@Av _ _ _ _ _ _ _ _ _ _ _ _ _ _ _ _ G_j (hr.mono (by omega)) (by rfl) T.m_j T.F_j.kp T.b_j .nil Ao (@A0 _ _ _ _ _ (pv 1) (@A0 _ _ _ _ _ (pv 2) (@A0 _ _ _ _ _ (@Je _ _ _ _ _ _ (@C3 _ _ _ _ _ (by rfl) T.g_STRENGTHS T.r_STRENGTHS (by decide)) (pv 4) (fun _ _=>rfl)) A2 (by rfl)) (by rfl)) (by rfl)) (by decide) (by rfl) (by rfl)) (by rfl))) AF) (@A5 _ _ _ _ _ (@BF _ _ _ _ (@Bm _ _ _ _ _ _ _ _ _ _ _ _ Bs Cp Cq Cc (pv 2) (@A0 _ _ _ _ _ (pv 4) A2 (by rfl)) (by rfl) (by rfl) (by rfl) (by rfl) (by rfl)) (by rfl)) (@A9 _ _ _ (@Aj _ _ (3) _ _ _ _ FO.nd rfl (.inl rfl) Bu (by rfl) (by first|exact .inl rfl|exact .inr rfl|assumption)))))))))) (by intro _;rfl)) (@A5 _ _ _ _ _ (@AE _ _ _ _ _ _ _ _ (@Bx _ _ _ (pv 3) (by intro _;rfl)) (@A9 _ _ _ (@Al _ _ _ _ BW)) AF) (@A5 _ _ _ _ _ (@BF _ _ _ _ (@Av _ _ _ _ _ _ _ _ _ _ _ _ _ _ _ _ G_j (hr.mono (by omega)) (by rfl) T.m_j T.F_j.kp T.b_j .nil Ao (@A0 _ _ _ _ _ (pv 1) (@A0 _ _ _ _ _ (pv 2) (@A0 _ _ _ _ _ (@Je _ _ _ _ _ _ (@C3 _ _ _ _ _ (by rfl) T.g_STRENGTHS T.r_STRENGTHS (by decide)) Aw (fun _ _=>rfl)) A2 (by rfl)) (by rfl)) (by rfl)) (by decide) (by rfl) (by rfl)) (by rfl)) (@A5 _ _ _ _ _ (@AE _ _ _ _ _ _ _ _ (@An _ _ _ _ _ _ _ _ (@Hs _ (@Ez _ _ hr)) (pv 2) (@Bl _ _ _ _ A2) (@Am _ _ (by decide) (by decide))) (@A9 _ _ _ (@Al _ _ _ _ BW)) AF) (@A9 _ _ _ (@Al _ _ _ _ (@Af _ _ _ _ _ _ _ AV (pv 1) A1 (fun _ _=>rfl))))))))))),?_⟩
 refine⟨AG rfl,fun tl htl=>?_⟩
 dsimp only[Ar]
 refine⟨AG rfl,fun sl hsl=>?_⟩
 dsimp only[Ar]
 have ts:tl≠sl:=AI (A6 (H:=H)) hsl
 have H0t:(upd (upd H tl (.lst [])) sl (.lst [])) tl=some (.lst []):=by rw[A8 ts];exact A6
 have H0s:(upd (upd H tl (.lst [])) sl (.lst [])) sl=some (.lst []):=A6
 have e0:A7 H (upd (upd H tl (.lst [])) sl (.lst [])):=(Ac htl _).trans (Ac hsl _)
 have tl0:H tl=none:=htl
 have sl0:H sl=none:=(Ac htl _).free hsl
 generalize upd (upd H tl (.lst [])) sl (.lst [])=H0 at H0t H0s e0
 refine⟨_,rfl,l,rfl,⟨_,A3.of (e0 _ _ hl)⟩,?_⟩
 refine HF (xs:=xs) (fun i σ' H'=>∃(z:Rd.Sta) (tv:List V) (o4:Option V),σ'=[some (.ref l),some (.ref tl),some (.ref sl),some (.bl z.due),o4]/\A7 H H'/\Rd.run (ks.take i) ⟨[],[],true⟩=some z/\Rd.Wt z/\z.T.length<=i/\z.S.length<=i/\H' tl=some (.lst tv)/\H' sl=some (.lst (z.S.reverse.map fun a=>V.str (Rd.sg a)))/\AC (fun v t=>Bt (BA a) H' t v) tv z.T.reverse) ?_ (fun i σ' H' hi p=>?_) (fun i x σ' H' hx p=>?_) (fun σ' H' p=>?_)
 .exact⟨⟨[],[],true⟩,[],none,rfl,e0,rfl,⟨(fun c hc=>nomatch hc),rfl⟩,Ai _,Ai _,H0t,H0s,rfl,fun _ _ _ x=>by cases x⟩
 .obtain⟨z,tv,o4,rfl,e1,_⟩:=p
  exact A3.of (e1 _ _ hl)
 .obtain⟨z,tv,o4,rfl,e1,hz,wt,zt,zs,ht,hs,pz⟩:=p
  dsimp only[Ar]
  have il:i<xs.length:=(BM.mp hx).1
  obtain⟨k,hk⟩:∃k,ks[i]?=some k:=⟨ks[i]'(by rw[←pa.1];exact il),Bg _⟩
  have hpk:=(pa.2 i x k hx hk).over e1
  have okk:=ok k (CK hk)
  obtain⟨z',u,r1,st1,r2⟩:=Rd.run_at hrun hk
  obtain rfl:z'=z:=BP (r1.symm.trans hz)
  have wu:=wt.step okk st1
  have zl2:z'.T.length<=1000:=by omega
  obtain⟨zT,zS,zd⟩:=z'
  have b12:∀{H2:Hp},Rd.B2 tl sl H' H2->A7 H H2:=fun{H2} b2 b o e=>b2 b o (e1 b o e) (AI e tl0) (AI e sl0)
  cases k with
  |
   t w'=>
   cases zd with
   |false=>cases st1
   |
    true=>
    have st1:some (⟨w'::zT,zS,false⟩:Rd.Sta)=some u:=st1
    cases st1
    obtain⟨ty,h1,h2⟩:=isT hpk
    refine⟨_,rfl,_,rfl,x,_,ty,_,true,rfl,rfl,h1,h2,_,rfl,?_⟩
    refine Be ⟨rfl,_,rfl,?_⟩
    refine AD (fun y=>absurd (show(!decide (V.bl true=V.bl true))=true from y) (by decide)) (fun _=>?_)
    refine⟨_,rfl,x,_,ty,_,true,rfl,rfl,h1,h2,_,rfl,?_⟩
    refine Be ?_
    have nl:=Rd.NL.upd (ys:=tv++[x]) ht
    have tvl:tv.length<=1000:=by rw[pz.1,K5];exact zl2
    refine⟨_,rfl,.inl ⟨rfl,_,A3.of ht⟩,_,rfl,tl,_,_,rfl,rfl,ht,Ce (by omega),?_⟩
    dsimp only[Ar]
    refine⟨⟨w'::zT,zS,false⟩,tv++[x],_,rfl,fun b o e=>?_,r2,wu,?_,OH zs,A6,?_,?_⟩
    .rw[A8 (AI e tl0)];exact e1 b o e
    .show zT.length+1<=i+1
     have:zT.length<=i:=zt
     omega
    .rw[A8 (Ne.symm ts)];exact hs
    .show AC _ _ (w'::zT).reverse
     rw[GQ]
     exact(pz.mono fun _ _ y=>Rd.tb_nl nl y).snoc (Rd.tb_nl nl hpk)
  |
   s c=>
   have hpk:x = .str ⟨#[c]⟩:=hpk
   subst hpk
   have okc:c∈Rd.sg5:=okk
   have k1:∀e:Nat,(V.str ⟨#[c]⟩=V.str ⟨#[e]⟩)↔c=e:=fun e=>⟨fun x=>by injection x with x;injection x with x;simpa using x,fun x=>by rw[x]⟩
   have hd:zd=decide (V.str ⟨#[c]⟩=V.str (Str.ofString "(")):=by
    rw[Rd.step]at st1
    by_cases c40:c=40
    .rw[Ag c40]at st1
     cases zd with
     |false=>cases st1
     |true=>exact(B5 ((k1 40).mpr c40)).symm
    .rw[Ae c40]at st1
     cases zd with
     |true=>cases st1
     |false=>exact(BI fun z=>c40 ((k1 40).mp z)).symm
   refine⟨_,rfl,_,rfl,_,_,_,_,false,rfl,rfl,.str _,T.is_str_Term,_,rfl,?_⟩
   refine Aq ⟨_,rfl,rfl,rfl,_,rfl,?_⟩
   refine AD (fun y=>?_) (fun _=>?_)
   .rw[←hd]at y
    exact absurd (show(!decide (V.bl zd=V.bl zd))=true from y) (by simp)
   refine⟨_,rfl,_,_,_,_,false,rfl,rfl,.str _,T.is_str_Term,_,rfl,?_⟩
   refine Aq ?_
   refine⟨_,rfl,rfl,_,rfl,?_⟩
   refine AD (fun y=>?_) (fun y=>?_)
   .have c41:c=41:=(k1 41).mp (dT y)
    subst c41
    obtain rfl:zd=false:=by rw[hd];exact BI fun z=>absurd ((k1 40).mp z) (by decide)
    have wn:Rd.nb zS+1=zT.length:=wt.nb
    rw[Rd.step,Ae (by decide),Ae (show ¬(Rd.Sta.due ⟨zT,zS,false⟩=true) from BQ),Ag rfl]at st1
    refine⟨_,rfl,_,rfl,a.u_STRENGTHS,Rd.strV,.inr (Rd.sg 43),_,rfl,T.d_STRENGTHS P,rfl,Rd.st_val ⟨by decide,by decide⟩,tl,sl,tv,_,zT,zS,1,rfl,ts,Ai _,ht,hs,pz,rfl,wt.sg,by omega,zl2,fun ts' ss' H2 b2 ht2 hs2 pz2 es2=>?_⟩
    subst es2
    cases hS:(Rd.jw 1 zS zT).2 with
    |nil=>simp only[hS]at st1;cases st1
    |
     cons d S'=>
     simp only[hS]at st1
     cases st1
     have er:(d::S').reverse.map (fun a=>V.str (Rd.sg a))=S'.reverse.map (fun a=>V.str (Rd.sg a))++[.str (Rd.sg d)]:=by rw[GQ,B3];rfl
     rw[hS,er]at hs2
     refine⟨_,rfl,AG rfl,fun en hen=>?_⟩
     have e3:=Ac hen (.lst [])
     have hs3:=e3 _ _ hs2
     have ht3:=e3 _ _ ht2
     refine⟨sl,en,_,rfl,rfl,A3.of hs3,A3.of A6,_,rfl,?_⟩
     refine AD (fun y=>absurd y (by simp)) (fun _=>?_)
     refine⟨_,rfl,.inl ⟨rfl,_,A3.of hs3⟩,sl,_,_,rfl,rfl,hs3,C9.1,?_⟩
     rw[C9.2]
     refine⟨⟨(Rd.jw 1 zS zT).1,S',false⟩,ts',_,rfl,fun b o e=>?_,r2,wu,?_,?_,?_,A6,?_⟩
     .rw[A8 (AI e sl0)];exact e3 _ _ (b12 b2 b o e)
     .have:=Rd.jw_len 1 (S:=zS) (T:=zT)
      have:zT.length<=i:=zt
      show(Rd.jw 1 zS zT).1.length<=i+1
      omega
     .have h2:=Rd.jw_len2 1 (S:=zS) (T:=zT)
      rw[hS,AW]at h2
      have:zS.length<=i:=zs
      show S'.length<=i+1
      omega
     .rw[A8 ts];exact ht3
     .exact pz2.mono fun _ _ y=>Rd.tb_nl ((Rd.NL.of e3).trans (Rd.NL.upd hs3)) y
   .have c41:c≠41:=fun z=>dF y ((k1 41).mpr z)
    refine⟨_,rfl,rfl,_,rfl,?_⟩
    have last:∀(T2:List Tw) (S2:List Nat) (tv2:List V) (H2:Hp),Rd.B2 tl sl H' H2->H2 tl=some (.lst tv2)->H2 sl=some (.lst (S2.reverse.map fun a=>V.str (Rd.sg a)))->AC (fun v t=>Bt (BA a) H2 t v) tv2 T2.reverse->some (⟨T2,c::S2,true⟩:Rd.Sta)=some u->T2.length<=i->S2.length<=i->
      LX (.ref sl) [.str ⟨#[c]⟩] H2 fun v H3=>∃(z:Rd.Sta) (tv:List V) (o4:Option V),[some (.ref l),some (.ref tl),some (.ref sl),some (.bl true),some (V.str ⟨#[c]⟩)]=[some (.ref l),some (.ref tl),some (.ref sl),some (.bl z.due),o4]/\A7 H H3/\Rd.run (ks.take (i+1)) ⟨[],[],true⟩=some z/\Rd.Wt z/\z.T.length<=i+1/\z.S.length<=i+1/\H3 tl=some (.lst tv)/\H3 sl=some (.lst (z.S.reverse.map fun a=>V.str (Rd.sg a)))/\AC (fun v t=>Bt (BA a) H3 t v) tv z.T.reverse:=fun T2 S2 tv2 H2 b2 ht2 hs2 pz2 hu t2 s2=>by
     cases hu
     refine⟨sl,_,_,rfl,rfl,hs2,Ce (by rw[Ap,K5];omega),⟨T2,c::S2,true⟩,tv2,_,rfl,fun b o e=>?_,r2,wu,OH t2,OI s2,?_,?_,?_⟩
     .rw[A8 (AI e sl0)];exact b12 b2 b o e
     .rw[A8 ts];exact ht2
     .rw[A6]
      show _=some (HO.lst ((c::S2).reverse.map fun a=>V.str (Rd.sg a)))
      rw[GQ,B3]
      rfl
     .exact pz2.mono fun _ _ y=>Rd.tb_nl (Rd.NL.upd hs2) y
    have c40d:∀c40:c≠40,zd=false:=fun c40=>by rw[hd];exact BI fun z=>c40 ((k1 40).mp z)
    have zT':zT.length<=i:=zt
    have zS':zS.length<=i:=zs
    refine AD (fun ne=>?_) (fun eq=>?_)
    .have c40:c≠40:=fun z=>by
      have e:decide (V.str ⟨#[c]⟩=V.str (Str.ofString "("))=true:=B5 ((k1 40).mpr z)
      rw[e]at ne
      cases ne
     obtain rfl:=c40d c40
     have wn:Rd.nb zS+1=zT.length:=wt.nb
     rw[Rd.step,Ae c40,Ae (show ¬(Rd.Sta.due ⟨zT,zS,false⟩=true) from BQ),Ae c41]at st1
     refine⟨_,rfl,_,rfl,_,rfl,a.u_STRENGTHS,Rd.strV,.inr (Rd.sg c),_,rfl,T.d_STRENGTHS P,rfl,Rd.st_val ⟨okc,c41⟩,tl,sl,tv,_,zT,zS,Rd.st c,rfl,ts,(by unfold Rd.st;rw[Ae c40];split<;>decide),ht,hs,pz,rfl,wt.sg,by omega,zl2,fun ts' ss' H2 b2 ht2 hs2 pz2 es2=>?_⟩
     subst es2
     have j1:=Rd.jw_len (Rd.st c) (S:=zS) (T:=zT)
     have j2:=Rd.jw_len2 (Rd.st c) (S:=zS) (T:=zT)
     exact⟨_,rfl,.inl ⟨rfl,_,A3.of hs2⟩,_,rfl,last _ _ ts' H2 b2 ht2 hs2 pz2 st1 (by omega) (by omega)⟩
    .have c40:c=40:=GO fun n=>eq (by rw[show decide (V.str ⟨#[c]⟩=V.str (Str.ofString "("))=false from BI fun z=>n ((k1 40).mp z)];rfl)
     subst c40
     obtain rfl:zd=true:=by rw[hd];exact B5 rfl
     have st1:some (⟨zT,40::zS,true⟩:Rd.Sta)=some u:=st1
     exact⟨_,rfl,.inl ⟨rfl,_,A3.of hs⟩,_,rfl,last zT zS tv H' (fun b o e _ _=>e) ht hs pz st1 zT' zS'⟩
 .obtain⟨z,tv,o4,rfl,e1,hz,wt,zt,zs,ht,hs,pz⟩:=p
  rw[pa.1,DN]at hz
  obtain rfl:=BP (hz.symm.trans hrun)
  have wn:Rd.nb S+1=Tt.length:=wt.nb
  refine⟨_,rfl,_,rfl,?_⟩
  refine AD (fun y=>absurd y BQ) (fun _=>?_)
  refine⟨_,rfl,_,rfl,a.u_STRENGTHS,Rd.strV,.inr (Rd.sg 43),_,rfl,T.d_STRENGTHS P,rfl,Rd.st_val ⟨by decide,by decide⟩,tl,sl,tv,_,Tt,S,1,rfl,ts,Ai _,ht,hs,pz,rfl,wt.sg,by omega,by have:Tt.length<=xs.length:=zt;omega,fun ts' ss' H2 b2 ht2 hs2 pz2 es2=>?_⟩
  rw[hj]at pz2 es2
  have e2:A7 H H2:=fun b o e=>b2 b o (e1 b o e) (AI e tl0) (AI e sl0)
  refine⟨_,rfl,AG rfl,fun en hen=>?_⟩
  subst es2
  refine⟨sl,en,_,rfl,rfl,A3.of (by rw[A8 (AI hs2 hen)];exact hs2),A3.of A6,_,rfl,?_⟩
  refine AD (fun y=>absurd (show false=true from y) BQ) (fun _=>?_)
  obtain⟨u0,x0,rfl,p0,hx0⟩:=Rd.all2_pop (ys:=[]) pz2
  obtain rfl:u0=[]:=K9 p0.1
  exact⟨_,rfl,tl,_,0,x0,rfl,rfl,A3.of (by rw[A8 (AI ht2 hen)];exact ht2),rfl,q x0 _ (e2.trans (Ac hen _)) (Bt.over (Ac hen _) hx0)⟩
theorem OU (T:Tx w K mg a):AK P w K mg base AS 1 a.f_Z a.d_Z ["self"] (Rd.spDrI a.c_Draft a.c_Deed (BA a)):=by
 refine T.F_Z.ok Tn (fun vs H Q E h=>?_) (fun cdv A outer s H vs Q E hr h=>?_)
 .obtain⟨_,_,rfl,_⟩:=h;rfl
 obtain⟨x,dx,rfl,hx,q⟩:=h
 refine⟨_,(@A5 _ _ _ _ _ (@C7 _ _ _ _ _ _ _ _ (pv 0) BW rfl) (@A5 _ _ _ _ _ (@C7 _ _ _ _ _ _ _ _ (pv 0) (@Bl _ _ _ _ A2) rfl) (@A5 _ _ _ _ _ (@C7 _ _ _ _ _ _ _ _ (pv 0) VM rfl) (@A5 _ _ _ _ _ (@C7 _ _ _ _ _ _ _ _ (pv 0) (@Bl _ _ _ _ A2) rfl) (@A5 _ _ _ _ _ (@C7 _ _ _ _ _ _ _ _ (pv 0) (@Bl _ _ _ _ A2) rfl) (@A5 _ _ _ _ _ (@C7 _ _ _ _ _ _ _ _ (pv 0) (@Bl _ _ _ _ A2) rfl) (@A9 _ _ _ (@C7 _ _ _ _ _ _ _ _ (pv 0) (@Bl _ _ _ _ (@A0 _ _ _ _ _ A1 A2 (by rfl))) rfl)))))))),?_⟩
 refine⟨_,rfl,x,_,dx,_,rfl,hx,T.cl_Draft,T.n_Draft_size,(by show 0<1000;decide),?_⟩
 have k1:∀b o,H b=some o->b≠x->(upd H x (.ins a.c_Draft dx (Ab "size" V.non []))) b=some o:=fun b o e n=>by rw[A8 n];exact e
 have x1:(upd H x (.ins a.c_Draft dx (Ab "size" V.non []))) x=some (.ins a.c_Draft dx (Ab "size" V.non [])):=A6
 change DH _ _ _ [some (.ref x)] (upd H x (.ins a.c_Draft dx (Ab "size" V.non [])))
 generalize upd H x (.ins a.c_Draft dx (Ab "size" V.non []))=H1 at k1 x1
 refine⟨AG rfl,fun dl hdl=>⟨_,rfl,x,_,dx,_,rfl,(by rw[A8 (AI x1 hdl)];exact x1),T.cl_Draft,T.n_Draft_deeds,(by show 1<1000;decide),?_⟩⟩
 obtain⟨fdl,gdl,k'⟩:=Rd.put2 (v:=.lst []) (w:=.ins a.c_Draft dx (Ab "deeds" (.ref dl) (Ab "size" V.non []))) hdl x1
 have ndl:H dl=none:=(by cases z:H dl with|none=>rfl|some u=>rw[k1 dl u z fdl]at hdl;cases hdl)
 have k2:∀b o,H b=some o->b≠x->_:=fun b o e n=>k' b o (k1 b o e n) n
 have x2:(upd (upd H1 dl (.lst [])) x (.ins a.c_Draft dx (Ab "deeds" (.ref dl) (Ab "size" V.non [])))) x=some (.ins a.c_Draft dx (Ab "deeds" (.ref dl) (Ab "size" V.non []))):=A6
 change DH _ _ _ [some (.ref x)] (upd (upd H1 dl (.lst [])) x (.ins a.c_Draft dx (Ab "deeds" (.ref dl) (Ab "size" V.non []))))
 clear k'
 generalize upd (upd H1 dl (.lst [])) x (.ins a.c_Draft dx (Ab "deeds" (.ref dl) (Ab "size" V.non [])))=H2 at k2 x2 gdl
 have odl:=gdl
 refine fun tl htl=>⟨_,rfl,x,_,dx,_,rfl,(by rw[A8 (AI x2 htl)];exact x2),T.cl_Draft,T.n_Draft_tables,(by show 2<1000;decide),?_⟩
 obtain⟨ftl,gtl,k'⟩:=Rd.put2 (v:=.dK []) (w:=.ins a.c_Draft dx (Ab "tables" (.ref tl) (Ab "deeds" (.ref dl) (Ab "size" V.non [])))) htl x2
 have ntl:H tl=none:=(by cases z:H tl with|none=>rfl|some u=>rw[k2 tl u z ftl]at htl;cases htl)
 have gdl:=k' _ _ gdl fdl
 have k3:∀b o,H b=some o->b≠x->_:=fun b o e n=>k' b o (k2 b o e n) n
 have x3:(upd (upd H2 tl (.dK [])) x (.ins a.c_Draft dx (Ab "tables" (.ref tl) (Ab "deeds" (.ref dl) (Ab "size" V.non []))))) x=some (.ins a.c_Draft dx (Ab "tables" (.ref tl) (Ab "deeds" (.ref dl) (Ab "size" V.non [])))):=A6
 change DH _ _ _ [some (.ref x)] (upd (upd H2 tl (.dK [])) x (.ins a.c_Draft dx (Ab "tables" (.ref tl) (Ab "deeds" (.ref dl) (Ab "size" V.non [])))))
 clear k'
 generalize upd (upd H2 tl (.dK [])) x (.ins a.c_Draft dx (Ab "tables" (.ref tl) (Ab "deeds" (.ref dl) (Ab "size" V.non []))))=H3 at k3 x3 gdl gtl
 have odl:=gdl
 refine⟨AG rfl,fun nl hnl=>⟨_,rfl,x,_,dx,_,rfl,(by rw[A8 (AI x3 hnl)];exact x3),T.cl_Draft,T.n_Draft_names,(by show 3<1000;decide),?_⟩⟩
 obtain⟨fnl,gnl,k'⟩:=Rd.put2 (v:=.lst []) (w:=.ins a.c_Draft dx (Ab "names" (.ref nl) (Ab "tables" (.ref tl) (Ab "deeds" (.ref dl) (Ab "size" V.non []))))) hnl x3
 have nnl:H nl=none:=(by cases z:H nl with|none=>rfl|some u=>rw[k3 nl u z fnl]at hnl;cases hnl)
 have gdl:=k' _ _ gdl fdl
 have ddlnl:dl≠nl:=fun z=>by rw[z]at odl;rw[odl]at hnl;cases hnl
 have gtl:=k' _ _ gtl ftl
 have k4:∀b o,H b=some o->b≠x->_:=fun b o e n=>k' b o (k3 b o e n) n
 have x4:(upd (upd H3 nl (.lst [])) x (.ins a.c_Draft dx (Ab "names" (.ref nl) (Ab "tables" (.ref tl) (Ab "deeds" (.ref dl) (Ab "size" V.non [])))))) x=some (.ins a.c_Draft dx (Ab "names" (.ref nl) (Ab "tables" (.ref tl) (Ab "deeds" (.ref dl) (Ab "size" V.non []))))):=A6
 change DH _ _ _ [some (.ref x)] (upd (upd H3 nl (.lst [])) x (.ins a.c_Draft dx (Ab "names" (.ref nl) (Ab "tables" (.ref tl) (Ab "deeds" (.ref dl) (Ab "size" V.non []))))))
 clear k'
 generalize upd (upd H3 nl (.lst [])) x (.ins a.c_Draft dx (Ab "names" (.ref nl) (Ab "tables" (.ref tl) (Ab "deeds" (.ref dl) (Ab "size" V.non [])))))=H4 at k4 x4 gdl gtl gnl
 have odl:=gdl
 have onl:=gnl
 refine⟨AG rfl,fun ll hll=>⟨_,rfl,x,_,dx,_,rfl,(by rw[A8 (AI x4 hll)];exact x4),T.cl_Draft,T.n_Draft_lows,(by show 4<1000;decide),?_⟩⟩
 obtain⟨fll,gll,k'⟩:=Rd.put2 (v:=.lst []) (w:=.ins a.c_Draft dx (Ab "lows" (.ref ll) (Ab "names" (.ref nl) (Ab "tables" (.ref tl) (Ab "deeds" (.ref dl) (Ab "size" V.non [])))))) hll x4
 have nll:H ll=none:=(by cases z:H ll with|none=>rfl|some u=>rw[k4 ll u z fll]at hll;cases hll)
 have gdl:=k' _ _ gdl fdl
 have ddlll:dl≠ll:=fun z=>by rw[z]at odl;rw[odl]at hll;cases hll
 have gtl:=k' _ _ gtl ftl
 have gnl:=k' _ _ gnl fnl
 have dnlll:nl≠ll:=fun z=>by rw[z]at onl;rw[onl]at hll;cases hll
 have k5:∀b o,H b=some o->b≠x->_:=fun b o e n=>k' b o (k4 b o e n) n
 have x5:(upd (upd H4 ll (.lst [])) x (.ins a.c_Draft dx (Ab "lows" (.ref ll) (Ab "names" (.ref nl) (Ab "tables" (.ref tl) (Ab "deeds" (.ref dl) (Ab "size" V.non []))))))) x=some (.ins a.c_Draft dx (Ab "lows" (.ref ll) (Ab "names" (.ref nl) (Ab "tables" (.ref tl) (Ab "deeds" (.ref dl) (Ab "size" V.non [])))))):=A6
 change DH _ _ _ [some (.ref x)] (upd (upd H4 ll (.lst [])) x (.ins a.c_Draft dx (Ab "lows" (.ref ll) (Ab "names" (.ref nl) (Ab "tables" (.ref tl) (Ab "deeds" (.ref dl) (Ab "size" V.non [])))))))
 clear k'
 generalize upd (upd H4 ll (.lst [])) x (.ins a.c_Draft dx (Ab "lows" (.ref ll) (Ab "names" (.ref nl) (Ab "tables" (.ref tl) (Ab "deeds" (.ref dl) (Ab "size" V.non []))))))=H5 at k5 x5 gdl gtl gnl gll
 have odl:=gdl
 have onl:=gnl
 have oll:=gll
 refine⟨AG rfl,fun hl hhl=>⟨_,rfl,x,_,dx,_,rfl,(by rw[A8 (AI x5 hhl)];exact x5),T.cl_Draft,T.n_Draft_highs,(by show 5<1000;decide),?_⟩⟩
 obtain⟨fhl,ghl,k'⟩:=Rd.put2 (v:=.lst []) (w:=.ins a.c_Draft dx (Ab "highs" (.ref hl) (Ab "lows" (.ref ll) (Ab "names" (.ref nl) (Ab "tables" (.ref tl) (Ab "deeds" (.ref dl) (Ab "size" V.non []))))))) hhl x5
 have nhl:H hl=none:=(by cases z:H hl with|none=>rfl|some u=>rw[k5 hl u z fhl]at hhl;cases hhl)
 have gdl:=k' _ _ gdl fdl
 have ddlhl:dl≠hl:=fun z=>by rw[z]at odl;rw[odl]at hhl;cases hhl
 have gtl:=k' _ _ gtl ftl
 have gnl:=k' _ _ gnl fnl
 have dnlhl:nl≠hl:=fun z=>by rw[z]at onl;rw[onl]at hhl;cases hhl
 have gll:=k' _ _ gll fll
 have dllhl:ll≠hl:=fun z=>by rw[z]at oll;rw[oll]at hhl;cases hhl
 have k6:∀b o,H b=some o->b≠x->_:=fun b o e n=>k' b o (k5 b o e n) n
 have x6:(upd (upd H5 hl (.lst [])) x (.ins a.c_Draft dx (Ab "highs" (.ref hl) (Ab "lows" (.ref ll) (Ab "names" (.ref nl) (Ab "tables" (.ref tl) (Ab "deeds" (.ref dl) (Ab "size" V.non [])))))))) x=some (.ins a.c_Draft dx (Ab "highs" (.ref hl) (Ab "lows" (.ref ll) (Ab "names" (.ref nl) (Ab "tables" (.ref tl) (Ab "deeds" (.ref dl) (Ab "size" V.non []))))))):=A6
 dsimp only
 clear k'
 generalize upd (upd H5 hl (.lst [])) x (.ins a.c_Draft dx (Ab "highs" (.ref hl) (Ab "lows" (.ref ll) (Ab "names" (.ref nl) (Ab "tables" (.ref tl) (Ab "deeds" (.ref dl) (Ab "size" V.non [])))))))=H6 at k6 x6 gdl gtl gnl gll ghl
 have odl:=gdl
 have onl:=gnl
 have oll:=gll
 have ohl:=ghl
 refine⟨AG rfl,fun pl hpl=>⟨_,rfl,x,_,dx,_,rfl,(by rw[A8 (AI x6 hpl)];exact x6),T.cl_Draft,T.n_Draft_path,(by show 6<1000;decide),?_⟩⟩
 obtain⟨fpl,gpl,k'⟩:=Rd.put2 (v:=.lst [.int 0]) (w:=.ins a.c_Draft dx (Ab "path" (.ref pl) (Ab "highs" (.ref hl) (Ab "lows" (.ref ll) (Ab "names" (.ref nl) (Ab "tables" (.ref tl) (Ab "deeds" (.ref dl) (Ab "size" V.non [])))))))) hpl x6
 have npl:H pl=none:=(by cases z:H pl with|none=>rfl|some u=>rw[k6 pl u z fpl]at hpl;cases hpl)
 have gdl:=k' _ _ gdl fdl
 have ddlpl:dl≠pl:=fun z=>by rw[z]at odl;rw[odl]at hpl;cases hpl
 have gtl:=k' _ _ gtl ftl
 have gnl:=k' _ _ gnl fnl
 have dnlpl:nl≠pl:=fun z=>by rw[z]at onl;rw[onl]at hpl;cases hpl
 have gll:=k' _ _ gll fll
 have dllpl:ll≠pl:=fun z=>by rw[z]at oll;rw[oll]at hpl;cases hpl
 have ghl:=k' _ _ ghl fhl
 have dhlpl:hl≠pl:=fun z=>by rw[z]at ohl;rw[ohl]at hpl;cases hpl
 have k7:∀b o,H b=some o->b≠x->_:=fun b o e n=>k' b o (k6 b o e n) n
 have x7:(upd (upd H6 pl (.lst [.int 0])) x (.ins a.c_Draft dx (Ab "path" (.ref pl) (Ab "highs" (.ref hl) (Ab "lows" (.ref ll) (Ab "names" (.ref nl) (Ab "tables" (.ref tl) (Ab "deeds" (.ref dl) (Ab "size" V.non []))))))))) x=some (.ins a.c_Draft dx (Ab "path" (.ref pl) (Ab "highs" (.ref hl) (Ab "lows" (.ref ll) (Ab "names" (.ref nl) (Ab "tables" (.ref tl) (Ab "deeds" (.ref dl) (Ab "size" V.non [])))))))):=A6
 refine q _ ⟨x,dx,dl,tl,nl,ll,hl,pl⟩ rfl k7 ?_ fun f=>⟨x7,⟨_,gdl,rfl,fun _ _ _ z=>by cases z⟩,⟨[],gtl,(fun p hp=>nomatch hp),BC _⟩,gnl,⟨_,gll,rfl,fun _ _ _ z=>by cases z⟩,⟨_,ghl,rfl,fun _ _ _ z=>by cases z⟩,gpl,?_,rfl⟩
 .rintro b (z|z|z|z|z|z|z) n
  .exact absurd z n
  .rw[z];exact ndl
  .rw[z];exact ntl
  .rw[z];exact nnl
  .rw[z];exact nll
  .rw[z];exact nhl
  .rw[z];exact npl
 .simp only[G5,AQ,CL,or_false,not_or,List.nodup_nil,OT,and_true]
  exact⟨⟨ddlnl,ddlll,ddlhl,ddlpl⟩,⟨dnlll,dnlhl,dnlpl⟩,⟨dllhl,dllpl⟩,dhlpl⟩
theorem Np (T:Tx w K mg a):AK P w K mg base AS 1 a.f_o a.d_o ["draft","spots"] (Rd.spKnown a.c_Draft):=by
 refine T.F_o.ok RD (fun vs H Q E h=>?_) (fun cdv A outer s H vs Q E hr h=>?_)
 .obtain⟨_,_,_,_,rfl,_⟩:=h;rfl
 obtain⟨d,p,nm,sp,rfl,⟨dx,fs,n,hd,hf,hn⟩,⟨ys,hp,pa⟩,sl,q⟩:=h
 refine⟨_,(@A9 _ _ _ (@Al _ _ _ _ (@AR _ _ _ _ _ _ _ _ _ (@Lx _ rfl) (by rfl) T.z_all KY (@A0 _ _ _ _ _ (@Dh _ _ _ _ _ _ _ ["spot","draft"] [none,some 0] _ _ _ _ (by rfl) (@GZ _ _ _ _ (pv 1)) Sg (fun _ _ _ _ _ _=>⟨(Bv (i:=0) VX rfl (.inl rfl)),@DZ _,(@Kz _ _ _ _ _ _ _ (@DI _ _ _ _ _ _ _ _ Bk (@Af _ _ _ _ _ _ _ (show DA _ (Fy K) from AH) (pv 0) A1 (fun _ _=>rfl)) Aw (@Am _ _ (by decide) (by decide))) (@Er _ _ _ _ _ (@DI _ _ _ _ _ _ _ _ (show Bq _ _ (Ir K false) from Gx) (@Af _ _ _ _ _ _ _ (show DA _ (Fy K) from AH) (pv 0) A1 (fun _ _=>rfl)) (show PE _ _ (KD K _ "names") from AM (pv 1) rfl) (by with_unfolding_all rfl))))⟩) (by intro _;rfl)) A2 (by rfl)) (by decide) (by decide) (by rfl) (by rfl)))),?_⟩
 refine⟨_,rfl,p,rfl,⟨_,Ah.of hp⟩,?_⟩
 have yl:ys.length=sp.length:=pa.1
 refine IR (xs:=ys) (fun i bs H'=>H'=H/\bs=((sp.take i).map (Rd.knw nm)).map V.bl) ⟨rfl,rfl⟩ (Ax (by omega)) (fun i bs H' hi p=>?_) (fun i x bs H' hc p=>?_) (fun bs H' p t5 ht5=>?_)
 .obtain⟨rfl,rfl⟩:=p
  exact⟨Ah.of hp,by simp;omega⟩
 .obtain⟨rfl,rfl⟩:=p
  have hil:i<sp.length:=by rw[←yl];exact(BM.mp hc).1
  obtain⟨t6,rfl,h6⟩:=pa.2 i x sp[i] hc (Bg hil)
  refine⟨_,rfl,t6,_,0,_,rfl,rfl,Ah.of h6,rfl,rfl,_,rfl,?_⟩
  have k1:(V.str (sp[i]).1=V.str (Str.ofString ""))↔(sp[i]).1=Str.ofString "":=⟨fun e=>V.str.inj e,fun e=>by rw[e]⟩
  rw[Di (Bg hil),B3,B3]
  refine AD (fun y=>⟨rfl,?_⟩) (fun y=>?_)
  .have e:Rd.knw nm sp[i]=true:=by unfold Rd.knw;rw[B5 (k1.mp (dT y))];rfl
   show _=_++[V.bl (Rd.knw nm sp[i])]
   rw[e]
  .have e:Rd.knw nm sp[i]=decide ((sp[i]).1∈nm):=by unfold Rd.knw;rw[BI fun z=>dF y (k1.mpr z)];rfl
   refine⟨_,rfl,t6,_,0,_,rfl,rfl,Ah.of h6,rfl,_,rfl,d,_,dx,fs,_,rfl,hd,T.cl_Draft,T.n_Draft_names,hf,n,_,rfl,.inl (A3.of hn),rfl,Rd.flat_strs nm,?_⟩
   refine⟨rfl,?_⟩
   show _=_++[V.bl (Rd.knw nm sp[i])]
   rw[e,Rd.in_strs]
   rfl
 obtain⟨rfl,rfl⟩:=p
 refine⟨t5,_,rfl,A3.of A6,?_⟩
 have q2:=q _ (Ac ht5 (.lst (((sp.take ys.length).map (Rd.knw nm)).map V.bl)))
 rw[yl,DN]at q2 ⊢
 have e:(sp.map (Rd.knw nm)).all id=sp.all (Rd.knw nm):=by rw[LR];rfl
 rw[e]
 exact q2
theorem So (T:Tx w K mg a):AK P w K mg base AS 2 a.f_E a.d_E ["draft","parts"] (Rd.spNamesK a.c_Draft (BA a)):=by
 have G_o :=@Np P w K mg base a T
 refine T.F_E.ok MP (fun vs H Q E h=>?_) (fun cdv A outer s H vs Q E hr h=>?_)
 .obtain⟨_,_,_,_,_,rfl,_⟩:=h;rfl
 obtain⟨d,l,nm,xs,ks,rfl,hd,hl,pa,ok,kn,q⟩:=h
 refine⟨_,(@A5 _ _ _ _ _ (@EH _ _ _ _ _ _ _ _ PassesOwn.never rfl (@DC _ _ _ _ (pv 1)) (Bv (i:=2) MP.nd rfl (.inl rfl)) (@A5 _ _ _ _ _ (@AE _ _ _ _ _ _ _ _ ((@Df _ _ _ _ _ _ _ (@Bx _ _ _ (@AR _ _ _ _ _ _ _ _ _ CT (by rfl) T.z_isinstance D6 (@A0 _ _ _ _ _ (pv 2) (@A0 _ _ _ _ _ (@C3 _ _ (.ref a.c_Value) _ _ (by rfl) T.mc_Value rfl (by decide)) A2 (by rfl)) (by rfl)) (by decide) (by decide) (by rfl) (by rfl)) (by intro _;rfl)) (@DY _ _ _ _ (@An _ _ _ _ _ _ _ _ L5 (@AM _ _ _ _ _ (pv 2) rfl) (@AM _ _ _ _ _ (pv 0) rfl) (by with_unfolding_all rfl))))).pt (@A9 _ _ _ (@Al _ _ _ _ Bu)) AF) (@A9 _ _ _ (@AE _ _ _ _ _ _ _ _ ((@Df _ _ _ _ _ _ _ (@Bx _ _ _ (@AR _ _ _ _ _ _ _ _ _ CT (by rfl) T.z_isinstance D6 (@A0 _ _ _ _ _ (pv 2) (@A0 _ _ _ _ _ (@C3 _ _ (.ref a.c_Cell) _ _ (by rfl) T.mc_Cell rfl (by decide)) A2 (by rfl)) (by rfl)) (by decide) (by decide) (by rfl) (by rfl)) (by intro _;rfl)) (@DY _ _ _ _ (@Cj _ _ _ _ (@Bx _ _ _ (@Av _ _ _ _ _ _ _ _ _ _ _ _ _ _ _ _ G_o (hr.mono (by omega)) (by rfl) T.m_o T.F_o.kp T.b_o .nil Ao (@A0 _ _ _ _ _ (pv 0) (@A0 _ _ _ _ _ (@AM _ _ _ _ _ (pv 2) rfl) A2 (by rfl)) (by rfl)) (by decide) (by rfl) (by rfl)) (by intro _;rfl)))))).pt (@A9 _ _ _ (@Al _ _ _ _ Bu)) AF))) (by intro _;rfl)) (@A9 _ _ _ (@Al _ _ _ _ Bu))),?_⟩
 refine⟨_,rfl,l,rfl,⟨_,A3.of hl⟩,?_⟩
 refine HF (xs:=xs) (fun i σ' H'=>A7 H H'/\∃o2:Option V,σ'=[some (.ref d),some (.ref l),o2]) ⟨A7.refl _,_,rfl⟩ (fun i σ' H' _ p=>p.1.seq (A3.of hl)) (fun i x σ' H' hx p=>?_) (fun σ' H' p=>?_)
 .obtain⟨e,o2,rfl⟩:=p
  dsimp only[Ar]
  have il:i<xs.length:=(BM.mp hx).1
  obtain⟨k,hk⟩:∃k,ks[i]?=some k:=⟨ks[i]'(by rw[←pa.1];exact il),Bg _⟩
  have hpk:=(pa.2 i x k hx hk).over e
  have okk:=ok k (CK hk)
  have knk:=kn k (CK hk)
  obtain⟨ddx,fs,n,hd0,hf,hn0⟩:=hd
  have hd:=e _ _ hd0
  have hn:=e _ _ hn0
  cases k with
  |
   s c=>
   have hpk:x = .str ⟨#[c]⟩:=hpk
   subst hpk
   refine⟨_,rfl,_,_,_,_,false,rfl,rfl,.str _,T.is_str_Value,_,rfl,Aq ?_⟩
   exact⟨_,rfl,_,_,_,_,false,rfl,rfl,.str _,T.is_str_Cell,_,rfl,Aq ⟨e,_,rfl⟩⟩
  |
   t w'=>
   cases w' with
   |
    n i=>
    obtain⟨t0,dx,rfl,hx0⟩:=hpk
    refine⟨_,rfl,_,_,_,_,false,rfl,rfl,T.ty_Number _ _ _ _ hx0,T.is_Number_Value,_,rfl,Aq ?_⟩
    exact⟨_,rfl,_,_,_,_,false,rfl,rfl,T.ty_Number _ _ _ _ hx0,T.is_Number_Cell,_,rfl,Aq ⟨e,_,rfl⟩⟩
   |
    v z=>
    obtain⟨t0,dx,rfl,hx0⟩:=hpk
    refine⟨_,rfl,_,_,_,_,true,rfl,rfl,T.ty_Value _ _ _ _ hx0,T.is_Value_Value,_,rfl,Be ?_⟩
    refine⟨_,rfl,t0,_,dx,_,_,rfl,hx0,T.cl_Value,T.n_Value_name,rfl,_,rfl,d,_,ddx,fs,_,rfl,hd,T.cl_Draft,T.n_Draft_names,hf,n,_,rfl,.inl (A3.of hn),rfl,Rd.flat_strs nm,_,rfl,?_⟩
    have e1:Dj (V.str z) (nm.map V.str)=true:=by rw[Rd.in_strs];exact B5 knk
    rw[e1]
    refine Aq ?_
    exact⟨_,rfl,_,_,_,_,false,rfl,rfl,T.ty_Value _ _ _ _ hx0,T.is_Value_Cell,_,rfl,Aq ⟨e,_,rfl⟩⟩
   |
    c z sp=>
    obtain⟨t0,dx,p0,rfl,hx0,hp0⟩:=hpk
    refine⟨_,rfl,_,_,_,_,false,rfl,rfl,T.ty_Cell _ _ _ _ hx0,T.is_Cell_Value,_,rfl,Aq ?_⟩
    refine⟨_,rfl,_,_,_,_,true,rfl,rfl,T.ty_Cell _ _ _ _ hx0,T.is_Cell_Cell,_,rfl,Be ?_⟩
    refine⟨_,rfl,_,rfl,t0,_,dx,_,_,rfl,hx0,T.cl_Cell,T.n_Cell_spots,rfl,d,p0,nm,sp,rfl,⟨ddx,fs,n,hd,hf,hn⟩,hp0,(by have:=okk.2.2.1;omega),fun H2 e2=>⟨_,rfl,?_⟩⟩
    rw[show sp.all (Rd.knw nm)=true from knk]
    exact Aq ⟨e.trans e2,_,rfl⟩
   |j _ _ _=>exact okk.elim
 .obtain⟨e,o2,rfl⟩:=p
  exact q _ e
theorem Tb (T:Tx w K mg a):AK P w K mg base AS 1 a.f_F a.d_F ["draft","parts"] (Rd.spTabs a.c_Draft (BA a)):=by
 refine T.F_F.ok Ly (fun vs H Q E h=>?_) (fun cdv A outer s H vs Q E hr h=>?_)
 .obtain⟨_,_,_,_,_,_,_,_,_,rfl,_⟩:=h;rfl
 obtain⟨d,l,dx,t,fs,xs,ks,f,tb,rfl,hd,hf,ht,hfb,tl,hl,pa,ok,kf,q⟩:=h
 refine⟨_,(@A5 _ _ _ _ _ (@EH _ _ _ _ _ _ _ _ PassesOwn.never rfl (@DC _ _ _ _ (pv 1)) (Bv (i:=2) Ly.nd rfl (.inl rfl)) (@A9 _ _ _ (@AE _ _ _ _ _ _ _ _ (@Bx _ _ _ (@AR _ _ _ _ _ _ _ _ _ CT (by rfl) T.z_isinstance D6 (@A0 _ _ _ _ _ (pv 2) (@A0 _ _ _ _ _ (@C3 _ _ (.ref a.c_Cell) _ _ (by rfl) T.mc_Cell rfl (by decide)) A2 (by rfl)) (by rfl)) (by decide) (by decide) (by rfl) (by rfl)) (by intro _;rfl)) (@A5 _ _ _ _ _ (@Aj _ _ (3) _ _ _ _ Ly.nd rfl (.inl rfl) (@AR _ _ _ _ _ _ _ _ _ BJ (by rfl) T.z_len Bo (@A0 _ _ _ _ _ (@AM _ _ _ _ _ (pv 2) rfl) A2 (by rfl)) (by decide) (by decide) (by rfl) (by rfl)) (by rfl) (by first|exact .inl rfl|exact .inr rfl|assumption)) (@A9 _ _ _ (@AE _ _ _ _ _ _ _ _ (@An _ _ _ _ _ _ _ _ D3 (@R0 _ _ _ _ _ _ _ _ _ (@AM _ _ _ _ _ (pv 0) rfl) (@AM _ _ _ _ _ (pv 2) rfl) (pv 3) ⟨rfl,rfl,rfl,rfl⟩) (pv 3) (@Am _ _ (by decide) (by decide))) (@A9 _ _ _ (@Al _ _ _ _ Bu)) AF))) AF)) (by intro _;rfl)) (@A9 _ _ _ (@Al _ _ _ _ Bu))),?_⟩
 have ntl:∀{b:Addr} {o:HO},H b=some o->(∀kv,o≠.dK kv)->b≠t:=fun{b o} e n z=>by rw[z,ht]at e;exact n _ (BP e).symm
 refine⟨_,rfl,l,rfl,⟨_,A3.of hl⟩,?_⟩
 refine HF (xs:=xs) (fun i σ' H'=>(∀b o,H b=some o->b≠t->H' b=some o)/\(∃o2 o3:Option V,σ'=[some (.ref d),some (.ref l),o2,o3])/\∃tb',H' t=some (.dK (Rd.tbK tb'))/\(∀p∈tb',p.2=f p.1)/\tb'.length<=tb.length+i) ⟨fun _ _ e _=>e,⟨_,_,rfl⟩,tb,ht,hfb,Ai _⟩ (fun i σ' H' _ p=>A3.of (p.1 _ _ hl (ntl hl (fun _ z=>nomatch z)))) (fun i x σ' H' hx p=>?_) (fun σ' H' p=>?_)
 .obtain⟨e,⟨o2,o3,rfl⟩,tb',ht',hf',tl'⟩:=p
  dsimp only[Ar]
  have il:i<xs.length:=(BM.mp hx).1
  obtain⟨k,hk⟩:∃k,ks[i]?=some k:=⟨ks[i]'(by rw[←pa.1];exact il),Bg _⟩
  have kp:Rd.Kp H H':=fun b o e' ob=>e b o e' (ntl e' (fun _ z=>by rw[z]at ob;exact ob))
  have hpk:=(pa.2 i x k hx hk).kp kp
  have okk:=ok k (CK hk)
  have kfk:=kf k (CK hk)
  have hd':=e _ _ hd (ntl hd (fun _ z=>nomatch z))
  cases k with
  |
   s c=>
   have hpk:x = .str ⟨#[c]⟩:=hpk
   subst hpk
   exact⟨_,rfl,_,_,_,_,false,rfl,rfl,.str _,T.is_str_Cell,_,rfl,Aq ⟨e,⟨_,_,rfl⟩,tb',ht',hf',by omega⟩⟩
  |
   t w'=>
   cases w' with
   |
    n i=>
    obtain⟨t0,dx,rfl,hx0⟩:=hpk
    exact⟨_,rfl,_,_,_,_,false,rfl,rfl,T.ty_Number _ _ _ _ hx0,T.is_Number_Cell,_,rfl,Aq ⟨e,⟨_,_,rfl⟩,tb',ht',hf',by omega⟩⟩
   |
    v z=>
    obtain⟨t0,dx,rfl,hx0⟩:=hpk
    exact⟨_,rfl,_,_,_,_,false,rfl,rfl,T.ty_Value _ _ _ _ hx0,T.is_Value_Cell,_,rfl,Aq ⟨e,⟨_,_,rfl⟩,tb',ht',hf',by omega⟩⟩
   |
    c z sp=>
    obtain⟨t0,dx0,p0,rfl,hx0,ys,hp0,pa0⟩:=hpk
    have yl:((ys.length:Nat):Int)=((f z:Nat):Int):=by rw[show f z=sp.length from kfk,pa0.1]
    refine⟨_,rfl,_,_,_,_,true,rfl,rfl,T.ty_Cell _ _ _ _ hx0,T.is_Cell_Cell,_,rfl,Be ?_⟩
    refine⟨_,rfl,t0,_,dx0,_,_,rfl,hx0,T.cl_Cell,T.n_Cell_spots,rfl,p0,ys,rfl,.inr (Ah.of hp0),?_⟩
    rw[yl]
    dsimp only[Ar]
    refine⟨_,rfl,d,_,dx,fs,_,rfl,hd',T.cl_Draft,T.n_Draft_tables,hf,t,rfl,.inl ⟨_,.inl ht'⟩,?_⟩
    refine⟨_,rfl,t0,_,dx0,_,_,rfl,hx0,T.cl_Cell,T.n_Cell_table,rfl,_,rfl,_,.inr z,ht',rfl,?_,fun v hv=>?_,fun hn=>?_⟩
    .have:=pa.1;unfold Rd.tbK;rw[Ap];omega
    .rw[Rd.tb_val hf' hv]
     refine⟨_,rfl,rfl,_,rfl,?_⟩
     rw[B5 rfl]
     exact Aq ⟨e,⟨_,_,rfl⟩,tb',ht',hf',by omega⟩
    .obtain⟨tb2,e2,h2,l2⟩:=Rd.tb_put hf' hn
     rw[e2]
     refine⟨_,rfl,rfl,_,rfl,?_⟩
     rw[B5 rfl]
     exact Aq ⟨fun b o e' nb=>by rw[A8 nb];exact e b o e' nb,⟨_,_,rfl⟩,tb2,A6,h2,by omega⟩
   |j _ _ _=>exact okk.elim
 .obtain⟨e,⟨o2,o3,rfl⟩,tb',ht',hf',tl'⟩:=p
  rw[pa.1]at tl'
  exact q _ tb' e ht' hf' tl'
theorem Ri (T:Tx w K mg a):AK P w K mg base AS 8 a.f_G a.d_G ["draft","row"] (Rd.spDeedT a.c_Draft a.c_Deed (BA a)):=by
 have G_n :=@Nk P w K mg base a T
 have G_C :=@VG P w K mg base a T
 have G_D :=@PC P w K mg base a T
 have G_E :=@So P w K mg base a T
 have G_F :=@Tb P w K mg base a T
 have G_X :=@Ur P w K mg base a T
 refine T.F_G.ok GY (fun vs H Q E h=>?_) (fun cdv A outer s H vs Q E hr h=>?_)
 .obtain⟨_,_,_,_,_,_,_,_,_,rfl,_⟩:=h;rfl
 obtain⟨f,B,D,D',z,tb,sp,ks,t,rfl,hD,hz,zl,hs,q⟩:=h
 refine⟨_,(@A5 _ _ _ _ _ (@Aj _ _ (2) _ _ _ _ GY.nd rfl (.inl rfl) (@Bm _ _ _ _ _ _ _ _ _ _ _ _ Eg K7 K8 HR (pv 1) (@A0 _ _ _ _ _ Aw A2 (by rfl)) (by rfl) (by rfl) (by rfl) (by rfl) (by rfl)) (by rfl) (by first|exact .inl rfl|exact .inr rfl|assumption)) (@A5 _ _ _ _ _ (@Aj _ _ (3) _ _ _ _ GY.nd rfl (.inl rfl) (@Av _ _ _ _ _ _ _ _ _ _ _ _ _ _ _ _ G_n (hr.mono (by omega)) (by rfl) T.m_n T.F_n.kp T.b_n .nil Ao (@A0 _ _ _ _ _ (@Af _ _ _ _ _ _ _ AH (pv 2) A1 (fun _ _=>rfl)) A2 (by rfl)) (by decide) (by rfl) (by rfl)) (by rfl) (by first|exact .inl rfl|exact .inr rfl|assumption)) (@A5 _ _ _ _ _ (@Aj _ _ (4) _ _ _ _ GY.nd rfl (.inl rfl) (@Av _ _ _ _ _ _ _ _ _ _ _ _ _ _ _ _ G_C (hr.mono (by omega)) (by rfl) T.m_C T.F_C.kp T.b_C .nil Ao (@A0 _ _ _ _ _ (@Af _ _ _ _ _ _ _ AH (pv 2) A1 (fun _ _=>rfl)) A2 (by rfl)) (by decide) (by rfl) (by rfl)) (by rfl) (by first|exact .inl rfl|exact .inr rfl|assumption)) (@A5 _ _ _ _ _ (@AE _ _ _ _ _ _ _ _ ((@BL _ _ _ _ _ _ _ (@An _ _ _ _ _ _ _ _ Bk (@AR _ _ _ _ _ _ _ _ _ BJ (by rfl) T.z_len Bo (@A0 _ _ _ _ _ (@AM _ _ _ _ _ (pv 0) rfl) A2 (by rfl)) (by decide) (by decide) (by rfl) (by rfl)) (@C3 _ _ _ _ _ (by rfl) T.g_MOST_DEEDS T.r_MOST_DEEDS (by decide)) (@Am _ _ (by decide) (by decide))) (@BL _ _ _ _ _ _ _ (@An _ _ _ _ _ _ _ _ Ey (pv 3) BW (@Am _ _ (by decide) (by decide))) (@C8 _ _ _ _ (@An _ _ _ _ _ _ _ _ Ey (pv 4) BW (@Am _ _ (by decide) (by decide))))))).pt (@A9 _ _ _ (@Al _ _ _ _ Bu)) AF) (@A5 _ _ _ _ _ (@Aj _ _ (5) _ _ _ _ GY.nd rfl (.inl rfl) (@Av _ _ _ _ _ _ _ _ _ _ _ _ _ _ _ _ G_D (hr.mono (by omega)) (by rfl) T.m_D T.F_D.kp T.b_D .nil Ao (@A0 _ _ _ _ _ (pv 4) A2 (by rfl)) (by decide) (by rfl) (by rfl)) (by rfl) (by first|exact .inl rfl|exact .inr rfl|assumption)) (@A5 _ _ _ _ _ (@AE _ _ _ _ _ _ _ _ ((@BL _ _ _ _ _ _ _ (@An _ _ _ _ _ _ _ _ Ey (pv 5) BW (@Am _ _ (by decide) (by decide))) (@BL _ _ _ _ _ _ _ (@Cj _ _ _ _ (@Bx _ _ _ (@Av _ _ _ _ _ _ _ _ _ _ _ _ _ _ _ _ G_E (hr.mono (by omega)) (by rfl) T.m_E T.F_E.kp T.b_E .nil Ao (@A0 _ _ _ _ _ (pv 0) (@A0 _ _ _ _ _ (@Aa _ _ _ _ _ _ _ _ F7 (@Bl _ _ _ _ (@A0 _ _ _ _ _ (pv 3) A2 (by rfl))) (pv 4)) A2 (by rfl)) (by rfl)) (by decide) (by rfl) (by rfl)) (by intro _;rfl))) (@C8 _ _ _ _ (@Cj _ _ _ _ (@Bx _ _ _ (@Av _ _ _ _ _ _ _ _ _ _ _ _ _ _ _ _ G_F (hr.mono (by omega)) (by rfl) T.m_F T.F_F.kp T.b_F .nil Ao (@A0 _ _ _ _ _ (pv 0) (@A0 _ _ _ _ _ (@Aa _ _ _ _ _ _ _ _ F7 (@Bl _ _ _ _ (@A0 _ _ _ _ _ (pv 3) A2 (by rfl))) (pv 4)) A2 (by rfl)) (by rfl)) (by decide) (by rfl) (by rfl)) (by intro _;rfl))))))).pt (@A9 _ _ _ (@Al _ _ _ _ Bu)) AF) (@A5 _ _ _ _ _ (@BF _ _ _ _ (@Bm _ _ _ _ _ _ _ _ _ _ _ _ Bs Cp Cq Cc (@AM _ _ _ _ _ (pv 0) rfl) (@A0 _ _ _ _ _ (@GA _ _ _ _ _ _ _ _ _ _ _ _ _ _ _ _ _ T.mk_Deed G_X (hr.mono (by omega)) (by rfl) T.mc_Deed T.b_X .nil Ao (@A0 _ _ _ _ _ (@CQ _ _ _ _ _ _ _ _ _ EM (by rfl) T.z_tuple DF (@A0 _ _ _ _ _ (@AM _ _ _ _ _ (pv 0) rfl) A2 (by rfl)) (by decide) (by decide) (by rfl) (by rfl)) (@A0 _ _ _ _ _ (@CQ _ _ _ _ _ _ _ _ _ EM (by rfl) T.z_tuple DF (@A0 _ _ _ _ _ (@AM _ _ _ _ _ (pv 0) rfl) A2 (by rfl)) (by decide) (by decide) (by rfl) (by rfl)) (@A0 _ _ _ _ _ (@CQ _ _ _ _ _ _ _ _ _ EM (by rfl) T.z_tuple DF (@A0 _ _ _ _ _ (@AM _ _ _ _ _ (pv 0) rfl) A2 (by rfl)) (by decide) (by decide) (by rfl) (by rfl)) (@A0 _ _ _ _ _ (@AM _ _ _ _ _ (pv 3) rfl) (@A0 _ _ _ _ _ (@AM _ _ _ _ _ (pv 3) rfl) (@A0 _ _ _ _ _ (pv 5) (@A0 _ _ _ _ _ (@CQ _ _ _ _ _ _ _ _ _ EM (by rfl) T.z_tuple DF (@A0 _ _ _ _ _ (@AM _ _ _ _ _ (pv 0) rfl) A2 (by rfl)) (by decide) (by decide) (by rfl) (by rfl)) A2 (by rfl)) (by rfl)) (by rfl)) (by rfl)) (by rfl)) (by rfl)) (by rfl)) (by decide) (by rfl) (by rfl)) A2 (by rfl)) (by rfl) (by rfl) (by rfl) (by rfl) (by rfl)) (by rfl)) (@A5 _ _ _ _ _ (@Nx _ _ _ _ _ _ _ _ _ _ _ _ _ (@AM _ _ _ _ _ (pv 0) rfl) (@CS _ _ _ _ _ _ CW A1) Oh A1 Kk Mi (by intros;rfl)) (@A9 _ _ _ (@Al _ _ _ _ Bu)))))))))),?_⟩
 obtain⟨s0,d6,okc,okk,adj,kl,⟨Tt,S,hrun,hjw⟩,kn,kf,rfl⟩:=hs
 have n61:61∉cds (Ba tb sp):=Rd.cel_no okc
 have hp:De 61 (cds z)=[.str (Ba tb sp),.str ⟨#[61]⟩,.str (Az (Rd.txts ks))]:=by
  unfold De
  rw[hz]
  unfold Rd.dedT
  rw[Ag (CC _ AY),(Rd.bef_app n61).1,(Rd.bef_app n61).2,Ep]
 have hlen:=cds_len z
 have tl2:(Az (Rd.txts ks)).length<=100000:=by
  rw[CN]
  have e:=congrArg List.length hz
  unfold Rd.dedT at e
  rw[Au,AW]at e
  omega
 refine⟨_,rfl,rfl,_,61,rfl,rfl,Ax (by omega),fun r hr'=>?_⟩
 rw[hp]
 have e1:=Ac hr' (.tup [.str (Ba tb sp),.str ⟨#[61]⟩,.str (Az (Rd.txts ks))])
 have hr1:(upd H r (.tup [.str (Ba tb sp),.str ⟨#[61]⟩,.str (Az (Rd.txts ks))])) r=_:=A6
 generalize upd H r (.tup [.str (Ba tb sp),.str ⟨#[61]⟩,.str (Az (Rd.txts ks))])=H1 at e1 hr1
 dsimp only[Ar]
 refine⟨_,rfl,r,_,_,_,rfl,rfl,Ah.of hr1,rfl,tb,sp,rfl,okc,fun cx H2 e2 hc2=>?_⟩
 dsimp only[Ar]
 have hr2:=e2 _ _ hr1
 refine⟨_,rfl,r,_,_,_,rfl,rfl,Ah.of hr2,rfl,_,ks,rfl,B7 _,tl2,okk,adj,fun pl xs H3 e3 hpl hxs pa3=>?_⟩
 dsimp only[Ar]
 have e13:=e1.trans (e2.trans e3)
 have hD3:=hD.over e13
 have hc3:=Bt.over e3 hc2
 obtain⟨c0,cdx,cp,rfl,hc0,hcp⟩:=hc3
 obtain⟨ds,hds,pds⟩:=hD3.dd
 refine⟨_,rfl,B.d,_,B.dx,_,_,rfl,hD3.o,T.cl_Draft,T.n_Draft_deeds,rfl,B.dl,_,rfl,.inl (A3.of hds),rfl,_,rfl,?_⟩
 refine AD (fun y=>absurd (V.int.inj (dT y)) (by rw[pds.1];omega)) (fun _=>?_)
 refine⟨_,rfl,rfl,_,rfl,Aq ?_⟩
 refine⟨_,rfl,rfl,_,rfl,Aq ?_⟩
 refine⟨_,rfl,pl,xs,ks,Tt,S,t,rfl,hxs,pa3,(by rw[pa3.1];omega),okk,hrun,hjw,fun tv H4 e4 htv=>?_⟩
 dsimp only[Ar]
 have tn:tv≠.non:=by
  cases t with
  |n i=>obtain⟨_,_,rfl,_⟩:=htv;exact fun z=>nomatch z
  |v z=>obtain⟨_,_,rfl,_⟩:=htv;exact fun z=>nomatch z
  |c z sp=>obtain⟨_,_,_,rfl,_⟩:=htv;exact fun z=>nomatch z
  |j z l r=>obtain⟨_,_,_,_,rfl,_⟩:=htv;exact fun z=>nomatch z
 refine⟨_,rfl,rfl,_,rfl,?_⟩
 refine AD (fun y=>absurd (dT y) tn) (fun _=>?_)
 have e14:=e13.trans e4
 have xl:xs.length<=999:=by rw[pa3.1];exact kl
 refine⟨_,rfl,_,rfl,AG rfl,fun l1 hl1=>⟨_,rfl,l1,pl,[.ref c0],xs,rfl,rfl,A6,(Ac hl1 _) _ _ (e4 _ _ hxs),Ax (by show 1+_<=_;omega),fun l2 hl2=>?_⟩⟩
 have e5:=e4.trans ((Ac hl1 (.lst [.ref c0])).trans (Ac hl2 (.lst ([.ref c0]++xs))))
 have hl25:(upd (upd H4 l1 (.lst [.ref c0])) l2 (.lst ([.ref c0]++xs))) l2=some (.lst ([.ref c0]++xs)):=A6
 have htv5:=Bt.over ((Ac hl1 (.lst [.ref c0])).trans (Ac hl2 (.lst ([.ref c0]++xs)))) htv
 generalize upd (upd H4 l1 (.lst [.ref c0])) l2 (.lst ([.ref c0]++xs))=H5 at e5 hl25 htv5
 have hcel:Bt (BA a) H3 (.c tb sp) (.ref c0):=⟨c0,cdx,cp,rfl,hc0,hcp⟩
 have pall:AC (Rd.PtAt (BA a) H3) ([.ref c0]++xs) (.t (.c tb sp)::ks):=AC.cons hcel pa3
 have oall:∀k∈Rd.Tk.t (.c tb sp)::ks,k.Ok:=fun k hk=>by
  rcases AQ.mp hk with rfl|hk
  .exact okc
  .exact okk k hk
 refine⟨B.d,l2,_,_,.t (.c tb sp)::ks,rfl,(hD3.over e5).drn,hl25,pall.mono fun _ _ x=>x.over e5,oall,kn,fun H6 e6=>⟨_,rfl,Aq ?_⟩⟩
 have e36:=e5.trans e6
 have hD6:=hD3.over e36
 refine⟨_,rfl,_,rfl,AG rfl,fun l1 hl1=>⟨_,rfl,l1,pl,[.ref c0],xs,rfl,rfl,A6,(Ac hl1 _) _ _ (e36 _ _ hxs),Ax (by show 1+_<=_;omega),fun l2 hl2=>?_⟩⟩
 have e7:=e36.trans ((Ac hl1 (.lst [.ref c0])).trans (Ac hl2 (.lst ([.ref c0]++xs))))
 have hl27:(upd (upd H6 l1 (.lst [.ref c0])) l2 (.lst ([.ref c0]++xs))) l2=some (.lst ([.ref c0]++xs)):=A6
 have htv7:=Bt.over (e6.trans ((Ac hl1 (.lst [.ref c0])).trans (Ac hl2 (.lst ([.ref c0]++xs))))) htv5
 generalize upd (upd H6 l1 (.lst [.ref c0])) l2 (.lst ([.ref c0]++xs))=H7 at e7 hl27 htv7
 have hD7:=hD3.over e7
 obtain⟨tbs,ht7,hf7,tl7⟩:=hD7.tb
 refine⟨B.d,l2,B.dx,B.tl,_,_,.t (.c tb sp)::ks,f,tbs,rfl,hD7.o,rfl,ht7,hf7,(by rw[AW];omega),hl27,pall.mono fun _ _ x=>x.over e7,oall,kf,fun H8 tb8 e8 ht8 hf8 tl8=>⟨_,rfl,Aq ?_⟩⟩
 obtain⟨kp8,out8,o8,⟨ds8,hds8,pds8⟩,nm8,⟨ls8,hls8,pls8⟩,⟨hs8,hhs8,phs8⟩,pa8⟩:=hD7.tabs e8
 have hD8:Rd.DrAt a.c_Draft a.c_Deed (BA a) f H7 B D:=hD7
 have htv8:=Rd.tb_kp kp8 htv7
 have hc8:=Rd.tb_kp kp8 (Bt.over e7 hcel)
 obtain⟨c0',cdx',cp',ec0,hc0,hcp⟩:=hc8
 cases ec0
 clear hc2 hcel pall
 refine⟨_,rfl,B.d,_,B.dx,_,_,rfl,o8,T.cl_Draft,T.n_Draft_deeds,rfl,.inl ⟨rfl,_,A3.of hds8⟩,?_⟩
 refine⟨_,rfl,B.d,_,B.dx,_,_,rfl,o8,T.cl_Draft,T.n_Draft_names,rfl,B.nl,_,rfl,.inl ⟨A3.of nm8,fun t1 ht1=>?_⟩⟩
 have s1:=Ac ht1 (.tup (D.lp.map fun t=>V.str t.nm))
 have g1:(upd H8 t1 (.tup (D.lp.map fun t=>V.str t.nm))) t1=_:=A6
 generalize upd H8 t1 (.tup (D.lp.map fun t=>V.str t.nm))=H9 at s1 g1
 refine⟨_,rfl,B.d,_,B.dx,_,_,rfl,s1 _ _ o8,T.cl_Draft,T.n_Draft_lows,rfl,B.ll,_,rfl,.inl ⟨A3.of (s1 _ _ hls8),fun t2 ht2=>?_⟩⟩
 have s2:=s1.trans (Ac ht2 (.tup ls8))
 have g1:=(Ac ht2 (.tup ls8)) _ _ g1
 have g2:(upd H9 t2 (.tup ls8)) t2=_:=A6
 generalize upd H9 t2 (.tup ls8)=H10 at s2 g1 g2
 refine⟨_,rfl,B.d,_,B.dx,_,_,rfl,s2 _ _ o8,T.cl_Draft,T.n_Draft_highs,rfl,B.hl,_,rfl,.inl ⟨A3.of (s2 _ _ hhs8),fun t3 ht3=>?_⟩⟩
 have s3:=s2.trans (Ac ht3 (.tup hs8))
 have g1:=(Ac ht3 (.tup hs8)) _ _ g1
 have g2:=(Ac ht3 (.tup hs8)) _ _ g2
 have g3:(upd H10 t3 (.tup hs8)) t3=_:=A6
 generalize upd H10 t3 (.tup hs8)=H11 at s3 g1 g2 g3
 refine⟨_,rfl,c0,_,cdx',_,_,rfl,s3 _ _ hc0,T.cl_Cell,T.n_Cell_table,rfl,_,rfl,c0,_,cdx',_,_,rfl,s3 _ _ hc0,T.cl_Cell,T.n_Cell_spots,rfl,_,rfl,?_⟩
 refine⟨_,rfl,B.d,_,B.dx,_,_,rfl,s3 _ _ o8,T.cl_Draft,T.n_Draft_path,rfl,B.pl,_,rfl,.inl ⟨A3.of (s3 _ _ pa8),fun t4 ht4=>?_⟩⟩
 have s4:=s3.trans (Ac ht4 (.tup ((D.pa++[D.la]).map V.int)))
 have g1:=(Ac ht4 (.tup ((D.pa++[D.la]).map V.int))) _ _ g1
 have g2:=(Ac ht4 (.tup ((D.pa++[D.la]).map V.int))) _ _ g2
 have g3:=(Ac ht4 (.tup ((D.pa++[D.la]).map V.int))) _ _ g3
 have g4:(upd H11 t4 (.tup ((D.pa++[D.la]).map V.int))) t4=_:=A6
 generalize upd H11 t4 (.tup ((D.pa++[D.la]).map V.int))=H12 at s4 g1 g2 g3 g4
 intro x dx nx ndx ne
 refine⟨x,dx,_,_,_,_,_,_,_,rfl,A6,fun H13 k13 hx13=>⟨rfl,?_⟩⟩
 obtain⟨dx2,hx13⟩:=hx13
 have m13:=FX nx ndx k13
 have s5:=s4.trans m13
 have hds13:=s5 _ _ hds8
 have hDo:DV a.c_Deed (BA a) H13 (.ref x) ⟨D.lp,tb,sp,t,D.pa++[D.la]⟩:=⟨x,dx2,t1,t2,t3,cp',t4,tv,ls8,hs8,rfl,hx13,m13 _ _ g1,m13 _ _ g2,pls8.mono fun _ _ z=>z.tk (A7.tk s5),m13 _ _ g3,phs8.mono fun _ _ z=>z.tk (A7.tk s5),hcp.tk (A7.tk s5),Bt.over s5 htv8,m13 _ _ g4⟩
 have pa13:H13 B.pl=some (.lst (D.pa.map V.int++[.int D.la])):=by rw[s5 _ _ pa8,B3];rfl
 have k13:=hD7.deed (s5 _ _ o8) (s5 _ _ nm8) (s5 _ _ hls8) (pls8.mono fun _ _ z=>z.tk (A7.tk s5)) (s5 _ _ hhs8) (phs8.mono fun _ _ z=>z.tk (A7.tk s5)) pa13 hds13 (pds8.mono fun _ _ z=>z.over s5) hDo (s5 _ _ ht8) hf8 (by rw[AW]at tl8;omega)
 obtain⟨⟨a1,a2,a3,a4⟩,_⟩:=hD7.nds
 have n4:=hD7.ne.2.2.2.2.1
 have o14:(upd H13 B.dl (.lst (ds8++[.ref x]))) B.d=_:=(A8 (Ne.symm n4)).trans (s5 _ _ o8)
 have p14:(upd H13 B.dl (.lst (ds8++[.ref x]))) B.pl=_:=(A8 (Ne.symm a4)).trans pa13
 refine⟨B.dl,_,_,rfl,rfl,hds13,Ce (by rw[pds8.1];omega),?_⟩
 refine⟨_,rfl,B.d,_,B.dx,_,_,rfl,o14,T.cl_Draft,T.n_Draft_path,rfl,_,rfl,B.pl,_,_,rfl,rfl,p14,_,_,rfl,rfl,B.pl,_,_,_,rfl,rfl,p14,Rd.ix_end _ _,?_⟩
 rw[Rd.set_last]
 exact q _ ((Rd.Out.of (e13.trans e7)).trans (out8.trans ((Rd.Out.of s5).trans k13.1))) k13.2
theorem RC (T:Tx w K mg a):AK P w K mg base AS 3 a.f_H a.d_H ["draft","words"] (Rd.spSizeT a.c_Draft a.c_Deed (BA a)):=by
 have G_c :=@HN P w K mg base a T
 refine T.F_H.ok Nm (fun vs H Q E h=>?_) (fun cdv A outer s H vs Q E hr h=>?_)
 .obtain⟨_,_,_,_,_,_,rfl,_⟩:=h;rfl
 obtain⟨f,B,D,D',wl,n,rfl,hD,hw,hs,q⟩:=h
 refine⟨_,(@A5 _ _ _ _ _ (@AE _ _ _ _ _ _ _ _ ((@BL _ _ _ _ _ _ _ (@An _ _ _ _ _ _ _ _ D3 (@AR _ _ _ _ _ _ _ _ _ BJ (by rfl) T.z_len Bo (@A0 _ _ _ _ _ (pv 1) A2 (by rfl)) (by decide) (by decide) (by rfl) (by rfl)) A1 (@Am _ _ (by decide) (by decide))) (@C8 _ _ _ _ (@An _ _ _ _ _ _ _ _ D3 (@Af _ _ _ _ _ _ _ AV (pv 1) A1 (fun _ _=>rfl)) Aw (@Am _ _ (by decide) (by decide)))))).pt (@A9 _ _ _ (@Al _ _ _ _ Bu)) AF) (@A5 _ _ _ _ _ (@Aj _ _ (2) _ _ _ _ Nm.nd rfl (.inl rfl) (@Av _ _ _ _ _ _ _ _ _ _ _ _ _ _ _ _ G_c (hr.mono (by omega)) (by rfl) T.m_c T.F_c.kp T.b_c .nil Ao (@A0 _ _ _ _ _ (@Af _ _ _ _ _ _ _ AV (pv 1) A1 (fun _ _=>rfl)) A2 (by rfl)) (by decide) (by rfl) (by rfl)) (by rfl) (by first|exact .inl rfl|exact .inr rfl|assumption)) (@A5 _ _ _ _ _ (@AE _ _ _ _ _ _ _ _ ((@BL _ _ _ _ _ _ _ (@An _ _ _ _ _ _ _ _ Ey (pv 2) BW (@Am _ _ (by decide) (by decide))) (@C8 _ _ _ _ (@An _ _ _ _ _ _ _ _ Eu (pv 2) (@C3 _ _ _ _ _ (by rfl) T.g_LEAST_SIZE T.r_LEAST_SIZE (by decide)) (@Am _ _ (by decide) (by decide)))))).pt (@A9 _ _ _ (@Al _ _ _ _ Bu)) AF) (@A5 _ _ _ _ _ (@C7 _ _ _ _ _ _ _ _ (pv 0) (pv 2) rfl) (@A9 _ _ _ (@Al _ _ _ _ Bu)))))),?_⟩
 obtain⟨s0,s1,s2,rfl⟩:=hs
 obtain⟨gd,dg⟩:=Rd.nS_good (i:=n) (by omega) s2
 have nv:EZ (cds (nS n)) = .int n:=by unfold EZ;rw[Ag gd];exact congrArg V.int dg
 have nl:(nS n).length<=1000:=by rw[←cds_len];have:=gd.2.1;omega
 refine⟨_,rfl,wl,_,rfl,.inl (A3.of hw),rfl,_,rfl,Aq ?_⟩
 refine⟨_,rfl,wl,_,_,_,rfl,rfl,A3.of hw,rfl,rfl,_,rfl,Aq ?_⟩
 refine⟨_,rfl,wl,_,_,_,rfl,rfl,A3.of hw,rfl,_,rfl,nl,fun H1 e1=>?_⟩
 rw[nv]
 dsimp only[Ar]
 refine⟨_,rfl,rfl,_,rfl,Aq ?_⟩
 refine⟨_,rfl,_,_,rfl,rfl,_,rfl,?_⟩
 rw[BI (show ¬n<2 by omega)]
 refine Aq ?_
 have hD1:=hD.over e1
 obtain⟨o2,d2⟩:=hD1.size n
 exact⟨_,rfl,_,rfl,B.d,_,B.dx,_,rfl,hD1.o,T.cl_Draft,T.n_Draft_size,(by show 7<1000;decide),q _ ((Rd.Out.of e1).trans o2) d2⟩
theorem U1 (T:Tx w K mg a):AK P w K mg base AS 5 a.f_I a.d_I ["draft","words"] (Rd.spLoopT a.c_Draft a.c_Deed (BA a)):=by
 have G_a :=@Gc P w K mg base a T
 have G_f :=@Oz P w K mg base a T
 have G_o :=@Np P w K mg base a T
 refine T.F_I.ok KU (fun vs H Q E h=>?_) (fun cdv A outer s H vs Q E hr h=>?_)
 .obtain⟨_,_,_,_,_,_,rfl,_⟩:=h;rfl
 obtain⟨f,B,D,D',wl,t,rfl,hD,hw,hs,q⟩:=h
 refine⟨_,(@A5 _ _ _ _ _ (@AE _ _ _ _ _ _ _ _ ((@BL _ _ _ _ _ _ _ (@An _ _ _ _ _ _ _ _ D3 (@AR _ _ _ _ _ _ _ _ _ BJ (by rfl) T.z_len Bo (@A0 _ _ _ _ _ (pv 1) A2 (by rfl)) (by decide) (by decide) (by rfl) (by rfl)) A1 (@Am _ _ (by decide) (by decide))) (@C8 _ _ _ _ (@An _ _ _ _ _ _ _ _ Bk (@AR _ _ _ _ _ _ _ _ _ BJ (by rfl) T.z_len Bo (@A0 _ _ _ _ _ (@AM _ _ _ _ _ (pv 0) rfl) A2 (by rfl)) (by decide) (by decide) (by rfl) (by rfl)) (@C3 _ _ _ _ _ (by rfl) T.g_MOST_LOOPS T.r_MOST_LOOPS (by decide)) (@Am _ _ (by decide) (by decide)))))).pt (@A9 _ _ _ (@Al _ _ _ _ Bu)) AF) (@A5 _ _ _ _ _ (@AE _ _ _ _ _ _ _ _ ((@BL _ _ _ _ _ _ _ (@Cj _ _ _ _ (@Bx _ _ _ (@Av _ _ _ _ _ _ _ _ _ _ _ _ _ _ _ _ G_a (hr.mono (by omega)) (by rfl) T.m_a T.F_a.kp T.b_a .nil Ao (@A0 _ _ _ _ _ (@Af _ _ _ _ _ _ _ AV (pv 1) A1 (fun _ _=>rfl)) A2 (by rfl)) (by decide) (by rfl) (by rfl)) (by intro _;rfl))) (@C8 _ _ _ _ (@An _ _ _ _ _ _ _ _ Gx (@Af _ _ _ _ _ _ _ AV (pv 1) A1 (fun _ _=>rfl)) (@AM _ _ _ _ _ (pv 0) rfl) (by with_unfolding_all rfl))))).pt (@A9 _ _ _ (@Al _ _ _ _ Bu)) AF) (@A5 _ _ _ _ _ (@Aj _ _ (2) _ _ _ _ KU.nd rfl (.inl rfl) (@Av _ _ _ _ _ _ _ _ _ _ _ _ _ _ _ _ G_f (hr.mono (by omega)) (by rfl) T.m_f T.F_f.kp T.b_f .nil Ao (@A0 _ _ _ _ _ (@Af _ _ _ _ _ _ _ AV (pv 1) A1 (fun _ _=>rfl)) A2 (by rfl)) (by decide) (by rfl) (by rfl)) (by rfl) (by first|exact .inl rfl|exact .inr rfl|assumption)) (@A5 _ _ _ _ _ (@Aj _ _ (3) _ _ _ _ KU.nd rfl (.inl rfl) (@Av _ _ _ _ _ _ _ _ _ _ _ _ _ _ _ _ G_f (hr.mono (by omega)) (by rfl) T.m_f T.F_f.kp T.b_f .nil Ao (@A0 _ _ _ _ _ (@Af _ _ _ _ _ _ _ AV (pv 1) A1 (fun _ _=>rfl)) A2 (by rfl)) (by decide) (by rfl) (by rfl)) (by rfl) (by first|exact .inl rfl|exact .inr rfl|assumption)) (@A5 _ _ _ _ _ (@AE _ _ _ _ _ _ _ _ ((@BL _ _ _ _ _ _ _ (@An _ _ _ _ _ _ _ _ Ey (pv 2) BW (@Am _ _ (by decide) (by decide))) (@BL _ _ _ _ _ _ _ (@An _ _ _ _ _ _ _ _ Ey (pv 3) BW (@Am _ _ (by decide) (by decide))) (@C8 _ _ _ _ (@Cj _ _ _ _ (@Bx _ _ _ (@Av _ _ _ _ _ _ _ _ _ _ _ _ _ _ _ _ G_o (hr.mono (by omega)) (by rfl) T.m_o T.F_o.kp T.b_o .nil Ao (@A0 _ _ _ _ _ (pv 0) (@A0 _ _ _ _ _ (@CU _ _ _ _ _ (@A0 _ _ _ _ _ (pv 2) (@A0 _ _ _ _ _ (pv 3) A2 (by rfl)) (by rfl))) A2 (by rfl)) (by rfl)) (by decide) (by rfl) (by rfl)) (by intro _;rfl))))))).pt (@A9 _ _ _ (@Al _ _ _ _ Bu)) AF) (@A5 _ _ _ _ _ (@BF _ _ _ _ (@Bm _ _ _ _ _ _ _ _ _ _ _ _ Bs Cp Cq Cc (@AM _ _ _ _ _ (pv 0) rfl) (@A0 _ _ _ _ _ (@Af _ _ _ _ _ _ _ AV (pv 1) A1 (fun _ _=>rfl)) A2 (by rfl)) (by rfl) (by rfl) (by rfl) (by rfl) (by rfl)) (by rfl)) (@A5 _ _ _ _ _ (@BF _ _ _ _ (@Bm _ _ _ _ _ _ _ _ _ _ _ _ Bs Cp Cq Cc (@AM _ _ _ _ _ (pv 0) rfl) (@A0 _ _ _ _ _ (pv 2) A2 (by rfl)) (by rfl) (by rfl) (by rfl) (by rfl) (by rfl)) (by rfl)) (@A5 _ _ _ _ _ (@BF _ _ _ _ (@Bm _ _ _ _ _ _ _ _ _ _ _ _ Bs Cp Cq Cc (@AM _ _ _ _ _ (pv 0) rfl) (@A0 _ _ _ _ _ (pv 3) A2 (by rfl)) (by rfl) (by rfl) (by rfl) (by rfl) (by rfl)) (by rfl)) (@A5 _ _ _ _ _ (@BF _ _ _ _ (@Bm _ _ _ _ _ _ _ _ _ _ _ _ Bs Cp Cq Cc (@AM _ _ _ _ _ (pv 0) rfl) (@A0 _ _ _ _ _ A1 A2 (by rfl)) (by rfl) (by rfl) (by rfl) (by rfl) (by rfl)) (by rfl)) (@A9 _ _ _ (@Al _ _ _ _ Bu))))))))))),?_⟩
 obtain⟨s0,l3,hnm,hnin,slo,shi,klo,khi,rfl⟩:=hs
 have zl:t.nm.length<=1000:=by have:=hnm.2.1;rw[cds_len]at this;omega
 refine⟨_,rfl,wl,_,rfl,.inl (A3.of hw),rfl,_,rfl,Aq ?_⟩
 refine⟨_,rfl,B.d,_,B.dx,_,_,rfl,hD.o,T.cl_Draft,T.n_Draft_names,rfl,B.nl,_,rfl,.inl (A3.of hD.nm),rfl,_,rfl,?_⟩
 refine AD (fun y=>absurd (V.int.inj (dT y)) (by rw[Ap];omega)) (fun _=>?_)
 refine⟨_,rfl,wl,_,_,_,rfl,rfl,A3.of hw,rfl,_,rfl,zl,fun H1 e1=>⟨_,rfl,?_⟩⟩
 rw[B5 hnm]
 refine Aq ?_
 have hD1:=hD.over e1
 have hw1:=e1 _ _ hw
 have hn1:H1 B.nl=some (.lst ((D.lp.map (·.nm)).map V.str)):=by rw[GP];exact hD1.nm
 refine⟨_,rfl,wl,_,_,_,rfl,rfl,A3.of hw1,rfl,_,rfl,B.d,_,B.dx,_,_,rfl,hD1.o,T.cl_Draft,T.n_Draft_names,rfl,B.nl,_,rfl,.inl (A3.of hn1),rfl,Rd.flat_strs _,_,rfl,?_⟩
 rw[show Dj (V.str t.nm) ((D.lp.map (·.nm)).map V.str)=false from(Rd.in_strs _ _).trans (BI hnin)]
 refine Aq ?_
 refine⟨_,rfl,wl,_,_,_,rfl,rfl,A3.of hw1,rfl,_,rfl,(by have:=Fe slo.2;omega),?_⟩
 rw[Rd.spot_read slo]
 intro r2 H2 e2 h2
 rw[Ep]at h2
 dsimp only[Ar]
 have hw2:=e2 _ _ hw1
 refine⟨_,rfl,wl,_,_,_,rfl,rfl,A3.of hw2,rfl,_,rfl,(by have:=Fe shi.2;omega),?_⟩
 rw[Rd.spot_read shi]
 intro r3 H3 e3 h3
 rw[Ep]at h3
 dsimp only[Ar]
 refine⟨_,rfl,rfl,_,rfl,Aq ?_⟩
 refine⟨_,rfl,rfl,_,rfl,Aq ?_⟩
 refine⟨_,rfl,_,rfl,_,rfl,AG rfl,fun tp htp=>?_⟩
 have e4:=e1.trans (e2.trans (e3.trans (Ac htp (.tup [.ref r2,.ref r3]))))
 have h24:=(e3.trans (Ac htp (.tup [.ref r2,.ref r3]))) _ _ h2
 have h34:=(Ac htp (.tup [.ref r2,.ref r3])) _ _ h3
 have htp4:(upd H3 tp (.tup [.ref r2,.ref r3])) tp=some (.tup [.ref r2,.ref r3]):=A6
 generalize upd H3 tp (.tup [.ref r2,.ref r3])=H4 at e4 h24 h34 htp4
 refine⟨B.d,tp,_,[t.lo,t.hi],rfl,(hD.over e4).drn,⟨_,htp4,rfl,fun i x s hx hs=>?_⟩,(by show 2<=1000;decide),fun H5 e5=>⟨_,rfl,?_⟩⟩
 .match i,hx,hs with
  |0,hx,hs=>cases hx;cases hs;exact⟨r2,rfl,h24⟩
  |1,hx,hs=>cases hx;cases hs;exact⟨r3,rfl,h34⟩
  |_+2,hx,hs=>cases hx
 rw[show([t.lo,t.hi].all (Rd.knw (D.lp.map (·.nm))))=true from by rw[K1,K1,klo,khi];rfl]
 refine Aq ?_
 have e05:=e4.trans e5
 have hD5:=hD.over e05
 have hw5:=e05 _ _ hw
 have s2:BY H5 (.ref r2) t.lo:=⟨r2,rfl,e5 _ _ h24⟩
 have s3:BY H5 (.ref r3) t.hi:=⟨r3,rfl,e5 _ _ h34⟩
 obtain⟨y1,y2,y3,y4,y5,y6,m1,m2,m3,m4,m5⟩:=hD5.ne
 obtain⟨⟨a1,a2,a3,a4⟩,⟨b1,b2,b3⟩,⟨c1,c2⟩,d1⟩:=hD5.nds
 obtain⟨ls,hls,pls⟩:=hD5.lo
 obtain⟨hs,hhs,phs⟩:=hD5.hi
 have k4:=hD5.four (lp:=D.lp++[t]) (pa:=D.pa++[D.la]) (la:=0) (pls.snoc s2) (phs.snoc s3) (by rw[Au,Au,hD5.pl];rfl)
 have hnm5:=hD5.nm
 refine⟨_,rfl,B.d,_,B.dx,_,_,rfl,hD5.o,T.cl_Draft,T.n_Draft_names,rfl,.inl ⟨rfl,_,A3.of hnm5⟩,_,rfl,wl,_,_,_,rfl,rfl,A3.of hw5,rfl,B.nl,_,_,rfl,rfl,hnm5,Ce (by rw[Ap];omega),?_⟩
 rw[show D.lp.map (fun t=>V.str t.nm)++[.str t.nm]=(D.lp++[t]).map (fun t=>V.str t.nm) from by rw[B3];rfl]
 have o1:(upd H5 B.nl (.lst ((D.lp++[t]).map fun t=>V.str t.nm))) B.d=_:=((A8 (Ne.symm y1)).trans hD5.o)
 have l1:(upd H5 B.nl (.lst ((D.lp++[t]).map fun t=>V.str t.nm))) B.ll=_:=((A8 (Ne.symm b1)).trans hls)
 refine⟨_,rfl,B.d,_,B.dx,_,_,rfl,o1,T.cl_Draft,T.n_Draft_lows,rfl,.inl ⟨rfl,_,A3.of l1⟩,_,rfl,B.ll,_,_,rfl,rfl,l1,Ce (by rw[pls.1];omega),?_⟩
 have o2:(upd (upd H5 B.nl (.lst ((D.lp++[t]).map fun t=>V.str t.nm))) B.ll (.lst (ls++[.ref r2]))) B.d=_:=((A8 (Ne.symm y2)).trans o1)
 have l2:(upd (upd H5 B.nl (.lst ((D.lp++[t]).map fun t=>V.str t.nm))) B.ll (.lst (ls++[.ref r2]))) B.hl=_:=((A8 (Ne.symm c1)).trans ((A8 (Ne.symm b2)).trans hhs))
 refine⟨_,rfl,B.d,_,B.dx,_,_,rfl,o2,T.cl_Draft,T.n_Draft_highs,rfl,.inl ⟨rfl,_,A3.of l2⟩,_,rfl,B.hl,_,_,rfl,rfl,l2,Ce (by rw[phs.1];omega),?_⟩
 have o3:(upd (upd (upd H5 B.nl (.lst ((D.lp++[t]).map fun t=>V.str t.nm))) B.ll (.lst (ls++[.ref r2]))) B.hl (.lst (hs++[.ref r3]))) B.d=_:=((A8 (Ne.symm y3)).trans o2)
 have l3':(upd (upd (upd H5 B.nl (.lst ((D.lp++[t]).map fun t=>V.str t.nm))) B.ll (.lst (ls++[.ref r2]))) B.hl (.lst (hs++[.ref r3]))) B.pl=_:=((A8 (Ne.symm d1)).trans ((A8 (Ne.symm c2)).trans ((A8 (Ne.symm b3)).trans hD5.pa)))
 refine⟨_,rfl,B.d,_,B.dx,_,_,rfl,o3,T.cl_Draft,T.n_Draft_path,rfl,.inl ⟨rfl,_,A3.of l3'⟩,B.pl,_,_,rfl,rfl,l3',Ce (by rw[Ap,Au,hD5.pl,BD];omega),?_⟩
 rw[B3 (f:=V.int) (l₁:=D.pa++[D.la]) (l₂:=[0])]at k4
 exact q _ ((Rd.Out.of e05).trans k4.1) k4.2
theorem Us (T:Tx w K mg a):AK P w K mg base AS 1 a.f_J a.d_J ["draft","words"] (Rd.spEndT a.c_Draft a.c_Deed (BA a)):=by
 refine T.F_J.ok Vi (fun vs H Q E h=>?_) (fun cdv A outer s H vs Q E hr h=>?_)
 .obtain⟨_,_,_,_,_,rfl,_⟩:=h;rfl
 obtain⟨f,B,D,D',wl,rfl,hD,hw,hs,q⟩:=h
 refine⟨_,(@A5 _ _ _ _ _ (@AE _ _ _ _ _ _ _ _ ((@BL _ _ _ _ _ _ _ (@An _ _ _ _ _ _ _ _ D3 (@AR _ _ _ _ _ _ _ _ _ BJ (by rfl) T.z_len Bo (@A0 _ _ _ _ _ (pv 1) A2 (by rfl)) (by decide) (by decide) (by rfl) (by rfl)) A1 (@Am _ _ (by decide) (by decide))) (@BL _ _ _ _ _ _ _ (@An _ _ _ _ _ _ _ _ (@KF _ (@Ez _ _ hr)) (@AM _ _ _ _ _ (pv 0) rfl) (@Bl _ _ _ _ A2) (@Am _ _ (by decide) (by decide))) (@C8 _ _ _ _ (@An _ _ _ _ _ _ _ _ Bk (@Af _ _ _ _ _ _ _ AV (@AM _ _ _ _ _ (pv 0) rfl) (@CS _ _ _ _ _ _ CW A1) (fun _ _=>rfl)) A1 (@Am _ _ (by decide) (by decide))))))).pt (@A9 _ _ _ (@Al _ _ _ _ Bu)) AF) (@A5 _ _ _ _ _ (@BF _ _ _ _ (@DU _ _ _ _ _ _ _ _ _ Bs ED EE Ef (@AM _ _ _ _ _ (pv 0) rfl) (by rfl) (by rfl)) (by rfl)) (@A5 _ _ _ _ _ (@BF _ _ _ _ (@DU _ _ _ _ _ _ _ _ _ Bs ED EE Ef (@AM _ _ _ _ _ (pv 0) rfl) (by rfl) (by rfl)) (by rfl)) (@A5 _ _ _ _ _ (@BF _ _ _ _ (@DU _ _ _ _ _ _ _ _ _ Bs ED EE Ef (@AM _ _ _ _ _ (pv 0) rfl) (by rfl) (by rfl)) (by rfl)) (@A5 _ _ _ _ _ (@BF _ _ _ _ (@DU _ _ _ _ _ _ _ _ _ Bs ED EE Ef (@AM _ _ _ _ _ (pv 0) rfl) (by rfl) (by rfl)) (by rfl)) (@A5 _ _ _ _ _ (@Nx _ _ _ _ _ _ _ _ _ _ _ _ _ (@AM _ _ _ _ _ (pv 0) rfl) (@CS _ _ _ _ _ _ CW A1) Oh A1 Kk Mi (by intros;rfl)) (@A9 _ _ _ (@Al _ _ _ _ Bu)))))))),?_⟩
 obtain⟨s0,lp,t0,pa,m,e1,e2,la0,rfl⟩:=hs
 refine⟨_,rfl,wl,_,rfl,.inl (A3.of hw),rfl,_,rfl,Aq ?_⟩
 refine⟨_,rfl,B.d,_,B.dx,_,_,rfl,hD.o,T.cl_Draft,T.n_Draft_names,rfl,AG rfl,fun en hen=>?_⟩
 have es:=Ac hen (.lst [])
 have hD1:=hD.over es
 have hen1:(upd H en (.lst [])) en=some (.lst []):=A6
 generalize upd H en (.lst [])=H1 at es hD1 hen1
 obtain⟨n1,n2,n3,n4,n5,n6,m1,m2,m3,m4,m5⟩:=hD1.ne
 obtain⟨⟨a1,a2,a3,a4⟩,⟨b1,b2,b3⟩,⟨c1,c2⟩,d1⟩:=hD1.nds
 have hnm:H1 B.nl=some (.lst (lp.map (fun t=>V.str t.nm)++[.str t0.nm])):=by rw[hD1.nm,e1,B3];rfl
 obtain⟨ls,hls,pls⟩:=hD1.lo
 obtain⟨hs,hhs,phs⟩:=hD1.hi
 rw[e1]at pls phs
 obtain⟨ls,lx,rfl,pls,-⟩:=Rd.all2_pop pls
 obtain⟨hs,hx,rfl,phs,-⟩:=Rd.all2_pop phs
 have hpa:H1 B.pl=some (.lst ((pa.map V.int++[.int m])++[.int D.la])):=by rw[hD1.pa,e2,B3,B3];rfl
 refine⟨B.nl,en,_,rfl,rfl,A3.of hnm,A3.of hen1,_,rfl,?_⟩
 refine AD (fun y=>absurd y (by simp)) (fun _=>?_)
 refine⟨_,rfl,B.d,_,B.dx,_,_,rfl,hD1.o,T.cl_Draft,T.n_Draft_path,rfl,_,rfl,B.pl,_,_,_,rfl,rfl,A3.of hpa,L1 _ _,rfl,_,rfl,?_⟩
 refine AD (fun y=>absurd (V.int.inj (dT y)) la0) (fun _=>?_)
 refine⟨_,rfl,B.d,_,B.dx,_,_,rfl,hD1.o,T.cl_Draft,T.n_Draft_names,rfl,.inl ⟨rfl,_,A3.of hnm⟩,B.nl,_,_,rfl,rfl,hnm,C9.1,?_⟩
 rw[C9.2]
 have o1:(upd H1 B.nl (.lst (lp.map fun t=>V.str t.nm))) B.d=_:=((A8 (Ne.symm n1)).trans hD1.o)
 have l1:(upd H1 B.nl (.lst (lp.map fun t=>V.str t.nm))) B.ll=_:=((A8 (Ne.symm b1)).trans hls)
 refine⟨_,rfl,B.d,_,B.dx,_,_,rfl,o1,T.cl_Draft,T.n_Draft_lows,rfl,.inl ⟨rfl,_,A3.of l1⟩,B.ll,_,_,rfl,rfl,l1,C9.1,?_⟩
 rw[C9.2]
 have o2:(upd (upd H1 B.nl (.lst (lp.map fun t=>V.str t.nm))) B.ll (.lst ls)) B.d=_:=((A8 (Ne.symm n2)).trans o1)
 have l2:(upd (upd H1 B.nl (.lst (lp.map fun t=>V.str t.nm))) B.ll (.lst ls)) B.hl=_:=((A8 (Ne.symm c1)).trans ((A8 (Ne.symm b2)).trans hhs))
 refine⟨_,rfl,B.d,_,B.dx,_,_,rfl,o2,T.cl_Draft,T.n_Draft_highs,rfl,.inl ⟨rfl,_,A3.of l2⟩,B.hl,_,_,rfl,rfl,l2,C9.1,?_⟩
 rw[C9.2]
 have o3:(upd (upd (upd H1 B.nl (.lst (lp.map fun t=>V.str t.nm))) B.ll (.lst ls)) B.hl (.lst hs)) B.d=_:=((A8 (Ne.symm n3)).trans o2)
 have l3:(upd (upd (upd H1 B.nl (.lst (lp.map fun t=>V.str t.nm))) B.ll (.lst ls)) B.hl (.lst hs)) B.pl=_:=((A8 (Ne.symm d1)).trans ((A8 (Ne.symm c2)).trans ((A8 (Ne.symm b3)).trans hpa)))
 refine⟨_,rfl,B.d,_,B.dx,_,_,rfl,o3,T.cl_Draft,T.n_Draft_path,rfl,.inl ⟨rfl,_,A3.of l3⟩,B.pl,_,_,rfl,rfl,l3,C9.1,?_⟩
 rw[C9.2]
 have o4:(upd (upd (upd (upd H1 B.nl (.lst (lp.map fun t=>V.str t.nm))) B.ll (.lst ls)) B.hl (.lst hs)) B.pl (.lst (pa.map V.int++[.int m]))) B.d=_:=((A8 (Ne.symm n4)).trans o3)
 refine⟨_,rfl,B.d,_,B.dx,_,_,rfl,o4,T.cl_Draft,T.n_Draft_path,rfl,_,rfl,B.pl,_,_,rfl,rfl,A6,_,_,rfl,rfl,B.pl,_,_,_,rfl,rfl,A6,Rd.ix_end _ _,?_⟩
 rw[Rd.set_last,NW]
 have k4:=hD1.four (lp:=lp) (pa:=pa) (la:=m+1) pls phs (by have:=hD1.pl;rw[e1,e2,Au,Au]at this;exact Nat.add_right_cancel this)
 rw[B3]at k4
 exact q _ ((Rd.Out.of es).trans k4.1) k4.2
theorem Sq (T:Tx w K mg a):AK P w K mg base AS 9 a.f_K a.d_K ["draft","row"] (Rd.spTaken a.c_Draft a.c_Deed (BA a)):=by
 have G_z :=@Sd P w K mg base a T
 have G_H :=@RC P w K mg base a T
 have G_I :=@U1 P w K mg base a T
 have G_J :=@Us P w K mg base a T
 have G_G :=@Ri P w K mg base a T
 refine T.F_K.ok M6 (fun vs H Q E h=>?_) (fun cdv A outer s H vs Q E hr h=>?_)
 .obtain⟨_,_,_,_,_,_,rfl,_⟩:=h;rfl
 obtain⟨f,B,D,D',z,r,rfl,hD,zl,hr',hs,q⟩:=h
 refine⟨_,(@A5 _ _ _ _ _ (@Aj _ _ (2) _ _ _ _ M6.nd rfl (.inl rfl) (@Av _ _ _ _ _ _ _ _ _ _ _ _ _ _ _ _ G_z (hr.mono (by omega)) (by rfl) T.m_z T.F_z.kp T.b_z .nil Ao (@A0 _ _ _ _ _ (pv 1) A2 (by rfl)) (by decide) (by rfl) (by rfl)) (by rfl) (by first|exact .inl rfl|exact .inr rfl|assumption)) (@A5 _ _ _ _ _ (@AE _ _ _ _ _ _ _ _ (@An _ _ _ _ _ _ _ _ Ey (@AM _ _ _ _ _ (pv 0) rfl) BW (@Am _ _ (by decide) (by decide))) (@A9 _ _ _ (@Al _ _ _ _ (@Av _ _ _ _ _ _ _ _ _ _ _ _ _ _ _ _ G_H (hr.mono (by omega)) (by rfl) T.m_H T.F_H.kp T.b_H .nil Ao (@A0 _ _ _ _ _ (pv 0) (@A0 _ _ _ _ _ (pv 2) A2 (by rfl)) (by rfl)) (by decide) (by rfl) (by rfl)))) AF) (@A5 _ _ _ _ _ (@AE _ _ _ _ _ _ _ _ (@An _ _ _ _ _ _ _ _ Bk (@Af _ _ _ _ _ _ _ AV (pv 2) A1 (fun _ _=>rfl)) Aw (@Am _ _ (by decide) (by decide))) (@A9 _ _ _ (@Al _ _ _ _ (@Av _ _ _ _ _ _ _ _ _ _ _ _ _ _ _ _ G_I (hr.mono (by omega)) (by rfl) T.m_I T.F_I.kp T.b_I .nil Ao (@A0 _ _ _ _ _ (pv 0) (@A0 _ _ _ _ _ (pv 2) A2 (by rfl)) (by rfl)) (by decide) (by rfl) (by rfl)))) AF) (@A5 _ _ _ _ _ (@AE _ _ _ _ _ _ _ _ (@An _ _ _ _ _ _ _ _ Bk (@Af _ _ _ _ _ _ _ AV (pv 2) A1 (fun _ _=>rfl)) Aw (@Am _ _ (by decide) (by decide))) (@A9 _ _ _ (@Al _ _ _ _ (@Av _ _ _ _ _ _ _ _ _ _ _ _ _ _ _ _ G_J (hr.mono (by omega)) (by rfl) T.m_J T.F_J.kp T.b_J .nil Ao (@A0 _ _ _ _ _ (pv 0) (@A0 _ _ _ _ _ (pv 2) A2 (by rfl)) (by rfl)) (by decide) (by rfl) (by rfl)))) AF) (@A9 _ _ _ (@Al _ _ _ _ (@Qh _ _ _ _ _ _ _ _ _ _ _ _ D3 (@Af _ _ _ _ _ _ _ AV (pv 2) A1 (fun _ _=>rfl)) (by rfl) (@T9 _ _ _ _ _ _ _ _ _ _ _ _ _ _ _ _ G_G (hr.mono (by omega)) (by rfl) T.m_G T.F_G.kp T.b_G .nil Ao (@VS _ _ _ _ _ (pv 0) (@SQ _ _ _ (@RV _ _ _ _ (32) _ _ _ _ _ _ _ (by rfl) (by rfl) (by decide) (pv 1) (by rfl) (by rfl) (by rfl)) (by rfl)) (by rfl)) (by decide) (by rfl) (by rfl))))))))),?_⟩
 refine⟨_,rfl,z,rfl,zl,fun wl H1 ps e1 hsp hwl=>?_⟩
 dsimp only[Ar]
 have hD1:=hD.over e1
 have hlen:=cds_len z
 have key:∀{ws:List Str},Rd.Wds (cds z) ws->H1 wl=some (.lst (ws.map V.str)):=fun{ws} hw=>by rw[hwl,hw.at hsp]
 have q1:∀H',Rd.Out B H1 H'->Rd.DrAt a.c_Draft a.c_Deed (BA a) f H' B D'->Q (.bl true) H':=fun H' o d=>q H' ((Rd.Out.of e1).trans o) d
 have notnone:D.sz≠none->∃m,Rd.szV D.sz = .int m:=fun h=>by
  cases hz:D.sz with
  |none=>exact absurd hz h
  |some m=>exact⟨m,rfl⟩
 cases r with
 |
  sz n=>
  have hw:=key hr'
  refine⟨_,rfl,B.d,_,B.dx,_,_,rfl,hD1.o,T.cl_Draft,T.n_Draft_size,rfl,rfl,_,rfl,?_⟩
  rw[hs.1]
  refine Be ?_
  exact⟨_,rfl,_,rfl,f,B,D,D',wl,n,rfl,hD1,hw,hs,q1⟩
 |
  opn t=>
  have hw:=key hr'
  obtain⟨m,em⟩:=notnone hs.1
  refine⟨_,rfl,B.d,_,B.dx,_,_,rfl,hD1.o,T.cl_Draft,T.n_Draft_size,rfl,rfl,_,rfl,?_⟩
  rw[em]
  refine Aq ?_
  refine⟨_,rfl,wl,_,_,_,rfl,rfl,A3.of hw,rfl,rfl,_,rfl,Be ?_⟩
  exact⟨_,rfl,_,rfl,f,B,D,D',wl,t,rfl,hD1,hw,hs,q1⟩
 |
  fin=>
  have hw:=key hr'
  obtain⟨m,em⟩:=notnone hs.1
  refine⟨_,rfl,B.d,_,B.dx,_,_,rfl,hD1.o,T.cl_Draft,T.n_Draft_size,rfl,rfl,_,rfl,?_⟩
  rw[em]
  refine Aq ?_
  refine⟨_,rfl,wl,_,_,_,rfl,rfl,A3.of hw,rfl,rfl,_,rfl,Aq ?_⟩
  refine⟨_,rfl,wl,_,_,_,rfl,rfl,A3.of hw,rfl,rfl,_,rfl,Be ?_⟩
  exact⟨_,rfl,_,rfl,f,B,D,D',wl,rfl,hD1,hw,hs,q1⟩
 |
  ded tb sp ks t=>
  obtain⟨⟨w0,ws,hw0,n1,n2,n3⟩,hrow⟩:=hr'
  have hw:=key hw0
  obtain⟨m,em⟩:=notnone hs.1
  have at0:Bz ((w0::ws).map V.str) 0=some (.str w0):=EG (j:=0) rfl
  have ne:∀{u:Str},w0≠u->decide (V.str w0=V.str u)=false:=fun h=>BI fun e=>h (V.str.inj e)
  refine⟨_,rfl,B.d,_,B.dx,_,_,rfl,hD1.o,T.cl_Draft,T.n_Draft_size,rfl,rfl,_,rfl,?_⟩
  rw[em]
  refine Aq ?_
  refine⟨_,rfl,wl,_,_,_,rfl,rfl,A3.of hw,at0,rfl,_,rfl,?_⟩
  rw[ne n1]
  refine Aq ?_
  refine⟨_,rfl,wl,_,_,_,rfl,rfl,A3.of hw,at0,rfl,_,rfl,?_⟩
  rw[ne n2]
  refine Aq ?_
  refine⟨_,rfl,wl,_,_,_,rfl,rfl,A3.of hw,at0,rfl,_,rfl,?_⟩
  rw[ne n3]
  refine Be ?_
  refine⟨_,rfl,_,rfl,rfl,z,rfl,by omega,f,B,D,D',_,tb,sp,ks,t,rfl,hD1,?_,?_,hs,q1⟩
  .rw[B7,←hrow]
   congr 1
   funext c
   by_cases h:c=32
   .rw[h];rfl
   .rw[B5 h]
    exact Eh.mpr h
  .rw[CN]
   have:=LS (· != 32) (cds z)
   omega
theorem Tf (T:Tx w K mg a):AK P w K mg base AS 10 a.f_r a.d_r ["text"] (Rd.spReadB a.c_Program a.c_Deed (BA a)):=by
 have G_y :=@Rt P w K mg base a T
 have G_K :=@Sq P w K mg base a T
 have G_Z :=@OU P w K mg base a T
 have G_Y :=@Q5 P w K mg base a T
 refine T.F_r.ok Gk (fun vs H Q E h=>?_) (fun cdv A outer s H vs Q E hr h=>?_)
 .obtain⟨_,_,_,_,_,rfl,_⟩:=h;rfl
 obtain⟨f,z,rows,E,n,rfl,zl,hsp,rl,hrw,hR,hE,dne,lpn,q⟩:=h
 refine⟨_,(@A5 _ _ _ _ _ (@Aj _ _ (1) _ _ _ _ Gk.nd rfl (.inl rfl) (@Bm _ _ _ _ _ _ _ _ _ _ _ _ Eg OO OP KL (pv 0) (@A0 _ _ _ _ _ Aw A2 (by rfl)) (by rfl) (by rfl) (by rfl) (by rfl) (by rfl)) (by rfl) (by first|exact .inl rfl|exact .inr rfl|assumption)) (@A5 _ _ _ _ _ (@Aj _ _ (2) _ _ _ _ Gk.nd rfl (.inl rfl) (@VA _ _ _ _ _ _ _ _ _ _ _ _ _ _ T.mk_Draft G_Z (hr.mono (by omega)) (by rfl) T.mc_Draft T.b_Z .nil Ao (by decide)) (by rfl) (by first|exact .inl rfl|exact .inr rfl|assumption)) (@A5 _ _ _ _ _ (@EH _ _ _ _ _ _ _ _ PassesOwn.never rfl (@VP _ _ _ _ _ _ _ _ _ _ _ (by rfl) T.z_enumerate (@A0 _ _ _ _ _ (pv 1) A2 (by rfl)) (by rfl)) (Jp rfl (Fg (Bv (i:=3) Gk.nd rfl (.inl rfl)) (Fg (Bv (i:=4) Gk.nd rfl (.inl rfl)) JO))) (@A5 _ _ _ _ _ (@Aj _ _ (5) _ _ _ _ Gk.nd rfl (.inl rfl) (@Av _ _ _ _ _ _ _ _ _ _ _ _ _ _ _ _ G_y (hr.mono (by omega)) (by rfl) T.m_y T.F_y.kp T.b_y .nil Ao (@A0 _ _ _ _ _ (pv 4) A2 (by rfl)) (by decide) (by rfl) (by rfl)) (by rfl) (by first|exact .inl rfl|exact .inr rfl|assumption)) (@A9 _ _ _ (@AE _ _ _ _ _ _ _ _ ((@Df _ _ _ _ _ _ _ (@An _ _ _ _ _ _ _ _ D3 (pv 5) Aw (@Am _ _ (by decide) (by decide))) (@DY _ _ _ _ (@Cj _ _ _ _ (@Bx _ _ _ (@Av _ _ _ _ _ _ _ _ _ _ _ _ _ _ _ _ G_K (hr.mono (by omega)) (by rfl) T.m_K T.F_K.kp T.b_K .nil Ao (@A0 _ _ _ _ _ (pv 2) (@A0 _ _ _ _ _ (pv 5) A2 (by rfl)) (by rfl)) (by decide) (by rfl) (by rfl)) (by intro _;rfl)))))).pt (@A9 _ _ _ Nq) AF))) (by intro _;rfl)) (@A5 _ _ _ _ _ (@AE _ _ _ _ _ _ _ _ ((@BL _ _ _ _ _ _ _ (@An _ _ _ _ _ _ _ _ Ey (@AM _ _ _ _ _ (pv 2) rfl) BW (@Am _ _ (by decide) (by decide))) (@BL _ _ _ _ _ _ _ (@An _ _ _ _ _ _ _ _ (@KF _ (@Ez _ _ hr)) (@AM _ _ _ _ _ (pv 2) rfl) (@Bl _ _ _ _ A2) (@Am _ _ (by decide) (by decide))) (@C8 _ _ _ _ (@An _ _ _ _ _ _ _ _ (@Hs _ (@Ez _ _ hr)) (@AM _ _ _ _ _ (pv 2) rfl) (@Bl _ _ _ _ A2) (@Am _ _ (by decide) (by decide))))))).pt (@A9 _ _ _ Nq) AF) (@A9 _ _ _ (@Al _ _ _ _ (@GA _ _ _ _ _ _ _ _ _ _ _ _ _ _ _ _ _ T.mk_Program G_Y (hr.mono (by omega)) (by rfl) T.mc_Program T.b_Y .nil Ao (@A0 _ _ _ _ _ (@AM _ _ _ _ _ (pv 2) rfl) (@A0 _ _ _ _ _ (@AM _ _ _ _ _ (pv 2) rfl) A2 (by rfl)) (by rfl)) (by decide) (by rfl) (by rfl)))))))),?_⟩
 have ec:cds (Str.ofString "\n")=[10]:=by decide +kernel
 refine⟨_,rfl,rfl,z,_,rfl,rfl,by decide +kernel,?_,by omega,fun l ps hl hs=>?_⟩
 .rw[ec]
  intro c hc
  rw[E6.mp hc]
  decide
 rw[ec]at hs
 obtain rfl:ps=rows:=Rd.map_cds_inj (hs.fn hsp)
 have e1:=Ac hl (.lst (ps.map V.str))
 have hl1:(upd H l (.lst (ps.map V.str))) l=_:=A6
 generalize upd H l (.lst (ps.map V.str))=H1 at e1 hl1
 dsimp only[Ar]
 refine fun x dx nx ndx ne=>⟨x,dx,rfl,A6,fun H2 B hBd k2 fr hD0=>⟨rfl,?_⟩⟩
 subst hBd
 have e2:A7 H1 H2:=FX nx ndx k2
 have fr1:∀b,B.own b->H1 b=none:=fun b hb=>by
  by_cases hbx:b=B.d
  .rw[hbx];exact nx
  .cases hz:H1 b with
   |none=>rfl
   |
    some u=>
    have:=fr b hb hbx
    rw[A8 hbx,A8 (AI hz ndx),hz]at this
    cases this
 have onto:∀{H' H'':Hp},A7 H1 H'->Rd.Out B H' H''->A7 H1 H'':=fun{H' H''} s o b u hb=>o b u (s b u hb) fun hown=>by rw[fr1 b hown]at hb;cases hb
 dsimp only[Ar]
 refine⟨_,rfl,l,rfl,⟨_,A3.of (e2 _ _ hl1)⟩,?_⟩
 refine Uo (xs:=ps.map V.str) (fun i σ' H'=>(∃o3 o4 o5:Option V,σ'=[some (.str z),some (.ref l),some (.ref B.d),o3,o4,o5])/\A7 H1 H'/\∃D,Rd.DrAt a.c_Draft a.c_Deed (BA a) f H' B D/\Rd.Rds f (ps.drop i) D E) ⟨⟨_,_,_,rfl⟩,e2,Rd.D0,hD0 f,hR⟩ (fun i σ' H' _ pp=>A3.of (pp.2.1 _ _ hl1)) (fun i y Tt σ' H' hy pp hT=>?_) (fun σ' H' pp=>?_)
 .obtain⟨⟨o3,o4,o5,rfl⟩,e3,D,hD,hRi⟩:=pp
  rw[D8]at hy
  cases hyi:ps[i]? with
  |none=>rw[hyi]at hy;cases hy
  |
   some u=>
   rw[hyi]at hy
   cases hy
   have ul:u.length<=100000:=hrw u (CK hyi)
   have hil:=(BM.mp hyi).1
   have ed:ps.drop i=u::ps.drop (i+1):=by
    rw[G9 hil]
    rw[Bg hil]at hyi
    rw[BP hyi]
   rw[ed]at hRi
   have sT:=Ac hT (.tup [V.int ((i:Int)+1),.str u])
   have hD4:=hD.over sT
   have e4:=e3.trans sT
   refine⟨Tt,_,rfl,Ah.of A6,rfl,_,_,rfl,_,_,rfl,rfl,?_⟩
   generalize upd H' Tt (.tup [V.int ((i:Int)+1),.str u])=H4 at hD4 e4
   refine⟨_,rfl,u,rfl,ul,fun H5 e5=>?_⟩
   dsimp only[Ar]
   have hD5:=hD4.over e5
   have e15:=e4.trans e5
   refine⟨_,rfl,rfl,_,rfl,?_⟩
   have kb:(V.str (Az (Rd.bare (cds u)))=V.str (Str.ofString ""))↔Rd.bare (cds u)=[]:=⟨fun e=>by have e:=congrArg cds (V.str.inj e);rw[B7]at e;exact e,fun e=>by rw[e];rfl⟩
   cases hRi with
   |
    no hb hRn=>
    refine AD (fun y=>?_) (fun _=>?_)
    .rw[B5 (kb.mpr hb)]at y
     cases y
    .exact Aq ⟨⟨_,_,_,rfl⟩,e15,D,hD5,hRn⟩
   |
    @row _ _ _ D' _ r hb hrt hst hRn=>
    refine AD (fun _=>?_) (fun y=>?_)
    .refine⟨_,rfl,_,rfl,f,B,D,D',_,r,rfl,hD5,?_,?_,hst,fun H6 out hD6=>⟨_,rfl,Aq ?_⟩⟩
     .rw[CN]
      have:=Rd.bare_len (cds u)
      have:=cds_len u
      omega
     .rw[B7];exact hrt
     .exact⟨⟨_,_,_,rfl⟩,onto e15 out,D',hD6,hRn⟩
    .exact absurd (show(!decide (V.str (Az (Rd.bare (cds u)))=V.str (Str.ofString "")))=true from by rw[BI fun e=>hb (kb.mp e)];rfl) y
 .obtain⟨⟨o3,o4,o5,rfl⟩,e3,D,hD,hRi⟩:=pp
  rw[Ap,List.drop_length]at hRi
  cases hRi
  obtain⟨ds,hds,pds⟩:=hD.dd
  have d6:=hR.six (BC _)
  refine⟨_,rfl,B.d,_,B.dx,_,_,rfl,hD.o,T.cl_Draft,T.n_Draft_size,rfl,rfl,_,rfl,?_⟩
  rw[hE]
  refine Aq ?_
  refine⟨_,rfl,B.d,_,B.dx,_,_,rfl,hD.o,T.cl_Draft,T.n_Draft_deeds,rfl,AG rfl,fun en hen=>?_⟩
  have s4:=Ac hen (.lst [])
  have he4:(upd H' en (.lst [])) en=_:=A6
  generalize upd H' en (.lst [])=H4 at s4 he4
  refine⟨B.dl,en,_,rfl,rfl,A3.of (s4 _ _ hds),A3.of he4,_,rfl,?_⟩
  have dsn:ds≠[]:=fun z=>dne (K9 (by rw[←pds.1,z];rfl))
  refine AD (fun y=>absurd (List.isEmpty_iff.mp y) dsn) (fun _=>?_)
  have hD4:=hD.over s4
  refine⟨_,rfl,B.d,_,B.dx,_,_,rfl,hD4.o,T.cl_Draft,T.n_Draft_names,rfl,AG rfl,fun en2 hen2=>?_⟩
  have s5:=Ac hen2 (.lst [])
  have he5:(upd H4 en2 (.lst [])) en2=_:=A6
  generalize upd H4 en2 (.lst [])=H5 at s5 he5
  have hD5:=hD4.over s5
  refine⟨B.nl,en2,_,rfl,rfl,A3.of hD5.nm,A3.of he5,_,rfl,?_⟩
  rw[lpn]
  refine Aq ?_
  have hds5:=(s4.trans s5) _ _ hds
  refine⟨_,rfl,B.d,_,B.dx,_,_,rfl,hD5.o,T.cl_Draft,T.n_Draft_size,rfl,_,rfl,B.d,_,B.dx,_,_,rfl,hD5.o,T.cl_Draft,T.n_Draft_deeds,rfl,?_⟩
  intro x dx nx ndx ne
  refine⟨x,dx,B.dl,_,ds,rfl,A6,(by rw[A8 (AI hds5 nx),A8 (AI hds5 ndx)];exact hds5),by rw[pds.1];omega,fun H6 dl k6 hx6 hdl6 hnew=>⟨rfl,?_⟩⟩
  obtain⟨dx6,hx6⟩:=hx6
  have e56:=FX nx ndx k6
  rw[hE]at hx6
  have fl5:H5 dl=none:=by
   cases hz:H5 dl with
   |none=>rfl
   |
    some u=>
    rw[A8 (AI hz nx),A8 (AI hz ndx),hz]at hnew
    cases hnew
  exact q x dx6 dl ds _ (e1.trans (e3.trans (s4.trans (s5.trans e56)))) hx6 hdl6 (pds.mono fun _ _ w=>w.over (s4.trans (s5.trans e56))) ((e1.trans (e3.trans (s4.trans s5))).free fl5)
theorem QT (T:Tx w K mg a):AK P w K mg base AS 1 a.f_k a.d_k ["_law_script","_law_k"] (V5 K):=by
 refine T.F_k.ok TH (fun vs H Q E h=>?_) (fun cdv A outer s H vs Q E hr h=>?_)
 .obtain⟨_,_,_,rfl,_⟩:=h;rfl
 obtain⟨p,ns,k,rfl,hS,h0,q⟩:=h
 refine⟨_,(@A5 _ _ _ _ _ (@AE _ _ _ _ _ _ _ _ (@An _ _ _ _ _ _ _ _ Eu (pv 1) (@AR _ _ _ _ _ _ _ _ _ BJ (by rfl) T.z_len Bo (@A0 _ _ _ _ _ (pv 0) A2 (by rfl)) (by decide) (by decide) (by rfl) (by rfl)) (@Am _ _ (by decide) (by decide))) (@A9 _ _ _ (@Al _ _ _ _ (@Af _ _ _ _ _ _ _ AV (pv 0) (pv 1) (fun _ _=>rfl)))) AF) (@A9 _ _ _ (@Al _ _ _ _ A1))),?_⟩
 have hl:(ns.map V.int).length=ns.length:=Ap _
 refine⟨_,rfl,_,rfl,p,_,rfl,.inl hS,_,_,rfl,rfl,_,rfl,?_⟩
 refine AD (fun c=>?_) (fun c=>?_)
 .have c':=dT c
  rw[hl]at c'
  exact⟨_,rfl,_,rfl,p,_,_,_,rfl,rfl,hS,Fs h0 c',q⟩
 .have c':=dF c
  rw[hl]at c'
  rw[PR c']at q
  exact q
theorem IT (T:Tx w K mg a):AK P w K mg base AS 1 a.f_d a.d_d ["_law_found"] P2:=by
 refine T.F_d.ok UV (fun vs H Q E h=>?_) (fun cdv A outer s H vs Q E hr h=>?_)
 .obtain⟨_,rfl,_⟩:=h;rfl
 obtain⟨x,rfl,hx,q⟩:=h
 refine⟨_,(@A9 _ _ _ (@Al _ _ _ _ (@Et _ _ _ _ _ _ _ (@AR _ _ _ _ _ _ _ _ _ CT (by rfl) T.z_isinstance D6 (@A0 _ _ _ _ _ (pv 0) (@A0 _ _ _ _ _ (@FC _ _ (.ty "int") _ _ (by rfl) T.z_int J7 rfl (by decide) (by decide)) A2 (by rfl)) (by rfl)) (by decide) (by decide) (by rfl) (by rfl)) (@Er _ _ _ _ _ (@Uv _ _ _ _ (@AR _ _ _ _ _ _ _ _ _ CT (by rfl) T.z_isinstance D6 (@A0 _ _ _ _ _ (pv 0) (@A0 _ _ _ _ _ (@FC _ _ (.ty "bool") _ _ (by rfl) T.z_bool SZ rfl (by decide) (by decide)) A2 (by rfl)) (by rfl)) (by decide) (by decide) (by rfl) (by rfl))))))),?_⟩
 cases x with
 |int i=>exact⟨_,rfl,_,_,_,_,_,rfl,rfl,.int i,rfl,_,rfl,_,rfl,_,_,_,_,_,rfl,rfl,.int i,rfl,_,rfl,q⟩
 |bl b=>exact⟨_,rfl,_,_,_,_,_,rfl,rfl,.bl b,rfl,_,rfl,_,rfl,_,_,_,_,_,rfl,rfl,.bl b,rfl,_,rfl,q⟩
 |non=>exact⟨_,rfl,_,_,_,_,_,rfl,rfl,.non,rfl,_,rfl,q⟩
 |str z=>exact⟨_,rfl,_,_,_,_,_,rfl,rfl,.str z,rfl,_,rfl,q⟩
 |_=>cases hx
theorem Gi (T:Tx w K mg a):AK P w K mg base AS 1 a.f_b a.d_b ["_law_cell_here","_law_many"] Qx:=by
 refine T.F_b.ok HQ (fun vs H Q E h=>?_) (fun cdv A outer s H vs Q E hr h=>?_)
 .obtain⟨_,_,rfl,_⟩:=h;rfl
 obtain⟨c,n,rfl,h0,h1,q⟩:=h
 refine⟨_,(@A5 _ _ _ _ _ (@Aj _ _ (2) _ _ _ _ HQ.nd rfl (.inl rfl) (@Bl _ _ _ _ A2) (by rfl) (by first|exact .inl rfl|exact .inr rfl|assumption)) (@A5 _ _ _ _ _ (@Aj _ _ (3) _ _ _ _ HQ.nd rfl (.inl rfl) (@Aa _ _ _ _ _ _ _ _ C1 (@Aa _ _ _ _ _ _ _ _ Bf (pv 0) A1) A1) (by rfl) (by first|exact .inl rfl|exact .inr rfl|assumption)) (@A5 _ _ _ _ _ (@EH _ _ _ _ _ _ _ _ PassesOwn.never rfl (@Hj _ _ _ _ _ _ (by rfl) T.z_range (@A0 _ _ _ _ _ (@Aa _ _ _ _ _ _ _ _ C1 (pv 1) A1) A2 (by rfl)) (by rfl)) (Bv (i:=4) HQ.nd rfl (.inl rfl)) (@A5 _ _ _ _ _ (@Aj _ _ (3) _ _ _ _ HQ.nd rfl (.inl rfl) (@Aa _ _ _ _ _ _ _ _ Bf (@Aa _ _ _ _ _ _ _ _ C1 (@Aa _ _ _ _ _ _ _ _ C1 (@Aa _ _ _ _ _ _ _ _ FD (pv 3) (pv 3)) (@Aa _ _ _ _ _ _ _ _ FD A1 (pv 3))) (pv 4)) A1) (by rfl) (by first|exact .inl rfl|exact .inr rfl|assumption)) (@A9 _ _ _ (@BF _ _ _ _ (@Bm _ _ _ _ _ _ _ _ _ _ _ _ Bs Cp Cq Cc (pv 2) (@A0 _ _ _ _ _ (pv 3) A2 (by rfl)) (by rfl) (by rfl) (by rfl) (by rfl) (by rfl)) (by rfl)))) (by intro _;rfl)) (@A9 _ _ _ (@Al _ _ _ _ (@D1 _ _ _ _ _ _ _ _ _ _ F9 (pv 2) (@Cy _ _ _ A1) DT)))))),?_⟩
 refine⟨AG rfl,fun l hl=>?_⟩
 refine⟨_,rfl,_,_,rfl,rfl,(by show(0:Int)<2147483647;decide),_,_,rfl,rfl,?_⟩
 refine⟨_,rfl,_,_,rfl,rfl,n+1,rfl,by omega,by omega,?_⟩
 refine KA (lo:=0) (n:=(n+1).toNat) (fun i σ' H'=>(∃o1,σ'=[some (.int c),some (.int n),some (.ref l),some (.int (Ct (CF c) 0 i)),o1])/\A7 H H'/\H' l=some (.lst ((Ea (CF c) 0 i).map V.int))) ?_ (fun i σ' H' hi p=>?_) (fun σ' H' p=>?_)
 .exact⟨⟨_,rfl⟩,Ac hl _,A6⟩
 .obtain⟨⟨o1,rfl⟩,hs,hH⟩:=p
  obtain⟨b0,b1⟩:=Vn c i
  have bb:=PZ b0 b1
  have e1:(Ct (CF c) 0 i*Ct (CF c) 0 i+48271*Ct (CF c) 0 i+(0+(i:Int)))%2147483647=Ct (CF c) 0 (i+1):=by rw[MY];rfl
  have hz:((Ea (CF c) 0 i).map V.int).length<sizeLine:=by rw[Ap,Nv];exact Ce (by omega)
  refine⟨_,rfl,_,rfl,_,_,rfl,rfl,.inl bb,_,rfl,_,_,rfl,rfl,.inl ⟨by decide,by decide⟩,_,_,rfl,rfl,_,rfl,_,_,rfl,rfl,_,_,rfl,rfl,(by show(0:Int)<2147483647;decide),?_⟩
  refine⟨_,rfl,.inl ⟨rfl,_,A3.of hH⟩,_,rfl,l,_,_,rfl,rfl,hH,hz,⟨_,congrArg (fun v=>[some (V.int c),some (V.int n),some (V.ref l),some (V.int v),some (V.int (0+(i:Int)))]) e1⟩,?_,?_⟩
  .exact fun b o e=>by rw[A8 (AI e hl)];exact hs b o e
  .rw[A6,Qv,B3]
   show some (HO.lst (_++[V.int _]))=_
   rw[e1];rfl
 .obtain⟨⟨o1,rfl⟩,hs,hH⟩:=p
  refine⟨_,rfl,_,rfl,l,_,rfl,A3.of hH,fun r hr'=>?_⟩
  rw[Pl]
  refine q r _ (hs.trans (Ac hr' _)) ?_
  rw[A6]
  unfold Eo
  rw[show(n+1).toNat=n.toNat+1 by omega]
theorem SF (T:Tx w K mg a):AK P w K mg base AS 2 a.f_L a.d_L ["_law_cell_here","_law_many"] Rd.spNames23:=by
 have G_b :=@Gi P w K mg base a T
 refine T.F_L.ok DW (fun vs H Q E h=>?_) (fun cdv A outer s H vs Q E hr h=>?_)
 .obtain⟨_,rfl,_⟩:=h;rfl
 obtain⟨c,rfl,q⟩:=h
 refine⟨_,(@A5 _ _ _ _ _ (@Aj _ _ (2) _ _ _ _ DW.nd rfl (.inr rfl) Aw (by rfl) (by first|exact .inl rfl|exact .inr rfl|assumption)) (@A5 _ _ _ _ _ (@Aj _ _ (3) _ _ _ _ DW.nd rfl (.inl rfl) (@Av _ _ _ _ _ _ _ _ _ _ _ _ _ _ _ _ G_b (hr.mono (by omega)) (by rfl) T.m_b T.F_b.kp T.b_b .nil Ao (@A0 _ _ _ _ _ (pv 0) (@A0 _ _ _ _ _ A1 A2 (by rfl)) (by rfl)) (by decide) (by rfl) (by rfl)) (by rfl) (by first|exact .inl rfl|exact .inr rfl|assumption)) (@A5 _ _ _ _ _ (@Aj _ _ (4) _ _ _ _ DW.nd rfl (.inl rfl) (@Bm _ _ _ _ _ _ _ _ _ _ _ _ Eg OQ OR KE Aw (@A0 _ _ _ _ _ (@Dh _ _ _ _ _ _ _ ["_law_x","_law_letters"] [none,some 2] _ _ _ _ (by rfl) (@DC _ _ _ _ (@D1 _ _ _ _ _ _ _ _ _ _ F9 (pv 3) (@Cy _ _ _ A1) DT)) UT (fun _ _ _ _ _ _=>⟨(Bv (i:=0) Rb rfl (.inl rfl)),@DZ _,(@Af _ _ _ _ _ _ _ Es (pv 1) (@Aa _ _ _ _ _ _ _ _ Bf (pv 0) A1) (fun _ _=>rfl))⟩) (by intro _;rfl)) A2 (by rfl)) (by rfl) (by rfl) (by rfl) (by rfl) (by rfl)) (by rfl) (by first|exact .inl rfl|exact .inr rfl|assumption)) (@A5 _ _ _ _ _ (@AE _ _ _ _ _ _ _ _ (@An _ _ _ _ _ _ _ _ Bk (@Aa _ _ _ _ _ _ _ _ Bf (@Aa _ _ _ _ _ _ _ _ Cw (@Af _ _ _ _ _ _ _ AV (pv 3) A1 (fun _ _=>rfl)) A1) A1) A1 (@Am _ _ (by decide) (by decide))) (@A9 _ _ _ (@Aj _ _ (4) _ _ _ _ DW.nd rfl (.inl rfl) (@D1 _ _ _ _ _ _ _ _ _ _ Fm (@Aa _ _ _ _ _ _ _ _ BG (@Af _ _ _ _ _ _ _ AV (@NQ _ _ _ _ (@Bc _ _ _ _ _ Aw (@Bc _ _ _ _ _ Aw (@Bc _ _ _ _ _ Aw DR Dx) Dx) Dx)) (@Aa _ _ _ _ _ _ _ _ Bf (@Aa _ _ _ _ _ _ _ _ Cw (@Af _ _ _ _ _ _ _ AV (pv 3) A1 (fun _ _=>rfl)) A1) A1) (fun _ _=>rfl)) (pv 4)) DT (@Cy _ _ _ A1)) (by rfl) (by first|exact .inl rfl|exact .inr rfl|assumption))) AF) (@A5 _ _ _ _ _ (@Aj _ _ (5) _ _ _ _ DW.nd rfl (.inl rfl) (@Aa _ _ _ _ _ _ _ _ C1 A1 (@Aa _ _ _ _ _ _ _ _ Bf (@Af _ _ _ _ _ _ _ AV (pv 3) A1 (fun _ _=>rfl)) A1)) (by rfl) (by first|exact .inl rfl|exact .inr rfl|assumption)) (@A5 _ _ _ _ _ (@Aj _ _ (6) _ _ _ _ DW.nd rfl (.inl rfl) (@Aa _ _ _ _ _ _ _ _ Bf (@Aa _ _ _ _ _ _ _ _ Cw (@Af _ _ _ _ _ _ _ AV (pv 3) A1 (fun _ _=>rfl)) A1) (pv 5)) (by rfl) (by first|exact .inl rfl|exact .inr rfl|assumption)) (@A5 _ _ _ _ _ (@Aj _ _ (7) _ _ _ _ DW.nd rfl (.inl rfl) (@Bl _ _ _ _ A2) (by rfl) (by first|exact .inl rfl|exact .inr rfl|assumption)) (@A5 _ _ _ _ _ (@EH _ _ _ _ _ _ _ _ PassesOwn.never rfl (@Hj _ _ _ _ _ _ (by rfl) T.z_range (@A0 _ _ _ _ _ (pv 1) A2 (by rfl)) (by rfl)) (Bv (i:=8) DW.nd rfl (.inl rfl)) (@A5 _ _ _ _ _ (@Aj _ _ (9) _ _ _ _ DW.nd rfl (.inl rfl) (@Af _ _ _ _ _ _ _ Es (pv 2) (@Aa _ _ _ _ _ _ _ _ Bf (@Aa _ _ _ _ _ _ _ _ C1 (@Af _ _ _ _ _ _ _ AV (pv 3) (@Aa _ _ _ _ _ _ _ _ C1 A1 (pv 6)) (fun _ _=>rfl)) (pv 8)) A1) (fun _ _=>rfl)) (by rfl) (by first|exact .inl rfl|exact .inr rfl|assumption)) (@A5 _ _ _ _ _ (@Aj _ _ (10) _ _ _ _ DW.nd rfl (.inl rfl) (@Aa _ _ _ _ _ _ _ _ BG (@Aa _ _ _ _ _ _ _ _ BG (@D1 _ _ _ _ _ _ _ _ _ _ Fm (pv 4) DT (@Cy _ _ _ (pv 6))) (pv 9)) (@D1 _ _ _ _ _ _ _ _ _ _ Fm (pv 4) (@Cy _ _ _ (@Aa _ _ _ _ _ _ _ _ C1 (pv 6) A1)) (@Cy _ _ _ (pv 5)))) (by rfl) (by first|exact .inl rfl|exact .inr rfl|assumption)) (@A5 _ _ _ _ _ (@AE _ _ _ _ _ _ _ _ (@An _ _ _ _ _ _ _ _ Bk (@Aa _ _ _ _ _ _ _ _ Bf (@Af _ _ _ _ _ _ _ AV (pv 3) A1 (fun _ _=>rfl)) A1) A1 (@Am _ _ (by decide) (by decide))) (@A9 _ _ _ (@Aj _ _ (10) _ _ _ _ DW.nd rfl (.inl rfl) (@D1 _ _ _ _ _ _ _ _ _ _ Fm (pv 4) DT (@Cy _ _ _ (@Aa _ _ _ _ _ _ _ _ C1 A1 (@Aa _ _ _ _ _ _ _ _ Bf (@Aa _ _ _ _ _ _ _ _ C1 (pv 5) (@Aa _ _ _ _ _ _ _ _ FD A1 (pv 8))) A1)))) (by rfl) (by first|exact .inl rfl|exact .inr rfl|assumption))) AF) (@A5 _ _ _ _ _ (@AE _ _ _ _ _ _ _ _ (@An _ _ _ _ _ _ _ _ Gx (pv 10) (@Em _ _ _ _ _ (@Bc _ _ _ _ _ Aw (@Bc _ _ _ _ _ Aw (@Bc _ _ _ _ _ Aw DR Dx) Dx) Dx)) (by with_unfolding_all rfl)) (@A9 _ _ _ (@Aj _ _ (10) _ _ _ _ DW.nd rfl (.inl rfl) (@Aa _ _ _ _ _ _ _ _ BG Aw (pv 10)) (by rfl) (by first|exact .inl rfl|exact .inr rfl|assumption))) AF) (@A9 _ _ _ (@BF _ _ _ _ (@Bm _ _ _ _ _ _ _ _ _ _ _ _ Bs Cp Cq Cc (pv 7) (@A0 _ _ _ _ _ (pv 10) A2 (by rfl)) (by rfl) (by rfl) (by rfl) (by rfl) (by rfl)) (by rfl))))))) (by intro _;rfl)) (@A9 _ _ _ (@Al _ _ _ _ (pv 7))))))))))),?_⟩
 refine⟨_,rfl,c,10,rfl,by decide,by decide,fun rx H1 s1 hx=>?_⟩
 rw[show(10:Int).toNat=10 from rfl]at hx
 generalize hxs:Eo c 10=xs at hx
 have xl:xs.length=10:=by rw[←hxs,Gh]
 have xl':(xs.map V.int).length=10:=by rw[Ap,xl]
 have xm:∀y∈xs,0<=y/\y<2147483647:=fun y hy=>HA (hxs▸hy)
 have atx:∀k:Nat,k<10->Bz (xs.map V.int) ((k:Nat):Int)=some (.int (xs.getD k 0)):=fun k hk=>by
  have:=Fs (ns:=xs) (k:=((k:Nat):Int)) (by omega) (by omega)
  exact this
 refine⟨rfl,_,rfl,_,rfl,rx,_,rfl,A3.of hx,fun p2 hp2=>?_⟩
 have hx2:(upd H1 p2 (.lst (CZ (xs.map V.int) (some 2) none))) rx=some (.lst (xs.map V.int)):=by rw[A8 (AI hx hp2)];exact hx
 have cut2:CZ (xs.map V.int) (some 2) none=(xs.drop 2).map V.int:=by
  have:=MQ (xs.map V.int) (i:=2) (by decide)
  rw[List.map_drop]
  exact this
 rw[cut2]at hx2 ⊢
 refine⟨p2,rfl,⟨_,A3.of A6⟩,?_⟩
 refine F0 (xs:=(xs.drop 2).map V.int) (fun i ys H'=>H'=upd H1 p2 (.lst ((xs.drop 2).map V.int))/\ys=((xs.drop 2).take i).map fun x=>V.str ⟨#[Do x]⟩) ⟨rfl,by simp⟩ (Ax (by rw[Ap,Cn];omega)) (fun i ys H' hi p=>?_) (fun i x ys H' hc p=>?_) (fun ys H' p r hr'=>?_)
 .obtain⟨rfl,rfl⟩:=p
  exact⟨A3.of A6,by rw[Ap,Bh];omega⟩
 .obtain⟨rfl,rfl⟩:=p
  rw[D8]at hc
  cases hy:(xs.drop 2)[i]? with
  |none=>rw[hy]at hc;cases hc
  |
   some y=>
   rw[hy]at hc
   cases hc
   refine⟨_,rfl,_,rfl,_,_,rfl,rfl,(by show(0:Int)<26;decide),_,_,_,rfl,rfl,Nd,Ml y,rfl,?_⟩
   rw[Di hy,B3]
   rfl
 obtain⟨rfl,rfl⟩:=p
 have full:((xs.drop 2).take ((xs.drop 2).map V.int).length)=xs.drop 2:=by rw[Ap,DN]
 rw[full]
 have e3:A7 H1 (upd (upd H1 p2 (.lst ((xs.drop 2).map V.int))) r (.lst ((xs.drop 2).map fun x=>V.str ⟨#[Do x]⟩))):=(Ac hp2 _).trans (Ac hr' _)
 generalize hH3:upd (upd H1 p2 (.lst ((xs.drop 2).map V.int))) r (.lst ((xs.drop 2).map fun x=>V.str ⟨#[Do x]⟩))=H3 at e3
 have hr3:H3 r=some (.lst (((xs.drop 2).map fun x=>(⟨#[Do x]⟩:Str)).map V.str)):=by rw[←hH3,A6,GP];rfl
 have ew:Txt.join "" ((xs.drop 2).map fun x=>(⟨#[Do x]⟩:Str))=Az (F3 xs):=DK (by
  rw[Li,B7]
  unfold F3
  generalize xs.drop 2=l
  induction l with
  |nil=>rfl
  |
   cons y l ih=>
   rw[BS,BS,LM,ih]
   rfl)
 refine⟨_,r,_,rfl,rfl,.inl (A3.of hr3),?_,?_⟩
 .have:∀l:List Int,((l.map fun x=>(⟨#[Do x]⟩:Str)).map (·.length)).sum=l.length:=fun l=>by
   induction l with
   |nil=>rfl
   |cons y l ih=>rw[BS,BS,LP,ih];show 1+l.length=l.length+1;omega
  rw[this,Ap,Cn,xl]
  show 10-2+(10-2)*(Str.ofString "").length<=16777216
  decide +kernel
 rw[ew]
 have hx3:=e3 _ _ hx
 have wl:(F3 xs).length=8:=Po xl
 have wb:∀c∈F3 xs,97<=c/\c<=122:=Rd.nameW_abc xs
 generalize F3 xs=wd at wl wb
 obtain⟨lb0,lb1⟩:=HG xs
 obtain⟨ab0,ab1⟩:=JB xs
 dsimp only[Ar]
 refine DJ (fun σ' H'=>A7 H1 H'/\∃wd:List Nat,wd.length=8/\(∀c∈wd,97<=c/\c<=122)/\σ'=[some (.int c),some (.int 8),some (.str En),some (.ref rx),some (.str (Az wd)),none,none,none,none,none,none]) (fun σ' H4 pp=>?_) (fun nx=>?_)
 rotate_left
 .refine⟨_,rfl,rx,_,_,_,rfl,rfl,A3.of hx3,atx 0 (by decide),_,_,rfl,rfl,⟨by decide,by decide⟩,_,_,rfl,rfl,(by show(0:Int)<8;decide),rfl,_,rfl,?_⟩
  refine AD (fun _=>?_) (fun _=>nx _ _ ⟨e3,wd,wl,wb,rfl⟩)
  refine⟨AG rfl,fun l3 hl3=>?_⟩
  have s4:=Ac hl3 (.lst [V.str "for",V.str "end",V.str "size"])
  have m0:=BU (xs.getD 0 0/16) (show(3:Int)≠0 by decide)
  have m1:=C0 (xs.getD 0 0/16) (show(0:Int)<3 by decide)
  obtain⟨rz,hrz,rl,rb⟩:∃rz:Str,Bz [V.str "for",V.str "end",V.str "size"] (xs.getD 0 0/16%3)=some (.str rz)/\rz.length<=4/\∀c∈cds rz,97<=c/\c<=122:=by
   generalize xs.getD 0 0/16%3=j at m0 m1
   have:j=0\/j=1\/j=2:=by omega
   rcases this with rfl|rfl|rfl
   .exact⟨"for",rfl,by decide +kernel,by decide +kernel⟩
   .exact⟨"end",rfl,by decide +kernel,by decide +kernel⟩
   .exact⟨"size",rfl,by decide +kernel,by decide +kernel⟩
  refine⟨_,rfl,rx,_,_,_,rfl,rfl,A3.of (s4 _ _ hx3),atx 0 (by decide),_,_,rfl,rfl,⟨by decide,by decide⟩,_,_,rfl,rfl,(by show(0:Int)<3;decide),l3,_,_,_,rfl,rfl,A3.of A6,hrz,_,rfl,_,_,rfl,rfl,Ax (by rw[CN];omega),_,rfl,_,rfl,Ax (by rw[Ou,CN];omega),?_⟩
  refine nx _ _ ⟨e3.trans s4,_,?_,?_,rfl⟩
  .rw[FH _ (by decide),Bh,AN,Au,B7,wl]
   show min 8 _=8
   omega
  .rw[FH _ (by decide)]
   intro c hc
   have hc:=Ga hc
   rw[AN,B7]at hc
   exact(Bj.mp hc).elim (rb c) (wb c)
 obtain⟨e4,wd,wl,wb,rfl⟩:=pp
 have hx4:=e4 _ _ hx
 refine⟨_,rfl,rx,_,_,_,rfl,rfl,A3.of hx4,atx 1 (by decide),_,_,rfl,rfl,(by show(0:Int)<8;decide),_,_,rfl,rfl,?_⟩
 refine⟨_,rfl,rx,_,_,_,rfl,rfl,A3.of hx4,atx 1 (by decide),_,_,rfl,rfl,⟨by decide,by decide⟩,_,rfl,_,_,rfl,rfl,(by show(0:Int)<1+xs.getD 1 0%8;exact lb0),?_⟩
 refine⟨AG rfl,fun l hl=>?_⟩
 have hl1:H1 l=none:=e4.free hl
 dsimp only[Ar]
 refine⟨_,rfl,8,rfl,by decide,by decide,?_⟩
 have wz:(Az wd).length=8:=by rw[CN,wl]
 refine KA (lo:=0) (n:=8) (fun i σ' H'=>∃(o1 o2 o3:Option V),σ'=[some (.int c),some (.int 8),some (.str En),some (.ref rx),some (.str (Az wd)),some (.int (Cf xs)),some (.int (CA xs)),some (.ref l),o1,o2,o3]/\A7 H1 H'/\H' l=some (.lst (((List.range i).map fun k:Nat=>Az (Dz xs wd (k:Int))).map V.str))) ?_ (fun i σ' H' hi p=>?_) (fun σ' H' p=>?_)
 .exact⟨_,_,_,rfl,e4.trans (Ac hl _),A6⟩
 .obtain⟨o1,o2,o3,rfl,hs,hH⟩:=p
  have hxx:=hs _ _ hx
  refine⟨_,rfl,_,rfl,_,rfl,_,_,rfl,rfl,rx,_,_,(.int (xs.getD (2+CA xs).toNat 0)),rfl,rfl,A3.of hxx,Fs (by omega) (by omega),_,rfl,_,_,rfl,rfl,_,_,rfl,rfl,(by show(0:Int)<26;decide),_,_,_,rfl,rfl,Nd,Ml _,?_⟩
  refine⟨_,rfl,_,rfl,_,rfl,_,rfl,Ax (by omega),_,rfl,_,_,rfl,rfl,?_,?_⟩
  .rw[CN,B7,FH _ ab0]
   exact Ax (by rw[Bh];show _+1<=1000000;omega)
  refine⟨_,rfl,_,rfl,_,_,rfl,rfl,_,rfl,_,rfl,_,rfl,_,rfl,Ax (by omega),?_⟩
  have e0:(0:Int)+(i:Int)=(i:Int):=by omega
  rw[B7,FH _ ab0,Kn _ (by omega) (by omega) (by omega) (by omega),e0]
  have eA:Az (wd.take (CA xs).toNat)++(⟨#[Do (xs.getD (2+CA xs).toNat 0+(i:Int))]⟩:Str)++Az ((wd.drop (CA xs+1).toNat).take ((Cf xs).toNat-(CA xs+1).toNat))=Az (FY xs wd (i:Int)):=
   DK (by rw[AN,AN,B7,B7,B7];rfl)
  refine⟨_,_,rfl,rfl,?_,?_⟩
  .rw[Ou,CN,CN,Bh,Bh,Cn]
   exact Ax (by show _+1+_<=1000000;omega)
  rw[eA]
  dsimp only[Ar]
  refine DJ (fun σ2 H2=>H2=H'/\∃(o1 o2:Option V),σ2=[some (.int c),some (.int 8),some (.str En),some (.ref rx),some (.str (Az wd)),some (.int (Cf xs)),some (.int (CA xs)),some (.ref l),o1,o2,some (.str (Az (Bw xs wd (i:Int))))]) (fun σ2 H2 m=>?_) (fun rest=>?_)
  .obtain⟨rfl,o4,o5,rfl⟩:=m
   refine DJ (fun σ3 H3'=>A7 H2 H3'/\∃(o1 o2:Option V),σ3=[some (.int c),some (.int 8),some (.str En),some (.ref rx),some (.str (Az wd)),some (.int (Cf xs)),some (.int (CA xs)),some (.ref l),o1,o2,some (.str (Az (Dz xs wd (i:Int))))]) (fun σ3 H3' m=>?_) (fun rest=>?_)
   .obtain⟨hs3,o6,o7,rfl⟩:=m
    have hl3:=hs3 _ _ hH
    refine⟨_,rfl,.inl ⟨rfl,_,A3.of hl3⟩,_,rfl,l,_,_,rfl,rfl,hl3,Ce (by rw[Ap,Ap,List.length_range];omega),_,_,_,rfl,?_,?_⟩
    .exact fun b o e=>by rw[A8 (AI e hl1)];exact hs3 _ _ (hs b o e)
    .rw[A6,List.range_succ,B3,B3]
     rfl
   .refine⟨_,rfl,AG rfl,fun tp htp=>?_⟩
    refine⟨tp,[.str "for",.str "end",.str "size"],rfl,.inr (Ah.of A6),rfl,rfl,_,rfl,?_⟩
    show if Dj (V.str (Az (Bw xs wd (i:Int)))) [.str "for",.str "end",.str "size"]=true then _ else _
    rw[Og]
    have hlr:(Bw xs wd (i:Int)).length<=10:=by
     have:=Pd wl (xs:=xs) (i:Int)
     unfold Dz at this
     split at this
     .rw[Au]at this;omega
     .exact this
    have hz2:(Str.ofString "zz").length=2:=by decide +kernel
    refine AD (fun cc=>?_) (fun cc=>?_)
    .have e:(Str.ofString "zz"++Az (Bw xs wd (i:Int)))=Az (Dz xs wd (i:Int)):=DK (by
      rw[AN,B7,B7]
      unfold Dz
      rw[Ag (dT cc)]
      congr 1)
     refine⟨_,rfl,_,_,rfl,rfl,Ax (by rw[CN,hz2];omega),?_⟩
     rw[e]
     exact rest _ _ ⟨Ac htp _,_,_,rfl⟩
    .have e:Az (Bw xs wd (i:Int))=Az (Dz xs wd (i:Int)):=by
      unfold Dz
      rw[Ae (dF cc)]
     rw[e]
     exact rest _ _ ⟨Ac htp _,_,_,rfl⟩
  .refine⟨_,rfl,rx,_,_,_,rfl,rfl,A3.of hxx,atx 0 (by decide),_,_,rfl,rfl,(by show(0:Int)<2;decide),rfl,_,rfl,?_⟩
   have key:(V.int (xs.getD 0 0%2)=V.int 0)↔xs.getD 0 0%2=0:=⟨fun e=>V.int.inj e,fun e=>by rw[e]⟩
   refine AD (fun cc=>?_) (fun cc=>?_)
   .have c2:=key.mp (dT cc)
    refine⟨_,rfl,_,rfl,_,rfl,_,_,rfl,rfl,.inl ⟨by decide,by decide⟩,_,_,rfl,rfl,_,_,rfl,rfl,(by show(0:Int)<8;decide),_,_,rfl,rfl,_,rfl,_,rfl,Ax (by omega),?_⟩
    have b0:=BU (Cf xs+3*(i:Int)) (show(8:Int)≠0 by decide)
    have e:Az (Ca (cds (Az wd)) none (some (1+(Cf xs+3*(i:Int))%8)))=Az (Bw xs wd (i:Int)):=by
     rw[B7,FH _ (by omega)]
     unfold Bw
     rw[Ag c2]
     unfold Gs
     rfl
    exact rest _ _ ⟨rfl,_,_,congrArg (fun z=>[some (V.int c),some (V.int 8),some (V.str En),some (V.ref rx),some (V.str (Az wd)),some (V.int (Cf xs)),some (V.int (CA xs)),some (V.ref l),_,_,some (V.str z)]) e⟩
   .have c2:=fun z=>dF cc (key.mpr z)
    have e:Az (FY xs wd (i:Int))=Az (Bw xs wd (i:Int)):=by
     unfold Bw
     rw[Ae c2]
    exact rest _ _ ⟨rfl,_,_,congrArg (fun z=>[some (V.int c),some (V.int 8),some (V.str En),some (V.ref rx),some (V.str (Az wd)),some (V.int (Cf xs)),some (V.int (CA xs)),some (V.ref l),_,_,some (V.str z)]) e⟩
 .obtain⟨o1,o2,o3,rfl,hs,hH⟩:=p
  refine⟨_,rfl,q l H' _ (s1.trans hs) ⟨hH,by rw[Ap,List.length_range],Pm wl,fun z hz=>?_⟩⟩
  obtain⟨k,_,rfl⟩:=DE.mp hz
  rw[B7]
  exact Rd.nameC_ok wl wb (k:Int)
theorem Mj (T:Tx w K mg a):AK P w K mg base AS 1 a.f_p a.d_p ["_law_cell_here","_law_far"] VV:=by
 refine T.F_p.ok Py (fun vs H Q E h=>?_) (fun cdv A outer s H vs Q E hr h=>?_)
 .obtain⟨_,_,rfl,_⟩:=h;rfl
 obtain⟨c,far,rfl,h0,h1,q⟩:=h
 refine⟨_,(@A5 _ _ _ _ _ (@AE _ _ _ _ _ _ _ _ (@An _ _ _ _ _ _ _ _ Bk (@Aa _ _ _ _ _ _ _ _ Bf (pv 0) A1) A1 (@Am _ _ (by decide) (by decide))) (@A9 _ _ _ (@Al _ _ _ _ (@Aa _ _ _ _ _ _ _ _ Fq (@Aa _ _ _ _ _ _ _ _ Bf (@Aa _ _ _ _ _ _ _ _ Cw (pv 0) A1) A1) A1))) AF) (@A9 _ _ _ (@Al _ _ _ _ (@Aa _ _ _ _ _ _ _ _ Fq (@Aa _ _ _ _ _ _ _ _ Bf (@Aa _ _ _ _ _ _ _ _ Cw (pv 0) A1) (@Aa _ _ _ _ _ _ _ _ C1 (@Aa _ _ _ _ _ _ _ _ FD A1 (pv 1)) A1)) (pv 1))))),?_⟩
 have key:(V.int (c%3)=V.int 0)↔c%3=0:=⟨fun e=>V.int.inj e,fun e=>by rw[e]⟩
 refine⟨_,rfl,_,_,rfl,rfl,(by show(0:Int)<3;decide),rfl,_,rfl,?_⟩
 refine AD (fun cc=>?_) (fun cc=>?_)
 .refine⟨_,rfl,_,_,rfl,rfl,⟨by decide,by decide⟩,_,_,rfl,rfl,(by show(0:Int)<7;decide),_,_,rfl,rfl,?_⟩
  unfold Fn at q
  rw[Ag (key.mp (dT cc))]at q
  exact q
 .refine⟨_,rfl,_,_,rfl,rfl,⟨by decide,by decide⟩,_,rfl,_,_,rfl,rfl,.inl ⟨by decide,by decide⟩,_,_,rfl,rfl,_,_,rfl,rfl,(by show(0:Int)<2*far+1;omega),_,rfl,_,_,rfl,rfl,?_⟩
  unfold Fn at q
  rw[Ae (fun z=>dF cc (key.mpr z))]at q
  exact q
theorem M7 (T:Tx w K mg a):AK P w K mg base AS 1 a.f_g a.d_g ["_law_spot_here"] SA:=by
 refine T.F_g.ok QW (fun vs H Q E h=>?_) (fun cdv A outer s H vs Q E hr h=>?_)
 .obtain⟨_,_,rfl,_⟩:=h;rfl
 obtain⟨x,s,rfl,⟨t,rfl,ht⟩,⟨b0,b1,b2⟩,q⟩:=h
 refine⟨_,(@A5 _ _ _ _ _ (@AE _ _ _ _ _ _ _ _ (@An _ _ _ _ _ _ _ _ Bk (@Af _ _ _ _ _ _ _ AH (pv 0) A1 (fun _ _=>rfl)) Aw (@Am _ _ (by decide) (by decide))) (@A9 _ _ _ (@Al _ _ _ _ (@CQ _ _ _ _ _ _ _ _ _ Js (by rfl) T.z_str GX (@A0 _ _ _ _ _ (@Af _ _ _ _ _ _ _ AH (pv 0) A1 (fun _ _=>rfl)) A2 (by rfl)) (by decide) (by decide) (by rfl) (by rfl)))) AF) (@A5 _ _ _ _ _ (@AE _ _ _ _ _ _ _ _ (@An _ _ _ _ _ _ _ _ Bk (@Af _ _ _ _ _ _ _ AH (pv 0) A1 (fun _ _=>rfl)) A1 (@Am _ _ (by decide) (by decide))) (@A9 _ _ _ (@Al _ _ _ _ (@Af _ _ _ _ _ _ _ AH (pv 0) A1 (fun _ _=>rfl)))) AF) (@A9 _ _ _ (@Al _ _ _ _ (@Aa _ _ _ _ _ _ _ _ BG (@Aa _ _ _ _ _ _ _ _ BG (@Af _ _ _ _ _ _ _ AH (pv 0) A1 (fun _ _=>rfl)) (@Af _ _ _ _ _ _ _ Es Aw (@CQ _ _ _ _ _ _ _ _ _ NI (by rfl) T.z_int J7 (@A0 _ _ _ _ _ (@DI _ _ _ _ _ _ _ _ Eu (@Af _ _ _ _ _ _ _ AH (pv 0) A1 (fun _ _=>rfl)) A1 (@Am _ _ (by decide) (by decide))) A2 (by rfl)) (by decide) (by decide) (by rfl) (by rfl)) (fun _ _=>rfl))) (@CQ _ _ _ _ _ _ _ _ _ Js (by rfl) T.z_str GX (@A0 _ _ _ _ _ (@AR _ _ _ _ _ _ _ _ _ Nj (by rfl) T.z_abs NZ (@A0 _ _ _ _ _ (@Af _ _ _ _ _ _ _ AH (pv 0) A1 (fun _ _=>rfl)) A2 (by rfl)) (by decide) (by decide) (by rfl) (by rfl)) A2 (by rfl)) (by decide) (by decide) (by rfl) (by rfl))))))),?_⟩
 refine⟨_,rfl,t,_,0,_,rfl,rfl,Ah.of ht,rfl,rfl,_,rfl,?_⟩
 by_cases c1:s.1=""
 .unfold B6 at q
  rw[Ag c1]at q
  refine CI (v:=true) (B5 (congrArg V.str c1)) (Be ?_)
  exact⟨_,rfl,t,_,1,_,rfl,rfl,Ah.of ht,rfl,_,rfl,IC b1 b2,q⟩
 refine CI (v:=false) (dS c1) (Aq ?_)
 refine⟨_,rfl,t,_,1,_,rfl,rfl,Ah.of ht,rfl,rfl,_,rfl,?_⟩
 by_cases c2:s.2=0
 .unfold B6 at q
  rw[Ae c1,Ag c2]at q
  refine CI (v:=true) (B5 (congrArg V.int c2)) (Be ?_)
  exact⟨_,rfl,t,_,0,_,rfl,rfl,Ah.of ht,rfl,q⟩
 refine CI (v:=false) (BI fun z=>c2 (V.int.inj z)) (Aq ?_)
 rw[Rc c1 c2]at q
 have nl:=Il (i:=if s.2<0 then -s.2 else s.2) (by split<;>omega) (by split<;>omega)
 unfold nS at nl q
 have lg:=IC (i:=if s.2<0 then -s.2 else s.2) (by split<;>omega) (by split<;>omega)
 have a1:Bz (cds (Str.ofString "+-")) (if decide (s.2<0)=true then 1 else 0)=some (if s.2<0 then 45 else 43):=by
  by_cases c:s.2<0
  .rw[Ag c,Ag (B5 c)];decide +kernel
  .rw[Ae c,Ae (fun z=>c (Kd z))];decide +kernel
 have a2:(⟨#[if s.2<0 then 45 else 43]⟩:Str)=if s.2<0 then("-":Str) else"+":=by
  by_cases c:s.2<0
  .rw[Ag c,Ag c];decide +kernel
  .rw[Ae c,Ae c];decide +kernel
 have a3:(⟨#[if s.2<0 then 45 else 43]⟩:Str).length=1:=rfl
 rw[←a2]at q
 refine⟨_,rfl,t,_,0,_,rfl,rfl,Ah.of ht,rfl,_,rfl,t,_,1,_,rfl,rfl,Ah.of ht,rfl,_,_,rfl,rfl,.inr ⟨_,rfl,_,_,_,rfl,rfl,(by decide +kernel),a1,_,_,rfl,rfl,Ax (by omega),?_⟩⟩
 exact⟨_,rfl,t,_,1,_,rfl,rfl,Ah.of ht,rfl,_,rfl,_,rfl,lg,_,_,rfl,rfl,Ax (by rw[AX];omega),q⟩
theorem Oi (T:Tx w K mg a):AK P w K mg base AS 2 a.f_h a.d_h ["_law_one","_law_other","_law_known"] Rd.spSpot23:=by
 have G_p :=@Mj P w K mg base a T
 refine T.F_h.ok L6 (fun vs H Q E h=>?_) (fun cdv A outer s H vs Q E hr h=>?_)
 .obtain⟨_,_,_,_,rfl,_⟩:=h;rfl
 obtain⟨x,y,kl,nms,rfl,x0,x1,y0,y1,hk,q⟩:=h
 refine⟨_,(@A5 _ _ _ _ _ (@Aj _ _ (3) _ _ _ _ L6.nd rfl (.inl rfl) (@Av _ _ _ _ _ _ _ _ _ _ _ _ _ _ _ _ G_p (hr.mono (by omega)) (by rfl) T.m_p T.F_p.kp T.b_p .nil Ao (@A0 _ _ _ _ _ (@Aa _ _ _ _ _ _ _ _ FD (@Aa _ _ _ _ _ _ _ _ FD (pv 0) (pv 1)) A1) (@A0 _ _ _ _ _ (@Aa _ _ _ _ _ _ _ _ Fq (@Aa _ _ _ _ _ _ _ _ Lq A1 A1) A1) A2 (by rfl)) (by rfl)) (by decide) (by rfl) (by rfl)) (by rfl) (by first|exact .inl rfl|exact .inr rfl|assumption)) (@A5 _ _ _ _ _ (@AE _ _ _ _ _ _ _ _ (@An _ _ _ _ _ _ _ _ Bk (@Aa _ _ _ _ _ _ _ _ Bf (pv 1) A1) A1 (@Am _ _ (by decide) (by decide))) (@A9 _ _ _ (@Aj _ _ (3) _ _ _ _ L6.nd rfl (.inl rfl) A1 (by rfl) (by first|exact .inl rfl|exact .inr rfl|assumption))) AF) (@A9 _ _ _ (@Al _ _ _ _ (@CU _ _ _ _ _ (@A0 _ _ _ _ _ (@Af _ _ _ _ _ _ _ AV (pv 2) (@Aa _ _ _ _ _ _ _ _ Bf (pv 0) (@AR _ _ _ _ _ _ _ _ _ BJ (by rfl) T.z_len Bo (@A0 _ _ _ _ _ (pv 2) A2 (by rfl)) (by decide) (by decide) (by rfl) (by rfl))) (fun _ _=>rfl)) (@A0 _ _ _ _ _ (pv 3) A2 (by rfl)) (by rfl))))))),?_⟩
 have bx : -(2 ^ 64:Int)<x/\x<2 ^ 64:=⟨by omega,by omega⟩
 have bxy : -(2 ^ 64:Int)<x*y/\x*y<2 ^ 64:=by
  have h1:x*y<=2147483647*2147483647:=Int.mul_le_mul (by omega) (by omega) y0 (by decide)
  have h2:=Int.mul_nonneg x0 y0
  exact⟨by omega,by omega⟩
 refine⟨_,rfl,_,rfl,_,_,rfl,rfl,.inl bx,_,_,rfl,rfl,.inl bxy,_,_,rfl,rfl,⟨by decide,by decide,by decide⟩,_,_,rfl,rfl,_,_,rfl,(by decide),(by decide),?_⟩
 have nb:=Oy (x*y*7) (far:=10 ^ (18:Int).toNat-1) (by decide)
 dsimp only[Ar]
 generalize Fn _ _=nn at nb ⊢
 refine DJ (fun σ' H'=>H'=H/\∃n:Int,-999999999999999999<=n/\n<=999999999999999999/\σ'=[some (.int x),some (.int y),some (.ref kl),some (.int n)]) (fun σ' H' pp=>?_) (fun nx=>?_)
 .obtain⟨rfl,n,n0,n1,rfl⟩:=pp
  have lm:(((((("":Str)::nms).map V.str).length:Nat):Int))=((("":Str)::nms).length:Int):=by rw[Ap]
  have lp:(0:Int)<((("":Str)::nms).length:Int):=by rw[AW];omega
  have f0:=BU x (show(((("":Str)::nms).map V.str).length:Int)≠0 by omega)
  have f1:=C0 x (show(0:Int)<(((("":Str)::nms).map V.str).length:Int) by omega)
  obtain⟨z,hz,hzi⟩:=Rd.strs_at (zs:=("":Str)::nms) f0 (by omega)
  have hzm:=CK hzi
  refine⟨_,rfl,_,rfl,_,rfl,kl,_,rfl,.inl (A3.of hk.1),_,_,rfl,rfl,(by show(0:Int)<(((("":Str)::nms).map V.str).length:Int);omega),kl,_,_,_,rfl,rfl,A3.of hk.1,hz,_,rfl,AG rfl,fun r hr'=>?_⟩
  exact q _ _ (z,n) (Ac hr' _) ⟨r,rfl,A6⟩ (Rd.spn_of hk.2.2 hzm n0 n1).1 (Rd.spn_of hk.2.2 hzm n0 n1).2
 .refine⟨_,rfl,_,_,rfl,rfl,(by show(0:Int)<4;decide),rfl,_,rfl,?_⟩
  refine AD (fun _=>nx _ _ ⟨rfl,0,by decide,by decide,rfl⟩) (fun _=>nx _ _ ⟨rfl,nn,nb.1,nb.2,rfl⟩)
theorem Mr (T:Tx w K mg a):AK P w K mg base AS 3 a.f_q a.d_q ["_law_xs","_law_known","_law_names_here"] Rd.spCell23:=by
 have G_h :=@Oi P w K mg base a T
 have G_g :=@M7 P w K mg base a T
 refine T.F_q.ok J6 (fun vs H Q E h=>?_) (fun cdv A outer s H vs Q E hr h=>?_)
 .obtain⟨_,_,_,_,_,_,rfl,_⟩:=h;rfl
 obtain⟨rx,kl,nl,xs,nms,ns,rfl,hx,xl,xm,hk,hn,q⟩:=h
 refine⟨_,(@A5 _ _ _ _ _ (@Aj _ _ (3) _ _ _ _ J6.nd rfl (.inl rfl) (@Aa _ _ _ _ _ _ _ _ C1 A1 (@Aa _ _ _ _ _ _ _ _ Bf (@Af _ _ _ _ _ _ _ AV (pv 0) A1 (fun _ _=>rfl)) A1)) (by rfl) (by first|exact .inl rfl|exact .inr rfl|assumption)) (@A5 _ _ _ _ _ (@Aj _ _ (4) _ _ _ _ J6.nd rfl (.inl rfl) (@Af _ _ _ _ _ _ _ AV (pv 2) (@Aa _ _ _ _ _ _ _ _ C1 (@Aa _ _ _ _ _ _ _ _ Fq (@Aa _ _ _ _ _ _ _ _ FD A1 (pv 3)) A1) (@Aa _ _ _ _ _ _ _ _ Bf (@Aa _ _ _ _ _ _ _ _ Cw (@Af _ _ _ _ _ _ _ AV (pv 0) A1 (fun _ _=>rfl)) A1) A1)) (fun _ _=>rfl)) (by rfl) (by first|exact .inl rfl|exact .inr rfl|assumption)) (@A5 _ _ _ _ _ (@Aj _ _ (5) _ _ _ _ J6.nd rfl (.inl rfl) (@CQ _ _ _ _ _ _ _ _ _ EM (by rfl) T.z_tuple DF (@A0 _ _ _ _ _ (@Dh _ _ _ _ _ _ _ ["_law_k","_law_known","_law_xs"] [none,some 1,some 0] _ _ _ _ (by rfl) (@Hj _ _ _ _ _ _ (by rfl) T.z_range (@A0 _ _ _ _ _ (pv 3) A2 (by rfl)) (by rfl)) Ti (fun _ _ _ _ _ _=>⟨(Bv (i:=0) TF rfl (.inl rfl)),@DZ _,(@Av _ _ _ _ _ _ _ _ _ _ _ _ _ _ _ _ G_h (hr.mono (by omega)) (by rfl) T.m_h T.F_h.kp T.b_h .nil Ao (@A0 _ _ _ _ _ (@Af _ _ _ _ _ _ _ (show DA _ (HJ K) from AV) (pv 2) (@Aa _ _ _ _ _ _ _ _ C1 A1 (pv 0)) (fun _ _=>rfl)) (@A0 _ _ _ _ _ (@Af _ _ _ _ _ _ _ (show DA _ (HJ K) from AV) (pv 2) (@Aa _ _ _ _ _ _ _ _ C1 A1 (pv 0)) (fun _ _=>rfl)) (@A0 _ _ _ _ _ (pv 1) A2 (by rfl)) (by rfl)) (by rfl)) (by decide) (by rfl) (by rfl))⟩) (by intro _;rfl)) A2 (by rfl)) (by decide) (by decide) (by rfl) (by rfl)) (by rfl) (by first|exact .inl rfl|exact .inr rfl|assumption)) (@A9 _ _ _ (@Al _ _ _ _ (@Em _ _ _ _ _ (@Bc _ _ _ _ _ (pv 4) (@Bc _ _ _ _ _ (pv 5) (@Bc _ _ _ _ _ (@Aa _ _ _ _ _ _ _ _ BG (pv 4) (@Bm _ _ _ _ _ _ _ _ _ _ _ _ Eg OQ OR KE Aw (@A0 _ _ _ _ _ (@Dh _ _ _ _ _ _ _ ["_law_spot_here"] [none] _ _ _ _ (by rfl) (@GZ _ _ _ _ (pv 5)) U3 (fun _ _ _ _ _ _=>⟨(Bv (i:=0) QI rfl (.inl rfl)),@DZ _,(@Aa _ _ _ _ _ _ _ _ BG (@Aa _ _ _ _ _ _ _ _ BG Aw (@Av _ _ _ _ _ _ _ _ _ _ _ _ _ _ _ _ G_g (hr.mono (by omega)) (by rfl) T.m_g T.F_g.kp T.b_g .nil Ao (@A0 _ _ _ _ _ (pv 0) A2 (by rfl)) (by decide) (by rfl) (by rfl))) Aw)⟩) (by intro _;rfl)) A2 (by rfl)) (by rfl) (by rfl) (by rfl) (by rfl) (by rfl))) DR L7) F1) F1))))))),?_⟩
 have atx:∀k:Nat,k<5->Bz (xs.map V.int) ((k:Nat):Int)=some (.int (xs.getD k 0)):=fun k hk=>Fs (ns:=xs) (k:=((k:Nat):Int)) (by omega) (by omega)
 have xb:∀k:Nat,k<5->0<=xs.getD k 0/\xs.getD k 0<2147483647:=fun k hk=>by
  have hm:xs.getD k 0∈xs:=by rw[G7,Bg (by omega)];exact EV _
  exact xm _ hm
 refine⟨_,rfl,rx,_,_,_,rfl,rfl,A3.of hx,atx 0 (by decide),_,_,rfl,rfl,(by show(0:Int)<3;decide),_,_,rfl,rfl,?_⟩
 dsimp only[Ar]
 have m0:=BU (xs.getD 0 0) (show(3:Int)≠0 by decide)
 have m1:=C0 (xs.getD 0 0) (show(0:Int)<3 by decide)
 obtain⟨m,em⟩:∃m:Nat,1+xs.getD 0 0%3=(m:Int):=⟨(1+xs.getD 0 0%3).toNat,by omega⟩
 rw[em]
 have mb:1<=m/\m<=3:=by omega
 have f0:=BU (xs.getD 0 0/3) (show(2:Int)≠0 by decide)
 have f1:=C0 (xs.getD 0 0/3) (show(0:Int)<2 by decide)
 obtain⟨tz,htz,tzi⟩:=Rd.strs_at (zs:=ns) (i:=2*(m:Int)-1+xs.getD 0 0/3%2) (by omega) (by have:=hn.2.1;omega)
 have tok:=hn.2.2.2 tz (CK tzi)
 have tl:tz.length<=20:=by have:=tok.2.1;rw[cds_len]at this;omega
 have tfz:Rd.tf ns tz=m:=by unfold Rd.tf;rw[Rd.idx_nodup hn.2.2.1 tzi];omega
 refine⟨_,rfl,_,rfl,_,_,rfl,rfl,.inl ⟨by decide,by decide⟩,_,_,rfl,rfl,_,rfl,rx,_,_,_,rfl,rfl,A3.of hx,atx 0 (by decide),_,_,rfl,rfl,⟨by decide,by decide⟩,_,_,rfl,rfl,(by show(0:Int)<2;decide),_,_,rfl,rfl,nl,_,_,_,rfl,rfl,A3.of hn.1,htz,?_⟩
 dsimp only[Ar]
 refine⟨_,rfl,_,rfl,by omega,by omega,?_⟩
 rw[Fj]
 refine MK (lo:=0) (n:=m) (fun i ys H'=>A7 H H'/\∃sp:List (Str×Int),AC (BY H') ys sp/\sp.length=i/\∀s∈sp,Rd.SpN s/\Rd.knw nms s=true) ⟨A7.refl _,[],.nil,rfl,fun s hs=>by cases hs⟩ (Ax (by omega)) (fun i ys H' hi pp=>by obtain⟨_,sp,h,h2,_⟩:=pp;rw[h.1];omega) (fun i ys H' hi pp=>?_) (fun ys H1 pp r1 hr1=>?_)
 .obtain⟨e,sp,ay,sl,sb⟩:=pp
  have e0:1+(0+(i:Int))=((1+i:Nat):Int):=by omega
  have e1:2+(0+(i:Int))=((2+i:Nat):Int):=by omega
  refine⟨_,rfl,_,rfl,_,_,rfl,rfl,rx,_,_,_,rfl,rfl,A3.of (e _ _ hx),(by rw[e0];exact atx (1+i) (by omega)),_,rfl,_,rfl,_,_,rfl,rfl,rx,_,_,_,rfl,rfl,A3.of (e _ _ hx),(by rw[e1];exact atx (2+i) (by omega)),_,rfl,_,_,kl,nms,rfl,(xb _ (by omega)).1,(xb _ (by omega)).2,(xb _ (by omega)).1,(xb _ (by omega)).2,hk.over e,fun r H2 s e2 hs hb hkn=>?_⟩
  refine⟨e.trans e2,sp++[s],(ay.mono fun _ _ z=>z.tk (A7.tk e2)).snoc hs,by rw[Au,sl];rfl,fun s' hs'=>?_⟩
  rcases Bj.mp hs' with c|c
  .exact sb s' c
  .rw[E6.mp c];exact⟨hb,hkn⟩
 obtain⟨e,sp,ay,sl,sb⟩:=pp
 refine⟨r1,_,rfl,.inl ⟨A3.of A6,fun p hp=>?_⟩⟩
 have s2:=(Ac hr1 (.lst ys)).trans (Ac hp (.tup ys))
 have hp2:(upd (upd H1 r1 (.lst ys)) p (.tup ys)) p=some (.tup ys):=A6
 dsimp only[Ar]
 have eH:=e.trans s2
 have ay2:=ay.mono fun _ _ z=>z.tk (A7.tk s2)
 generalize upd (upd H1 r1 (.lst ys)) p (.tup ys)=H2 at s2 hp2 eH ay2
 have yl:=ay2.1
 refine⟨_,rfl,_,rfl,_,rfl,rfl,_,rfl,p,rfl,⟨_,Ah.of hp2⟩,?_⟩
 refine IR (xs:=ys) (fun i zs H'=>H'=H2/\zs=((sp.take i).map Dd).map V.str) ⟨rfl,rfl⟩ (Ax (by omega)) (fun i zs H' hi pp=>⟨by rw[pp.1];exact Ah.of hp2,by rw[pp.2,Ap,Ap,Bh];omega⟩) (fun i x zs H' hx pp=>?_) (fun zs H' pp r hr'=>?_)
 .obtain⟨rfl,rfl⟩:=pp
  obtain⟨s1,hs,hsp⟩:=ay2.get' hx
  have hb:=(sb s1 (CK hs)).1.2
  have l1:=Fe hb
  have l2:("[":Str).length=1:=by decide +kernel
  have l3:("]":Str).length=1:=by decide +kernel
  refine⟨_,rfl,x,s1,rfl,hsp,hb,_,_,rfl,rfl,Ax (by omega),_,_,rfl,rfl,Ax (by rw[AX];omega),rfl,?_⟩
  rw[Di hs,B3,B3]
  rfl
 obtain⟨rfl,rfl⟩:=pp
 rw[G8 (by omega)]
 have sb2:∀s∈sp,ER s:=fun s hs=>(sb s hs).1.2
 have hs:=MO (sp:=sp) (by omega) sb2
 have cl:=Gq (sp:=sp) tl (by omega) sb2
 unfold Ba at cl
 rw[AX]at cl
 refine⟨_,r,_,rfl,rfl,.inl (A3.of A6),C5 hs (by decide),_,_,rfl,rfl,Ax (by omega),AG rfl,fun t ht=>?_⟩
 have s3:=(Ac hr' (.lst ((sp.map Dd).map V.str))).trans (Ac ht (.tup [V.str tz,V.ref p,V.str (tz++Txt.join "" (sp.map Dd))]))
 exact q t p _ tz sp (eH.trans s3) A6 ⟨ys,s3 _ _ hp2,ay2.mono fun _ _ z=>z.tk (A7.tk s3)⟩ ⟨⟨tok,(fun z=>by rw[z]at sl;have:0=m:=sl;omega),by omega,fun s hs=>(sb s hs).1⟩,EU.mpr fun s hs=>(sb s hs).2,by show Rd.tf ns tz=sp.length;rw[tfz,sl]⟩
theorem Ra (T:Tx w K mg a):AK P w K mg base AS 4 a.f_s a.d_s ["_law_cell_here","_law_known","_law_names_here"] Rd.spLeaf23:=by
 have G_b :=@Gi P w K mg base a T
 have G_p :=@Mj P w K mg base a T
 have G_q :=@Mr P w K mg base a T
 refine T.F_s.ok Hv (fun vs H Q E h=>?_) (fun cdv A outer s H vs Q E hr h=>?_)
 .obtain⟨_,_,_,_,_,rfl,_⟩:=h;rfl
 obtain⟨c,kl,nl,nms,ns,rfl,hk,hn,q⟩:=h
 refine⟨_,(@A5 _ _ _ _ _ (@Aj _ _ (3) _ _ _ _ Hv.nd rfl (.inl rfl) (@Av _ _ _ _ _ _ _ _ _ _ _ _ _ _ _ _ G_b (hr.mono (by omega)) (by rfl) T.m_b T.F_b.kp T.b_b .nil Ao (@A0 _ _ _ _ _ (@Aa _ _ _ _ _ _ _ _ Cw (pv 0) A1) (@A0 _ _ _ _ _ A1 A2 (by rfl)) (by rfl)) (by decide) (by rfl) (by rfl)) (by rfl) (by first|exact .inl rfl|exact .inr rfl|assumption)) (@A5 _ _ _ _ _ (@AE _ _ _ _ _ _ _ _ (@An _ _ _ _ _ _ _ _ Bk (@Aa _ _ _ _ _ _ _ _ Bf (pv 0) A1) A1 (@Am _ _ (by decide) (by decide))) (@A5 _ _ _ _ _ (@Aj _ _ (4) _ _ _ _ Hv.nd rfl (.inl rfl) (@AR _ _ _ _ _ _ _ _ _ Nj (by rfl) T.z_abs NZ (@A0 _ _ _ _ _ (@Av _ _ _ _ _ _ _ _ _ _ _ _ _ _ _ _ G_p (hr.mono (by omega)) (by rfl) T.m_p T.F_p.kp T.b_p .nil Ao (@A0 _ _ _ _ _ (@Aa _ _ _ _ _ _ _ _ FD (@Af _ _ _ _ _ _ _ AV (pv 3) A1 (fun _ _=>rfl)) (@Af _ _ _ _ _ _ _ AV (pv 3) A1 (fun _ _=>rfl))) (@A0 _ _ _ _ _ (@Aa _ _ _ _ _ _ _ _ Fq (@Aa _ _ _ _ _ _ _ _ Lq A1 A1) A1) A2 (by rfl)) (by rfl)) (by decide) (by rfl) (by rfl)) A2 (by rfl)) (by decide) (by decide) (by rfl) (by rfl)) (by rfl) (by first|exact .inl rfl|exact .inr rfl|assumption)) (@A9 _ _ _ (@Al _ _ _ _ (@Em _ _ _ _ _ (@Bc _ _ _ _ _ (@CQ _ _ _ _ _ _ _ _ _ Js (by rfl) T.z_str GX (@A0 _ _ _ _ _ (pv 4) A2 (by rfl)) (by decide) (by decide) (by rfl) (by rfl)) (@Bc _ _ _ _ _ A1 (@Bc _ _ _ _ _ (@CU _ _ _ _ _ (@A0 _ _ _ _ _ Aw (@A0 _ _ _ _ _ (pv 4) A2 (by rfl)) (by rfl))) DR Gu) Dx) L4))))) AF) (@A5 _ _ _ _ _ (@AE _ _ _ _ _ _ _ _ ((@Df _ _ _ _ _ _ _ (@An _ _ _ _ _ _ _ _ Bk (@Aa _ _ _ _ _ _ _ _ Bf (pv 0) A1) A1 (@Am _ _ (by decide) (by decide))) (@DY _ _ _ _ (@An _ _ _ _ _ _ _ _ Ft (@AR _ _ _ _ _ _ _ _ _ BJ (by rfl) T.z_len Bo (@A0 _ _ _ _ _ (pv 1) A2 (by rfl)) (by decide) (by decide) (by rfl) (by rfl)) A1 (@Am _ _ (by decide) (by decide)))))).pt (@A5 _ _ _ _ _ (@Aj _ _ (5) _ _ _ _ Hv.nd rfl (.inl rfl) (@Af _ _ _ _ _ _ _ AV (pv 1) (@Aa _ _ _ _ _ _ _ _ C1 A1 (@Aa _ _ _ _ _ _ _ _ Bf (@Af _ _ _ _ _ _ _ AV (pv 3) A1 (fun _ _=>rfl)) (@Aa _ _ _ _ _ _ _ _ Fq (@AR _ _ _ _ _ _ _ _ _ BJ (by rfl) T.z_len Bo (@A0 _ _ _ _ _ (pv 1) A2 (by rfl)) (by decide) (by decide) (by rfl) (by rfl)) A1))) (fun _ _=>rfl)) (by rfl) (by first|exact .inl rfl|exact .inr rfl|assumption)) (@A9 _ _ _ (@Al _ _ _ _ (@Em _ _ _ _ _ (@Bc _ _ _ _ _ (pv 5) (@Bc _ _ _ _ _ A1 (@Bc _ _ _ _ _ (@CU _ _ _ _ _ (@A0 _ _ _ _ _ Aw (@A0 _ _ _ _ _ (pv 5) A2 (by rfl)) (by rfl))) DR Gu) Dx) F1))))) AF) (@A5 _ _ _ _ _ (@Aj _ _ (6) _ _ _ _ Hv.nd rfl (.inl rfl) (@Av _ _ _ _ _ _ _ _ _ _ _ _ _ _ _ _ G_q (hr.mono (by omega)) (by rfl) T.m_q T.F_q.kp T.b_q .nil Ao (@A0 _ _ _ _ _ (pv 3) (@A0 _ _ _ _ _ (pv 1) (@A0 _ _ _ _ _ (pv 2) A2 (by rfl)) (by rfl)) (by rfl)) (by decide) (by rfl) (by rfl)) (by rfl) (by first|exact .inl rfl|exact .inr rfl|assumption)) (@A9 _ _ _ (@Al _ _ _ _ (@Em _ _ _ _ _ (@Bc _ _ _ _ _ (@Af _ _ _ _ _ _ _ AH (pv 6) A1 (fun _ _=>rfl)) (@Bc _ _ _ _ _ A1 (@Bc _ _ _ _ _ (@Em _ _ _ _ _ (@Bc _ _ _ _ _ Aw (@Bc _ _ _ _ _ (@Af _ _ _ _ _ _ _ AH (pv 6) A1 (fun _ _=>rfl)) (@Bc _ _ _ _ _ (@Af _ _ _ _ _ _ _ AH (pv 6) A1 (fun _ _=>rfl)) DR FI) FI) Dx)) DR Gu) Dx) FI)))))))),?_⟩
 refine⟨_,rfl,_,_,rfl,rfl,⟨by decide,by decide⟩,_,5,rfl,by decide,by decide,fun rx H1 s1 hx=>?_⟩
 rw[show(5:Int).toNat=5 from rfl]at hx
 generalize hxs:Eo (c/3) 5=xs at hx
 have xl:xs.length=5:=by rw[←hxs,Gh]
 have xm:∀y∈xs,0<=y/\y<2147483647:=fun y hy=>HA (hxs▸hy)
 have atx:∀k:Nat,k<5->Bz (xs.map V.int) ((k:Nat):Int)=some (.int (xs.getD k 0)):=fun k hk=>Fs (ns:=xs) (k:=((k:Nat):Int)) (by omega) (by omega)
 have xb:∀k:Nat,k<5->-(2 ^ 64:Int)<xs.getD k 0/\xs.getD k 0<2 ^ 64:=fun k hk=>by
  have hm:xs.getD k 0∈xs:=by rw[G7,Bg (by omega)];exact EV _
  obtain⟨h0,h1⟩:=xm _ hm
  exact⟨by omega,by omega⟩
 have hk1:=hk.over s1
 have hn1:=hn.over s1
 dsimp only[Ar]
 refine⟨_,rfl,_,_,rfl,rfl,(by show(0:Int)<3;decide),rfl,_,rfl,?_⟩
 refine AD (fun _=>?_) (fun _=>?_)
 .refine⟨_,rfl,rx,_,_,_,rfl,rfl,A3.of hx,atx 0 (by decide),_,rfl,rx,_,_,_,rfl,rfl,A3.of hx,atx 1 (by decide),_,_,rfl,rfl,.inl (xb 0 (by decide)),_,_,rfl,rfl,⟨by decide,by decide,by decide⟩,_,_,rfl,rfl,_,_,rfl,(by decide),(by decide),?_⟩
  have nb:=Oy (xs.getD 0 0*xs.getD 1 0) (far:=10 ^ (18:Int).toNat-1) (by decide)
  generalize Fn _ _=nn at nb ⊢
  refine⟨_,rfl,?_⟩
  obtain⟨n,en,n0,n1⟩:∃n:Int,(if nn<0 then -nn else nn)=n/\0<=n/\n<=999999999999999999:=⟨_,rfl,by have:=nb.1;have:=nb.2;split<;>omega,by have:=nb.1;have:=nb.2;split<;>omega⟩
  rw[en]
  dsimp only[Ar]
  refine⟨_,rfl,_,rfl,IC (by omega) n1,_,rfl,AG rfl,fun t1 ht1=>⟨AG rfl,fun t2 ht2=>?_⟩⟩
  have s2:=(Ac ht1 (.tup [V.str "n",V.int n])).trans (Ac ht2 (.tup [V.str (Str.ofString (toString n)),V.int 3,V.ref t1]))
  exact q _ _ (.n n) (s1.trans s2) ⟨t2,.ref t1,rfl,A6,t1,rfl,(Ac ht2 _) _ _ A6⟩ ⟨⟨n0,n1⟩,True.intro,True.intro⟩
 .dsimp only[GE]
  refine DJ (fun σ' H2=>H2=H1/\σ'=[some (.int c),some (.ref kl),some (.ref nl),some (.ref rx),none,none,none]) (fun σ' H2 pp=>?_) (fun nx=>?_)
  .obtain⟨rfl,rfl⟩:=pp
   refine⟨_,rfl,_,rfl,_,rfl,rx,kl,nl,xs,nms,ns,rfl,hx,xl,xm,hk1,hn1,fun r p H3 z sp s3 hr3 hp3 ok=>?_⟩
   dsimp only[Ar]
   refine⟨_,rfl,r,_,2,_,rfl,rfl,Ah.of hr3,rfl,_,rfl,r,_,0,_,rfl,rfl,Ah.of hr3,rfl,_,rfl,r,_,1,_,rfl,rfl,Ah.of hr3,rfl,AG rfl,fun t1 ht1=>⟨AG rfl,fun t2 ht2=>?_⟩⟩
   have s4:=(Ac ht1 (.tup [V.str "c",V.str z,V.ref p])).trans (Ac ht2 (.tup [V.str (Ba z sp),V.int 3,V.ref t1]))
   exact q _ _ (.c z sp) (s1.trans (s3.trans s4)) ⟨t2,.ref t1,rfl,A6,t1,p,rfl,(Ac ht2 _) _ _ A6,hp3.tk (A7.tk s4)⟩ ok
  .refine⟨_,rfl,_,_,rfl,rfl,(by show(0:Int)<3;decide),rfl,_,rfl,?_⟩
   refine AD (fun _=>?_) (fun _=>Aq (nx _ _ ⟨rfl,rfl⟩))
   refine⟨_,rfl,kl,_,rfl,.inl (A3.of hk1.1),_,_,rfl,rfl,_,rfl,?_⟩
   have l4:((((("":Str)::nms).map V.str).length:Nat):Int)=(((("":Str)::nms).length:Nat):Int):=by rw[Ap]
   refine AD (fun cm=>?_) (fun _=>nx _ _ ⟨rfl,rfl⟩)
   have cm:(1:Int)<((((("":Str)::nms).map V.str).length:Nat):Int):=dT cm
   have m0:=BU (xs.getD 0 0) (show((((("":Str)::nms).map V.str).length:Nat):Int)-1≠0 by omega)
   have m1:=C0 (xs.getD 0 0) (show(0:Int)<((((("":Str)::nms).map V.str).length:Nat):Int)-1 by omega)
   obtain⟨z,hz,zi⟩:=Rd.strs_at (zs:=("":Str)::nms) (i:=1+xs.getD 0 0%(((((("":Str)::nms).map V.str).length:Nat):Int)-1)) (by omega) (by omega)
   have zm:z∈nms:=Rd.mem_behind (by omega) zi
   refine⟨_,rfl,_,rfl,rx,_,_,_,rfl,rfl,A3.of hx,atx 0 (by decide),_,rfl,kl,_,rfl,.inl (A3.of hk1.1),_,_,rfl,rfl,_,_,rfl,rfl,(by show(0:Int)<((((("":Str)::nms).map V.str).length:Nat):Int)-1;omega),_,_,rfl,rfl,kl,_,_,_,rfl,rfl,A3.of hk1.1,hz,?_⟩
   dsimp only[Ar]
   refine⟨_,rfl,_,rfl,AG rfl,fun t1 ht1=>⟨AG rfl,fun t2 ht2=>?_⟩⟩
   have s2:=(Ac ht1 (.tup [V.str "v",V.str z])).trans (Ac ht2 (.tup [V.str z,V.int 3,V.ref t1]))
   exact q _ _ (.v z) (s1.trans s2) ⟨t2,.ref t1,rfl,A6,t1,rfl,(Ac ht2 _) _ _ A6⟩ ⟨hk.2.2 z zm,zm,True.intro⟩
theorem PP (T:Tx w K mg a):AK P w K mg base AS 1 a.f_t a.d_t ["_law_sign_here","_law_left","_law_right"] Ut:=by
 refine T.F_t.ok Gp (fun vs H Q E h=>?_) (fun cdv A outer s H vs Q E hr h=>?_)
 .obtain⟨_,_,_,_,_,rfl,_⟩:=h;rfl
 obtain⟨z,x,y,l,r,rfl,hz3,⟨p,sx,rfl,hp,hsx⟩,⟨p2,sy,rfl,hp2,hsy⟩,okl,okr,szs,q⟩:=h
 refine⟨_,(@A5 _ _ _ _ _ (@Aj _ _ (3) _ _ _ _ Gp.nd rfl (.inl rfl) (@Aa _ _ _ _ _ _ _ _ C1 A1 (@CQ _ _ _ _ _ _ _ _ _ NI (by rfl) T.z_int J7 (@A0 _ _ _ _ _ (@DI _ _ _ _ _ _ _ _ Bk (pv 0) Aw (@Am _ _ (by decide) (by decide))) A2 (by rfl)) (by decide) (by decide) (by rfl) (by rfl))) (by rfl) (by first|exact .inl rfl|exact .inr rfl|assumption)) (@A5 _ _ _ _ _ (@Aj _ _ (4) _ _ _ _ Gp.nd rfl (.inl rfl) (@Af _ _ _ _ _ _ _ AH (pv 1) A1 (fun _ _=>rfl)) (by rfl) (by first|exact .inl rfl|exact .inr rfl|assumption)) (@A5 _ _ _ _ _ (@Aj _ _ (5) _ _ _ _ Gp.nd rfl (.inl rfl) (@Af _ _ _ _ _ _ _ AH (pv 2) A1 (fun _ _=>rfl)) (by rfl) (by first|exact .inl rfl|exact .inr rfl|assumption)) (@A5 _ _ _ _ _ (@AE _ _ _ _ _ _ _ _ (@An _ _ _ _ _ _ _ _ Eu (@Af _ _ _ _ _ _ _ AH (pv 1) A1 (fun _ _=>rfl)) (pv 3) (@Am _ _ (by decide) (by decide))) (@A9 _ _ _ (@Aj _ _ (4) _ _ _ _ Gp.nd rfl (.inl rfl) (@Aa _ _ _ _ _ _ _ _ BG (@Aa _ _ _ _ _ _ _ _ BG Aw (pv 4)) Aw) (by rfl) (by first|exact .inl rfl|exact .inr rfl|assumption))) AF) (@A5 _ _ _ _ _ (@AE _ _ _ _ _ _ _ _ (@An _ _ _ _ _ _ _ _ Pn (@Af _ _ _ _ _ _ _ AH (pv 2) A1 (fun _ _=>rfl)) (pv 3) (@Am _ _ (by decide) (by decide))) (@A9 _ _ _ (@Aj _ _ (5) _ _ _ _ Gp.nd rfl (.inl rfl) (@Aa _ _ _ _ _ _ _ _ BG (@Aa _ _ _ _ _ _ _ _ BG Aw (pv 5)) Aw) (by rfl) (by first|exact .inl rfl|exact .inr rfl|assumption))) AF) (@A9 _ _ _ (@Al _ _ _ _ (@Em _ _ _ _ _ (@Bc _ _ _ _ _ (@Aa _ _ _ _ _ _ _ _ BG (@Aa _ _ _ _ _ _ _ _ BG (pv 4) (pv 0)) (pv 5)) (@Bc _ _ _ _ _ (pv 3) (@Bc _ _ _ _ _ (@Em _ _ _ _ _ (@Bc _ _ _ _ _ (pv 0) (@Bc _ _ _ _ _ (@Af _ _ _ _ _ _ _ AH (pv 1) A1 (fun _ _=>rfl)) (@Bc _ _ _ _ _ (@Af _ _ _ _ _ _ _ AH (pv 2) A1 (fun _ _=>rfl)) DR FI) FI) F1)) DR Gu) F1) L7))))))))),?_⟩
 have wl:=Tw.wr_len okl
 have wR:=Tw.wr_len okr
 have zl:=Ng hz3
 have l2:("(":Str).length=1:=by decide +kernel
 have l3:(")":Str).length=1:=by decide +kernel
 have eh:(1+if decide (V.str z=V.str (Str.ofString "*"))=true then(1:Int) else 0)=((hz z:Nat):Int):=by
  unfold hz
  by_cases c:z="*"
  .rw[Ag c,Ag (B5 (congrArg V.str c))];rfl
  .rw[Ae c,Ae (fun e=>c (V.str.inj (Kd e)))];rfl
 refine⟨_,rfl,rfl,.inr ⟨_,rfl,_,_,rfl,rfl,?_⟩⟩
 dsimp only[Ar]
 rw[eh]
 refine⟨_,rfl,p,_,0,_,rfl,rfl,Ah.of hp,rfl,?_⟩
 dsimp only[Ar]
 refine⟨_,rfl,p2,_,0,_,rfl,rfl,Ah.of hp2,rfl,?_⟩
 dsimp only[Ar]
 refine DJ (fun σ' H'=>H'=H/\σ'=[some (.str z),some (.ref p),some (.ref p2),some (.int ((hz z:Nat):Int)),some (.str (EJ (decide (l.hld<hz z)) l.wr)),some (.str r.wr)]) (fun σ' H' pp=>?_) (fun nx=>?_)
 .obtain⟨rfl,rfl⟩:=pp
  have bl:=JD (decide (l.hld<hz z)) l.wr
  refine DJ (fun σ' H2=>H2=H'/\σ'=[some (.str z),some (.ref p),some (.ref p2),some (.int ((hz z:Nat):Int)),some (.str (EJ (decide (l.hld<hz z)) l.wr)),some (.str (EJ (decide (r.hld<=hz z)) r.wr))]) (fun σ' H2 pp=>?_) (fun nx=>?_)
  .obtain⟨rfl,rfl⟩:=pp
   have br:=JD (decide (r.hld<=hz z)) r.wr
   refine⟨_,rfl,_,rfl,_,_,rfl,rfl,Ax (by omega),_,rfl,_,_,rfl,rfl,Ax (by rw[AX];omega),_,rfl,_,rfl,_,rfl,p,_,2,_,rfl,rfl,Ah.of hp,rfl,_,rfl,p2,_,2,_,rfl,rfl,Ah.of hp2,rfl,AG rfl,fun t1 ht1=>⟨AG rfl,fun t2 ht2=>?_⟩⟩
   have s1:=Ac ht1 (.tup [V.str z,sx,sy])
   have s2:=s1.trans (Ac ht2 (.tup [V.str (Tw.wr (.j z l r)),V.int ((hz z:Nat):Int),V.ref t1]))
   exact q _ _ s2 ⟨t2,.ref t1,rfl,A6,t1,sx,sy,rfl,(Ac ht2 _) _ _ A6,hsx.tk (A7.tk s2),hsy.tk (A7.tk s2)⟩
  .refine⟨_,rfl,p2,_,1,_,rfl,rfl,Ah.of hp2,rfl,_,rfl,_,_,rfl,rfl,_,rfl,?_⟩
   refine AD (fun c=>?_) (fun c=>?_)
   .have c:r.hld<=hz z:=Int.ofNat_le.mp (dT c)
    refine⟨_,rfl,_,_,rfl,rfl,Ax (by omega),_,_,rfl,rfl,Ax (by rw[AX];omega),nx _ _ ⟨rfl,?_⟩⟩
    rw[B5 c]
    rfl
   .have c:¬r.hld<=hz z:=fun e=>dF c (Int.ofNat_le.mpr e)
    refine nx _ _ ⟨rfl,?_⟩
    rw[BI c]
    rfl
 .refine⟨_,rfl,p,_,1,_,rfl,rfl,Ah.of hp,rfl,_,rfl,_,_,rfl,rfl,_,rfl,?_⟩
  refine AD (fun c=>?_) (fun c=>?_)
  .have c:l.hld<hz z:=Int.ofNat_lt.mp (dT c)
   refine⟨_,rfl,_,_,rfl,rfl,Ax (by omega),_,_,rfl,rfl,Ax (by rw[AX];omega),nx _ _ ⟨rfl,?_⟩⟩
   rw[B5 c]
   rfl
  .have c:¬l.hld<hz z:=fun e=>dF c (Int.ofNat_lt.mpr e)
   refine nx _ _ ⟨rfl,?_⟩
   rw[BI c]
   rfl
theorem SR (T:Tx w K mg a):AK P w K mg base AS 5 a.f_M a.d_M ["_law_cell_here","_law_known","_law_names_here"] Rd.spTerm28:=by
 have G_b :=@Gi P w K mg base a T
 have G_s :=@Ra P w K mg base a T
 have G_t :=@PP P w K mg base a T
 refine T.F_M.ok Fl (fun vs H Q E h=>?_) (fun cdv A outer s H vs Q E hr h=>?_)
 .obtain⟨_,_,_,_,_,rfl,_⟩:=h;rfl
 obtain⟨seed,kl,nl,nms,ns,rfl,hk,hn,q⟩:=h
 refine⟨_,(@A5 _ _ _ _ _ (@Aj _ _ (3) _ _ _ _ Fl.nd rfl (.inl rfl) (@Av _ _ _ _ _ _ _ _ _ _ _ _ _ _ _ _ G_b (hr.mono (by omega)) (by rfl) T.m_b T.F_b.kp T.b_b .nil Ao (@A0 _ _ _ _ _ (pv 0) (@A0 _ _ _ _ _ A1 A2 (by rfl)) (by rfl)) (by decide) (by rfl) (by rfl)) (by rfl) (by first|exact .inl rfl|exact .inr rfl|assumption)) (@A5 _ _ _ _ _ (@Aj _ _ (4) _ _ _ _ Fl.nd rfl (.inl rfl) (@Bl _ _ _ _ (@A0 _ _ _ _ _ (@Av _ _ _ _ _ _ _ _ _ _ _ _ _ _ _ _ G_s (hr.mono (by omega)) (by rfl) T.m_s T.F_s.kp T.b_s .nil Ao (@A0 _ _ _ _ _ (@Af _ _ _ _ _ _ _ AV (pv 3) A1 (fun _ _=>rfl)) (@A0 _ _ _ _ _ (pv 1) (@A0 _ _ _ _ _ (pv 2) A2 (by rfl)) (by rfl)) (by rfl)) (by decide) (by rfl) (by rfl)) A2 (by rfl))) (by rfl) (by first|exact .inl rfl|exact .inr rfl|assumption)) (@A5 _ _ _ _ _ (@EH _ _ _ _ _ _ _ _ PassesOwn.never rfl (@DC _ _ _ _ (@D1 _ _ _ _ _ _ _ _ _ _ F9 (pv 3) (@Cy _ _ _ A1) (@Cy _ _ _ (@Aa _ _ _ _ _ _ _ _ C1 A1 (@Aa _ _ _ _ _ _ _ _ Bf (pv 0) A1))))) (Bv (i:=5) Fl.nd rfl (.inl rfl)) (@A9 _ _ _ (@AE _ _ _ _ _ _ _ _ ((@Df _ _ _ _ _ _ _ (@An _ _ _ _ _ _ _ _ Eu (@Aa _ _ _ _ _ _ _ _ Bf (pv 5) A1) A1 (@Am _ _ (by decide) (by decide))) (@DY _ _ _ _ (@An _ _ _ _ _ _ _ _ Ft (@AR _ _ _ _ _ _ _ _ _ BJ (by rfl) T.z_len Bo (@A0 _ _ _ _ _ (pv 4) A2 (by rfl)) (by decide) (by decide) (by rfl) (by rfl)) A1 (@Am _ _ (by decide) (by decide)))))).pt (@A5 _ _ _ _ _ (@Aj _ _ (6) _ _ _ _ Fl.nd rfl (.inl rfl) (@DU _ _ _ _ _ _ _ _ _ Bs ED EE Ef (pv 4) (by rfl) (by rfl)) (by rfl) (by first|exact .inl rfl|exact .inr rfl|assumption)) (@A5 _ _ _ _ _ (@Aj _ _ (7) _ _ _ _ Fl.nd rfl (.inl rfl) (@DU _ _ _ _ _ _ _ _ _ Bs ED EE Ef (pv 4) (by rfl) (by rfl)) (by rfl) (by first|exact .inl rfl|exact .inr rfl|assumption)) (@A9 _ _ _ (@BF _ _ _ _ (@Bm _ _ _ _ _ _ _ _ _ _ _ _ Bs Cp Cq Cc (pv 4) (@A0 _ _ _ _ _ (@Av _ _ _ _ _ _ _ _ _ _ _ _ _ _ _ _ G_t (hr.mono (by omega)) (by rfl) T.m_t T.F_t.kp T.b_t .nil Ao (@A0 _ _ _ _ _ (@Af _ _ _ _ _ _ _ Es Aw (@Aa _ _ _ _ _ _ _ _ Bf (@Aa _ _ _ _ _ _ _ _ Cw (pv 5) A1) A1) (fun _ _=>rfl)) (@A0 _ _ _ _ _ (pv 7) (@A0 _ _ _ _ _ (pv 6) A2 (by rfl)) (by rfl)) (by rfl)) (by decide) (by rfl) (by rfl)) A2 (by rfl)) (by rfl) (by rfl) (by rfl) (by rfl) (by rfl)) (by rfl))))) (@A9 _ _ _ (@BF _ _ _ _ (@Bm _ _ _ _ _ _ _ _ _ _ _ _ Bs Cp Cq Cc (pv 4) (@A0 _ _ _ _ _ (@Av _ _ _ _ _ _ _ _ _ _ _ _ _ _ _ _ G_s (hr.mono (by omega)) (by rfl) T.m_s T.F_s.kp T.b_s .nil Ao (@A0 _ _ _ _ _ (@Aa _ _ _ _ _ _ _ _ Cw (pv 5) A1) (@A0 _ _ _ _ _ (pv 1) (@A0 _ _ _ _ _ (pv 2) A2 (by rfl)) (by rfl)) (by rfl)) (by decide) (by rfl) (by rfl)) A2 (by rfl)) (by rfl) (by rfl) (by rfl) (by rfl) (by rfl)) (by rfl))))) (by intro _;rfl)) (@A5 _ _ _ _ _ (@HV _ _ _ _ _ _ PassesOwn.never (@An _ _ _ _ _ _ _ _ Ft (@AR _ _ _ _ _ _ _ _ _ BJ (by rfl) T.z_len Bo (@A0 _ _ _ _ _ (pv 4) A2 (by rfl)) (by decide) (by decide) (by rfl) (by rfl)) A1 (@Am _ _ (by decide) (by decide))) (@A5 _ _ _ _ _ (@Aj _ _ (6) _ _ _ _ Fl.nd rfl (.inl rfl) (@DU _ _ _ _ _ _ _ _ _ Bs ED EE Ef (pv 4) (by rfl) (by rfl)) (by rfl) (by first|exact .inl rfl|exact .inr rfl|assumption)) (@A5 _ _ _ _ _ (@Aj _ _ (7) _ _ _ _ Fl.nd rfl (.inl rfl) (@DU _ _ _ _ _ _ _ _ _ Bs ED EE Ef (pv 4) (by rfl) (by rfl)) (by rfl) (by first|exact .inl rfl|exact .inr rfl|assumption)) (@A9 _ _ _ (@BF _ _ _ _ (@Bm _ _ _ _ _ _ _ _ _ _ _ _ Bs Cp Cq Cc (pv 4) (@A0 _ _ _ _ _ (@Av _ _ _ _ _ _ _ _ _ _ _ _ _ _ _ _ G_t (hr.mono (by omega)) (by rfl) T.m_t T.F_t.kp T.b_t .nil Ao (@A0 _ _ _ _ _ (@Af _ _ _ _ _ _ _ Es Aw (@Aa _ _ _ _ _ _ _ _ Bf (@Aa _ _ _ _ _ _ _ _ Cw (pv 0) A1) A1) (fun _ _=>rfl)) (@A0 _ _ _ _ _ (pv 7) (@A0 _ _ _ _ _ (pv 6) A2 (by rfl)) (by rfl)) (by rfl)) (by decide) (by rfl) (by rfl)) A2 (by rfl)) (by rfl) (by rfl) (by rfl) (by rfl) (by rfl)) (by rfl)))))) (@A9 _ _ _ (@Al _ _ _ _ (@Af _ _ _ _ _ _ _ AV (pv 4) A1 (fun _ _=>rfl)))))))),?_⟩
 refine⟨_,rfl,seed,5,rfl,by decide,by decide,fun rx H3 e3 hx=>?_⟩
 rw[show(5:Int).toNat=5 from rfl]at hx
 generalize hxs:Eo seed 5=xs0 at hx
 have xl:xs0.length=5:=by rw[←hxs,Gh]
 have at0:Bz (xs0.map V.int) (0:Int)=some (.int (xs0.getD 0 0)):=Fs (ns:=xs0) (k:=0) (by decide) (by rw[xl];decide)
 have hk3:=hk.over e3
 have hn3:=hn.over e3
 dsimp only[Ar]
 refine⟨_,rfl,rx,_,_,_,rfl,rfl,A3.of hx,at0,_,rfl,_,rfl,_,kl,nl,nms,ns,rfl,hk3,hn3,fun v H4 t e4 tp ok=>⟨AG rfl,fun l hl=>?_⟩⟩
 obtain⟨tp,st⟩:=Rd.leaf_tp ok tp
 have ok:=ok.twk
 have e04:=e3.trans e4
 have hl0:H l=none:=e04.free hl
 have kl0:H3 l=none:=e4.free hl
 have s5:=Ac hl (.lst [v])
 have hl5:(upd H4 l (.lst [v])) l=some (.lst [v]):=A6
 have S5:Rd.StK (upd H4 l (.lst [v])) nms ns [v] [t] 1:=Rd.StK.push (xs:=[]) (ts:=[]) (N:=0) ⟨.nil,fun t ht=>(by cases ht),Ai _⟩ (tp.tk (A7.tk s5)) ok (by omega)
 have e05:=e04.trans s5
 dsimp only[Ar]
 generalize upd H4 l (.lst [v])=H5 at s5 hl5 S5 e05
 have f50:=BU seed (show(5:Int)≠0 by decide)
 have f51:=C0 seed (show(0:Int)<5 by decide)
 refine⟨_,rfl,_,rfl,_,rfl,_,_,rfl,rfl,(by show(0:Int)<5;decide),_,_,rfl,rfl,_,rfl,rx,_,rfl,A3.of ((e4.trans s5) _ _ hx),fun cl hcl=>?_⟩
 rw[Ot]
 obtain⟨cs,ecs,hcs4⟩:∃cs:List Int,Ca xs0 (some 1) (some (1+seed%5))=cs/\cs.length<=4:=⟨_,rfl,by
  rw[Kn xs0 (by decide) (by omega) (by omega) (by omega),Bh,Cn]
  omega⟩
 rw[ecs]
 have s6:=Ac hcl (.lst (cs.map V.int))
 have hC:(upd H5 cl (.lst (cs.map V.int))) cl=some (.lst (cs.map V.int)):=A6
 have hl6:=s6 _ _ hl5
 have S6:=S5.tk (A7.tk s6)
 have ncl:cl≠l:=(AI hl5 hcl).symm
 have e06:=e05.trans s6
 have e36:=(e4.trans s5).trans s6
 generalize upd H5 cl (.lst (cs.map V.int))=H6 at s6 hC hl6 S6 e06 e36
 refine⟨cl,rfl,⟨_,A3.of hC⟩,?_⟩
 refine HF (xs:=cs.map V.int) (fun i σ' H'=>A7 H H'/\A7 H3 H'/\(H' cl=some (.lst (cs.map V.int))/\∃o5 o6 o7,σ'=[some (.int seed),some (.ref kl),some (.ref nl),some (.ref rx),some (.ref l),o5,o6,o7])/\∃xs ts N,H' l=some (.lst xs)/\Rd.StK H' nms ns xs ts N/\N<=i+1/\0<xs.length) ⟨e06,e36,⟨hC,_,_,_,rfl⟩,[v],[t],1,hl6,S6,Ai _,G6 _⟩ (fun i σ' H' _ p=>A3.of p.2.2.1.1) (fun i x σ' H' hx p=>?_) (fun σ' H' p=>?_)
 .obtain⟨eH,e3H,⟨hcl',o5,o6,o7,rfl⟩,xs,ts,N,hxs,hS,hNi,hpos⟩:=p
  obtain⟨c,rfl⟩:∃c,x=V.int c:=by
   rw[D8]at hx
   cases e:cs[i]? with
   |none=>rw[e]at hx;cases hx
   |some z=>rw[e]at hx;exact⟨z,(BP hx).symm⟩
  have hi:i<cs.length:=by have:=(BM.mp hx).1;rwa [Ap]at this
  have sl:=hS.len
  dsimp only[Ar]
  refine KO (fun H2=>H2=H') (fun H2 e=>?_) (fun els=>?_)
  .subst e
   refine⟨_,rfl,.inl ⟨rfl,_,A3.of hxs⟩,_,rfl,_,_,rfl,rfl,⟨by decide,by decide⟩,_,rfl,_,rfl,_,kl,nl,nms,ns,rfl,hk.over eH,hn.over eH,fun v2 H6 t2 e6 p6 ok2=>?_⟩
   obtain⟨p6,sz2⟩:=Rd.leaf_tp ok2 p6
   have ok2:=ok2.twk
   have hxs6:=e6 _ _ hxs
   refine⟨l,_,_,rfl,rfl,hxs6,Ce (by omega),?_⟩
   have tk:TK H6 (upd H6 l (.lst (xs++[v2]))):=TK.upd hxs6
   refine⟨fun b ob eb=>by rw[A8 (AI eb hl0)];exact e6 _ _ (eH _ _ eb),fun b ob eb=>by rw[A8 (AI eb kl0)];exact e6 _ _ (e3H _ _ eb),⟨by rw[A8 ncl];exact e6 _ _ hcl',_,_,_,rfl⟩,xs++[v2],ts++[t2],N+1,A6,((hS.tk (A7.tk e6)).tk tk).push (p6.tk tk) ok2 (by omega),by omega,by rw[Au];omega⟩
  .refine⟨_,rfl,_,_,rfl,rfl,(by show(0:Int)<5;decide),_,_,rfl,rfl,_,rfl,?_⟩
   refine AD (fun _=>?_) (fun _=>Aq (els _ rfl))
   refine⟨_,rfl,l,_,rfl,.inl (A3.of hxs),_,_,rfl,rfl,_,rfl,?_⟩
   refine AD (fun c2=>?_) (fun _=>els _ rfl)
   have c2:=dT c2
   obtain⟨ys,x1,us,t1,M1,rfl,rfl,hS1,px,okx,m1⟩:=hS.pop hpos
   rw[Au,BD]at c2
   obtain⟨zs',x2,us2,t2,M2,rfl,rfl,hS2,py,oky,m2⟩:=hS1.pop (by omega)
   refine⟨_,rfl,.inl ⟨rfl,_,A3.of hxs⟩,l,_,x1,rfl,rfl,hxs,C9.1,?_⟩
   rw[C9.2]
   dsimp only[Ar]
   refine⟨_,rfl,.inl ⟨rfl,_,A3.of A6⟩,l,_,x2,rfl,rfl,A6,C9.1,?_⟩
   rw[C9.2]
   dsimp only[Ar]
   have tk0:TK H' (upd (upd H' l (.lst (zs'++[x2]))) l (.lst zs')):=(TK.upd hxs).trans (TK.upd A6)
   have hz:(upd (upd H' l (.lst (zs'++[x2]))) l (.lst zs')) l=some (.lst zs'):=A6
   have u2:∀b,b≠l->(upd (upd H' l (.lst (zs'++[x2]))) l (.lst zs')) b=H' b:=fun b hb=>by rw[A8 hb,A8 hb]
   generalize upd (upd H' l (.lst (zs'++[x2]))) l (.lst zs')=H2 at tk0 hz u2
   have eH2:A7 H H2:=fun b ob eb=>by rw[u2 _ (AI eb hl0)];exact eH _ _ eb
   have e3H2:A7 H3 H2:=fun b ob eb=>by rw[u2 _ (AI eb kl0)];exact e3H _ _ eb
   have f0:=BU (c/5) (show(3:Int)≠0 by decide)
   have f1:=C0 (c/5) (show(0:Int)<3 by decide)
   obtain⟨ch,hch,h3⟩:=NO f0 f1
   have sl2:=hS2.len
   refine⟨_,rfl,.inl ⟨rfl,_,A3.of hz⟩,_,rfl,_,_,rfl,rfl,⟨by decide,by decide⟩,_,_,rfl,rfl,(by show(0:Int)<3;decide),_,_,ch,rfl,rfl,(by decide +kernel),hch,_,rfl,_,rfl,_,x2,x1,t2,t1,rfl,h3,py.tk tk0,px.tk tk0,oky.ok,okx.ok,by omega,fun v3 H6 e6 p6=>?_⟩
   have hz6:=e6 _ _ hz
   refine⟨l,_,_,rfl,rfl,hz6,Ce (by omega),?_⟩
   have tk:TK H6 (upd H6 l (.lst (zs'++[v3]))):=TK.upd hz6
   refine⟨fun b ob eb=>by rw[A8 (AI eb hl0)];exact e6 _ _ (eH2 _ _ eb),fun b ob eb=>by rw[A8 (AI eb kl0)];exact e6 _ _ (e3H2 _ _ eb),⟨by rw[A8 ncl];exact e6 _ _ (by rw[u2 _ ncl];exact hcl'),_,_,_,rfl⟩,zs'++[v3],us2++[.j ⟨#[ch]⟩ t2 t1],N,A6,(((hS2.tk tk0).tk (A7.tk e6)).tk tk).push (p6.tk tk) ⟨h3,oky,okx⟩ (by show M2+(t2.sz+t1.sz)<=N;omega),by omega,by rw[Au];exact G6 _⟩
 .obtain⟨eH,e3H,⟨_,o5,o6,o7,rfl⟩,xs,ts,N,hxs,hS,hNi,hpos⟩:=p
  rw[Ap]at hNi
  have sl:=hS.len
  show DH (Jd _ _) (G1 _) _ _ _
  refine DJ (fun σ' H2=>A7 H H2/\(∃o5 o6 o7,σ'=[some (.int seed),some (.ref kl),some (.ref nl),some (.ref rx),some (.ref l),o5,o6,o7])/\∃x t,H2 l=some (.lst [x])/\DD H2 x t/\Rd.Twk nms ns t/\t.sz<=5) (fun σ' H2 pp=>?_) (fun nx=>?_)
  .obtain⟨e2,⟨o5,o6,o7,rfl⟩,x,t,hx,tx,okt,st⟩:=pp
   exact⟨_,rfl,l,_,_,_,rfl,rfl,A3.of hx,rfl,q x _ t e2 tx okt st⟩
  refine Ox 5 (fun j σ' H2=>A7 H H2/\(∃o5 o6 o7,σ'=[some (.int seed),some (.ref kl),some (.ref nl),some (.ref rx),some (.ref l),o5,o6,o7])/\∃xs ts,H2 l=some (.lst xs)/\Rd.StK H2 nms ns xs ts 5/\xs.length+j<=5/\0<xs.length) ⟨eH,⟨_,_,_,rfl⟩,xs,ts,hxs,⟨hS.at',hS.ok,by have:=hS.sum;omega⟩,by omega,hpos⟩ (fun j σ' H' hj pp=>?_) (MT.test (ME.op (MR.i0 _) (ME.cb MB.len (MA.cons (ME.var _) MA.nil)) (ME.c _)))
  obtain⟨eH,⟨o5,o6,o7,rfl⟩,xs,ts,hxs,hS,hNi,hpos⟩:=pp
  refine⟨_,rfl,l,_,rfl,.inl (A3.of hxs),_,_,rfl,rfl,_,rfl,?_⟩
  refine AD (fun c2=>?_) (fun c2=>?_)
  .have c2:=dT c2
   refine⟨by omega,?_⟩
   obtain⟨ys,x1,us,t1,M1,rfl,rfl,hS1,px,okx,m1⟩:=hS.pop hpos
   rw[Au,BD]at c2 hNi
   obtain⟨zs',x2,us2,t2,M2,rfl,rfl,hS2,py,oky,m2⟩:=hS1.pop (by omega)
   rw[Au,BD]at hNi
   refine⟨_,rfl,.inl ⟨rfl,_,A3.of hxs⟩,l,_,x1,rfl,rfl,hxs,C9.1,?_⟩
   rw[C9.2]
   dsimp only[Ar]
   refine⟨_,rfl,.inl ⟨rfl,_,A3.of A6⟩,l,_,x2,rfl,rfl,A6,C9.1,?_⟩
   rw[C9.2]
   dsimp only[Ar]
   have tk0:TK H' (upd (upd H' l (.lst (zs'++[x2]))) l (.lst zs')):=(TK.upd hxs).trans (TK.upd A6)
   have hz:(upd (upd H' l (.lst (zs'++[x2]))) l (.lst zs')) l=some (.lst zs'):=A6
   have u2:∀b,b≠l->(upd (upd H' l (.lst (zs'++[x2]))) l (.lst zs')) b=H' b:=fun b hb=>by rw[A8 hb,A8 hb]
   generalize upd (upd H' l (.lst (zs'++[x2]))) l (.lst zs')=H2 at tk0 hz u2
   have eH2:A7 H H2:=fun b ob eb=>by rw[u2 _ (AI eb hl0)];exact eH _ _ eb
   have sl2:=hS2.len
   have f0:=BU (seed/5) (show(3:Int)≠0 by decide)
   have f1:=C0 (seed/5) (show(0:Int)<3 by decide)
   obtain⟨ch,hch,h3⟩:=NO f0 f1
   refine⟨_,rfl,.inl ⟨rfl,_,A3.of hz⟩,_,rfl,_,_,rfl,rfl,⟨by decide,by decide⟩,_,_,rfl,rfl,(by show(0:Int)<3;decide),_,_,ch,rfl,rfl,(by decide +kernel),hch,_,rfl,_,rfl,_,x2,x1,t2,t1,rfl,h3,py.tk tk0,px.tk tk0,oky.ok,okx.ok,by omega,fun v3 H6 e6 p6=>?_⟩
   have hz6:=e6 _ _ hz
   refine⟨l,_,_,rfl,rfl,hz6,Ce (by omega),?_⟩
   have tk:TK H6 (upd H6 l (.lst (zs'++[v3]))):=TK.upd hz6
   exact⟨fun b ob eb=>by rw[A8 (AI eb hl0)];exact e6 _ _ (eH2 _ _ eb),⟨_,_,_,rfl⟩,zs'++[v3],us2++[.j ⟨#[ch]⟩ t2 t1],A6,(((hS2.tk tk0).tk (A7.tk e6)).tk tk).push (p6.tk tk) ⟨h3,oky,okx⟩ (by show M2+(t2.sz+t1.sz)<=5;omega),by rw[Au,BD];omega,by rw[Au];exact G6 _⟩
  .have c2:=dF c2
   obtain⟨ys,x1,us,t1,M1,rfl,rfl,hS1,px,okx,m1⟩:=hS.pop hpos
   have y0:ys=[]:=by
    rw[Au,BD]at c2
    exact K9 (by omega)
   subst y0
   exact nx _ _ ⟨eH,⟨_,_,_,rfl⟩,x1,t1,hxs,px,okx,by omega⟩
theorem Ss (T:Tx w K mg a):AK P w K mg base AS 3 a.f_N a.d_N ["_law_cell_here","_law_names_here","_law_opened","_law_last"] Rd.spLoop28:=by
 have G_b :=@Gi P w K mg base a T
 have G_h :=@Oi P w K mg base a T
 refine T.F_N.ok HD (fun vs H Q E h=>?_) (fun cdv A outer s H vs Q E hr h=>?_)
 .obtain⟨_,_,_,_,_,_,_,rfl,_⟩:=h;rfl
 obtain⟨c,nl,o,la,ns,ts,tl,rfl,hn,⟨vs,hO0,aO⟩,hol,⟨_,hok⟩,hla,okl,okh,q⟩:=h
 have hnd:=hn.2.2.1
 refine⟨_,(@A5 _ _ _ _ _ (@Aj _ _ (4) _ _ _ _ HD.nd rfl (.inl rfl) (@Av _ _ _ _ _ _ _ _ _ _ _ _ _ _ _ _ G_b (hr.mono (by omega)) (by rfl) T.m_b T.F_b.kp T.b_b .nil Ao (@A0 _ _ _ _ _ (pv 0) (@A0 _ _ _ _ _ A1 A2 (by rfl)) (by rfl)) (by decide) (by rfl) (by rfl)) (by rfl) (by first|exact .inl rfl|exact .inr rfl|assumption)) (@A5 _ _ _ _ _ (@Aj _ _ (5) _ _ _ _ HD.nd rfl (.inr rfl) (@Aa _ _ _ _ _ _ _ _ F7 (@Bl _ _ _ _ (@A0 _ _ _ _ _ Aw A2 (by rfl))) (@Dh _ _ _ _ _ _ _ ["_law_one"] [none] _ _ _ _ (by rfl) (@DC _ _ _ _ (pv 2)) UG (fun _ _ _ _ _ _=>⟨(Bv (i:=0) QE rfl (.inl rfl)),@DZ _,(@Af _ _ _ _ _ _ _ (show DA _ (Fy K) from AH) (pv 0) A1 (fun _ _=>rfl))⟩) (by intro _;rfl))) (by rfl) (by first|exact .inl rfl|exact .inr rfl|assumption)) (@A5 _ _ _ _ _ (@Vw _ _ _ _ _ _ _ _ _ (6) _ ["_law_name","_law_known"] [none,some 5] _ _ _ _ HD.nd rfl (.inl rfl) (by rfl) (@DC _ _ _ _ (@D1 _ _ _ _ _ _ _ _ _ _ F9 (pv 1) DT (@Cy _ _ _ A1))) PB (fun _ _ _ _ _ _=>⟨(Bv (i:=0) QK rfl (.inl rfl)),(@ID _ _ _ (@An _ _ _ _ _ _ _ _ (show Bq _ _ (Ir K true) from L5) (pv 0) (pv 1) (by with_unfolding_all rfl))),(pv 0)⟩) (by rfl) (by intro _;rfl) (by first|exact .inl rfl|exact .inr rfl|assumption)) (@A5 _ _ _ _ _ (@AE _ _ _ _ _ _ _ _ ((@Df _ _ _ _ _ _ _ (@An _ _ _ _ _ _ _ _ Bk (@Aa _ _ _ _ _ _ _ _ Bf (@Af _ _ _ _ _ _ _ AV (pv 4) A1 (fun _ _=>rfl)) A1) A1 (@Am _ _ (by decide) (by decide))) (@Df _ _ _ _ _ _ _ (@An _ _ _ _ _ _ _ _ Gx (@Af _ _ _ _ _ _ _ AH (pv 3) A1 (fun _ _=>rfl)) (pv 6) (by with_unfolding_all rfl)) (@Df _ _ _ _ _ _ _ (@An _ _ _ _ _ _ _ _ Gx (@Af _ _ _ _ _ _ _ AH (@Af _ _ _ _ _ _ _ AH (pv 3) A1 (fun _ _=>rfl)) A1 (fun _ _=>rfl)) (pv 5) (by with_unfolding_all rfl)) (@DY _ _ _ _ (@An _ _ _ _ _ _ _ _ Gx (@Af _ _ _ _ _ _ _ AH (@Af _ _ _ _ _ _ _ AH (pv 3) A1 (fun _ _=>rfl)) A1 (fun _ _=>rfl)) (pv 5) (by with_unfolding_all rfl))))))).pt (@A9 _ _ _ (@Al _ _ _ _ (pv 3))) AF) (@A5 _ _ _ _ _ (@Aj _ _ (7) _ _ _ _ HD.nd rfl (.inl rfl) (@Av _ _ _ _ _ _ _ _ _ _ _ _ _ _ _ _ G_h (hr.mono (by omega)) (by rfl) T.m_h T.F_h.kp T.b_h .nil Ao (@A0 _ _ _ _ _ (@Af _ _ _ _ _ _ _ AV (pv 4) A1 (fun _ _=>rfl)) (@A0 _ _ _ _ _ (@Af _ _ _ _ _ _ _ AV (pv 4) A1 (fun _ _=>rfl)) (@A0 _ _ _ _ _ (pv 5) A2 (by rfl)) (by rfl)) (by rfl)) (by decide) (by rfl) (by rfl)) (by rfl) (by first|exact .inl rfl|exact .inr rfl|assumption)) (@A9 _ _ _ (@Al _ _ _ _ (@Em _ _ _ _ _ (@Bc _ _ _ _ _ (@Af _ _ _ _ _ _ _ AV (pv 6) (@Aa _ _ _ _ _ _ _ _ Bf (@Af _ _ _ _ _ _ _ AV (pv 4) A1 (fun _ _=>rfl)) (@AR _ _ _ _ _ _ _ _ _ BJ (by rfl) T.z_len Bo (@A0 _ _ _ _ _ (pv 6) A2 (by rfl)) (by decide) (by decide) (by rfl) (by rfl))) (fun _ _=>rfl)) (@Bc _ _ _ _ _ (pv 7) (@Bc _ _ _ _ _ (@Av _ _ _ _ _ _ _ _ _ _ _ _ _ _ _ _ G_h (hr.mono (by omega)) (by rfl) T.m_h T.F_h.kp T.b_h .nil Ao (@A0 _ _ _ _ _ (@Af _ _ _ _ _ _ _ AV (pv 4) A1 (fun _ _=>rfl)) (@A0 _ _ _ _ _ (@Af _ _ _ _ _ _ _ AV (pv 4) A1 (fun _ _=>rfl)) (@A0 _ _ _ _ _ (pv 5) A2 (by rfl)) (by rfl)) (by rfl)) (by decide) (by rfl) (by rfl)) DR L4) F1) FI))))))))),?_⟩
 refine⟨_,rfl,c,6,rfl,by decide,by decide,fun rx H1 s1 hx=>?_⟩
 rw[show(6:Int).toNat=6 from rfl]at hx
 generalize hxs:Eo c 6=xs at hx
 have xl:xs.length=6:=by rw[←hxs,Gh]
 have xm:∀y∈xs,0<=y/\y<2147483647:=fun y hy=>HA (hxs▸hy)
 have atx:∀k:Nat,k<6->Bz (xs.map V.int) ((k:Nat):Int)=some (.int (xs.getD k 0)):=fun k hk=>Fs (ns:=xs) (k:=((k:Nat):Int)) (by omega) (by omega)
 have xb:∀k:Nat,k<6->0<=xs.getD k 0/\xs.getD k 0<2147483647:=fun k hk=>by
  have hm:xs.getD k 0∈xs:=by rw[G7,Bg (by omega)];exact EV _
  exact xm _ hm
 dsimp only[Ar]
 have vl:=aO.1
 refine⟨AG rfl,fun r1 hr1=>?_⟩
 have s2:=Ac hr1 (.lst [V.str ""])
 have e2:=s1.trans s2
 have hO2:=e2 _ _ hO0
 refine⟨_,rfl,o,rfl,⟨_,A3.of hO2⟩,?_⟩
 refine F0 (xs:=vs) (fun i ys H'=>H'=upd H1 r1 (.lst [V.str ""])/\ys=((ts.take i).map Ak.nm).map V.str) ⟨rfl,rfl⟩ (Ax (by omega)) (fun i ys H' hi pp=>⟨by rw[pp.1];exact A3.of hO2,by rw[pp.2,Ap,Ap,Bh];omega⟩) (fun i x ys H' hc pp=>?_) (fun ys H' pp r2 hr2=>?_)
 .obtain⟨rfl,rfl⟩:=pp
  obtain⟨t,ht,p,xa,xb',rfl,hp,_,_⟩:=aO.get' hc
  refine⟨_,rfl,p,_,0,_,rfl,rfl,Ah.of (e2 _ _ hp),rfl,rfl,?_⟩
  rw[Di ht,B3,B3]
  rfl
 obtain⟨rfl,rfl⟩:=pp
 rw[vl,DN]
 have s3:=Ac hr2 (.lst ((ts.map Ak.nm).map V.str))
 refine⟨r1,r2,_,_,rfl,rfl,s3 _ _ A6,A6,Ax (by rw[Ap,Ap,BD];omega),fun kl hkl=>?_⟩
 have s4:=Ac hkl (.lst ([V.str ""]++(ts.map Ak.nm).map V.str))
 have hk:Rd.KnAt (upd (upd (upd H1 r1 (.lst [V.str ""])) r2 (.lst ((ts.map Ak.nm).map V.str))) kl (.lst ([V.str ""]++(ts.map Ak.nm).map V.str))) kl (Rd.lnm ts):=⟨A6,by unfold Rd.lnm;rw[Ap];omega,fun z hz=>by
  obtain⟨t,ht,rfl⟩:=DE.mp hz
  exact(hok t ht).1⟩
 have e4:=(e2.trans s3).trans s4
 have hx4:=(s2.trans (s3.trans s4)) _ _ hx
 dsimp only[Ar]
 generalize upd (upd (upd H1 r1 (.lst [V.str ""])) r2 (.lst ((ts.map Ak.nm).map V.str))) kl (.lst ([V.str ""]++(ts.map Ak.nm).map V.str))=H4 at s4 hk e4 hx4
 obtain⟨kn,hkn⟩:∃kn,("":Str)::Rd.lnm ts=kn:=⟨_,rfl⟩
 have hkv:H4 kl=some (.lst (kn.map V.str)):=by rw[←hkn];exact hk.1
 have knl:kn.length<=3:=by rw[←hkn,AW];unfold Rd.lnm;rw[Ap];omega
 have hn4:=hn.over e4
 have ct:CZ (ns.map V.str) none (some 4)=(ns.take 4).map V.str:=by
  have:=FH (ns.map V.str) (k:=4) (by decide)
  rw[List.map_take]
  exact this
 refine⟨_,rfl,_,rfl,nl,_,rfl,A3.of hn4.1,fun p1 hp1=>?_⟩
 rw[ct]
 have s5:=Ac hp1 (.lst ((ns.take 4).map V.str))
 have hp15:(upd H4 p1 (.lst ((ns.take 4).map V.str))) p1=some (.lst ((ns.take 4).map V.str)):=A6
 have hk5:=hk.over s5
 have hkv5:=s5 _ _ hkv
 generalize upd H4 p1 (.lst ((ns.take 4).map V.str))=H5 at s5 hp15 hk5 hkv5
 have n4:(ns.take 4).length=4:=by rw[Bh,hn.2.1];rfl
 have nd4:(ns.take 4).Nodup:=List.Nodup.sublist (List.take_sublist _ _) hnd
 have n20:∀z∈ns.take 4,Bp (cds z):=fun z hz=>hn.2.2.2 z (Ga hz)
 generalize ns.take 4=n4s at hp15 n4 nd4 n20
 have fl:((kn.map V.str).all CM)=true:=by rw[LR];exact EU.mpr fun _ _=>rfl
 refine⟨p1,rfl,⟨_,A3.of hp15⟩,?_⟩
 refine F0 (xs:=n4s.map V.str) (fun i ys H3=>H3=H5/\ys=((n4s.take i).filter fun z=>!decide (z∈kn)).map V.str) ⟨rfl,rfl⟩ (Ax (by rw[Ap];omega)) (fun i ys H3 hi p=>?_) (fun i x ys H3 hc p=>?_) (fun ys H3 p r3 hr3=>?_)
 .obtain⟨rfl,rfl⟩:=p
  refine⟨A3.of hp15,?_⟩
  rw[Ap]
  exact C5 (LS _ _) (by rw[Bh];omega)
 .obtain⟨rfl,rfl⟩:=p
  rw[D8]at hc
  cases hz:n4s[i]? with
  |none=>rw[hz]at hc;cases hc
  |
   some z=>
   rw[hz]at hc
   cases hc
   refine⟨_,rfl,_,rfl,kl,_,rfl,.inl (A3.of hkv5),rfl,fl,_,rfl,?_⟩
   show if(!Dj (V.str z) (kn.map V.str))=true then _ else _
   rw[Qq,Di hz,FF,B3]
   refine AD (fun c2=>?_) (fun c2=>?_)
   .refine⟨_,rfl,rfl,?_⟩
    rw[show List.filter (fun z=>!decide (z∈kn)) [z]=[z] from List.filter_cons_of_pos (p:=fun z=>!decide (z∈kn)) c2]
    rfl
   .refine⟨rfl,?_⟩
    rw[show List.filter (fun z=>!decide (z∈kn)) [z]=[] from List.filter_cons_of_neg (p:=fun z=>!decide (z∈kn)) c2]
    show _=_++[]
    rw[DL]
 obtain⟨rfl,rfl⟩:=p
 rw[Ap,DN]
 have rsub:∀z∈(n4s.filter fun z=>!decide (z∈kn)),Bp (cds z)/\z∉kn:=fun z hz=>⟨n20 z (LB.mp hz).1,by have:=(LB.mp hz).2;simpa using this⟩
 generalize hrest:(n4s.filter fun z=>!decide (z∈kn))=rest at rsub
 have rne:0<rest.length:=by
  refine Nat.pos_of_ne_zero fun h0=>?_
  have hnil:=List.length_eq_zero_iff.mp h0
  rw[←hrest]at hnil
  have:=Oo nd4 (k:=kn) fun x hx=>by simpa using List.filter_eq_nil_iff.mp hnil x hx
  omega
 have rle:rest.length<=4:=by rw[←hrest,←n4];exact LS _ _
 have s6:=Ac hr3 (.lst (rest.map V.str))
 have h6r:(upd H3 r3 (.lst (rest.map V.str))) r3=some (.lst (rest.map V.str)):=A6
 have e6:=e4.trans (s5.trans s6)
 have hx6:=(s5.trans s6) _ _ hx4
 have hk6:=hk5.over s6
 dsimp only[Ar]
 have hkv6:=s6 _ _ hkv5
 generalize upd H3 r3 (.lst (rest.map V.str))=H6 at s6 h6r e6 hx6 hk6 hkv6
 have flr:((rest.map V.str).all CM)=true:=by rw[LR];exact EU.mpr fun _ _=>rfl
 obtain⟨q0,xa,xb2,rfl,g0,⟨q1,rfl,g1⟩,⟨q2,rfl,g2⟩⟩:=hla.tk (A7.tk e6)
 have hla6:DS H6 (.ref q0) tl:=⟨q0,.ref q1,.ref q2,rfl,g0,⟨q1,rfl,g1⟩,⟨q2,rfl,g2⟩⟩
 refine DJ (fun σ' H'=>H'=H6/\σ'=[some (.int c),some (.ref nl),some (.ref o),some (.ref q0),some (.ref rx),some (.ref kl),some (.ref r3),none]) (fun σ' H' m=>?_) (fun go=>?_)
 .obtain⟨rfl,rfl⟩:=m
  refine⟨_,rfl,rx,_,_,_,rfl,rfl,A3.of hx6,atx 0 (by decide),_,rfl,rx,_,_,_,rfl,rfl,A3.of hx6,atx 1 (by decide),_,rfl,_,_,kl,_,rfl,(xb 0 (by decide)).1,(xb 0 (by decide)).2,(xb 1 (by decide)).1,(xb 1 (by decide)).2,hk6,fun rl H7 sl e7 hsl bl kl1=>?_⟩
  dsimp only[Ar]
  have h7r:=e7 _ _ h6r
  have hx7:=e7 _ _ hx6
  have lr:(((rest.map V.str).length:Nat):Int)=(rest.length:Int):=by rw[Ap]
  have m0:=BU (xs.getD 4 0) (show(((rest.map V.str).length:Nat):Int)≠0 by omega)
  have m1:=C0 (xs.getD 4 0) (show(0:Int)<(((rest.map V.str).length:Nat):Int) by omega)
  obtain⟨nz,hnz,nzi⟩:=Rd.strs_at (zs:=rest) m0 (by omega)
  obtain⟨nz1,nz2⟩:=rsub nz (CK nzi)
  refine⟨_,rfl,_,rfl,rx,_,_,_,rfl,rfl,A3.of hx7,atx 4 (by decide),_,rfl,r3,_,rfl,.inl (A3.of h7r),_,_,rfl,rfl,(by show(0:Int)<(((rest.map V.str).length:Nat):Int);omega),r3,_,_,_,rfl,rfl,A3.of h7r,hnz,_,rfl,?_⟩
  refine⟨_,rfl,rx,_,_,_,rfl,rfl,A3.of hx7,atx 2 (by decide),_,rfl,rx,_,_,_,rfl,rfl,A3.of hx7,atx 3 (by decide),_,rfl,_,_,kl,_,rfl,(xb 2 (by decide)).1,(xb 2 (by decide)).2,(xb 3 (by decide)).1,(xb 3 (by decide)).2,hk6.over e7,fun rh H8 sh e8 hsh bh kh1=>⟨AG rfl,fun t ht=>?_⟩⟩
  have s9:=Ac ht (.tup [V.str nz,rl,rh])
  exact q _ _ ⟨nz,sl,sh⟩ (((e6.trans e7).trans e8).trans s9) ⟨t,rl,rh,rfl,A6,(hsl.tk (A7.tk e8)).tk (A7.tk s9),hsh.tk (A7.tk s9)⟩ ⟨nz1,fun z=>nz2 (by rw[←hkn];exact BH _ z),bl,bh,kl1,kh1⟩
 .refine⟨_,rfl,rx,_,_,_,rfl,rfl,A3.of hx6,atx 5 (by decide),_,_,rfl,rfl,(by show(0:Int)<3;decide),rfl,_,rfl,?_⟩
  refine AD (fun _=>?_) (fun _=>Aq (go _ _ ⟨rfl,rfl⟩))
  refine⟨_,rfl,q0,_,0,_,rfl,rfl,Ah.of g0,rfl,_,rfl,r3,_,rfl,.inl (A3.of h6r),rfl,flr,_,rfl,?_⟩
  refine AD (fun y1=>?_) (fun _=>Aq (go _ _ ⟨rfl,rfl⟩))
  refine⟨_,rfl,q0,_,1,_,rfl,rfl,Ah.of g0,rfl,q1,_,0,_,rfl,rfl,Ah.of g1,rfl,_,rfl,kl,_,rfl,.inl (A3.of hkv6),rfl,fl,_,rfl,?_⟩
  refine AD (fun y2=>?_) (fun _=>Aq (go _ _ ⟨rfl,rfl⟩))
  refine⟨_,rfl,q0,_,2,_,rfl,rfl,Ah.of g0,rfl,q2,_,0,_,rfl,rfl,Ah.of g2,rfl,_,rfl,kl,_,rfl,.inl (A3.of hkv6),rfl,fl,_,rfl,?_⟩
  refine AD (fun y3=>?_) (fun _=>go _ _ ⟨rfl,rfl⟩)
  have inr:∀{z:Str} {l:List Str},Dj (V.str z) (l.map V.str)=true->z∈l:=fun{z l} h=>by rw[Rd.in_strs]at h;exact Kd h
  have kw:∀{s:Str×Int},s.1∈kn->Rd.knw (Rd.lnm ts) s=true:=fun{s} h=>by
   rw[←hkn]at h
   unfold Rd.knw
   rcases AQ.mp h with h|h
   .rw[B5 h];rfl
   .rw[B5 h,Bool.or_true]
  obtain⟨b1,b2⟩:=rsub _ (inr y1)
  exact⟨_,rfl,q _ _ tl e6 hla6 ⟨b1,fun z=>b2 (by rw[←hkn];exact BH _ z),okl,okh,kw (inr y2),kw (inr y3)⟩⟩
theorem Uw (T:Tx w K mg a):AK P w K mg base AS 6 a.f_u a.d_u ["_law_cell_here","_law_opened","_law_path","_law_names_here"] Rd.spDeed28:=by
 have G_b :=@Gi P w K mg base a T
 have G_q :=@Mr P w K mg base a T
 have G_M :=@SR P w K mg base a T
 refine T.F_u.ok GJ (fun vs H Q E h=>?_) (fun cdv A outer s H vs Q E hr h=>?_)
 .obtain⟨_,_,_,_,_,_,_,rfl,_⟩:=h;rfl
 obtain⟨c,o,pt,nl,ns,ts,path,rfl,hn,hO,⟨hol,hok⟩,hpt,hpl,q⟩:=h
 refine⟨_,(@A5 _ _ _ _ _ (@Aj _ _ (4) _ _ _ _ GJ.nd rfl (.inl rfl) (@Aa _ _ _ _ _ _ _ _ F7 (@Bl _ _ _ _ (@A0 _ _ _ _ _ Aw A2 (by rfl))) (@Dh _ _ _ _ _ _ _ ["_law_one"] [none] _ _ _ _ (by rfl) (@DC _ _ _ _ (pv 1)) SL (fun _ _ _ _ _ _=>⟨(Bv (i:=0) TU rfl (.inl rfl)),@DZ _,(@Af _ _ _ _ _ _ _ (show DA _ (Fy K) from AH) (pv 0) A1 (fun _ _=>rfl))⟩) (by intro _;rfl))) (by rfl) (by first|exact .inl rfl|exact .inr rfl|assumption)) (@A5 _ _ _ _ _ (@M9 _ _ _ _ _ _ (@Av _ _ _ _ _ _ _ _ _ _ _ _ _ _ _ _ G_q (hr.mono (by omega)) (by rfl) T.m_q T.F_q.kp T.b_q .nil Ao (@A0 _ _ _ _ _ (@Av _ _ _ _ _ _ _ _ _ _ _ _ _ _ _ _ G_b (hr.mono (by omega)) (by rfl) T.m_b T.F_b.kp T.b_b .nil Ao (@A0 _ _ _ _ _ (pv 0) (@A0 _ _ _ _ _ A1 A2 (by rfl)) (by rfl)) (by decide) (by rfl) (by rfl)) (@A0 _ _ _ _ _ (pv 4) (@A0 _ _ _ _ _ (pv 3) A2 (by rfl)) (by rfl)) (by rfl)) (by decide) (by rfl) (by rfl)) (Jp rfl (Fg (Bv (i:=5) GJ.nd rfl (.inl rfl)) (Fg (Bv (i:=6) GJ.nd rfl (.inl rfl)) (Fg (Bv (i:=7) GJ.nd rfl (.inl rfl)) JO)))) (by rfl) (by rfl) (by rfl)) (@A5 _ _ _ _ _ (@Aj _ _ (8) _ _ _ _ GJ.nd rfl (.inl rfl) (@Av _ _ _ _ _ _ _ _ _ _ _ _ _ _ _ _ G_M (hr.mono (by omega)) (by rfl) T.m_M T.F_M.kp T.b_M .nil Ao (@A0 _ _ _ _ _ (@Aa _ _ _ _ _ _ _ _ Cw (pv 0) A1) (@A0 _ _ _ _ _ (pv 4) (@A0 _ _ _ _ _ (pv 3) A2 (by rfl)) (by rfl)) (by rfl)) (by decide) (by rfl) (by rfl)) (by rfl) (by first|exact .inl rfl|exact .inr rfl|assumption)) (@A9 _ _ _ (@Al _ _ _ _ (@Em _ _ _ _ _ (@Bc _ _ _ _ _ (pv 1) (@Bc _ _ _ _ _ (pv 5) (@Bc _ _ _ _ _ (pv 6) (@Bc _ _ _ _ _ (@Af _ _ _ _ _ _ _ AH (pv 8) A1 (fun _ _=>rfl)) (@Bc _ _ _ _ _ (@CQ _ _ _ _ _ _ _ _ _ EM (by rfl) T.z_tuple DF (@A0 _ _ _ _ _ (pv 2) A2 (by rfl)) (by decide) (by decide) (by rfl) (by rfl)) (@Bc _ _ _ _ _ (@Aa _ _ _ _ _ _ _ _ BG (@Aa _ _ _ _ _ _ _ _ BG (pv 7) Aw) (@Af _ _ _ _ _ _ _ AH (pv 8) A1 (fun _ _=>rfl))) DR L7) L4) FI) F1) F1) F1))))))),?_⟩
 obtain⟨vs,hO0,aO⟩:=id hO
 have vl:=aO.1
 refine⟨AG rfl,fun r1 hr1=>?_⟩
 have s2:=Ac hr1 (.lst [V.str ""])
 have hO2:=s2 _ _ hO0
 refine⟨_,rfl,o,rfl,⟨_,A3.of hO2⟩,?_⟩
 refine F0 (xs:=vs) (fun i ys H'=>H'=upd H r1 (.lst [V.str ""])/\ys=((ts.take i).map Ak.nm).map V.str) ⟨rfl,rfl⟩ (Ax (by omega)) (fun i ys H' hi pp=>⟨by rw[pp.1];exact A3.of hO2,by rw[pp.2,Ap,Ap,Bh];omega⟩) (fun i x ys H' hc pp=>?_) (fun ys H' pp r2 hr2=>?_)
 .obtain⟨rfl,rfl⟩:=pp
  obtain⟨t,ht,p,xa,xb',rfl,hp,_,_⟩:=aO.get' hc
  refine⟨_,rfl,p,_,0,_,rfl,rfl,Ah.of (s2 _ _ hp),rfl,rfl,?_⟩
  rw[Di ht,B3,B3]
  rfl
 obtain⟨rfl,rfl⟩:=pp
 rw[vl,DN]
 have s3:=Ac hr2 (.lst ((ts.map Ak.nm).map V.str))
 refine⟨r1,r2,_,_,rfl,rfl,s3 _ _ A6,A6,Ax (by rw[Ap,Ap,BD];omega),fun kl hkl=>?_⟩
 have s4:=Ac hkl (.lst ([V.str ""]++(ts.map Ak.nm).map V.str))
 have hk:Rd.KnAt (upd (upd (upd H r1 (.lst [V.str ""])) r2 (.lst ((ts.map Ak.nm).map V.str))) kl (.lst ([V.str ""]++(ts.map Ak.nm).map V.str))) kl (Rd.lnm ts):=⟨A6,by unfold Rd.lnm;rw[Ap];exact hol,fun z hz=>by
  obtain⟨t,ht,rfl⟩:=DE.mp hz
  exact(hok t ht).1⟩
 have e4:=(s2.trans s3).trans s4
 dsimp only[Ar]
 generalize upd (upd (upd H r1 (.lst [V.str ""])) r2 (.lst ((ts.map Ak.nm).map V.str))) kl (.lst ([V.str ""]++(ts.map Ak.nm).map V.str))=H4 at s4 hk e4
 refine⟨_,rfl,c,5,rfl,by decide,by decide,fun rx H5 e5 hx=>?_⟩
 rw[show(5:Int).toNat=5 from rfl]at hx
 have e05:=e4.trans e5
 refine⟨_,rfl,_,rfl,rx,kl,nl,Eo c 5,_,ns,rfl,hx,Gh c 5,fun y hy=>HA hy,hk.over e5,hn.over e05,fun r p H6 z sp e6 hr6 hp6 lk=>?_⟩
 have ok:=lk.tok
 refine⟨r,_,rfl,Ah.of hr6,rfl,_,_,rfl,_,_,rfl,_,_,rfl,rfl,?_⟩
 have e06:=e05.trans e6
 refine⟨_,rfl,_,_,rfl,rfl,⟨by decide,by decide⟩,_,rfl,_,rfl,_,kl,nl,_,ns,rfl,hk.over (e5.trans e6),hn.over e06,fun x H7 t e7 tp okt st=>?_⟩
 dsimp only[Ar]
 obtain⟨tt,y,rfl,htt,hy⟩:=tp
 have e07:=e06.trans e7
 have cl:=Gq ok.1 ok.2.1 ok.2.2
 have wl:=Tw.wr_len okt.ok
 have e3:(" = ":Str).length=3:=by decide +kernel
 refine⟨_,rfl,_,rfl,_,rfl,_,rfl,tt,_,2,_,rfl,rfl,Ah.of htt,rfl,_,rfl,pt,_,rfl,.inl ⟨A3.of (e07 _ _ hpt),fun tp htp=>?_⟩⟩
 have s8:=Ac htp (.tup (path.map V.int))
 refine⟨_,rfl,_,_,rfl,rfl,Ax (by omega),_,rfl,tt,_,0,_,rfl,rfl,Ah.of (s8 _ _ htt),rfl,_,_,rfl,rfl,Ax (by rw[AX];omega),AG rfl,fun u hu=>?_⟩
 have s9:=Ac hu (.tup [V.ref o,V.str z,V.ref p,y,V.ref tp,V.str (Ba z sp++" = "++t.wr)])
 have e89:=s8.trans s9
 exact q _ _ ⟨ts,z,sp,t,path⟩ (e07.trans e89) ⟨u,p,tp,y,rfl,A6,hO.over (e07.trans e89),(hp6.tk (A7.tk e7)).tk (A7.tk e89),hy.tk (A7.tk e89),s9 _ _ A6⟩ ⟨lk,okt,st⟩ rfl rfl
theorem Vv (T:Tx w K mg a):AK P w K mg base AS 7 a.f_O a.d_O ["_law_cells","_law_names_here"] (Rd.spProg28 K):=by
 have G_N :=@Ss P w K mg base a T
 have G_g :=@M7 P w K mg base a T
 have G_u :=@Uw P w K mg base a T
 refine T.F_O.ok Dg (fun vs H Q E h=>?_) (fun cdv A outer s H vs Q E hr h=>?_)
 .obtain⟨_,_,_,_,rfl,_⟩:=h;rfl
 obtain⟨cl,nl,cs,ns,rfl,hC,hcl,hn,q⟩:=h
 refine⟨_,(@A5 _ _ _ _ _ (@Aj _ _ (2) _ _ _ _ Dg.nd rfl (.inl rfl) (@Bl _ _ _ _ A2) (by rfl) (by first|exact .inl rfl|exact .inr rfl|assumption)) (@A5 _ _ _ _ _ (@Aj _ _ (3) _ _ _ _ Dg.nd rfl (.inl rfl) (@Bl _ _ _ _ (@A0 _ _ _ _ _ A1 A2 (by rfl))) (by rfl) (by first|exact .inl rfl|exact .inr rfl|assumption)) (@A5 _ _ _ _ _ (@Aj _ _ (4) _ _ _ _ Dg.nd rfl (.inl rfl) (@Bl _ _ _ _ A2) (by rfl) (by first|exact .inl rfl|exact .inr rfl|assumption)) (@A5 _ _ _ _ _ (@Aj _ _ (5) _ _ _ _ Dg.nd rfl (.inl rfl) (@Bl _ _ _ _ A2) (by rfl) (by first|exact .inl rfl|exact .inr rfl|assumption)) (@A5 _ _ _ _ _ (@Aj _ _ (6) _ _ _ _ Dg.nd rfl (.inl rfl) (@Em _ _ _ _ _ (@Bc _ _ _ _ _ Aw (@Bc _ _ _ _ _ (@CU _ _ _ _ _ (@A0 _ _ _ _ _ Aw (@A0 _ _ _ _ _ A1 A2 (by rfl)) (by rfl))) (@Bc _ _ _ _ _ (@CU _ _ _ _ _ (@A0 _ _ _ _ _ Aw (@A0 _ _ _ _ _ A1 A2 (by rfl)) (by rfl))) DR Gu) Gu) Dx)) (by rfl) (by first|exact .inl rfl|exact .inr rfl|assumption)) (@A5 _ _ _ _ _ (@EH _ _ _ _ _ _ _ _ PassesOwn.never rfl (@DC _ _ _ _ (pv 0)) (Bv (i:=7) Dg.nd rfl (.inl rfl)) (@A5 _ _ _ _ _ (@AE _ _ _ _ _ _ _ _ (@An _ _ _ _ _ _ _ _ Bk (@AR _ _ _ _ _ _ _ _ _ BJ (by rfl) T.z_len Bo (@A0 _ _ _ _ _ (pv 5) A2 (by rfl)) (by decide) (by decide) (by rfl) (by rfl)) A1 (@Am _ _ (by decide) (by decide))) (@A9 _ _ _ Sj) AF) (@A9 _ _ _ (@AE _ _ _ _ _ _ _ _ ((@Df _ _ _ _ _ _ _ (@An _ _ _ _ _ _ _ _ Eu (@Aa _ _ _ _ _ _ _ _ Bf (pv 7) A1) A1 (@Am _ _ (by decide) (by decide))) (@DY _ _ _ _ (@An _ _ _ _ _ _ _ _ Eu (@AR _ _ _ _ _ _ _ _ _ BJ (by rfl) T.z_len Bo (@A0 _ _ _ _ _ (pv 2) A2 (by rfl)) (by decide) (by decide) (by rfl) (by rfl)) A1 (@Am _ _ (by decide) (by decide)))))).pt (@A5 _ _ _ _ _ (@Aj _ _ (8) _ _ _ _ Dg.nd rfl (.inl rfl) (@Av _ _ _ _ _ _ _ _ _ _ _ _ _ _ _ _ G_N (hr.mono (by omega)) (by rfl) T.m_N T.F_N.kp T.b_N .nil Ao (@A0 _ _ _ _ _ (@Aa _ _ _ _ _ _ _ _ Cw (pv 7) A1) (@A0 _ _ _ _ _ (pv 1) (@A0 _ _ _ _ _ (pv 2) (@A0 _ _ _ _ _ (pv 6) A2 (by rfl)) (by rfl)) (by rfl)) (by rfl)) (by decide) (by rfl) (by rfl)) (by rfl) (by first|exact .inl rfl|exact .inr rfl|assumption)) (@A5 _ _ _ _ _ (@Aj _ _ (9) _ _ _ _ Dg.nd rfl (.inl rfl) (@Aa _ _ _ _ _ _ _ _ BG (@Aa _ _ _ _ _ _ _ _ BG (@Aa _ _ _ _ _ _ _ _ BG Aw (@Af _ _ _ _ _ _ _ AH (pv 8) A1 (fun _ _=>rfl))) Aw) (@Av _ _ _ _ _ _ _ _ _ _ _ _ _ _ _ _ G_g (hr.mono (by omega)) (by rfl) T.m_g T.F_g.kp T.b_g .nil Ao (@A0 _ _ _ _ _ (@Af _ _ _ _ _ _ _ AH (pv 8) A1 (fun _ _=>rfl)) A2 (by rfl)) (by decide) (by rfl) (by rfl))) (by rfl) (by first|exact .inl rfl|exact .inr rfl|assumption)) (@A5 _ _ _ _ _ (@BF _ _ _ _ (@Bm _ _ _ _ _ _ _ _ _ _ _ _ Bs Cp Cq Cc (pv 4) (@A0 _ _ _ _ _ (@CU _ _ _ _ _ (@A0 _ _ _ _ _ (@AR _ _ _ _ _ _ _ _ _ BJ (by rfl) T.z_len Bo (@A0 _ _ _ _ _ (pv 2) A2 (by rfl)) (by decide) (by decide) (by rfl) (by rfl)) (@A0 _ _ _ _ _ (@Aa _ _ _ _ _ _ _ _ BG (@Aa _ _ _ _ _ _ _ _ BG (pv 9) Aw) (@Av _ _ _ _ _ _ _ _ _ _ _ _ _ _ _ _ G_g (hr.mono (by omega)) (by rfl) T.m_g T.F_g.kp T.b_g .nil Ao (@A0 _ _ _ _ _ (@Af _ _ _ _ _ _ _ AH (pv 8) A1 (fun _ _=>rfl)) A2 (by rfl)) (by decide) (by rfl) (by rfl))) A2 (by rfl)) (by rfl))) A2 (by rfl)) (by rfl) (by rfl) (by rfl) (by rfl) (by rfl)) (by rfl)) (@A5 _ _ _ _ _ (@Aj _ _ (2) _ _ _ _ Dg.nd rfl (.inl rfl) (@Aa _ _ _ _ _ _ _ _ F7 (pv 2) (@Bl _ _ _ _ (@A0 _ _ _ _ _ (pv 8) A2 (by rfl)))) (by rfl) (by first|exact .inl rfl|exact .inr rfl|assumption)) (@A9 _ _ _ (@Aj _ _ (3) _ _ _ _ Dg.nd rfl (.inl rfl) (@Aa _ _ _ _ _ _ _ _ F7 (pv 3) (@Bl _ _ _ _ (@A0 _ _ _ _ _ A1 A2 (by rfl)))) (by rfl) (by first|exact .inl rfl|exact .inr rfl|assumption))))))) (@A9 _ _ _ (@AE _ _ _ _ _ _ _ _ ((@Df _ _ _ _ _ _ _ (@An _ _ _ _ _ _ _ _ Bk (@Aa _ _ _ _ _ _ _ _ Bf (pv 7) A1) A1 (@Am _ _ (by decide) (by decide))) (@Df _ _ _ _ _ _ _ (@An _ _ _ _ _ _ _ _ (@Hs _ (@Ez _ _ hr)) (pv 2) (@Bl _ _ _ _ A2) (@Am _ _ (by decide) (by decide))) (@DY _ _ _ _ (@An _ _ _ _ _ _ _ _ Ft (@Af _ _ _ _ _ _ _ AV (pv 3) (@CS _ _ _ _ _ _ CW A1) (fun _ _=>rfl)) A1 (@Am _ _ (by decide) (by decide))))))).pt (@A5 _ _ _ _ _ (@Aj _ _ (6) _ _ _ _ Dg.nd rfl (.inl rfl) (@Af _ _ _ _ _ _ _ AV (pv 2) (@CS _ _ _ _ _ _ CW A1) (fun _ _=>rfl)) (by rfl) (by first|exact .inl rfl|exact .inr rfl|assumption)) (@A5 _ _ _ _ _ (@Aj _ _ (2) _ _ _ _ Dg.nd rfl (.inl rfl) (@D1 _ _ _ _ _ _ _ _ _ _ F9 (pv 2) DT (@Cy _ _ _ (@CS _ _ _ _ _ _ CW A1))) (by rfl) (by first|exact .inl rfl|exact .inr rfl|assumption)) (@A5 _ _ _ _ _ (@Aj _ _ (3) _ _ _ _ Dg.nd rfl (.inl rfl) (@Aa _ _ _ _ _ _ _ _ F7 (@D1 _ _ _ _ _ _ _ _ _ _ F9 (pv 3) DT (@Cy _ _ _ (@CS _ _ _ _ _ _ CW A1))) (@Bl _ _ _ _ (@A0 _ _ _ _ _ (@Aa _ _ _ _ _ _ _ _ C1 (@Af _ _ _ _ _ _ _ AV (pv 3) (@CS _ _ _ _ _ _ CW A1) (fun _ _=>rfl)) A1) A2 (by rfl)))) (by rfl) (by first|exact .inl rfl|exact .inr rfl|assumption)) (@A9 _ _ _ (@BF _ _ _ _ (@Bm _ _ _ _ _ _ _ _ _ _ _ _ Bs Cp Cq Cc (pv 4) (@A0 _ _ _ _ _ (@CU _ _ _ _ _ (@A0 _ _ _ _ _ (@AR _ _ _ _ _ _ _ _ _ BJ (by rfl) T.z_len Bo (@A0 _ _ _ _ _ (pv 2) A2 (by rfl)) (by decide) (by decide) (by rfl) (by rfl)) (@A0 _ _ _ _ _ Aw A2 (by rfl)) (by rfl))) A2 (by rfl)) (by rfl) (by rfl) (by rfl) (by rfl) (by rfl)) (by rfl)))))) (@A5 _ _ _ _ _ (@BF _ _ _ _ (@Bm _ _ _ _ _ _ _ _ _ _ _ _ Bs Cp Cq Cc (pv 5) (@A0 _ _ _ _ _ (@Av _ _ _ _ _ _ _ _ _ _ _ _ _ _ _ _ G_u (hr.mono (by omega)) (by rfl) T.m_u T.F_u.kp T.b_u .nil Ao (@A0 _ _ _ _ _ (@Aa _ _ _ _ _ _ _ _ Cw (pv 7) A1) (@A0 _ _ _ _ _ (pv 2) (@A0 _ _ _ _ _ (pv 3) (@A0 _ _ _ _ _ (pv 1) A2 (by rfl)) (by rfl)) (by rfl)) (by rfl)) (by decide) (by rfl) (by rfl)) A2 (by rfl)) (by rfl) (by rfl) (by rfl) (by rfl) (by rfl)) (by rfl)) (@A5 _ _ _ _ _ (@BF _ _ _ _ (@Bm _ _ _ _ _ _ _ _ _ _ _ _ Bs Cp Cq Cc (pv 4) (@A0 _ _ _ _ _ (@CU _ _ _ _ _ (@A0 _ _ _ _ _ (@AR _ _ _ _ _ _ _ _ _ BJ (by rfl) T.z_len Bo (@A0 _ _ _ _ _ (pv 2) A2 (by rfl)) (by decide) (by decide) (by rfl) (by rfl)) (@A0 _ _ _ _ _ (@Af _ _ _ _ _ _ _ AH (@Af _ _ _ _ _ _ _ AV (pv 5) (@CS _ _ _ _ _ _ CW A1) (fun _ _=>rfl)) A1 (fun _ _=>rfl)) A2 (by rfl)) (by rfl))) A2 (by rfl)) (by rfl) (by rfl) (by rfl) (by rfl) (by rfl)) (by rfl)) (@A9 _ _ _ (@Aj _ _ (3) _ _ _ _ Dg.nd rfl (.inl rfl) (@Aa _ _ _ _ _ _ _ _ F7 (@D1 _ _ _ _ _ _ _ _ _ _ F9 (pv 3) DT (@Cy _ _ _ (@CS _ _ _ _ _ _ CW A1))) (@Bl _ _ _ _ (@A0 _ _ _ _ _ (@Aa _ _ _ _ _ _ _ _ C1 (@Af _ _ _ _ _ _ _ AV (pv 3) (@CS _ _ _ _ _ _ CW A1) (fun _ _=>rfl)) A1) A2 (by rfl)))) (by rfl) (by first|exact .inl rfl|exact .inr rfl|assumption)))))))))) (by intro _;rfl)) (@A5 _ _ _ _ _ (@AE _ _ _ _ _ _ _ _ (@An _ _ _ _ _ _ _ _ Bk (@Af _ _ _ _ _ _ _ AV (pv 3) (@CS _ _ _ _ _ _ CW A1) (fun _ _=>rfl)) A1 (@Am _ _ (by decide) (by decide))) (@A5 _ _ _ _ _ (@BF _ _ _ _ (@Bm _ _ _ _ _ _ _ _ _ _ _ _ Bs Cp Cq Cc (pv 5) (@A0 _ _ _ _ _ (@Av _ _ _ _ _ _ _ _ _ _ _ _ _ _ _ _ G_u (hr.mono (by omega)) (by rfl) T.m_u T.F_u.kp T.b_u .nil Ao (@A0 _ _ _ _ _ (@AR _ _ _ _ _ _ _ _ _ BJ (by rfl) T.z_len Bo (@A0 _ _ _ _ _ (pv 0) A2 (by rfl)) (by decide) (by decide) (by rfl) (by rfl)) (@A0 _ _ _ _ _ (pv 2) (@A0 _ _ _ _ _ (pv 3) (@A0 _ _ _ _ _ (pv 1) A2 (by rfl)) (by rfl)) (by rfl)) (by rfl)) (by decide) (by rfl) (by rfl)) A2 (by rfl)) (by rfl) (by rfl) (by rfl) (by rfl) (by rfl)) (by rfl)) (@A9 _ _ _ (@BF _ _ _ _ (@Bm _ _ _ _ _ _ _ _ _ _ _ _ Bs Cp Cq Cc (pv 4) (@A0 _ _ _ _ _ (@CU _ _ _ _ _ (@A0 _ _ _ _ _ (@AR _ _ _ _ _ _ _ _ _ BJ (by rfl) T.z_len Bo (@A0 _ _ _ _ _ (pv 2) A2 (by rfl)) (by decide) (by decide) (by rfl) (by rfl)) (@A0 _ _ _ _ _ (@Af _ _ _ _ _ _ _ AH (@Af _ _ _ _ _ _ _ AV (pv 5) (@CS _ _ _ _ _ _ CW A1) (fun _ _=>rfl)) A1 (fun _ _=>rfl)) A2 (by rfl)) (by rfl))) A2 (by rfl)) (by rfl) (by rfl) (by rfl) (by rfl) (by rfl)) (by rfl)))) AF) (@A5 _ _ _ _ _ (@HV _ _ _ _ _ _ PassesOwn.never (@An _ _ _ _ _ _ _ _ (@Hs _ (@Ez _ _ hr)) (pv 2) (@Bl _ _ _ _ A2) (@Am _ _ (by decide) (by decide))) (@A5 _ _ _ _ _ (@Aj _ _ (2) _ _ _ _ Dg.nd rfl (.inl rfl) (@D1 _ _ _ _ _ _ _ _ _ _ F9 (pv 2) DT (@Cy _ _ _ (@CS _ _ _ _ _ _ CW A1))) (by rfl) (by first|exact .inl rfl|exact .inr rfl|assumption)) (@A9 _ _ _ (@BF _ _ _ _ (@Bm _ _ _ _ _ _ _ _ _ _ _ _ Bs Cp Cq Cc (pv 4) (@A0 _ _ _ _ _ (@CU _ _ _ _ _ (@A0 _ _ _ _ _ (@AR _ _ _ _ _ _ _ _ _ BJ (by rfl) T.z_len Bo (@A0 _ _ _ _ _ (pv 2) A2 (by rfl)) (by decide) (by decide) (by rfl) (by rfl)) (@A0 _ _ _ _ _ Aw A2 (by rfl)) (by rfl))) A2 (by rfl)) (by rfl) (by rfl) (by rfl) (by rfl) (by rfl)) (by rfl))))) (@A9 _ _ _ (@Al _ _ _ _ (@CU _ _ _ _ _ (@A0 _ _ _ _ _ (pv 4) (@A0 _ _ _ _ _ (pv 5) A2 (by rfl)) (by rfl))))))))))))),?_⟩
 have f4:("for ":Str).length=4:=by decide +kernel
 have f1:(" ":Str).length=1:=by decide +kernel
 have fe:("end":Str).length=3:=by decide +kernel
 refine⟨AG rfl,fun o0 ho0=>?_⟩
 refine⟨AG rfl,fun pt0 hpt0=>?_⟩
 refine⟨AG rfl,fun rl hrl=>?_⟩
 refine⟨AG rfl,fun dl hdl=>?_⟩
 refine⟨AG rfl,fun q1 hq1=>?_⟩
 refine⟨AG rfl,fun q2 hq2=>?_⟩
 refine⟨AG rfl,fun la0 hla0=>?_⟩
 have start:BX H _ rl dl o0 pt0 (.ref la0) [] [0] [] [] ⟨"",("",0),("",0)⟩:=BX.start ho0 hpt0 hrl hdl hq1 hq2 hla0
 dsimp only[Ar]
 generalize upd (upd (upd (upd (upd (upd (upd H o0 (HO.lst [])) pt0 (HO.lst [V.int 0])) rl (HO.lst [])) dl (HO.lst [])) q1 (HO.tup [V.str (Str.ofString ""),V.int 0])) q2 (HO.tup [V.str (Str.ofString ""),V.int 0])) la0 (HO.tup [V.str (Str.ofString ""),V.ref q1,V.ref q2])=HS at start
 have ok0:Rd.SpN ("",0):=Rd.spn9.1
 refine DJ (fun σ' H'=>∃(o pt:Addr) (la:V) (ts:List Ak) (path:List Int) (R:Pw.Rw Ak Str) (Ds:List Dw) (tl:Ak) (o7 o8 o9:Option V),σ'=[some (.ref cl),some (.ref nl),some (.ref o),some (.ref pt),some (.ref rl),some (.ref dl),some la,o7,o8,o9]/\BX H H' rl dl o pt la ts path R Ds tl/\(∃ks pa y,Rd.Rn ns R ts path Ds ks pa y)/\Ds.length<=6/\R.length<=63) (fun σ' H' m=>?_) (fun rest=>?_)
 .obtain⟨o,pt,la,ts,path,R,Ds,tl,o7,o8,o9,rfl,N,⟨ks,p,y,C⟩,d6,r60⟩:=m
  obtain rfl:=C.pe
  have t3:=C.nm.1
  have hpt:=BZ _ _ N.pa
  rw[B3]at hpt
  refine DJ (fun σ' H'=>∃(o pt:Addr) (la:V) (ts:List Ak) (path:List Int) (R:Pw.Rw Ak Str) (Ds:List Dw) (tl:Ak) (o7 o8 o9:Option V),σ'=[some (.ref cl),some (.ref nl),some (.ref o),some (.ref pt),some (.ref rl),some (.ref dl),some la,o7,o8,o9]/\BX H H' rl dl o pt la ts path R Ds tl/\(∃ks pa y,Rd.Rn ns R ts (pa++[y]) Ds ks pa y/\0<y)/\Ds≠[]/\R.length<=64) (fun σ' H' m=>?_) (fun rest=>?_)
  .obtain⟨o,pt,la,ts,path,R,Ds,tl,o7,o8,o9,rfl,N,⟨ks,pa,y,C,y0⟩,dne,r61⟩:=m
   have t3:=C.nm.1
   show DH (Jd _ _) (G1 _) _ _ _
   refine DJ (fun σ' H'=>∃(o pt:Addr) (la:V) (path:List Int) (R':Pw.Rw Ak Str) (tl:Ak) (o7 o8 o9:Option V),σ'=[some (.ref cl),some (.ref nl),some (.ref o),some (.ref pt),some (.ref rl),some (.ref dl),some la,o7,o8,o9]/\BX H H' rl dl o pt la [] path R' Ds tl/\(∃ks y,Rd.Rn ns R' [] [y] Ds ks [] y)/\R'.length<=70) (fun σ' H' m=>?_) (fun nx=>?_)
   .obtain⟨o,pt,la,path,R',tl,o7,o8,o9,rfl,N,⟨ks,y,C⟩,r70⟩:=m
    refine⟨_,rfl,_,rfl,AG rfl,fun t ht=>?_⟩
    have N2:=N.over (Ac ht (.tup [V.ref rl,V.ref dl]))
    obtain⟨xs,hxs,ax⟩:=N2.rows
    obtain⟨ys,hys,ay⟩:=N2.deeds
    exact q t rl dl _ xs ys _ Ds ks y N2.same A6 hxs ax hys (ay.mono fun _ _ z=>z.over BZ) C dne r70
   refine Ox 4 (fun j σ' H'=>∃(o pt:Addr) (la:V) (us:List Ak) (path:List Int) (R':Pw.Rw Ak Str) (tl:Ak) (o7 o8 o9:Option V),σ'=[some (.ref cl),some (.ref nl),some (.ref o),some (.ref pt),some (.ref rl),some (.ref dl),some la,o7,o8,o9]/\BX H H' rl dl o pt la us path R' Ds tl/\us.length+j<=3/\R'.length<=64+j/\(∃ks pa y,Rd.Rn ns R' us (pa++[y]) Ds ks pa y/\0<y)) ⟨o,pt,la,ts,path,R,tl,o7,o8,o9,rfl,N,by omega,by omega,ks,pa,y,C,y0⟩ (fun j σ' H' hj pp=>?_) (MT.test (ME.op (Rd.mr_eqE _ _) (ME.var _) (ME.lst MA.nil)))
   obtain⟨o,pt,la,us,path,R',tl,o7,o8,o9,rfl,N,uj,rj,ks,pa,y,C,y0⟩:=pp
   refine⟨_,rfl,AG rfl,fun p0 hp0=>?_⟩
   have sp:=Ac hp0 (.lst [])
   have N2:=N.over sp
   obtain⟨tr,htr0,htra⟩:=N2.op.over BZ
   have htl:=htra.1
   refine⟨o,p0,tr,rfl,rfl,A3.of htr0,A3.of A6,_,rfl,?_⟩
   change if(!tr.isEmpty)=true then _ else _
   refine AD (fun c3=>?_) (fun c3=>?_)
   .have hne:0<us.length:=by
     have:¬tr=[]:=by simpa using c3
     have:=List.length_pos_iff.mpr this
     omega
    obtain⟨us',x,rfl,hu⟩:=F5 (l:=us) (n:=us.length-1) (by omega)
    refine⟨by omega,?_⟩
    obtain⟨vs,h0,a0⟩:=N2.op
    have vl:=a0.1
    rw[Au,BD]at vl
    obtain⟨vs',v,rfl,hv'⟩:=F5 vl
    refine⟨_,rfl,_,rfl,_,rfl,o,_,rfl,A3.of (BZ _ _ h0),fun p1 hp1=>?_⟩
    have cv:CZ (vs'++[v]) none (some (-1))=vs':=Ju vs' [v] (G6 _) rfl
    rw[cv]
    have a1:AC (DS _) vs' us':=⟨hv',fun i y t a b=>(a0.2 i y t (by rw[DM (BM.mp a).1];exact a) (by rw[DM (BM.mp b).1];exact b)).tk (A7.tk BZ)⟩
    have N3:=N2.newO hp1 a1
    obtain⟨vs2,h2,_⟩:=N3.op
    have hp1':(upd (upd H' p0 (.lst [])) p1 (.lst vs')) p1=some (.lst vs'):=A6
    dsimp only[Ar]
    generalize upd (upd H' p0 (.lst [])) p1 (.lst vs')=H3 at N3 hp1' h2
    obtain⟨xs,hxs,ax⟩:=N3.rows
    have xl:=ax.1
    refine⟨_,rfl,.inl ⟨rfl,_,A3.of hxs⟩,_,rfl,p1,_,rfl,.inl (A3.of hp1'),AG rfl,fun t ht=>?_⟩
    have s4:=Ac ht (.tup [V.int ((vs'.length:Nat):Int),V.str "end"])
    refine⟨rl,_,_,rfl,rfl,s4 _ _ hxs,Ce (by omega),?_⟩
    have N4:=(N3.over s4).row (p:=(us'.length,.fin)) (s4 _ _ hxs) (by rw[A6,hv'];rfl)
    rw[Au,BD]at uj
    refine⟨p1,pt,la,us',path,R'++[(us'.length,.fin)],tl,_,_,_,rfl,N4,by omega,by rw[Au,BD];omega,?_⟩
    have pl:=C.pl
    rw[Au,BD]at pl
    obtain⟨pa',m,rfl,_⟩:=F5 pl
    have m0:0<=m:=C.p0.1 m (by simp)
    exact⟨_,pa',m+1,C.fin (by omega) us'.length,by omega⟩
   .have u0:us=[]:=by
     have:tr=[]:=by simpa using c3
     rw[this]at htl
     exact K9 htl.symm
    subst u0
    obtain rfl:pa=[]:=K9 C.pl
    exact nx _ _ ⟨o,pt,la,path,R',tl,_,_,_,rfl,N2,⟨ks,y,C⟩,by omega⟩
  .refine⟨_,rfl,_,rfl,pt,_,_,_,rfl,rfl,A3.of hpt,G2 _ _ [] rfl,rfl,_,rfl,?_⟩
   refine AD (fun cy=>?_) (fun cz=>?_)
   .have hlen:=(N.op).over BZ
    refine⟨_,rfl,.inl ⟨rfl,_,A3.of (N.deeds.choose_spec.1)⟩,_,rfl,cl,_,rfl,.inl (N.same.seq hC),_,rfl,_,rfl,_,rfl,_,o,pt,nl,ns,ts,p++[y],rfl,hn.over N.same,hlen,C.nm,BZ _ _ N.pa,C.len,fun r H2 D e2 hD okD eL eP=>?_⟩
    have N2:=N.over e2
    obtain⟨ys,hys,ay⟩:=N2.deeds
    obtain⟨xs,hxs,ax⟩:=N2.rows
    have yl:=ay.1
    have xl:=ax.1
    refine⟨dl,_,_,rfl,rfl,hys,Ce (by omega),?_⟩
    have hDw:Ei (wo2 H2 rl dl) r D:=hD.wo2' hxs hys N2.op eL
    have N3:=N2.deed hys hDw
    obtain⟨oD,pD,psD,ptD,shD,rfl,hpD,_⟩:=id hDw
    have hpD3:(upd H2 dl (.lst (ys++[.ref pD]))) pD=some (.tup [.ref oD,.str D.tbl,.ref psD,shD,.ref ptD,.str D.txt]):=(TK.upd hys) _ _ (BZ _ _ hpD)
    have hdl3:(upd H2 dl (.lst (ys++[.ref pD]))) dl=some (.lst (ys++[.ref pD])):=A6
    generalize upd H2 dl (.lst (ys++[.ref pD]))=H3 at N3 hpD3 hdl3
    obtain⟨xs,hxs,ax⟩:=N3.rows
    obtain⟨vs,hvs,av⟩:=N3.op
    have vl:=av.1
    have xl:=ax.1
    refine⟨_,rfl,.inl ⟨rfl,_,A3.of hxs⟩,_,rfl,o,_,rfl,.inl (A3.of (BZ _ _ hvs)),_,rfl,_,rfl,dl,_,_,_,rfl,rfl,A3.of hdl3,G2 _ _ [] rfl,pD,_,5,_,rfl,rfl,Ah.of hpD3,rfl,AG rfl,fun t ht=>?_⟩
    have s4:=Ac ht (.tup [V.int ((vs.length:Nat):Int),V.str D.txt])
    refine⟨rl,_,_,rfl,rfl,s4 _ _ hxs,Ce (by omega),?_⟩
    have N4:=(N3.over s4).row (p:=(ts.length,.row D.txt)) (s4 _ _ hxs) (by rw[A6,vl];rfl)
    have y0:y=0:=V.int.inj (dT cy)
    have d5:Ds.length<=5:=C.l6.resolve_right (by omega)
    exact rest _ _ ⟨o,pt,la,ts,p++[y],R++[(ts.length,.row D.txt)],Ds++[D],tl,_,_,_,rfl,N4,⟨_,p,y+1,C.ded okD eL eP d5 ts.length,by omega⟩,by simp,by rw[Au,BD];omega⟩
   .have y0:y≠0:=fun e=>dF cz (congrArg V.int e)
    have y1:0<y:=by have:=C.p0.2;omega
    exact rest _ _ ⟨o,pt,la,ts,p++[y],R,Ds,tl,_,_,_,rfl,N,⟨ks,p,y,C,y1⟩,C.dn y1,by omega⟩
 .refine⟨_,rfl,cl,rfl,⟨_,start.same.seq hC⟩,?_⟩
  refine HF (xs:=cs.map V.int) (fun i σ' H'=>∃(o pt:Addr) (la:V) (ts:List Ak) (path:List Int) (R:Pw.Rw Ak Str) (Ds:List Dw) (tl:Ak) (o7 o8 o9:Option V),σ'=[some (.ref cl),some (.ref nl),some (.ref o),some (.ref pt),some (.ref rl),some (.ref dl),some la,o7,o8,o9]/\BX H H' rl dl o pt la ts path R Ds tl/\(∃ks pa y,Rd.Rn ns R ts path Ds ks pa y)/\Ds.length<=6/\R.length<=i/\Rd.SpN tl.lo/\Rd.SpN tl.hi) ⟨o0,pt0,.ref la0,[],[0],[],[],_,_,_,_,rfl,start,⟨_,_,_,Rd.Rn.start ns⟩,BC _,Ai _,ok0,ok0⟩ (fun i σ' H' _ p=>by obtain⟨_,_,_,_,_,_,_,_,_,_,_,_,N,_⟩:=p;exact N.same.seq hC) (fun i x σ' H' hx p=>?_) (fun σ' H' p=>?_)
  rotate_left
  .obtain⟨o,pt,la,ts,path,R,Ds,tl,o7,o8,o9,rfl,N,⟨ks,pa,la1,C⟩,d6,ri,lok,hok⟩:=p
   rw[Ap]at ri
   exact rest _ _ ⟨o,pt,la,ts,path,R,Ds,tl,_,_,_,rfl,N,⟨_,_,_,C⟩,d6,by omega⟩
  obtain⟨o,pt,la,ts,path,R,Ds,tl,o7,o8,o9,rfl,N,⟨ks,pa,la1,C⟩,d6,ri,lok,hok⟩:=p
  have t3:=C.nm.1
  have hi:i<cs.length:=by have:=(BM.mp hx).1;rwa [Ap]at this
  obtain⟨c,rfl⟩:∃c,x=V.int c:=by
   rw[D8]at hx
   cases e:cs[i]? with
   |none=>rw[e]at hx;cases hx
   |some z=>rw[e]at hx;exact⟨z,(BP hx).symm⟩
  obtain⟨ys0,hys0,ay0⟩:=N.deeds
  have yl0:=ay0.1
  dsimp only[Ar]
  refine⟨_,rfl,dl,_,rfl,.inl (A3.of hys0),rfl,_,rfl,?_⟩
  refine AD (fun _=>rest _ _ ⟨o,pt,la,ts,path,R,Ds,tl,_,_,_,rfl,N,⟨_,_,_,C⟩,d6,by omega⟩) (fun c6=>?_)
  have D5:Ds.length<=5:=by
   have:=dF c6
   have h2:¬((ys0.length:Nat):Int)=6:=fun z=>this (congrArg V.int z)
   omega
  dsimp only[GE]
  refine KO (fun H2=>H2=H') (fun H2 e=>?_) (fun els=>?_)
  .subst e
   refine KO (fun H3=>A7 H2 H3) (fun H3 e2=>?_) (fun els2=>?_)
   ·
    have N2:=N.over e2
    obtain rfl:=C.pe
    have hp:=C.pl
    obtain⟨ys1,hys1,_⟩:=N2.deeds
    refine⟨_,rfl,.inl ⟨rfl,_,A3.of hys1⟩,_,rfl,_,_,rfl,rfl,⟨by decide,by decide⟩,_,rfl,_,rfl,_,rfl,_,o,pt,nl,ns,ts,pa++[la1],rfl,hn.over N2.same,N2.op.over BZ,C.nm,BZ _ _ N2.pa,C.len,fun r H4 D e4 hD okD eL eP=>?_⟩
    have N4:=N2.over e4
    obtain⟨ys,hys,ay⟩:=N4.deeds
    obtain⟨xs,hxs,ax⟩:=N4.rows
    have yl:=ay.1
    refine⟨dl,_,_,rfl,rfl,hys,Ce (by omega),?_⟩
    have hDw:Ei (wo2 H4 rl dl) r D:=hD.wo2' hxs hys N4.op eL
    have N5:=N4.deed hys hDw
    obtain⟨oD,pD,psD,ptD,shD,rfl,hpD,_⟩:=id hDw
    have hpD3:(upd H4 dl (.lst (ys++[.ref pD]))) pD=some (.tup [.ref oD,.str D.tbl,.ref psD,shD,.ref ptD,.str D.txt]):=(TK.upd hys) _ _ (BZ _ _ hpD)
    have hdl3:(upd H4 dl (.lst (ys++[.ref pD]))) dl=some (.lst (ys++[.ref pD])):=A6
    generalize upd H4 dl (.lst (ys++[.ref pD]))=H5 at N5 hpD3 hdl3
    obtain⟨xs,hxs,ax⟩:=N5.rows
    obtain⟨vs,hvs,av⟩:=N5.op
    have vl:=av.1
    have xl:=ax.1
    refine⟨_,rfl,.inl ⟨rfl,_,A3.of hxs⟩,_,rfl,o,_,rfl,.inl (A3.of (BZ _ _ hvs)),_,rfl,_,rfl,dl,_,_,_,rfl,rfl,A3.of hdl3,G2 _ _ [] rfl,pD,_,5,_,rfl,rfl,Ah.of hpD3,rfl,AG rfl,fun t ht=>?_⟩
    have s6:=Ac ht (.tup [V.int ((vs.length:Nat):Int),V.str D.txt])
    refine⟨rl,_,_,rfl,rfl,s6 _ _ hxs,Ce (by omega),?_⟩
    have N6:=(N5.over s6).row (p:=(ts.length,.row D.txt)) (s6 _ _ hxs) (by rw[A6,vl];rfl)
    have C2:=C.ded okD eL eP D5 ts.length
    generalize upd (upd H5 t (.tup [V.int ((vs.length:Nat):Int),V.str D.txt])) rl (.lst (xs++[.ref t]))=H6 at N6
    have hpt:=BZ _ _ N6.pa
    rw[B3]at hpt
    refine⟨_,rfl,_,rfl,_,rfl,pt,_,rfl,A3.of hpt,fun p1 hp1=>?_⟩
    have cc:CZ (List.map V.int pa++List.map V.int [la1]) none (some (-1))=pa.map V.int:=Ju (pa.map V.int) [V.int la1] (G6 _) rfl
    rw[cc]
    have s7:=Ac hp1 (.lst (pa.map V.int))
    refine⟨_,rfl,_,rfl,pt,_,_,_,rfl,rfl,A3.of (s7 _ _ hpt),G2 _ _ [] rfl,_,_,rfl,rfl,AG rfl,fun p2 hp2=>?_⟩
    have s8:=Ac hp2 (.lst [V.int (la1+1)])
    refine⟨p1,p2,_,_,rfl,rfl,s8 _ _ A6,A6,Ax (by rw[Ap,hp];show ts.length+1<=1000000;omega),fun p3 hp3=>?_⟩
    have N9:=((N6.over s7).over s8).newP (path':=pa++[la1+1]) hp3
    rw[B3]at N9
    exact⟨o,p3,la,ts,pa++[la1+1],_,_,tl,_,_,_,rfl,N9,⟨_,_,_,C2⟩,by rw[Au,BD];omega,by rw[Au,BD];omega,lok,hok⟩
   .refine⟨_,rfl,_,_,rfl,rfl,(by show(0:Int)<5;decide),rfl,_,rfl,?_⟩
    refine AD (fun _=>?_) (fun _=>Aq (els2 _ (A7.refl _)))
    refine⟨_,rfl,AG rfl,fun p0 hp0=>?_⟩
    have sp:=Ac hp0 (.lst [])
    have N2:=N.over sp
    obtain⟨tr,htr0,htra⟩:=N2.op.over BZ
    have htl:=htra.1
    refine⟨o,p0,tr,rfl,rfl,A3.of htr0,A3.of A6,_,rfl,?_⟩
    change if(!tr.isEmpty)=true then _ else _
    refine AD (fun c3=>?_) (fun _=>Aq (els2 _ sp))
    have hne:0<ts.length:=by
     have:¬tr=[]:=by simpa using c3
     have:=List.length_pos_iff.mpr this
     omega
    obtain⟨ts',x,rfl,hu⟩:=F5 (l:=ts) (n:=ts.length-1) (by omega)
    have pl:=C.pl
    rw[Au,BD]at pl
    obtain⟨p,y,rfl,hp⟩:=F5 pl
    obtain rfl:=C.pe
    have z0':=C.p0.2
    have C':=C
    rw[Co]at N N2
    obtain⟨z,rfl⟩:∃z,z=la1:=⟨_,rfl⟩
    have N2:BX H _ rl dl o pt la (ts'++[x]) (p++[y,z]) R Ds tl:=N2
    have hpt:=BZ _ _ N2.pa
    rw[B3]at hpt
    have hat1:Bz (p.map V.int++List.map V.int [y,z]) (-1)=some (V.int z):=by
     have:=G2 (p.map V.int++[V.int y]) (V.int z) [] (n := -1) rfl
     rw[Co]at this
     exact this
    have hat2:Bz (p.map V.int++List.map V.int [y,z]) (-2)=some (V.int y):=G2 (p.map V.int) (V.int y) [V.int z] rfl
    have hcut:CZ (p.map V.int++List.map V.int [y,z]) none (some (-2))=p.map V.int:=Ju (p.map V.int) [V.int y,V.int z] (G6 _) rfl
    refine⟨_,rfl,_,rfl,pt,_,_,_,rfl,rfl,A3.of hpt,hat1,_,_,rfl,rfl,_,rfl,?_⟩
    refine AD (fun cz=>?_) (fun _=>els2 _ sp)
    have z0:z≠0:=by have:=dT cz;omega
    obtain⟨vs,h0,a0⟩:=N2.op
    have vl:=a0.1
    rw[Au,BD]at vl
    obtain⟨vs',v,rfl,hv'⟩:=F5 vl
    have hLv:DS _ v x:=(a0.2 ts'.length v x (by rw[←hv',E5 (Ai _),EC];rfl) (by rw[E5 (Ai _),EC];rfl)).tk (A7.tk BZ)
    have okx:=C'.nm.2 x (by simp)
    rw[Au,BD]at t3
    refine⟨_,rfl,_,rfl,o,_,_,_,rfl,rfl,A3.of (BZ _ _ h0),G2 _ _ [] rfl,?_⟩
    dsimp only[Ar]
    refine⟨_,rfl,_,rfl,_,rfl,o,_,rfl,A3.of (BZ _ _ h0),fun p1 hp1=>?_⟩
    have cv:CZ (vs'++[v]) none (some (-1))=vs':=Ju vs' [v] (G6 _) rfl
    rw[cv]
    have a1:AC (DS _) vs' ts':=⟨hv',fun i y t a b=>(a0.2 i y t (by rw[DM (BM.mp a).1];exact a) (by rw[DM (BM.mp b).1];exact b)).tk (A7.tk BZ)⟩
    have N2':BX H _ rl dl o pt v (ts'++[x]) (p++[y,z]) R Ds x:=⟨N2.same,N2.op,N2.pa,hLv,N2.rows,N2.deeds,N2.rne,N2.h0r,N2.h0d⟩
    have s7:=Ac hp1 (.lst vs')
    have N3:=N2'.newO hp1 a1
    have hpt3:=s7 _ _ hpt
    have hp1':(upd (upd H2 p0 (.lst [])) p1 (.lst vs')) p1=some (.lst vs'):=A6
    dsimp only[Ar]
    generalize upd (upd H2 p0 (.lst [])) p1 (.lst vs')=H3 at N3 hp1' hpt3
    refine⟨_,rfl,_,rfl,_,rfl,pt,_,rfl,A3.of hpt3,fun p2 hp2=>?_⟩
    rw[hcut]
    have s8:=Ac hp2 (.lst (p.map V.int))
    refine⟨_,rfl,_,rfl,pt,_,_,_,rfl,rfl,A3.of (s8 _ _ hpt3),hat2,_,_,rfl,rfl,AG rfl,fun p3 hp3=>?_⟩
    have s9:=Ac hp3 (.lst [V.int (y+1)])
    refine⟨p2,p3,_,_,rfl,rfl,s9 _ _ A6,A6,Ax (by rw[Ap];show p.length+1<=1000000;omega),fun p4 hp4=>?_⟩
    have N4:BX H (upd (upd (upd H3 p2 (.lst (p.map V.int))) p3 (.lst [V.int (y+1)])) p4 (.lst (List.map V.int p++[V.int (y+1)]))) rl dl p1 p4 v ts' (p++[y+1]) R Ds x:=by
     have:=((N3.over s8).over s9).newP (path':=p++[y+1]) hp4
     rw[B3]at this
     exact this
    have hp14:=((s8.trans s9).trans (Ac hp4 (.lst (List.map V.int p++[V.int (y+1)])))) _ _ hp1'
    dsimp only[Ar]
    generalize upd (upd (upd H3 p2 (.lst (p.map V.int))) p3 (.lst [V.int (y+1)])) p4 (.lst (List.map V.int p++[V.int (y+1)]))=H5 at N4 hp14
    obtain⟨xs,hxs,ax⟩:=N4.rows
    have xl:=ax.1
    refine⟨_,rfl,.inl ⟨rfl,_,A3.of hxs⟩,_,rfl,p1,_,rfl,.inl (A3.of hp14),AG rfl,fun t ht=>?_⟩
    have s10:=Ac ht (.tup [V.int ((vs'.length:Nat):Int),V.str "end"])
    refine⟨rl,_,_,rfl,rfl,s10 _ _ hxs,Ce (by omega),?_⟩
    have N6:=(N4.over s10).row (p:=(ts'.length,.fin)) (s10 _ _ hxs) (by rw[A6,hv'];rfl)
    exact⟨p1,p4,v,ts',p++[y+1],_,Ds,x,_,_,_,rfl,N6,⟨_,_,_,C'.fin z0 ts'.length⟩,by omega,by rw[Au,BD];omega,okx.2.1,okx.2.2⟩
  .refine⟨_,rfl,_,_,rfl,rfl,(by show(0:Int)<5;decide),_,_,rfl,rfl,_,rfl,?_⟩
   refine AD (fun _=>?_) (fun _=>Aq (els _ rfl))
   obtain⟨vs,h0,a0⟩:=N.op
   have vl:=a0.1
   refine⟨_,rfl,o,_,rfl,.inl (A3.of (BZ _ _ h0)),_,_,rfl,rfl,_,rfl,?_⟩
   refine AD (fun c3=>?_) (fun _=>els _ rfl)
   have hi3:ts.length<3:=by have:=dT c3;omega
   refine⟨_,rfl,_,_,rfl,rfl,⟨by decide,by decide⟩,_,rfl,_,rfl,_,rfl,_,nl,o,la,ns,ts,tl,rfl,hn.over N.same,N.op.over BZ,by omega,C.nm,N.la,lok,hok,fun r H2 t e2 hL lpk=>?_⟩
   have okt:=lpk.ok
   dsimp only[Ar]
   obtain⟨pr,xa,xb,rfl,hpr,⟨qa,rfl,hqa⟩,⟨qb,rfl,hqb⟩⟩:=id hL
   obtain⟨o1,o2,o3⟩:=id okt
   have l2:=Fe o2
   have l3:=Fe o3
   refine⟨_,rfl,pr,_,0,_,rfl,rfl,Ah.of hpr,rfl,_,_,rfl,rfl,Ax (by omega),_,_,rfl,rfl,Ax (by rw[AX];omega),_,rfl,pr,_,1,_,rfl,rfl,Ah.of hpr,rfl,.ref qa,t.lo,rfl,⟨qa,rfl,hqa⟩,o2,_,_,rfl,rfl,Ax (by rw[AX,AX];omega),?_⟩
   dsimp only[Ar]
   have N2:=N.over e2
   obtain⟨xs,hxs,ax⟩:=N2.rows
   obtain⟨vs2,hvs2,a2⟩:=N2.op
   have vl2:=a2.1
   have xl:=ax.1
   refine⟨_,rfl,.inl ⟨rfl,_,A3.of hxs⟩,_,rfl,o,_,rfl,.inl (A3.of (BZ _ _ hvs2)),_,rfl,_,_,rfl,rfl,Ax (by rw[AX,AX,AX];omega),_,rfl,pr,_,2,_,rfl,rfl,Ah.of hpr,rfl,.ref qb,t.hi,rfl,⟨qb,rfl,hqb⟩,o3,_,_,rfl,rfl,Ax (by rw[AX,AX,AX,AX];omega),AG rfl,fun u hu=>?_⟩
   have s3:=Ac hu (.tup [V.int ((vs2.length:Nat):Int),V.str (("for ":Str)++t.nm++" "++B6 t.lo++" "++B6 t.hi)])
   refine⟨rl,_,_,rfl,rfl,s3 _ _ hxs,Ce (by omega),?_⟩
   have N3:=(N2.over s3).row (p:=(ts.length,.opn t)) (s3 _ _ hxs) (by rw[A6,vl2];rfl)
   have hL3:DS (upd (upd H2 u (.tup [V.int ((vs2.length:Nat):Int),V.str (("for ":Str)++t.nm++" "++B6 t.lo++" "++B6 t.hi)])) rl (.lst (xs++[.ref u]))) (.ref pr) t:=hL.tk ((A7.tk s3).trans (TK.upd (s3 _ _ hxs)))
   generalize upd (upd H2 u (.tup [V.int ((vs2.length:Nat):Int),V.str (("for ":Str)++t.nm++" "++B6 t.lo++" "++B6 t.hi)])) rl (.lst (xs++[.ref u]))=H3 at N3 hL3
   refine⟨_,rfl,_,rfl,AG rfl,fun p1 hp1=>?_⟩
   have s4:=Ac hp1 (.lst [V.ref pr])
   have N4:=N3.over s4
   obtain⟨vs4,hvs4,a4⟩:=N4.op
   have vl4:=a4.1
   refine⟨o,p1,vs4,[.ref pr],rfl,rfl,BZ _ _ hvs4,A6,Ax (by show vs4.length+1<=1000000;omega),fun p2 hp2=>?_⟩
   have N5:=N4.newO (ts':=ts++[t]) hp2 ((a4.mono fun _ _ z=>z.tk (A7.tk BZ)).snoc (hL3.tk (A7.tk s4)))
   dsimp only[Ar]
   generalize upd (upd H3 p1 (.lst [V.ref pr])) p2 (.lst (vs4++[.ref pr]))=H5 at N5
   refine⟨_,rfl,AG rfl,fun p3 hp3=>?_⟩
   have N6:=N5.over (Ac hp3 (.lst [V.int 0]))
   have hpt:=BZ _ _ N6.pa
   have pb:=C.len
   refine⟨pt,p3,_,_,rfl,rfl,hpt,A6,Ax (by rw[Ap];show path.length+1<=1000000;omega),fun p4 hp4=>?_⟩
   have N7:=N6.newP (path':=path++[0]) hp4
   rw[B3]at N7
   exact⟨p2,p4,la,_,_,_,Ds,tl,_,_,_,rfl,N7,⟨_,_,_,C.opn hi3 lpk D5 ts.length⟩,d6,by rw[Au,BD];omega,lok,hok⟩
theorem Qw (T:Tx w K mg a):AK P w K mg base AS 1 a.f_l a.d_l ["_law_cell_here"] Rd.spSign:=by
 refine T.F_l.ok La (fun vs H Q E h=>?_) (fun cdv A outer s H vs Q E hr h=>?_)
 .obtain⟨_,rfl,_⟩:=h;rfl
 obtain⟨c,rfl,q⟩:=h
 refine⟨_,(@A5 _ _ _ _ _ (@Aj _ _ (1) _ _ _ _ La.nd rfl (.inl rfl) Aw (by rfl) (by first|exact .inl rfl|exact .inr rfl|assumption)) (@A5 _ _ _ _ _ (@Aj _ _ (1) _ _ _ _ La.nd rfl (.inl rfl) (@Aa _ _ _ _ _ _ _ _ BG (pv 1) Aw) (by rfl) (by first|exact .inl rfl|exact .inr rfl|assumption)) (@A9 _ _ _ (@Al _ _ _ _ (@Af _ _ _ _ _ _ _ Es (pv 1) (@Aa _ _ _ _ _ _ _ _ Bf (pv 0) A1) (fun _ _=>rfl)))))),?_⟩
 refine Vy ?_
 refine⟨_,rfl,_,_,rfl,rfl,Ax (by decide +kernel),?_⟩
 dsimp only[Ar]
 refine⟨_,rfl,_,rfl,_,_,rfl,rfl,(by show(0:Int)<94;decide),_,_,(Rd.sign_at ?e c).choose,rfl,rfl,Ax ?l,(Rd.sign_at ?e c).choose_spec.1,q _ (Rd.sign_at ?e c).choose_spec.2⟩
 case e=>decide +kernel
 case l=>decide +kernel
theorem Rh (T:Tx w K mg a):AK P w K mg base AS 1 a.f_P a.d_P ["_law_text","_law_x"] Rd.spSpread:=by
 refine T.F_P.ok Kx (fun vs H Q E h=>?_) (fun cdv A outer s H vs Q E hr h=>?_)
 .obtain⟨_,_,_,rfl,_⟩:=h;rfl
 obtain⟨ns,k,x,rfl,hk,q⟩:=h
 refine⟨_,(VD (OZ (i:=2) Kx.nd rfl (.inl rfl) (PJ (pv 0))) (Qb (@An _ _ _ _ _ _ _ _ Eu (pv 2) A1 (@Am _ _ (by decide) (by decide))) (QY (c:=32) T.nb (by rfl) (by rfl) (by decide) (pv 0) (@Aa _ _ _ _ _ _ _ _ C1 A1 (@Aa _ _ _ _ _ _ _ _ Bf (pv 1) A1)))) (@A5 _ _ _ _ _ (@Aj _ _ (2) _ _ _ _ Kx.nd rfl (.inl rfl) (@Aa _ _ _ _ _ _ _ _ C1 (pv 2) (@Aa _ _ _ _ _ _ _ _ Bf (pv 1) (@Aa _ _ _ _ _ _ _ _ C1 (@Aa _ _ _ _ _ _ _ _ Fq (@AR _ _ _ _ _ _ _ _ _ HH (by rfl) T.z_len Bo (@A0 _ _ _ _ _ (pv 0) A2 (by rfl)) (by decide) (by decide) (by rfl) (by rfl)) (pv 2)) A1))) (by rfl) (by first|exact .inl rfl|exact .inr rfl|assumption)) (@A9 _ _ _ (@Al _ _ _ _ (@Aa _ _ _ _ _ _ _ _ BG (@Aa _ _ _ _ _ _ _ _ BG (@D1 _ _ _ _ _ _ _ _ _ _ Fm (pv 0) DT (@Cy _ _ _ (pv 2))) Aw) (@D1 _ _ _ _ _ _ _ _ _ _ Fm (pv 0) (@Cy _ _ _ (pv 2)) DT)))))),?_⟩
 have hlen:=cds_len (Rd.rkS k)
 have hsh:=(Rd.rk_short hk).1
 refine⟨_,rfl,rfl,_,_,rfl,rfl,?_⟩
 have ef:Txt.find (Rd.rkS k) (Str.ofString "[")=GC 91 (cds (Rd.rkS k)):=P7 _ 91
 rw[ef]
 dsimp only[Ar]
 refine⟨_,rfl,_,_,rfl,rfl,_,rfl,?_⟩
 cases hd:Rd.isD k with
 |
  false=>
  have e1:GC 91 (cds (Rd.rkS k)) = -1:=Ae (Rd.no_bracket hk hd)
  rw[e1]
  refine Be ?_
  have m0:=BU x (show(3:Int)≠0 by decide)
  have m1:=C0 x (show(0:Int)<3 by decide)
  refine⟨_,rfl,rfl,_,rfl,_,_,rfl,rfl,(by show(0:Int)<3;decide),_,_,rfl,rfl,_,_,rfl,rfl,?_,?_,by omega,?_⟩
  .omega
  .omega
  obtain⟨m,em⟩:∃m:Nat,x%3=(m:Int):=⟨(x%3).toNat,by omega⟩
  have et:(1+x%3).toNat=m+1:=by omega
  rw[et]
  refine q _ _ (A7.refl _) ?_
  rw[B7]
  exact Rd.sprd_words hk hd m (by omega)
 |
  true=>
  cases k with
  |sz n=>cases hd
  |opn t=>cases hd
  |fin=>cases hd
  |
   ded tb sp es t=>
   have e1:=Rd.at_bracket hk
   rw[e1]
   have tl:(cds tb).length<=(cds (Rd.rkS (.ded tb sp es t))).length:=by
    show _<=(cds (Ba tb sp++" = "++t.wr)).length
    unfold Ba
    rw[AN,AN,AN,Au,Au,Au]
    omega
   refine AD (fun y=>absurd (dT y) (by omega)) (fun _=>?_)
   dsimp only[GE]
   generalize hz:Rd.rkS (.ded tb sp es t)=z at hlen hsh tl q ⊢
   generalize hn:(cds tb).length=n0 at tl ⊢
   have hp:(0:Int)<((z.length:Nat):Int)-(n0:Int)+1:=by omega
   have f0:=BU x (show((z.length:Nat):Int)-(n0:Int)+1≠0 by omega)
   have f1:=C0 x hp
   refine⟨_,rfl,_,rfl,_,rfl,z,rfl,Ax (by omega),_,rfl,_,_,rfl,rfl,_,_,rfl,rfl,_,_,rfl,rfl,hp,_,_,rfl,rfl,?_⟩
   obtain⟨k,ek⟩:∃k:Nat,(n0:Int)+x%(((z.length:Nat):Int)-(n0:Int)+1)=(k:Int):=⟨((n0:Int)+x%(((z.length:Nat):Int)-(n0:Int)+1)).toNat,by omega⟩
   dsimp only[Ar]
   rw[ek]
   have kb:n0<=k/\k<=z.length:=by omega
   have l1:(" ":Str).length=1:=by decide +kernel
   have c1:Ca (cds z) none (some (k:Int))=(cds z).take k:=by rw[FH _ (by omega),Fj]
   have c2:Ca (cds z) (some (k:Int)) none=(cds z).drop k:=by rw[MQ _ (by omega),Fj]
   refine⟨_,rfl,_,rfl,_,rfl,_,rfl,Ax (by omega),_,_,rfl,rfl,?_,_,rfl,_,rfl,_,rfl,_,rfl,Ax (by omega),_,_,rfl,rfl,?_,?_⟩
   .rw[c1,CN,Bh]
    exact Ax (by omega)
   .rw[c1,c2,AX,CN,CN,Bh,Cn]
    exact Ax (by omega)
   .refine q _ _ (A7.refl _) (Rd.sprd_ded hk (.inr ⟨k,by omega,?_,?_⟩))
    .rw[hz];omega
    .rw[hz,c1,c2,AN,AN,B7,B7,Co]
     rfl
theorem Pb (T:Tx w K mg a):AK P w K mg base AS 3 a.f_Q a.d_Q ["_law_rows","_law_size","_law_cell_here"] Rd.spNoisy:=by
 have G_b :=@Gi P w K mg base a T
 have G_l :=@Qw P w K mg base a T
 have G_P :=@Rh P w K mg base a T
 refine T.F_Q.ok EI (fun vs H Q E h=>?_) (fun cdv A outer s H vs Q E hr h=>?_)
 .obtain⟨_,_,_,_,_,_,_,rfl,_⟩:=h;rfl
 obtain⟨ns,rl,xs,R,ks,n,c,rfl,hrl,ax,etx,hok,n0,n1,kl,q⟩:=h
 refine⟨_,(@A5 _ _ _ _ _ (@Aj _ _ (3) _ _ _ _ EI.nd rfl (.inl rfl) (@Aa _ _ _ _ _ _ _ _ F7 (@Bl _ _ _ _ (@A0 _ _ _ _ _ (@Aa _ _ _ _ _ _ _ _ BG Aw (@CQ _ _ _ _ _ _ _ _ _ Js (by rfl) T.z_str GX (@A0 _ _ _ _ _ (pv 1) A2 (by rfl)) (by decide) (by decide) (by rfl) (by rfl))) A2 (by rfl))) (@Dh _ _ _ _ _ _ _ ["_law_deep","_law_text"] [none,none] _ _ _ _ (by rfl) (@DC _ _ _ _ (pv 0)) Vb (fun _ _ _ _ _ _=>⟨(show PG _ _ (O3 K 2 _) from(Jp rfl (Fg (Bv (i:=0) My rfl (.inl rfl)) (Fg (Bv (i:=1) My rfl (.inl rfl)) JO)))),@DZ _,(pv 1)⟩) (by intro _;rfl))) (by rfl) (by first|exact .inl rfl|exact .inr rfl|assumption)) (@A5 _ _ _ _ _ (@Aj _ _ (4) _ _ _ _ EI.nd rfl (.inl rfl) (@Av _ _ _ _ _ _ _ _ _ _ _ _ _ _ _ _ G_b (hr.mono (by omega)) (by rfl) T.m_b T.F_b.kp T.b_b .nil Ao (@A0 _ _ _ _ _ (pv 2) (@A0 _ _ _ _ _ (@AR _ _ _ _ _ _ _ _ _ BJ (by rfl) T.z_len Bo (@A0 _ _ _ _ _ (pv 3) A2 (by rfl)) (by decide) (by decide) (by rfl) (by rfl)) A2 (by rfl)) (by rfl)) (by decide) (by rfl) (by rfl)) (by rfl) (by first|exact .inl rfl|exact .inr rfl|assumption)) (@A5 _ _ _ _ _ (@Aj _ _ (5) _ _ _ _ EI.nd rfl (.inl rfl) (@Bl _ _ _ _ A2) (by rfl) (by first|exact .inl rfl|exact .inr rfl|assumption)) (@A5 _ _ _ _ _ (@AE _ _ _ _ _ _ _ _ (@An _ _ _ _ _ _ _ _ Eu (@Aa _ _ _ _ _ _ _ _ Bf (@Af _ _ _ _ _ _ _ AV (pv 4) A1 (fun _ _=>rfl)) A1) A1 (@Am _ _ (by decide) (by decide))) (@A9 _ _ _ (@Aj _ _ (5) _ _ _ _ EI.nd rfl (.inl rfl) (@Bl _ _ _ _ (@A0 _ _ _ _ _ (@Aa _ _ _ _ _ _ _ _ BG Aw (@Av _ _ _ _ _ _ _ _ _ _ _ _ _ _ _ _ G_l (hr.mono (by omega)) (by rfl) T.m_l T.F_l.kp T.b_l .nil Ao (@A0 _ _ _ _ _ (@Aa _ _ _ _ _ _ _ _ Cw (@Af _ _ _ _ _ _ _ AV (pv 4) A1 (fun _ _=>rfl)) A1) A2 (by rfl)) (by decide) (by rfl) (by rfl))) (@A0 _ _ _ _ _ Aw A2 (by rfl)) (by rfl))) (by rfl) (by first|exact .inl rfl|exact .inr rfl|assumption))) AF) (@A5 _ _ _ _ _ (@EH _ _ _ _ _ _ _ _ PassesOwn.never rfl (@Hj _ _ _ _ _ _ (by rfl) T.z_range (@A0 _ _ _ _ _ (@AR _ _ _ _ _ _ _ _ _ BJ (by rfl) T.z_len Bo (@A0 _ _ _ _ _ (pv 3) A2 (by rfl)) (by decide) (by decide) (by rfl) (by rfl)) A2 (by rfl)) (by rfl)) (Bv (i:=6) EI.nd rfl (.inl rfl)) (@A5 _ _ _ _ _ (@Aj _ _ (7) _ _ _ _ EI.nd rfl (.inl rfl) (@Af _ _ _ _ _ _ _ AV (pv 4) (pv 6) (fun _ _=>rfl)) (by rfl) (by first|exact .inl rfl|exact .inr rfl|assumption)) (@A5 _ _ _ _ _ (@Aj _ _ (8) _ _ _ _ EI.nd rfl (.inl rfl) (@Aa _ _ _ _ _ _ _ _ BG (@Aa _ _ _ _ _ _ _ _ R7 Aw (@Aa _ _ _ _ _ _ _ _ Bf (pv 7) A1)) (@Av _ _ _ _ _ _ _ _ _ _ _ _ _ _ _ _ G_P (hr.mono (by omega)) (by rfl) T.m_P T.F_P.kp T.b_P .nil Ao (@A0 _ _ _ _ _ (@Af _ _ _ _ _ _ _ AV (pv 3) (pv 6) (fun _ _=>rfl)) (@A0 _ _ _ _ _ (@Aa _ _ _ _ _ _ _ _ Cw (pv 7) A1) A2 (by rfl)) (by rfl)) (by decide) (by rfl) (by rfl))) (by rfl) (by first|exact .inl rfl|exact .inr rfl|assumption)) (@A5 _ _ _ _ _ (@AE _ _ _ _ _ _ _ _ (@An _ _ _ _ _ _ _ _ Bk (@Aa _ _ _ _ _ _ _ _ Bf (@Aa _ _ _ _ _ _ _ _ Cw (pv 7) A1) A1) A1 (@Am _ _ (by decide) (by decide))) (@A5 _ _ _ _ _ (@Aj _ _ (8) _ _ _ _ EI.nd rfl (.inl rfl) (@Aa _ _ _ _ _ _ _ _ BG (@Aa _ _ _ _ _ _ _ _ BG (pv 8) (@Af _ _ _ _ _ _ _ AV (@Bl _ _ _ _ (@A0 _ _ _ _ _ Aw (@A0 _ _ _ _ _ Aw A2 (by rfl)) (by rfl))) (@Aa _ _ _ _ _ _ _ _ Bf (@Aa _ _ _ _ _ _ _ _ Cw (pv 7) A1) A1) (fun _ _=>rfl))) (@Av _ _ _ _ _ _ _ _ _ _ _ _ _ _ _ _ G_l (hr.mono (by omega)) (by rfl) T.m_l T.F_l.kp T.b_l .nil Ao (@A0 _ _ _ _ _ (@Aa _ _ _ _ _ _ _ _ Cw (pv 7) A1) A2 (by rfl)) (by decide) (by rfl) (by rfl))) (by rfl) (by first|exact .inl rfl|exact .inr rfl|assumption)) (@A9 _ _ _ (@Aj _ _ (8) _ _ _ _ EI.nd rfl (.inl rfl) (@Aa _ _ _ _ _ _ _ _ BG (@Aa _ _ _ _ _ _ _ _ BG (pv 8) Aw) (@Av _ _ _ _ _ _ _ _ _ _ _ _ _ _ _ _ G_l (hr.mono (by omega)) (by rfl) T.m_l T.F_l.kp T.b_l .nil Ao (@A0 _ _ _ _ _ (@Aa _ _ _ _ _ _ _ _ Cw (pv 7) A1) A2 (by rfl)) (by decide) (by rfl) (by rfl))) (by rfl) (by first|exact .inl rfl|exact .inr rfl|assumption)))) AF) (@A5 _ _ _ _ _ (@BF _ _ _ _ (@Bm _ _ _ _ _ _ _ _ _ _ _ _ Bs Cp Cq Cc (pv 5) (@A0 _ _ _ _ _ (pv 8) A2 (by rfl)) (by rfl) (by rfl) (by rfl) (by rfl) (by rfl)) (by rfl)) (@A9 _ _ _ (@AE _ _ _ _ _ _ _ _ ((@Df _ _ _ _ _ _ _ (@An _ _ _ _ _ _ _ _ Bk (@Aa _ _ _ _ _ _ _ _ Bf (@Aa _ _ _ _ _ _ _ _ Cw (pv 7) A1) A1) A1 (@Am _ _ (by decide) (by decide))) (@DY _ _ _ _ (@An _ _ _ _ _ _ _ _ Bk (@Aa _ _ _ _ _ _ _ _ Bf (pv 6) A1) A1 (@Am _ _ (by decide) (by decide)))))).pt (@A9 _ _ _ (@BF _ _ _ _ (@Bm _ _ _ _ _ _ _ _ _ _ _ _ Bs Cp Cq Cc (pv 5) (@A0 _ _ _ _ _ (@Af _ _ _ _ _ _ _ AV (@NQ _ _ _ _ (@Bc _ _ _ _ _ Aw (@Bc _ _ _ _ _ Aw (@Bc _ _ _ _ _ Aw (@Bc _ _ _ _ _ Aw DR Dx) Dx) Dx) Dx)) (@Aa _ _ _ _ _ _ _ _ Bf (@Aa _ _ _ _ _ _ _ _ Cw (pv 7) A1) A1) (fun _ _=>rfl)) A2 (by rfl)) (by rfl) (by rfl) (by rfl) (by rfl) (by rfl)) (by rfl))) AF)))))) (by intro _;rfl)) (@A9 _ _ _ (@Al _ _ _ _ (@Bm _ _ _ _ _ _ _ _ _ _ _ _ Eg OQ OR KE Aw (@A0 _ _ _ _ _ (pv 5) A2 (by rfl)) (by rfl) (by rfl) (by rfl) (by rfl) (by rfl))))))))),?_⟩
 have l5:("size ":Str).length=5:=by decide +kernel
 have nl9:=Il (i:=n) (by omega) n1
 have xl:=ax.1
 have klen:ks.length=R.length:=by have:=congrArg List.length etx;rw[Ap,Ap]at this;exact this.symm
 refine⟨_,rfl,_,rfl,IC (by omega) n1,_,_,rfl,rfl,Ax (by unfold nS at nl9;omega),AG rfl,fun a1 ha1=>?_⟩
 have s1:=Ac ha1 (.lst [V.str (Rd.rkS (.sz n))])
 have ha4:(upd H a1 (.lst [V.str (Rd.rkS (.sz n))])) a1=some (.lst [V.str (Rd.rkS (.sz n))]):=A6
 change Gg _ _ _ _ _ _ (upd H a1 (.lst [V.str (Rd.rkS (.sz n))])) _
 generalize upd H a1 (.lst [V.str (Rd.rkS (.sz n))])=H1 at s1 ha4
 have hrl1:=s1 _ _ hrl
 refine⟨_,rfl,rl,rfl,⟨_,A3.of hrl1⟩,?_⟩
 refine Qz (xs:=xs) (fun i ys H'=>H'=H1/\ys=((R.take i).map fun p=>Hi p.2).map V.str) ⟨rfl,rfl⟩ (Ax (by omega)) (fun i ys H' hi pp=>⟨by rw[pp.1];exact A3.of hrl1,by rw[pp.2,Ap,Ap,Bh];omega⟩) (fun i x ys H' hx pp=>?_) (fun ys H' pp r2 hr2=>?_)
 .obtain⟨rfl,rfl⟩:=pp
  obtain⟨pr,hpr,t0,rfl,ht0⟩:=ax.get' hx
  refine⟨t0,_,rfl,Ah.of (s1 _ _ ht0),rfl,_,_,rfl,_,_,rfl,rfl,UY (ρ:=[]) _ _,?_⟩
  refine⟨_,rfl,rfl,?_⟩
  rw[Di hpr,B3,B3]
  rfl
 obtain⟨rfl,rfl⟩:=pp
 rw[G8 (by omega),etx]
 have s2:=Ac hr2 (.lst ((ks.map Rd.rkS).map V.str))
 refine⟨a1,r2,_,_,rfl,rfl,s2 _ _ ha4,A6,Ax (by rw[Ap,Ap,BD];omega),fun l hl=>?_⟩
 obtain⟨kk,ekk⟩:∃kk,Rd.Rk.sz n::ks=kk:=⟨_,rfl⟩
 have okk:∀k∈kk,Rd.Rok ns k:=fun k hk=>by
  rw[←ekk]at hk
  rcases AQ.mp hk with rfl|hk
  .exact⟨n0,n1⟩
  .exact hok k hk
 have kkl:kk.length<=71:=by rw[←ekk,AW];omega
 have kk1:1<=kk.length:=by rw[←ekk,AW];omega
 have eL:[V.str (Rd.rkS (.sz n))]++(ks.map Rd.rkS).map V.str=(kk.map Rd.rkS).map V.str:=by rw[←ekk];rfl
 rw[eL]
 rw[ekk]at q
 have s3:=s1.trans (s2.trans (Ac hl (.lst ((kk.map Rd.rkS).map V.str))))
 have hl3:(upd (upd H' r2 (.lst ((ks.map Rd.rkS).map V.str))) l (.lst ((kk.map Rd.rkS).map V.str))) l=some (.lst ((kk.map Rd.rkS).map V.str)):=A6
 dsimp only[Ar]
 generalize upd (upd H' r2 (.lst ((ks.map Rd.rkS).map V.str))) l (.lst ((kk.map Rd.rkS).map V.str))=H3 at s3 hl3
 refine⟨_,rfl,_,rfl,l,_,rfl,.inl (A3.of hl3),c,_,rfl,by rw[Ap,Ap];omega,by rw[Ap,Ap];omega,fun rx H4 s4 hx=>?_⟩
 rw[Fj,Ap,Ap]at hx
 generalize hxs:Eo c kk.length=ns4 at hx
 have xsl:ns4.length=kk.length:=by rw[←hxs,Gh]
 have xm:∀y∈ns4,0<=y/\y<2147483647:=fun y hy=>HA (hxs▸hy)
 have atx:∀k:Nat,k<kk.length->Bz (ns4.map V.int) ((k:Nat):Int)=some (.int (ns4.getD k 0)):=fun k hk=>Fs (ns:=ns4) (k:=((k:Nat):Int)) (by omega) (by omega)
 have hl4:=s4 _ _ hl3
 have e4:=s3.trans s4
 dsimp only[Ar]
 have l2:("; ":Str).length=2:=by decide +kernel
 have one:∀d:Nat,(⟨#[d]⟩:Str).length=1:=fun _=>rfl
 refine⟨AG rfl,fun f0 hf0=>?_⟩
 have s5:=Ac hf0 (.lst [])
 have hf5:(upd H4 f0 (.lst [])) f0=some (.lst []):=A6
 dsimp only[Ar]
 generalize upd H4 f0 (.lst [])=H5 at s5 hf5
 refine DJ (fun σ' H'=>∃(fo:Addr) (rows:List Str),σ'=[some (.ref rl),some (.int n),some (.int c),some (.ref l),some (.ref rx),some (.ref fo),none,none,none]/\A7 H4 H'/\H4 fo=none/\H' fo=some (.lst (rows.map V.str))/\Rd.Nz [] rows/\rows.length<=2) (fun σ' H6 pp=>?_) (fun nx=>?_)
 rotate_left
 .have hx5:=s5 _ _ hx
  refine⟨_,rfl,rx,_,_,_,rfl,rfl,A3.of hx5,atx 0 (by omega),_,_,rfl,rfl,(by show(0:Int)<5;decide),_,_,rfl,rfl,_,rfl,?_⟩
  refine AD (fun _=>?_) (fun _=>nx _ _ ⟨f0,[],rfl,s5,hf0,hf5,Rd.Nz.nil,BC _⟩)
  refine⟨_,rfl,rx,_,_,_,rfl,rfl,A3.of hx5,atx 0 (by omega),_,_,rfl,rfl,⟨by decide,by decide⟩,_,rfl,fun d d10=>⟨_,_,rfl,rfl,Ax (by rw[one];omega),AG rfl,fun f2 hf2=>?_⟩⟩
  have hr1:cds (("; ":Str)++⟨#[d]⟩)=59::[32,d]:=by rw[AN];rfl
  have n1:Rd.Nz [] [("; ":Str)++⟨#[d]⟩]:=Rd.Nz.nil.no (by decide) (by rw[hr1];exact Rd.rem_bare _) ⟨by rw[AX,one];omega,by
   rw[hr1]
   intro z
   simp only[AQ,CL,or_false]at z
   omega⟩
  have n2:Rd.Nz [] ([("; ":Str)++⟨#[d]⟩]++[("":Str)]):=n1.no (by show 1+1<=2;decide) (by decide +kernel) ⟨by decide +kernel,by decide +kernel⟩
  exact nx _ _ ⟨f2,[("; ":Str)++(⟨#[d]⟩:Str),""],rfl,s5.trans (Ac hf2 _),s5.free hf2,A6,n2,Ai _⟩
 obtain⟨fo,rows0,rfl,e6,hfo,hf6,nz0,r2⟩:=pp
 have fo0:H fo=none:=e4.free hfo
 refine⟨_,rfl,l,_,rfl,.inl (A3.of (e6 _ _ hl4)),_,rfl,by rw[Ap,Ap];omega,by rw[Ap,Ap];omega,?_⟩
 rw[Fj,Ap,Ap]
 refine KA (lo:=0) (n:=kk.length) (fun i σ' H'=>∃(rows:List Str) (o6 o7 o8:Option V),σ'=[some (.ref rl),some (.int n),some (.int c),some (.ref l),some (.ref rx),some (.ref fo),o6,o7,o8]/\A7 H4 H'/\H' fo=some (.lst (rows.map V.str))/\Rd.Nz (kk.take i) rows/\rows.length<=2*i+2/\i<=rows.length) ?_ (fun i σ' H' hi pp=>?_) (fun σ' H' pp=>?_)
 .exact⟨rows0,_,_,_,rfl,e6,hf6,nz0,r2,BC _⟩
 .obtain⟨rows,o6,o7,o8,rfl,eH,hfr,nz,rb,_⟩:=pp
  have ei:0+(i:Int)=(i:Int):=Int.zero_add _
  dsimp only[Ar]
  rw[ei]
  have hxH:=eH _ _ hx
  have hlH:=eH _ _ hl4
  refine⟨_,rfl,_,rfl,rx,_,_,_,rfl,rfl,A3.of hxH,atx i hi,?_⟩
  dsimp only[Ar]
  have xb:=xm (ns4.getD i 0) (by rw[G7,Bg (by omega)];exact EV _)
  generalize ns4.getD i 0=x at xb
  have m0:=BU x (show(4:Int)≠0 by decide)
  have m1:=C0 x (show(0:Int)<4 by decide)
  have hki:kk[i]?=some kk[i]:=Bg hi
  have okI:=okk kk[i] (EV hi)
  have hat:Bz ((kk.map Rd.rkS).map V.str) ((i:Nat):Int)=some (.str (Rd.rkS kk[i])):=EG (by rw[D8,D8,hki];rfl)
  obtain⟨m,em⟩:∃m:Nat,x%4=(m:Int):=⟨(x%4).toNat,by omega⟩
  have b1:(" ":Str).length=1:=by decide +kernel
  have hm:cds (Txt.mul " " (x%4))=List.replicate m 32:=by
   have:=MM 32 (x%4)
   rw[em,Fj]at this
   rw[em]
   exact this
  have ml:(Txt.mul " " (x%4)).length=m:=by rw[←cds_len,hm,OF]
  refine⟨_,rfl,_,_,rfl,rfl,(by show(0:Int)<4;decide),_,_,rfl,rfl,by omega,by omega,by rw[b1];decide,?_⟩
  refine⟨_,rfl,_,rfl,l,_,_,_,rfl,rfl,A3.of hlH,hat,_,rfl,_,_,rfl,rfl,⟨by decide,by decide⟩,ns,kk[i],_,rfl,okI,fun z' H7 e7 sp=>?_⟩
  have sln:=sp.ln
  rw[cds_len]at sln
  refine⟨_,_,rfl,rfl,Ax (by rw[ml];omega),?_⟩
  dsimp only[Ar]
  have hfr7:=e7 _ _ hfr
  have eH7:=eH.trans e7
  have hx7:=e7 _ _ hxH
  refine DJ (fun σ' H8=>A7 H7 H8/\∃(zz:Str) (tail:List Nat),σ'=[some (.ref rl),some (.int n),some (.int c),some (.ref l),some (.ref rx),some (.ref fo),some (.int (i:Int)),some (.int x),some (.str zz)]/\cds zz=List.replicate m 32++cds z'++tail/\(tail=[]\/∃j y,tail=List.replicate j 32++59::y)/\10∉tail/\zz.length<=1900) (fun σ' H8 pp=>?_) (fun nx=>?_)
  rotate_left
  .refine⟨_,rfl,_,_,rfl,rfl,⟨by decide,by decide⟩,_,_,rfl,rfl,(by show(0:Int)<3;decide),rfl,_,rfl,?_⟩
   refine AD (fun _=>?_) (fun _=>nx _ _ ⟨A7.refl _,_,[],rfl,by rw[AN,hm,DL],.inl rfl,(fun z=>nomatch z),by rw[AX,ml];omega⟩)
   refine⟨_,rfl,AG rfl,fun q2 hq2=>?_⟩
   have sq:=Ac hq2 (.lst [V.str " ;",V.str ";"])
   have h0:=BU (x/21) (show(2:Int)≠0 by decide)
   have h1:=C0 (x/21) (show(0:Int)<2 by decide)
   obtain⟨u,j,hu,ju,ul⟩:=Rd.pickA h0 h1
   refine⟨_,rfl,_,_,rfl,rfl,⟨by decide,by decide⟩,_,_,rfl,rfl,(by show(0:Int)<2;decide),q2,_,_,_,rfl,rfl,A3.of A6,hu,_,_,rfl,rfl,Ax (by rw[AX,ml];omega),_,rfl,_,_,rfl,rfl,⟨by decide,by decide⟩,_,rfl,fun d1 d10=>⟨_,_,rfl,rfl,Ax (by rw[AX,AX,ml,one];omega),?_⟩⟩
   dsimp only[Ar]
   have l6:("; for ":Str).length=6:=by decide +kernel
   refine⟨_,rfl,_,_,rfl,rfl,Ax (by rw[AX,AX,AX,ml,one];omega),_,rfl,_,_,rfl,rfl,⟨by decide,by decide⟩,_,rfl,fun d2 d20=>⟨_,_,rfl,rfl,Ax (by rw[AX,AX,AX,AX,ml,one,one];omega),?_⟩⟩
   have ef:cds ("; for ":Str)=[59,32,102,111,114,32]:=by decide +kernel
   refine nx _ _ ⟨sq,_,List.replicate j 32++59::([d1]++[59,32,102,111,114,32]++[d2]),rfl,?_,.inr ⟨j,_,rfl⟩,?_,by rw[AX,AX,AX,AX,AX,ml,one,one];omega⟩
   .rw[AN,AN,AN,AN,AN,hm,ju,ef]
    simp only[Co,Dl,K4]
    rfl
   .intro z
    rcases Bj.mp z with z|z
    .exact absurd (K6 z) (by decide)
    .simp only[AQ,Dl,K4,CL,or_false]at z
     omega
  obtain⟨e8,zz,tail,rfl,hzz,htl,t10,zl⟩:=pp
  have hfr8:=e8 _ _ hfr7
  have z10:10∉cds zz:=by
   rw[hzz]
   intro z
   rcases Bj.mp z with z|z
   .rcases Bj.mp z with z|z
    .exact absurd (K6 z) (by decide)
    .exact sp.n10 z
   .exact t10 z
  have nz1:=nz.row (z:=zz) sp hzz htl ⟨by omega,z10⟩
  rw[←Di hki]at nz1
  refine⟨_,rfl,.inl ⟨rfl,_,A3.of hfr8⟩,_,rfl,fo,_,_,rfl,rfl,hfr8,Ce (by rw[Ap];omega),?_⟩
  have put:∀{G:Hp} {u:HO},A7 H4 G->A7 H4 (upd G fo u):=fun{G u} e b o eb=>by rw[A8 (AI eb hfo)];exact e b o eb
  have e9:=put (u:=.lst (rows.map V.str++[.str zz])) (eH7.trans e8)
  have hf9:(upd H8 fo (.lst (rows.map V.str++[.str zz]))) fo=some (.lst ((rows++[zz]).map V.str)):=by rw[A6,B3];rfl
  generalize upd H8 fo (.lst (rows.map V.str++[.str zz]))=H9 at e9 hf9
  have rl1:(rows++[zz]).length=rows.length+1:=by rw[Au];rfl
  have fin:=fun(G:Hp) (e:A7 H4 G) (hG:G fo=some (.lst ((rows++[zz]).map V.str)))=>(⟨rows++[zz],_,_,_,rfl,e,hG,nz1,by omega,by omega⟩:∃(rows':List Str) (o6 o7 o8:Option V),[some (V.ref rl),some (V.int n),some (V.int c),some (V.ref l),some (V.ref rx),some (V.ref fo),some (V.int (i:Int)),some (V.int x),some (V.str zz)]=[some (V.ref rl),some (V.int n),some (V.int c),some (V.ref l),some (V.ref rx),some (V.ref fo),o6,o7,o8]/\A7 H4 G/\G fo=some (.lst (rows'.map V.str))/\Rd.Nz (kk.take (i+1)) rows'/\rows'.length<=2*(i+1)+2/\i+1<=rows'.length)
  refine⟨_,rfl,_,_,rfl,rfl,⟨by decide,by decide⟩,_,_,rfl,rfl,(by show(0:Int)<3;decide),rfl,_,rfl,?_⟩
  refine AD (fun _=>?_) (fun _=>Aq (fin _ e9 hf9))
  refine⟨_,rfl,_,_,rfl,rfl,(by show(0:Int)<4;decide),rfl,_,rfl,?_⟩
  refine AD (fun _=>?_) (fun _=>fin _ e9 hf9)
  refine⟨_,rfl,.inl ⟨rfl,_,A3.of hf9⟩,AG rfl,fun q4 hq4=>?_⟩
  have sq:=Ac hq4 (.lst [V.str "",V.str "  ",V.str ";",V.str " ; end"])
  have h0:=BU (x/15) (show(4:Int)≠0 by decide)
  have h1:=C0 (x/15) (show(0:Int)<4 by decide)
  obtain⟨u,hu,u1,u2,u3⟩:=Rd.pickB h0 h1
  refine⟨_,rfl,_,_,rfl,rfl,⟨by decide,by decide⟩,_,_,rfl,rfl,(by show(0:Int)<4;decide),q4,_,_,_,rfl,rfl,A3.of A6,hu,fo,_,_,rfl,rfl,sq _ _ hf9,Ce (by rw[Ap];omega),?_⟩
  have nz2:=nz1.no (z:=u) (by rw[rl1,Bh];omega) u1 ⟨by omega,u2⟩
  refine⟨rows++[zz]++[u],_,_,_,rfl,put (e9.trans sq),?_,nz2,by rw[Au,rl1];show _+1<=_;omega,by rw[Au,rl1];omega⟩
  rw[A6,B3 (l₂:=[u])]
  rfl
 obtain⟨rows,o6,o7,o8,rfl,eH,hfr,nz,rb,ri⟩:=pp
 rw[DN]at nz
 have nl1:("\n":Str).length=1:=by decide +kernel
 have sl1:=Rd.sum_le (n:=2000) (fun y hy=>(nz.1 y hy).1) (l:=rows)
 refine⟨rfl,_,rfl,_,fo,_,rfl,rfl,.inl (A3.of hfr),?_,?_⟩
 .rw[nl1]
  exact C5 (Nat.add_le_add_right sl1 _) (by omega)
 .exact q _ rows (e4.trans eH) (fun z=>by rw[z]at ri;exact absurd ri (by show ¬kk.length<=0;omega)) nz
theorem Nc (T:Tx w K mg a):AK P w K mg base AS 2 a.f_e a.d_e ["_law_found","_law_due"] Rd.spSpots23:=by
 have G_d :=@IT P w K mg base a T
 refine T.F_e.ok MF (fun vs H Q E h=>?_) (fun cdv A outer s H vs Q E hr h=>?_)
 .obtain⟨_,_,_,rfl,_⟩:=h;rfl
 obtain⟨p,p2,sp,rfl,⟨xs,hx,px⟩,⟨ys,hy,py⟩,sl,q⟩:=h
 refine⟨_,(@A5 _ _ _ _ _ (@AE _ _ _ _ _ _ _ _ ((@BL _ _ _ _ _ _ _ (@Cj _ _ _ _ (@Bx _ _ _ (@AR _ _ _ _ _ _ _ _ _ CT (by rfl) T.z_isinstance D6 (@A0 _ _ _ _ _ (pv 0) (@A0 _ _ _ _ _ (@FC _ _ (.ty "tuple") _ _ (by rfl) T.z_tuple DF rfl (by decide) (by decide)) A2 (by rfl)) (by rfl)) (by decide) (by decide) (by rfl) (by rfl)) (by intro _;rfl))) (@C8 _ _ _ _ (@An _ _ _ _ _ _ _ _ (@Ks _ (@Ez _ _ hr)) (pv 0) (pv 1) (@Am _ _ (by decide) (by decide)))))).pt (@A9 _ _ _ (@Al _ _ _ _ Bu)) AF) (@A5 _ _ _ _ _ (@EH _ _ _ _ _ _ _ _ PassesOwn.never rfl (@GZ _ _ _ _ (pv 0)) (Bv (i:=2) MF.nd rfl (.inl rfl)) (@A9 _ _ _ (@AE _ _ _ _ _ _ _ _ ((@BL _ _ _ _ _ _ _ (@Cj _ _ _ _ (@Bx _ _ _ (@AR _ _ _ _ _ _ _ _ _ CT (by rfl) T.z_isinstance D6 (@A0 _ _ _ _ _ (pv 2) (@A0 _ _ _ _ _ (@FC _ _ (.ty "tuple") _ _ (by rfl) T.z_tuple DF rfl (by decide) (by decide)) A2 (by rfl)) (by rfl)) (by decide) (by decide) (by rfl) (by rfl)) (by intro _;rfl))) (@C8 _ _ _ _ (@Cj _ _ _ _ (@Bx _ _ _ (@Av _ _ _ _ _ _ _ _ _ _ _ _ _ _ _ _ G_d (hr.mono (by omega)) (by rfl) T.m_d T.F_d.kp T.b_d .nil Ao (@A0 _ _ _ _ _ (@Af _ _ _ _ _ _ _ AH (pv 2) A1 (fun _ _=>rfl)) A2 (by rfl)) (by decide) (by rfl) (by rfl)) (by intro _;rfl)))))).pt (@A9 _ _ _ (@Al _ _ _ _ Bu)) AF)) (by intro _;rfl)) (@A9 _ _ _ (@Al _ _ _ _ Bu)))),?_⟩
 refine⟨_,rfl,_,_,_,_,_,rfl,rfl,.tup hx,rfl,_,rfl,Aq ?_⟩
 refine⟨_,rfl,_,rfl,Rd.ne_same (Rd.sps_tr ⟨xs,hx,px⟩) (Rd.sps_tr ⟨ys,hy,py⟩) (Rd.sps_dep sp) ⟨_,rfl,Aq ?_⟩⟩
 refine⟨_,rfl,p,rfl,⟨_,Ah.of hx⟩,?_⟩
 refine UE (xs:=xs) (fun i σ' H'=>H'=H/\∃o1,σ'=[some (.ref p),some (.ref p2),o1]) ⟨rfl,_,rfl⟩ (fun i σ' H' _ pp=>by obtain⟨rfl,_⟩:=pp;exact Ah.of hx) (fun i x σ' H' hxi pp=>?_) (fun σ' H' pp=>?_)
 .obtain⟨rfl,o1,rfl⟩:=pp
  obtain⟨s0,_,t,rfl,ht⟩:=px.get' hxi
  refine⟨_,rfl,_,_,_,_,_,rfl,rfl,.tup ht,rfl,_,rfl,Aq ?_⟩
  refine⟨_,rfl,t,_,1,_,rfl,rfl,Ah.of ht,rfl,_,rfl,rfl,_,rfl,Aq ?_⟩
  exact⟨rfl,_,rfl⟩
 .obtain⟨rfl,o1,rfl⟩:=pp
  exact q _ (A7.refl _)
theorem Mg (T:Tx w K mg a):∀n:Nat,AK P w K mg base AS (n+3) a.f_i a.d_i ["_law_term_here","_law_shape"] (Rd.spSame23 (BA a) n)
 |
  0=>by
  have no:∀vs H Q E,¬Rd.spSame23 (BA a) 0 vs H Q E:=fun vs H Q E h=>by
   obtain⟨x,y,t,_,_,_,_,hm,_⟩:=h
   have:=t.sz_pos
   omega
  exact⟨fun vs H Q E h=>absurd h (no vs H Q E),fun A outer s H args us vs Q E _ _ _ _ h=>absurd h (no vs H Q E)⟩
 |
  n+1=>by
  have G_d :=@IT P w K mg base a T
  have G_e :=@Nc P w K mg base a T
  have G_i:=Mg T n
  refine T.F_i.ok Rq (fun vs H Q E h=>?_) (fun cdv A outer s H vs Q E hr h=>?_)
  .obtain⟨_,_,_,rfl,_⟩:=h;rfl
  obtain⟨x,y,tm,rfl,hb,hs,ok,hm,q⟩:=h
  refine⟨_,(@A5 _ _ _ _ _ (@AE _ _ _ _ _ _ _ _ (@An _ _ _ _ _ _ _ _ Bk (@Af _ _ _ _ _ _ _ AH (pv 1) A1 (fun _ _=>rfl)) Aw (@Am _ _ (by decide) (by decide))) (@A9 _ _ _ (@Al _ _ _ _ (@Et _ _ _ _ _ _ _ (@AR _ _ _ _ _ _ _ _ _ CT (by rfl) T.z_isinstance D6 (@A0 _ _ _ _ _ (pv 0) (@A0 _ _ _ _ _ (@C3 _ _ (.ref a.c_Number) _ _ (by rfl) T.mc_Number rfl (by decide)) A2 (by rfl)) (by rfl)) (by decide) (by decide) (by rfl) (by rfl)) (@Et _ _ _ _ _ _ _ (@Av _ _ _ _ _ _ _ _ _ _ _ _ _ _ _ _ G_d (hr.mono (by omega)) (by rfl) T.m_d T.F_d.kp T.b_d .nil Ao (@A0 _ _ _ _ _ (@AM _ _ _ _ _ (pv 0) rfl) A2 (by rfl)) (by decide) (by rfl) (by rfl)) (@Er _ _ _ _ _ (@DI _ _ _ _ _ _ _ _ Bk (@AM _ _ _ _ _ (pv 0) rfl) (@Af _ _ _ _ _ _ _ AH (pv 1) A1 (fun _ _=>rfl)) (@Am _ _ (by decide) (by decide)))))))) AF) (@A5 _ _ _ _ _ (@AE _ _ _ _ _ _ _ _ (@An _ _ _ _ _ _ _ _ Bk (@Af _ _ _ _ _ _ _ AH (pv 1) A1 (fun _ _=>rfl)) Aw (@Am _ _ (by decide) (by decide))) (@A9 _ _ _ (@Al _ _ _ _ (@Et _ _ _ _ _ _ _ (@AR _ _ _ _ _ _ _ _ _ CT (by rfl) T.z_isinstance D6 (@A0 _ _ _ _ _ (pv 0) (@A0 _ _ _ _ _ (@C3 _ _ (.ref a.c_Value) _ _ (by rfl) T.mc_Value rfl (by decide)) A2 (by rfl)) (by rfl)) (by decide) (by decide) (by rfl) (by rfl)) (@Et _ _ _ _ _ _ _ (@AR _ _ _ _ _ _ _ _ _ CT (by rfl) T.z_isinstance D6 (@A0 _ _ _ _ _ (@AM _ _ _ _ _ (pv 0) rfl) (@A0 _ _ _ _ _ (@FC _ _ (.ty "str") _ _ (by rfl) T.z_str GX rfl (by decide) (by decide)) A2 (by rfl)) (by rfl)) (by decide) (by decide) (by rfl) (by rfl)) (@Er _ _ _ _ _ (@DI _ _ _ _ _ _ _ _ Bk (@AM _ _ _ _ _ (pv 0) rfl) (@Af _ _ _ _ _ _ _ AH (pv 1) A1 (fun _ _=>rfl)) (@Am _ _ (by decide) (by decide)))))))) AF) (@A5 _ _ _ _ _ (@AE _ _ _ _ _ _ _ _ (@An _ _ _ _ _ _ _ _ Bk (@Af _ _ _ _ _ _ _ AH (pv 1) A1 (fun _ _=>rfl)) Aw (@Am _ _ (by decide) (by decide))) (@A9 _ _ _ (@Al _ _ _ _ (@Et _ _ _ _ _ _ _ (@AR _ _ _ _ _ _ _ _ _ CT (by rfl) T.z_isinstance D6 (@A0 _ _ _ _ _ (pv 0) (@A0 _ _ _ _ _ (@C3 _ _ (.ref a.c_Cell) _ _ (by rfl) T.mc_Cell rfl (by decide)) A2 (by rfl)) (by rfl)) (by decide) (by decide) (by rfl) (by rfl)) (@Et _ _ _ _ _ _ _ (@DI _ _ _ _ _ _ _ _ Bk (@AM _ _ _ _ _ (pv 0) rfl) (@Af _ _ _ _ _ _ _ AH (pv 1) A1 (fun _ _=>rfl)) (@Am _ _ (by decide) (by decide))) (@Er _ _ _ _ _ (@Av _ _ _ _ _ _ _ _ _ _ _ _ _ _ _ _ G_e (hr.mono (by omega)) (by rfl) T.m_e T.F_e.kp T.b_e .nil Ao (@A0 _ _ _ _ _ (@AM _ _ _ _ _ (pv 0) rfl) (@A0 _ _ _ _ _ (@Af _ _ _ _ _ _ _ AH (pv 1) A1 (fun _ _=>rfl)) A2 (by rfl)) (by rfl)) (by decide) (by rfl) (by rfl))))))) AF) (@A5 _ _ _ _ _ (@AE _ _ _ _ _ _ _ _ ((@BL _ _ _ _ _ _ _ (@Cj _ _ _ _ (@Bx _ _ _ (@AR _ _ _ _ _ _ _ _ _ CT (by rfl) T.z_isinstance D6 (@A0 _ _ _ _ _ (pv 0) (@A0 _ _ _ _ _ (@C3 _ _ (.ref a.c_Joined) _ _ (by rfl) T.mc_Joined rfl (by decide)) A2 (by rfl)) (by rfl)) (by decide) (by decide) (by rfl) (by rfl)) (by intro _;rfl))) (@C8 _ _ _ _ (@An _ _ _ _ _ _ _ _ D3 (@AM _ _ _ _ _ (pv 0) rfl) (@Af _ _ _ _ _ _ _ AH (pv 1) A1 (fun _ _=>rfl)) (@Am _ _ (by decide) (by decide)))))).pt (@A9 _ _ _ (@Al _ _ _ _ Bu)) AF) (@A9 _ _ _ (@Al _ _ _ _ (@Et _ _ _ _ _ _ _ (@Av _ _ _ _ _ _ _ _ _ _ _ _ _ _ _ _ G_i (hr.mono (by omega)) (by rfl) T.m_i T.F_i.kp T.b_i .nil Ao (@A0 _ _ _ _ _ (@AM _ _ _ _ _ (pv 0) rfl) (@A0 _ _ _ _ _ (@Af _ _ _ _ _ _ _ AH (pv 1) A1 (fun _ _=>rfl)) A2 (by rfl)) (by rfl)) (by decide) (by rfl) (by rfl)) (@Er _ _ _ _ _ (@Av _ _ _ _ _ _ _ _ _ _ _ _ _ _ _ _ G_i (hr.mono (by omega)) (by rfl) T.m_i T.F_i.kp T.b_i .nil Ao (@A0 _ _ _ _ _ (@AM _ _ _ _ _ (pv 0) rfl) (@A0 _ _ _ _ _ (@Af _ _ _ _ _ _ _ AH (pv 1) A1 (fun _ _=>rfl)) A2 (by rfl)) (by rfl)) (by decide) (by rfl) (by rfl)))))))))),?_⟩
  cases tm with
  |
   n i=>
   obtain⟨t,rfl,h⟩:=hs
   obtain⟨o,dx,rfl,ho⟩:=hb
   refine⟨_,rfl,t,_,0,_,rfl,rfl,Ah.of h,rfl,rfl,_,rfl,CI (v:=true) (B5 rfl) (Be ?_)⟩
   refine⟨_,rfl,_,_,_,_,true,rfl,rfl,T.ty_Number _ _ _ _ ho,T.is_Number_Number,_,rfl,Be ?_⟩
   refine⟨_,rfl,o,_,dx,_,_,rfl,ho,T.cl_Number,T.n_Number_n,rfl,_,rfl,rfl,_,rfl,Be ?_⟩
   refine⟨_,rfl,o,_,dx,_,_,rfl,ho,T.cl_Number,T.n_Number_n,rfl,_,rfl,t,_,1,_,rfl,rfl,Ah.of h,rfl,rfl,?_⟩
   rw[show decide (V.int i=V.int i)=true from B5 rfl]
   exact q _ (A7.refl _)
  |
   v z=>
   obtain⟨t,rfl,h⟩:=hs
   obtain⟨o,dx,rfl,ho⟩:=hb
   refine⟨_,rfl,t,_,0,_,rfl,rfl,Ah.of h,rfl,rfl,_,rfl,CI (v:=false) (dS (by decide +kernel)) (Aq ?_)⟩
   refine⟨_,rfl,t,_,0,_,rfl,rfl,Ah.of h,rfl,rfl,_,rfl,CI (v:=true) (B5 rfl) (Be ?_)⟩
   refine⟨_,rfl,_,_,_,_,true,rfl,rfl,T.ty_Value _ _ _ _ ho,T.is_Value_Value,_,rfl,Be ?_⟩
   refine⟨_,rfl,o,_,dx,_,_,rfl,ho,T.cl_Value,T.n_Value_name,rfl,_,_,_,_,_,rfl,rfl,.str _,rfl,_,rfl,Be ?_⟩
   refine⟨_,rfl,o,_,dx,_,_,rfl,ho,T.cl_Value,T.n_Value_name,rfl,_,rfl,t,_,1,_,rfl,rfl,Ah.of h,rfl,rfl,?_⟩
   rw[show decide (V.str z=V.str z)=true from B5 rfl]
   exact q _ (A7.refl _)
  |
   c z sp=>
   obtain⟨t,p,rfl,h,hsp⟩:=hs
   obtain⟨o,dx,p2,rfl,ho,hsp2⟩:=hb
   refine⟨_,rfl,t,_,0,_,rfl,rfl,Ah.of h,rfl,rfl,_,rfl,CI (v:=false) (dS (by decide +kernel)) (Aq ?_)⟩
   refine⟨_,rfl,t,_,0,_,rfl,rfl,Ah.of h,rfl,rfl,_,rfl,CI (v:=false) (dS (by decide +kernel)) (Aq ?_)⟩
   refine⟨_,rfl,t,_,0,_,rfl,rfl,Ah.of h,rfl,rfl,_,rfl,CI (v:=true) (B5 rfl) (Be ?_)⟩
   refine⟨_,rfl,_,_,_,_,true,rfl,rfl,T.ty_Cell _ _ _ _ ho,T.is_Cell_Cell,_,rfl,Be ?_⟩
   refine⟨_,rfl,o,_,dx,_,_,rfl,ho,T.cl_Cell,T.n_Cell_table,rfl,_,rfl,t,_,1,_,rfl,rfl,Ah.of h,rfl,rfl,_,rfl,CI (v:=true) (B5 rfl) (Be ?_)⟩
   exact⟨_,rfl,o,_,dx,_,_,rfl,ho,T.cl_Cell,T.n_Cell_spots,rfl,_,rfl,t,_,2,_,rfl,rfl,Ah.of h,rfl,p2,p,sp,rfl,hsp2,hsp,by have:=ok.2.1;omega,q⟩
  |
   j z l r=>
   obtain⟨t,sx,sy,rfl,h,tl,tr⟩:=hs
   obtain⟨o,dx,xa,xb,rfl,ho,ol,or'⟩:=hb
   obtain⟨hz,okl,okr⟩:=ok
   obtain⟨z1,z2,z3⟩:=Qc hz
   have:=l.sz_pos
   have:=r.sz_pos
   have hm:l.sz+r.sz<=n+1:=hm
   refine⟨_,rfl,t,_,0,_,rfl,rfl,Ah.of h,rfl,rfl,_,rfl,CI (v:=false) (dS z1) (Aq ?_)⟩
   refine⟨_,rfl,t,_,0,_,rfl,rfl,Ah.of h,rfl,rfl,_,rfl,CI (v:=false) (dS z2) (Aq ?_)⟩
   refine⟨_,rfl,t,_,0,_,rfl,rfl,Ah.of h,rfl,rfl,_,rfl,CI (v:=false) (dS z3) (Aq ?_)⟩
   refine⟨_,rfl,_,_,_,_,true,rfl,rfl,T.ty_Joined _ _ _ _ ho,T.is_Joined_Joined,_,rfl,Aq ?_⟩
   refine⟨_,rfl,o,_,dx,_,_,rfl,ho,T.cl_Joined,T.n_Joined_sign,rfl,_,rfl,t,_,0,_,rfl,rfl,Ah.of h,rfl,rfl,_,rfl,CI (v:=false) (Hq rfl) (Aq ?_)⟩
   refine⟨_,rfl,o,_,dx,_,_,rfl,ho,T.cl_Joined,T.n_Joined_left,rfl,_,rfl,t,_,1,_,rfl,rfl,Ah.of h,rfl,xa,sx,l,rfl,ol,tl,okl,by omega,fun H1 e1=>⟨_,rfl,Be ?_⟩⟩
   exact⟨_,rfl,o,_,dx,_,_,rfl,e1 _ _ ho,T.cl_Joined,T.n_Joined_right,rfl,_,rfl,t,_,2,_,rfl,rfl,Ah.of (e1 _ _ h),rfl,xb,sy,r,rfl,or'.over e1,tr.tk (A7.tk e1),okr,by omega,fun H2 e2=>q _ (e1.trans e2)⟩
theorem Rm (T:Tx w K mg a):AK P w K mg base AS 9 a.f_R a.d_R ["_law_found","_law_due"] (Rd.spKept a.c_Deed (BA a)):=by
 have G_d :=@IT P w K mg base a T
 have G_e :=@Nc P w K mg base a T
 have G_i :=@Mg P w K mg base a T 5
 refine T.F_R.ok Ry (fun vs H Q E h=>?_) (fun cdv A outer s H vs Q E hr h=>?_)
 .obtain⟨_,_,_,_,rfl,_⟩:=h;rfl
 obtain⟨ns,x,y,D,rfl,hx,hy,hD,l3,p10,q⟩:=h
 refine⟨_,(@A5 _ _ _ _ _ (@AE _ _ _ _ _ _ _ _ ((@BL _ _ _ _ _ _ _ (@Cj _ _ _ _ (@Bx _ _ _ (@AR _ _ _ _ _ _ _ _ _ CT (by rfl) T.z_isinstance D6 (@A0 _ _ _ _ _ (@AM _ _ _ _ _ (pv 0) rfl) (@A0 _ _ _ _ _ (@FC _ _ (.ty "tuple") _ _ (by rfl) T.z_tuple DF rfl (by decide) (by decide)) A2 (by rfl)) (by rfl)) (by decide) (by decide) (by rfl) (by rfl)) (by intro _;rfl))) (@C8 _ _ _ _ (@An _ _ _ _ _ _ _ _ (@Ks _ (@Ez _ _ hr)) (@AM _ _ _ _ _ (pv 0) rfl) (@CQ _ _ _ _ _ _ _ _ _ EM (by rfl) T.z_tuple DF (@A0 _ _ _ _ _ (@Dh _ _ _ _ _ _ _ ["_law_one"] [none] _ _ _ _ (by rfl) (@DC _ _ _ _ (@Af _ _ _ _ _ _ _ AH (pv 1) A1 (fun _ _=>rfl))) QC (fun _ _ _ _ _ _=>⟨(Bv (i:=0) RY rfl (.inl rfl)),@DZ _,(@Af _ _ _ _ _ _ _ (show DA _ (Fy K) from AH) (pv 0) A1 (fun _ _=>rfl))⟩) (by intro _;rfl)) A2 (by rfl)) (by decide) (by decide) (by rfl) (by rfl)) (@Am _ _ (by decide) (by decide)))))).pt (@A9 _ _ _ (@Al _ _ _ _ Bu)) AF) (@A5 _ _ _ _ _ (@AE _ _ _ _ _ _ _ _ (@Cj _ _ _ _ (@Bx _ _ _ (@Av _ _ _ _ _ _ _ _ _ _ _ _ _ _ _ _ G_e (hr.mono (by omega)) (by rfl) T.m_e T.F_e.kp T.b_e .nil Ao (@A0 _ _ _ _ _ (@AM _ _ _ _ _ (pv 0) rfl) (@A0 _ _ _ _ _ (@CQ _ _ _ _ _ _ _ _ _ EM (by rfl) T.z_tuple DF (@A0 _ _ _ _ _ (@Dh _ _ _ _ _ _ _ ["_law_one"] [none] _ _ _ _ (by rfl) (@DC _ _ _ _ (@Af _ _ _ _ _ _ _ AH (pv 1) A1 (fun _ _=>rfl))) Vk (fun _ _ _ _ _ _=>⟨(Bv (i:=0) T7 rfl (.inl rfl)),@DZ _,(@Af _ _ _ _ _ _ _ (show DA _ (Fy K) from AH) (pv 0) A1 (fun _ _=>rfl))⟩) (by intro _;rfl)) A2 (by rfl)) (by decide) (by decide) (by rfl) (by rfl)) A2 (by rfl)) (by rfl)) (by decide) (by rfl) (by rfl)) (by intro _;rfl))) (@A9 _ _ _ (@Al _ _ _ _ Bu)) AF) (@A5 _ _ _ _ _ (@AE _ _ _ _ _ _ _ _ ((@BL _ _ _ _ _ _ _ (@Cj _ _ _ _ (@Bx _ _ _ (@Av _ _ _ _ _ _ _ _ _ _ _ _ _ _ _ _ G_e (hr.mono (by omega)) (by rfl) T.m_e T.F_e.kp T.b_e .nil Ao (@A0 _ _ _ _ _ (@AM _ _ _ _ _ (pv 0) rfl) (@A0 _ _ _ _ _ (@CQ _ _ _ _ _ _ _ _ _ EM (by rfl) T.z_tuple DF (@A0 _ _ _ _ _ (@Dh _ _ _ _ _ _ _ ["_law_one"] [none] _ _ _ _ (by rfl) (@DC _ _ _ _ (@Af _ _ _ _ _ _ _ AH (pv 1) A1 (fun _ _=>rfl))) U4 (fun _ _ _ _ _ _=>⟨(Bv (i:=0) Tc rfl (.inl rfl)),@DZ _,(@Af _ _ _ _ _ _ _ (show DA _ (Fy K) from AH) (pv 0) A1 (fun _ _=>rfl))⟩) (by intro _;rfl)) A2 (by rfl)) (by decide) (by decide) (by rfl) (by rfl)) A2 (by rfl)) (by rfl)) (by decide) (by rfl) (by rfl)) (by intro _;rfl))) (@C8 _ _ _ _ (@An _ _ _ _ _ _ _ _ D3 (@AM _ _ _ _ _ (pv 0) rfl) (@Af _ _ _ _ _ _ _ AH (pv 1) A1 (fun _ _=>rfl)) (@Am _ _ (by decide) (by decide)))))).pt (@A9 _ _ _ (@Al _ _ _ _ Bu)) AF) (@A5 _ _ _ _ _ (@AE _ _ _ _ _ _ _ _ ((@BL _ _ _ _ _ _ _ (@Cj _ _ _ _ (@Bx _ _ _ (@AR _ _ _ _ _ _ _ _ _ CT (by rfl) T.z_isinstance D6 (@A0 _ _ _ _ _ (@AM _ _ _ _ _ (pv 0) rfl) (@A0 _ _ _ _ _ (@FC _ _ (.ty "tuple") _ _ (by rfl) T.z_tuple DF rfl (by decide) (by decide)) A2 (by rfl)) (by rfl)) (by decide) (by decide) (by rfl) (by rfl)) (by intro _;rfl))) (@C8 _ _ _ _ (@An _ _ _ _ _ _ _ _ (@Ks _ (@Ez _ _ hr)) (@AM _ _ _ _ _ (pv 0) rfl) (@Af _ _ _ _ _ _ _ AH (pv 1) A1 (fun _ _=>rfl)) (@Am _ _ (by decide) (by decide)))))).pt (@A9 _ _ _ (@Al _ _ _ _ Bu)) AF) (@A5 _ _ _ _ _ (@AE _ _ _ _ _ _ _ _ (@An _ _ _ _ _ _ _ _ D3 (@AR _ _ _ _ _ _ _ _ _ BJ (by rfl) T.z_len Bo (@A0 _ _ _ _ _ (@Dh _ _ _ _ _ _ _ ["_law_at"] [none] _ _ _ _ (by rfl) (@GZ _ _ _ _ (@AM _ _ _ _ _ (pv 0) rfl)) T4 (fun _ _ _ _ _ _=>⟨(Bv (i:=0) Q4 rfl (.inl rfl)),(by exact(ID (Bx (Av G_d (hr.mono (by omega)) (by rfl) T.m_d T.F_d.kp T.b_d .nil Ao (A0 (pv 0) A2))))),(pv 0)⟩) (by intro _;rfl)) A2 (by rfl)) (by decide) (by decide) (by rfl) (by rfl)) (@AR _ _ _ _ _ _ _ _ _ BJ (by rfl) T.z_len Bo (@A0 _ _ _ _ _ (@Af _ _ _ _ _ _ _ AH (pv 1) A1 (fun _ _=>rfl)) A2 (by rfl)) (by decide) (by decide) (by rfl) (by rfl)) (@Am _ _ (by decide) (by decide))) (@A9 _ _ _ (@Al _ _ _ _ Bu)) AF) (@A9 _ _ _ (@Al _ _ _ _ (@Et _ _ _ _ _ _ _ (@Av _ _ _ _ _ _ _ _ _ _ _ _ _ _ _ _ G_e (hr.mono (by omega)) (by rfl) T.m_e T.F_e.kp T.b_e .nil Ao (@A0 _ _ _ _ _ (@AM _ _ _ _ _ (pv 0) rfl) (@A0 _ _ _ _ _ (@Af _ _ _ _ _ _ _ AH (pv 1) A1 (fun _ _=>rfl)) A2 (by rfl)) (by rfl)) (by decide) (by rfl) (by rfl)) (@Er _ _ _ _ _ (@Av _ _ _ _ _ _ _ _ _ _ _ _ _ _ _ _ G_i (hr.mono (by omega)) (by rfl) T.m_i T.F_i.kp T.b_i .nil Ao (@A0 _ _ _ _ _ (@AM _ _ _ _ _ (pv 0) rfl) (@A0 _ _ _ _ _ (@Af _ _ _ _ _ _ _ AH (pv 1) A1 (fun _ _=>rfl)) A2 (by rfl)) (by rfl)) (by decide) (by rfl) (by rfl))))))))))),?_⟩
 obtain⟨px,dx,nm,lo,hi,ps,pt,ob,ls,hs,rfl,h0,h1,h2,h3,h4,h5,h6,h7,h8⟩:=hx
 obtain⟨o,py,ps',pt',sh,rfl,g0,⟨vs,g1,g1a⟩,g2,g3,g4⟩:=hy
 have vl:=g1a.1
 refine⟨_,rfl,px,_,dx,_,_,rfl,h0,T.cl_Deed,T.n_Deed_names,rfl,_,_,_,_,_,rfl,rfl,.tup h1,rfl,_,rfl,Aq ?_⟩
 have nmf:(D.loops.map fun t=>V.str t.nm)=(Rd.lnm D.loops).map V.str:=by unfold Rd.lnm;rw[GP];rfl
 have h1':=h1
 rw[nmf]at h1'
 refine⟨_,rfl,px,_,dx,_,_,rfl,h0,T.cl_Deed,T.n_Deed_names,rfl,_,rfl,py,_,0,_,rfl,rfl,Ah.of g0,rfl,o,rfl,⟨_,A3.of g1⟩,?_⟩
 refine F0 (xs:=vs) (fun i ys H'=>H'=H/\ys=(Rd.lnm (D.loops.take i)).map V.str) ⟨rfl,rfl⟩ (Ax (by omega)) (fun i ys H' hi pp=>⟨by rw[pp.1];exact A3.of g1,by rw[pp.2];unfold Rd.lnm;rw[Ap,Ap,Bh];omega⟩) (fun i x ys H' hc pp=>?_) (fun ys H' pp r1 hr1=>?_)
 .obtain⟨rfl,rfl⟩:=pp
  obtain⟨t,ht,p,xa,xb,rfl,hp,_,_⟩:=g1a.get' hc
  refine⟨_,rfl,p,_,0,_,rfl,rfl,Ah.of hp,rfl,rfl,?_⟩
  unfold Rd.lnm
  rw[Di ht,B3,B3]
  rfl
 obtain⟨rfl,rfl⟩:=pp
 rw[vl,DN]
 refine⟨r1,_,rfl,.inl ⟨A3.of A6,fun tp htp=>?_⟩⟩
 have s1:=(Ac hr1 (.lst ((Rd.lnm D.loops).map V.str))).trans (Ac htp (.tup ((Rd.lnm D.loops).map V.str)))
 refine Rd.flat_ne (Rd.flat_strs _) (s1 _ _ h1') A6 ⟨_,rfl,Aq ?_⟩
 generalize upd (upd H' r1 (.lst ((Rd.lnm D.loops).map V.str))) tp (.tup ((Rd.lnm D.loops).map V.str))=H1 at s1
 refine⟨_,rfl,px,_,dx,_,_,rfl,s1 _ _ h0,T.cl_Deed,T.n_Deed_lows,rfl,_,rfl,py,_,0,_,rfl,rfl,Ah.of (s1 _ _ g0),rfl,o,rfl,⟨_,A3.of (s1 _ _ g1)⟩,?_⟩
 refine F0 (xs:=vs) (fun i ys H''=>H''=H1/\AC (BY H1) ys ((D.loops.take i).map Ak.lo)) ⟨rfl,.nil⟩ (Ax (by omega)) (fun i ys H'' hi pp=>⟨by rw[pp.1];exact A3.of (s1 _ _ g1),by rw[pp.2.1,Ap,Bh];omega⟩) (fun i x ys H'' hc pp=>?_) (fun ys H'' pp r1 hr1=>?_)
 .obtain⟨rfl,pa⟩:=pp
  obtain⟨t,ht,p,xa,xb,rfl,hp,ha,hb⟩:=g1a.get' hc
  refine⟨_,rfl,p,_,1,_,rfl,rfl,Ah.of (s1 _ _ hp),rfl,rfl,?_⟩
  rw[Di ht,B3]
  exact pa.snoc (ha.tk (A7.tk s1))
 obtain⟨rfl,pa⟩:=pp
 rw[vl,DN]at pa
 refine⟨r1,_,rfl,.inl ⟨A3.of A6,fun tp htp=>?_⟩⟩
 have sn:=(Ac hr1 (.lst ys)).trans (Ac htp (.tup ys))
 refine⟨lo,tp,D.loops.map Ak.lo,rfl,⟨_,(s1.trans sn) _ _ h2,(Rd.all2_map h3).mono fun _ _ z=>z.tk (A7.tk (s1.trans sn))⟩,⟨_,A6,pa.mono fun _ _ z=>z.tk (A7.tk sn)⟩,by rw[Ap];omega,fun H2 e2=>⟨_,rfl,Aq ?_⟩⟩
 have s2:=s1.trans (sn.trans e2)
 clear e2 sn pa
 refine⟨_,rfl,px,_,dx,_,_,rfl,s2 _ _ h0,T.cl_Deed,T.n_Deed_highs,rfl,_,rfl,py,_,0,_,rfl,rfl,Ah.of (s2 _ _ g0),rfl,o,rfl,⟨_,A3.of (s2 _ _ g1)⟩,?_⟩
 refine F0 (xs:=vs) (fun i ys H''=>H''=H2/\AC (BY H2) ys ((D.loops.take i).map Ak.hi)) ⟨rfl,.nil⟩ (Ax (by omega)) (fun i ys H'' hi pp=>⟨by rw[pp.1];exact A3.of (s2 _ _ g1),by rw[pp.2.1,Ap,Bh];omega⟩) (fun i x ys H'' hc pp=>?_) (fun ys H'' pp r1 hr1=>?_)
 .obtain⟨rfl,pa⟩:=pp
  obtain⟨t,ht,p,xa,xb,rfl,hp,ha,hb⟩:=g1a.get' hc
  refine⟨_,rfl,p,_,2,_,rfl,rfl,Ah.of (s2 _ _ hp),rfl,rfl,?_⟩
  rw[Di ht,B3]
  exact pa.snoc (hb.tk (A7.tk s2))
 obtain⟨rfl,pa⟩:=pp
 rw[vl,DN]at pa
 refine⟨r1,_,rfl,.inl ⟨A3.of A6,fun tp htp=>?_⟩⟩
 have sn:=(Ac hr1 (.lst ys)).trans (Ac htp (.tup ys))
 refine⟨hi,tp,D.loops.map Ak.hi,rfl,⟨_,(s2.trans sn) _ _ h4,(Rd.all2_map h5).mono fun _ _ z=>z.tk (A7.tk (s2.trans sn))⟩,⟨_,A6,pa.mono fun _ _ z=>z.tk (A7.tk sn)⟩,by rw[Ap];omega,fun H3 e3=>⟨_,rfl,Aq ?_⟩⟩
 have s3:=s2.trans (sn.trans e3)
 clear e3 sn pa
 refine⟨_,rfl,px,_,dx,_,_,rfl,s3 _ _ h0,T.cl_Deed,T.n_Deed_table,rfl,_,rfl,py,_,1,_,rfl,rfl,Ah.of (s3 _ _ g0),rfl,rfl,_,rfl,CI (v:=false) (Hq rfl) (Aq ?_)⟩
 refine⟨_,rfl,px,_,dx,_,_,rfl,s3 _ _ h0,T.cl_Deed,T.n_Deed_path,rfl,_,_,_,_,_,rfl,rfl,.tup (s3 _ _ h8),rfl,_,rfl,Aq ?_⟩
 refine⟨_,rfl,px,_,dx,_,_,rfl,s3 _ _ h0,T.cl_Deed,T.n_Deed_path,rfl,_,rfl,py,_,4,_,rfl,rfl,Ah.of (s3 _ _ g0),rfl,Rd.flat_ne (Rd.flat_ints _) (s3 _ _ h8) (s3 _ _ g4) ⟨_,rfl,Aq ?_⟩⟩
 refine⟨_,rfl,px,_,dx,_,_,rfl,s3 _ _ h0,T.cl_Deed,T.n_Deed_path,rfl,pt,rfl,⟨_,Ah.of (s3 _ _ h8)⟩,?_⟩
 refine IR (xs:=D.path.map V.int) (fun i ys H''=>H''=H3/\ys.length=i) ⟨rfl,rfl⟩ (Ax (by rw[Ap];omega)) (fun i ys H'' hi pp=>⟨by rw[pp.1];exact Ah.of (s3 _ _ h8),by rw[pp.2];exact Ai _⟩) (fun i x ys H'' hc pp=>?_) (fun ys H'' pp r1 hr1=>?_)
 .obtain⟨rfl,yl⟩:=pp
  rw[D8]at hc
  cases hk:D.path[i]? with
  |none=>rw[hk]at hc;cases hc
  |
   some k=>
   rw[hk]at hc
   cases hc
   refine⟨_,rfl,_,rfl,rfl,_,rfl,Be ?_⟩
   exact⟨_,rfl,rfl,by rw[Au,yl];rfl⟩
 obtain⟨rfl,yl⟩:=pp
 have sn:=Ac hr1 (.lst ys)
 refine⟨r1,_,rfl,.inl (A3.of A6),_,rfl,py,_,4,_,rfl,rfl,Ah.of ((s3.trans sn) _ _ g0),rfl,pt',_,rfl,.inr (Ah.of ((s3.trans sn) _ _ g4)),rfl,_,rfl,CI (v:=false) (Hq (by rw[yl])) (Aq ?_)⟩
 have s4:=s3.trans sn
 generalize upd H'' r1 (.lst ys)=H4 at s4
 refine⟨_,rfl,px,_,dx,_,_,rfl,s4 _ _ h0,T.cl_Deed,T.n_Deed_spots,rfl,_,rfl,py,_,2,_,rfl,rfl,Ah.of (s4 _ _ g0),rfl,ps,ps',D.sp,rfl,h6.tk (A7.tk s4),g2.tk (A7.tk s4),by have:=hD.c.ok.2.2.1;omega,fun H5 e5=>⟨_,rfl,Be ?_⟩⟩
 have s5:=s4.trans e5
 exact⟨_,rfl,px,_,dx,_,_,rfl,s5 _ _ h0,T.cl_Deed,T.n_Deed_term,rfl,_,rfl,py,_,3,_,rfl,rfl,Ah.of (s5 _ _ g0),rfl,ob,sh,D.tm,rfl,h7.over s5,g3.tk (A7.tk s5),hD.t.ok,hD.s,fun H6 e6=>q _ (s5.trans e6)⟩
theorem VU (T:Tx w K mg a):AK P w K mg base AS 10 a.f_v a.d_v ["_law_found","_law_size","_law_deeds"] (Rd.spGood a.c_Program a.c_Deed (BA a)):=by
 have G_d :=@IT P w K mg base a T
 have G_R :=@Rm P w K mg base a T
 refine T.F_v.ok Qp (fun vs H Q E h=>?_) (fun cdv A outer s H vs Q E hr h=>?_)
 .obtain⟨_,_,_,_,_,_,rfl,_⟩:=h;rfl
 obtain⟨ns,v,n,dl,ys,Ds,rfl,hP,hdl,ay,okD,d10,q⟩:=h
 refine⟨_,(@A5 _ _ _ _ _ (@AE _ _ _ _ _ _ _ _ ((@BL _ _ _ _ _ _ _ (@Cj _ _ _ _ (@Bx _ _ _ (@Av _ _ _ _ _ _ _ _ _ _ _ _ _ _ _ _ G_d (hr.mono (by omega)) (by rfl) T.m_d T.F_d.kp T.b_d .nil Ao (@A0 _ _ _ _ _ (@AM _ _ _ _ _ (pv 0) rfl) A2 (by rfl)) (by decide) (by rfl) (by rfl)) (by intro _;rfl))) (@C8 _ _ _ _ (@An _ _ _ _ _ _ _ _ D3 (@AM _ _ _ _ _ (pv 0) rfl) (pv 1) (@Am _ _ (by decide) (by decide)))))).pt (@A9 _ _ _ (@Al _ _ _ _ Bu)) AF) (@A5 _ _ _ _ _ (@AE _ _ _ _ _ _ _ _ ((@BL _ _ _ _ _ _ _ (@Cj _ _ _ _ (@Bx _ _ _ (@AR _ _ _ _ _ _ _ _ _ CT (by rfl) T.z_isinstance D6 (@A0 _ _ _ _ _ (@AM _ _ _ _ _ (pv 0) rfl) (@A0 _ _ _ _ _ (@FC _ _ (.ty "list") _ _ (by rfl) T.z_list O7 rfl (by decide) (by decide)) A2 (by rfl)) (by rfl)) (by decide) (by decide) (by rfl) (by rfl)) (by intro _;rfl))) (@C8 _ _ _ _ (@An _ _ _ _ _ _ _ _ D3 (@AR _ _ _ _ _ _ _ _ _ BJ (by rfl) T.z_len Bo (@A0 _ _ _ _ _ (@AM _ _ _ _ _ (pv 0) rfl) A2 (by rfl)) (by decide) (by decide) (by rfl) (by rfl)) (@AR _ _ _ _ _ _ _ _ _ BJ (by rfl) T.z_len Bo (@A0 _ _ _ _ _ (pv 2) A2 (by rfl)) (by decide) (by decide) (by rfl) (by rfl)) (@Am _ _ (by decide) (by decide)))))).pt (@A9 _ _ _ (@Al _ _ _ _ Bu)) AF) (@A9 _ _ _ (@Al _ _ _ _ (@DI _ _ _ _ _ _ _ _ Bk (@AR _ _ _ _ _ _ _ _ _ BJ (by rfl) T.z_len Bo (@A0 _ _ _ _ _ (@Dh _ _ _ _ _ _ _ ["_law_k","_law_deeds","_law_found"] [none,some 2,some 0] _ _ _ _ (by rfl) (@Hj _ _ _ _ _ _ (by rfl) T.z_range (@A0 _ _ _ _ _ (@AR _ _ _ _ _ _ _ _ _ BJ (by rfl) T.z_len Bo (@A0 _ _ _ _ _ (pv 2) A2 (by rfl)) (by decide) (by decide) (by rfl) (by rfl)) A2 (by rfl)) (by rfl)) RF (fun _ _ _ _ _ _=>⟨(Bv (i:=0) SG rfl (.inl rfl)),(by exact(ID (Bx (Av G_R (hr.mono (by omega)) (by rfl) T.m_R T.F_R.kp T.b_R .nil Ao (A0 (Af (show DA _ (HJ K) from AV) (show PE _ _ (KD K _ "deeds") from AM (pv 2) rfl) (pv 0) (fun _ _=>rfl)) (A0 (Af (show DA _ (HJ K) from AV) (pv 1) (pv 0) (fun _ _=>rfl)) A2)))))),(pv 0)⟩) (by intro _;rfl)) A2 (by rfl)) (by decide) (by decide) (by rfl) (by rfl)) (@AR _ _ _ _ _ _ _ _ _ BJ (by rfl) T.z_len Bo (@A0 _ _ _ _ _ (pv 2) A2 (by rfl)) (by decide) (by decide) (by rfl) (by rfl)) (@Am _ _ (by decide) (by decide))))))),?_⟩
 obtain⟨x,dx,fl,rfl,hx,ds,hfl,pds⟩:=hP
 have yl:=ay.1
 have dl1:=pds.1
 refine⟨_,rfl,x,_,dx,_,_,rfl,hx,T.cl_Program,T.n_Program_size,rfl,_,rfl,rfl,_,rfl,Aq ?_⟩
 refine⟨_,rfl,x,_,dx,_,_,rfl,hx,T.cl_Program,T.n_Program_size,rfl,_,rfl,rfl,_,rfl,CI (v:=false) (Hq rfl) (Aq ?_)⟩
 refine⟨_,rfl,x,_,dx,_,_,rfl,hx,T.cl_Program,T.n_Program_deeds,rfl,_,_,_,_,_,rfl,rfl,.lst hfl,rfl,_,rfl,Aq ?_⟩
 refine⟨_,rfl,x,_,dx,_,_,rfl,hx,T.cl_Program,T.n_Program_deeds,rfl,fl,_,rfl,.inl (A3.of hfl),_,rfl,dl,_,rfl,.inl (A3.of hdl),rfl,_,rfl,?_⟩
 refine CI (v:=false) (Hq (by rw[dl1,yl])) (Aq ?_)
 dsimp only[GE]
 refine⟨_,rfl,dl,_,rfl,.inl (A3.of hdl),_,rfl,by omega,by omega,?_⟩
 rw[Fj]
 refine MK (lo:=0) (n:=ys.length) (fun i zs H'=>A7 H H'/\zs.length=i) ⟨A7.refl _,rfl⟩ (Ax (by omega)) (fun i zs H' hi pp=>by rw[pp.2];exact Ai _) (fun i zs H' hi pp=>?_) (fun zs H' pp r1 hr1=>?_)
 .obtain⟨e,zl⟩:=pp
  have ei:0+(i:Int)=(i:Int):=Int.zero_add _
  rw[ei]
  have hyi:ys[i]?=some ys[i]:=Bg hi
  obtain⟨D,hDi,hyD⟩:=ay.get' hyi
  obtain⟨xv,hxi,hxD⟩:=pds.get hDi
  obtain⟨k1,k2,k3⟩:=okD D (CK hDi)
  refine⟨_,rfl,x,_,dx,_,_,rfl,e _ _ hx,T.cl_Program,T.n_Program_deeds,rfl,_,rfl,fl,_,_,_,rfl,rfl,A3.of (e _ _ hfl),EG hxi,_,rfl,_,rfl,dl,_,_,_,rfl,rfl,A3.of (e _ _ hdl),EG hyi,ns,xv,ys[i],D,rfl,hxD.over e,hyD.over e,k1,k2,k3,fun H2 e2=>⟨_,rfl,Be ?_⟩⟩
  exact⟨_,rfl,e.trans e2,by rw[Au,zl];rfl⟩
 obtain⟨e,zl⟩:=pp
 have sn:=Ac hr1 (.lst zs)
 refine⟨r1,_,rfl,.inl (A3.of A6),_,rfl,dl,_,rfl,.inl (A3.of ((e.trans sn) _ _ hdl)),rfl,?_⟩
 rw[show decide (V.int ((zs.length:Nat):Int)=V.int ((ys.length:Nat):Int))=true from B5 (by rw[zl])]
 exact q _ (e.trans sn)
theorem ok_law (T:Tx w K mg a):AK P w K mg base AS 90 a.f_S a.d_S ["_law_script"] (Lz K):=by
 have G_k :=@QT P w K mg base a T
 have G_L :=@SF P w K mg base a T
 have G_O :=@Vv P w K mg base a T
 have G_r :=@Tf P w K mg base a T
 have G_Q :=@Pb P w K mg base a T
 have G_v :=@VU P w K mg base a T
 refine T.F_S.ok FV (fun vs H Q E h=>?_) (fun cdv A outer s H vs Q E hr h=>?_)
 .obtain⟨_,_,rfl,_⟩:=h;rfl
 obtain⟨p,ns,rfl,hp,h63,_,q⟩:=h
 refine⟨_,(@A5 _ _ _ _ _ (@Aj _ _ (1) _ _ _ _ FV.nd rfl (.inl rfl) (@Av _ _ _ _ _ _ _ _ _ _ _ _ _ _ _ _ G_L (hr.mono (by omega)) (by rfl) T.m_L T.F_L.kp T.b_L .nil Ao (@A0 _ _ _ _ _ (@Av _ _ _ _ _ _ _ _ _ _ _ _ _ _ _ _ G_k (hr.mono (by omega)) (by rfl) T.m_k T.F_k.kp T.b_k .nil Ao (@A0 _ _ _ _ _ (pv 0) (@A0 _ _ _ _ _ A1 A2 (by rfl)) (by rfl)) (by decide) (by rfl) (by rfl)) (@A0 _ _ _ _ _ A1 A2 (by rfl)) (by rfl)) (by decide) (by rfl) (by rfl)) (by rfl) (by first|exact .inl rfl|exact .inr rfl|assumption)) (@A5 _ _ _ _ _ (@Aj _ _ (2) _ _ _ _ FV.nd rfl (.inl rfl) (@Aa _ _ _ _ _ _ _ _ C1 A1 (@Aa _ _ _ _ _ _ _ _ Bf (@Av _ _ _ _ _ _ _ _ _ _ _ _ _ _ _ _ G_k (hr.mono (by omega)) (by rfl) T.m_k T.F_k.kp T.b_k .nil Ao (@A0 _ _ _ _ _ (pv 0) (@A0 _ _ _ _ _ A1 A2 (by rfl)) (by rfl)) (by decide) (by rfl) (by rfl)) (@Aa _ _ _ _ _ _ _ _ Fq (@Aa _ _ _ _ _ _ _ _ Lq A1 A1) A1))) (by rfl) (by first|exact .inl rfl|exact .inr rfl|assumption)) (@A5 _ _ _ _ _ (@M9 _ _ _ _ _ _ (@Av _ _ _ _ _ _ _ _ _ _ _ _ _ _ _ _ G_O (hr.mono (by omega)) (by rfl) T.m_O T.F_O.kp T.b_O .nil Ao (@A0 _ _ _ _ _ (@D1 _ _ _ _ _ _ _ _ _ _ F9 (pv 0) (@Cy _ _ _ A1) (@Cy _ _ _ A1)) (@A0 _ _ _ _ _ (pv 1) A2 (by rfl)) (by rfl)) (by decide) (by rfl) (by rfl)) (Jp rfl (Fg (Bv (i:=3) FV.nd rfl (.inl rfl)) (Fg (Bv (i:=4) FV.nd rfl (.inl rfl)) JO))) (by rfl) (by rfl) (by rfl)) (@A5 _ _ _ _ _ (@Aj _ _ (5) _ _ _ _ FV.nd rfl (.inl rfl) (@Av _ _ _ _ _ _ _ _ _ _ _ _ _ _ _ _ G_Q (hr.mono (by omega)) (by rfl) T.m_Q T.F_Q.kp T.b_Q .nil Ao (@A0 _ _ _ _ _ (pv 3) (@A0 _ _ _ _ _ (pv 2) (@A0 _ _ _ _ _ (@Av _ _ _ _ _ _ _ _ _ _ _ _ _ _ _ _ G_k (hr.mono (by omega)) (by rfl) T.m_k T.F_k.kp T.b_k .nil Ao (@A0 _ _ _ _ _ (pv 0) (@A0 _ _ _ _ _ A1 A2 (by rfl)) (by rfl)) (by decide) (by rfl) (by rfl)) A2 (by rfl)) (by rfl)) (by rfl)) (by decide) (by rfl) (by rfl)) (by rfl) (by first|exact .inl rfl|exact .inr rfl|assumption)) (@A5 _ _ _ _ _ (@Aj _ _ (6) _ _ _ _ FV.nd rfl (.inl rfl) (@Av _ _ _ _ _ _ _ _ _ _ _ _ _ _ _ _ G_r (hr.mono (by omega)) (by rfl) T.m_r T.F_r.kp T.b_r .nil Ao (@A0 _ _ _ _ _ (pv 5) A2 (by rfl)) (by decide) (by rfl) (by rfl)) (by rfl) (by first|exact .inl rfl|exact .inr rfl|assumption)) (@A5 _ _ _ _ _ (@AE _ _ _ _ _ _ _ _ (@Cj _ _ _ _ (@Bx _ _ _ (@Av _ _ _ _ _ _ _ _ _ _ _ _ _ _ _ _ G_v (hr.mono (by omega)) (by rfl) T.m_v T.F_v.kp T.b_v .nil Ao (@A0 _ _ _ _ _ (pv 6) (@A0 _ _ _ _ _ (pv 2) (@A0 _ _ _ _ _ (pv 4) A2 (by rfl)) (by rfl)) (by rfl)) (by decide) (by rfl) (by rfl)) (by intro _;rfl))) (@A9 _ _ _ (@Al _ _ _ _ Bu)) AF) (@A5 _ _ _ _ _ (@BF _ _ _ _ (@DU _ _ _ _ _ _ _ _ _ Bs PySem.F.slot_list_clear PySem.F.type_list_clear PY (@AM _ _ _ _ _ (pv 6) rfl) (by rfl) (by rfl)) (by rfl)) (@A9 _ _ _ (@Al _ _ _ _ (@Av _ _ _ _ _ _ _ _ _ _ _ _ _ _ _ _ G_v (hr.mono (by omega)) (by rfl) T.m_v T.F_v.kp T.b_v .nil Ao (@A0 _ _ _ _ _ (@Av _ _ _ _ _ _ _ _ _ _ _ _ _ _ _ _ G_r (hr.mono (by omega)) (by rfl) T.m_r T.F_r.kp T.b_r .nil Ao (@A0 _ _ _ _ _ (pv 5) A2 (by rfl)) (by decide) (by rfl) (by rfl)) (@A0 _ _ _ _ _ (pv 2) (@A0 _ _ _ _ _ (pv 4) A2 (by rfl)) (by rfl)) (by rfl)) (by decide) (by rfl) (by rfl))))))))))),?_⟩
 refine⟨_,rfl,p,ns,0,rfl,hp,by decide,_,rfl,fun nl H1 zs e1 hn=>?_⟩
 dsimp only[Ar]
 refine⟨_,rfl,p,ns,1,rfl,e1.seq hp,by decide,?_⟩
 generalize ns.getD (Int.toNat 1) 0=c1
 have k18:(10 ^ (18:Int).toNat-2:Int)=999999999999999998:=by decide
 have m0:=BU c1 (show(10 ^ (18:Int).toNat-2:Int)≠0 by decide)
 have m1:=C0 c1 (show(0:Int)<(10 ^ (18:Int).toNat-2:Int) by decide)
 refine⟨_,_,rfl,rfl,⟨by decide,by decide,by decide⟩,_,_,rfl,rfl,_,_,rfl,rfl,(by show(0:Int)<(10 ^ (18:Int).toNat-2:Int);decide),_,_,rfl,rfl,?_⟩
 dsimp only[Ar]
 obtain⟨n,en⟩:∃n:Int,2+c1%(10 ^ (18:Int).toNat-2:Int)=n:=⟨_,rfl⟩
 rw[en]
 have n0:2<=n:=by omega
 have n1:n<=999999999999999999:=by omega
 refine⟨_,rfl,_,rfl,_,rfl,p,_,rfl,e1.seq hp,fun p1 hp1=>?_⟩
 rw[Ot]
 have s2:=Ac hp1 (.lst ((Ca ns (some 4) (some 59)).map V.int))
 have cl:(Ca ns (some 4) (some 59)).length<=63:=C5 (Rd.cut_le ns) h63
 refine⟨_,rfl,p1,nl,Ca ns (some 4) (some 59),zs,rfl,A3.of A6,cl,hn.over s2,fun t rl dl H3 xs ys R Ds ks la e3 ht hrl ax hdl ay C dne r70=>?_⟩
 refine⟨t,_,rfl,Ah.of ht,rfl,_,_,rfl,_,_,rfl,rfl,?_⟩
 have e13:=e1.trans (s2.trans e3)
 have klen:ks.length=R.length:=by have:=congrArg List.length C.tx;rw[Ap,Ap]at this;exact this.symm
 refine⟨_,rfl,_,rfl,_,rfl,p,ns,2,rfl,e13.seq hp,by decide,zs,rl,xs,R,ks,n,_,rfl,hrl,ax,C.tx,C.ok,n0,n1,by omega,fun H4 rows e4 rne nz=>?_⟩
 dsimp only[Ar]
 have hSt:Rd.Stps (Rd.tf zs) Rd.D0 (.sz n::ks) ⟨some n,Ds,[],[],la⟩:=Rd.stps_sz n0 n1 (C.st n)
 have hRds:=nz.2.2 _ _ _ hSt
 have rl9:rows.length<=300:=by have:=nz.2.1;rw[AW]at this;omega
 have nl1:("\n":Str).length=1:=by decide +kernel
 have sl1:=Rd.sum_le (n:=2000) (fun y hy=>(nz.1 y hy).1) (l:=rows)
 have jl:=NM "\n" rows
 rw[nl1]at jl
 have jb:(Txt.join "\n" rows).length<=900000:=by omega
 have hsp:=Rd.join_split rne fun y hy=>(nz.1 y hy).2
 have rwb:∀y∈rows,y.length<=100000:=fun y hy=>C5 (nz.1 y hy).1 (by decide)
 have d6:Ds.length<=6:=hRds.six (BC _)
 have okD:∀D∈Ds,Rd.Dk zs D/\D.loops.length<=3/\D.path.length<=10:=C.dk
 refine⟨_,rfl,Rd.tf zs,_,rows,_,n,rfl,jb,hsp,by omega,rwb,hRds,rfl,dne,rfl,fun x dx fl ds H5 e5 hx hfl pds hnew=>?_⟩
 dsimp only[Ar]
 have e35:=e4.trans e5
 refine⟨_,rfl,_,rfl,_,rfl,zs,.ref x,n,dl,ys,Ds,rfl,⟨x,dx,fl,rfl,hx,ds,hfl,pds⟩,e35 _ _ hdl,ay.mono fun _ _ z=>z.over e35,okD,by omega,fun H6 e6=>⟨_,rfl,Aq ?_⟩⟩
 have hfl6:=e6 _ _ hfl
 refine⟨_,rfl,x,_,dx,_,_,rfl,e6 _ _ hx,T.cl_Program,T.n_Program_deeds,rfl,.inl ⟨rfl,_,A3.of hfl6⟩,fl,_,rfl,rfl,hfl6,?_⟩
 have e7:A7 H4 (upd H6 fl (.lst [])):=fun b o eb=>by rw[A8 (AI eb hnew)];exact e6 _ _ (e5 _ _ eb)
 generalize upd H6 fl (.lst [])=H7 at e7
 have e37:=e4.trans e7
 refine⟨_,rfl,Rd.tf zs,_,rows,_,n,rfl,jb,hsp,by omega,rwb,hRds,rfl,dne,rfl,fun x2 dx2 fl2 ds2 H8 e8 hx2 hfl2 pds2 _=>?_⟩
 have e38:=e37.trans e8
 exact⟨_,rfl,_,rfl,zs,.ref x2,n,dl,ys,Ds,rfl,⟨x2,dx2,fl2,rfl,hx2,ds2,hfl2,pds2⟩,e38 _ _ hdl,ay.mono fun _ _ z=>z.over e38,okD,by omega,fun H9 e9=>q _⟩
end
theorem D2 {us:List Value}(h:us.length=1):∃x0,us=[x0]:=by
 rcases us with _|⟨x0,us⟩
 .cases h
 rcases us with _|⟨y,us⟩
 .exact⟨x0,rfl⟩
 .simp only[AW]at h;omega
theorem Cv {us:List Value}(h:us.length=2):∃x0 x1,us=[x0,x1]:=by
 rcases us with _|⟨x0,us⟩
 .cases h
 rcases us with _|⟨x1,us⟩
 .cases h
 rcases us with _|⟨y,us⟩
 .exact⟨x0,x1,rfl⟩
 .simp only[AW]at h;omega
theorem EO {us:List Value}(h:us.length=3):∃x0 x1 x2,us=[x0,x1,x2]:=by
 rcases us with _|⟨x0,us⟩
 .cases h
 rcases us with _|⟨x1,us⟩
 .cases h
 rcases us with _|⟨x2,us⟩
 .cases h
 rcases us with _|⟨y,us⟩
 .exact⟨x0,x1,x2,rfl⟩
 .simp only[AW]at h;omega
theorem KC {us:List Value}(h:us.length=4):∃x0 x1 x2 x3,us=[x0,x1,x2,x3]:=by
 rcases us with _|⟨x0,us⟩
 .cases h
 rcases us with _|⟨x1,us⟩
 .cases h
 rcases us with _|⟨x2,us⟩
 .cases h
 rcases us with _|⟨x3,us⟩
 .cases h
 rcases us with _|⟨y,us⟩
 .exact⟨x0,x1,x2,x3,rfl⟩
 .simp only[AW]at h;omega
theorem Qg {us:List Value}(h:us.length=8):∃x0 x1 x2 x3 x4 x5 x6 x7,us=[x0,x1,x2,x3,x4,x5,x6,x7]:=by
 rcases us with _|⟨x0,us⟩
 .cases h
 rcases us with _|⟨x1,us⟩
 .cases h
 rcases us with _|⟨x2,us⟩
 .cases h
 rcases us with _|⟨x3,us⟩
 .cases h
 rcases us with _|⟨x4,us⟩
 .cases h
 rcases us with _|⟨x5,us⟩
 .cases h
 rcases us with _|⟨x6,us⟩
 .cases h
 rcases us with _|⟨x7,us⟩
 .cases h
 rcases us with _|⟨y,us⟩
 .exact⟨x0,x1,x2,x3,x4,x5,x6,x7,rfl⟩
 .simp only[AW]at h;omega
theorem V0:B0 "__init__" "Number.__init__" J2 ["self","n"]:=fun _ _ _ _ _ _ _ h=>by obtain⟨_,_,rfl⟩:=Cv h;rfl
theorem Rj:B0 "__init__" "Value.__init__" J1 ["self","name"]:=fun _ _ _ _ _ _ _ h=>by obtain⟨_,_,rfl⟩:=Cv h;rfl
theorem UI:B0 "__init__" "Cell.__init__" JP ["self","table","spots"]:=fun _ _ _ _ _ _ _ h=>by obtain⟨_,_,_,rfl⟩:=EO h;rfl
theorem Pu:B0 "__init__" "Joined.__init__" J5 ["self","sign","left","right"]:=fun _ _ _ _ _ _ _ h=>by obtain⟨_,_,_,_,rfl⟩:=KC h;rfl
theorem Vr:B0 "__init__" "Deed.__init__" JT ["self","names","lows","highs","table","spots","term","path"]:=fun _ _ _ _ _ _ _ h=>by obtain⟨_,_,_,_,_,_,_,_,rfl⟩:=Qg h;rfl
theorem Uh:B0 "__init__" "Program.__init__" Iu ["self","size","deeds"]:=fun _ _ _ _ _ _ _ h=>by obtain⟨_,_,_,rfl⟩:=EO h;rfl
theorem RU:B0 "made_of" "made_of" HB ["text","signs"]:=fun _ _ _ _ _ _ _ h=>by obtain⟨_,_,rfl⟩:=Cv h;rfl
theorem PK:B0 "number_of" "number_of" JA ["text"]:=fun _ _ _ _ _ _ _ h=>by obtain⟨_,rfl⟩:=D2 h;rfl
theorem Uy:B0 "is_name" "is_name" Jv ["text"]:=fun _ _ _ _ _ _ _ h=>by obtain⟨_,rfl⟩:=D2 h;rfl
theorem TV:B0 "risen" "risen" JR ["parts"]:=fun _ _ _ _ _ _ _ h=>by obtain⟨_,rfl⟩:=D2 h;rfl
theorem Vg:B0 "fallen" "fallen" JN ["parts"]:=fun _ _ _ _ _ _ _ h=>by obtain⟨_,rfl⟩:=D2 h;rfl
theorem S0:B0 "spot_of" "spot_of" Ik ["text"]:=fun _ _ _ _ _ _ _ h=>by obtain⟨_,rfl⟩:=D2 h;rfl
theorem Ue:B0 "bare_row" "bare_row" JF ["row"]:=fun _ _ _ _ _ _ _ h=>by obtain⟨_,rfl⟩:=D2 h;rfl
theorem T8:B0 "words_of" "words_of" Hz ["row"]:=fun _ _ _ _ _ _ _ h=>by obtain⟨_,rfl⟩:=D2 h;rfl
theorem VN:B0 "part_end" "part_end" J8 ["text","at"]:=fun _ _ _ _ _ _ _ h=>by obtain⟨_,_,rfl⟩:=Cv h;rfl
theorem Ve:B0 "cell_of" "cell_of" Gw ["text"]:=fun _ _ _ _ _ _ _ h=>by obtain⟨_,rfl⟩:=D2 h;rfl
theorem Tq:B0 "part_of" "part_of" Jm ["text"]:=fun _ _ _ _ _ _ _ h=>by obtain⟨_,rfl⟩:=D2 h;rfl
theorem P9:B0 "parts_of" "parts_of" J0 ["text"]:=fun _ _ _ _ _ _ _ h=>by obtain⟨_,rfl⟩:=D2 h;rfl
theorem Pj:B0 "join_waiting" "join_waiting" Jz ["terms","signs","least"]:=fun _ _ _ _ _ _ _ h=>by obtain⟨_,_,_,rfl⟩:=EO h;rfl
theorem VL:B0 "term_of" "term_of" JC ["parts"]:=fun _ _ _ _ _ _ _ h=>by obtain⟨_,rfl⟩:=D2 h;rfl
theorem QA:B0 "__init__" "Draft.__init__" Jg ["self"]:=fun _ _ _ _ _ _ _ h=>by obtain⟨_,rfl⟩:=D2 h;rfl
theorem UO:B0 "spots_known" "spots_known" HK ["draft","spots"]:=fun _ _ _ _ _ _ _ h=>by obtain⟨_,_,rfl⟩:=Cv h;rfl
theorem SK:B0 "names_known" "names_known" IK ["draft","parts"]:=fun _ _ _ _ _ _ _ h=>by obtain⟨_,_,rfl⟩:=Cv h;rfl
theorem U0:B0 "tables_kept" "tables_kept" Ip ["draft","parts"]:=fun _ _ _ _ _ _ _ h=>by obtain⟨_,_,rfl⟩:=Cv h;rfl
theorem Qy:B0 "deed_taken" "deed_taken" Jy ["draft","row"]:=fun _ _ _ _ _ _ _ h=>by obtain⟨_,_,rfl⟩:=Cv h;rfl
theorem Vm:B0 "size_taken" "size_taken" IQ ["draft","words"]:=fun _ _ _ _ _ _ _ h=>by obtain⟨_,_,rfl⟩:=Cv h;rfl
theorem QD:B0 "loop_taken" "loop_taken" IB ["draft","words"]:=fun _ _ _ _ _ _ _ h=>by obtain⟨_,_,rfl⟩:=Cv h;rfl
theorem RX:B0 "end_taken" "end_taken" JS ["draft","words"]:=fun _ _ _ _ _ _ _ h=>by obtain⟨_,_,rfl⟩:=Cv h;rfl
theorem UD:B0 "taken" "taken" Iv ["draft","row"]:=fun _ _ _ _ _ _ _ h=>by obtain⟨_,_,rfl⟩:=Cv h;rfl
theorem Tj:B0 "read" "read" Jw ["text"]:=fun _ _ _ _ _ _ _ h=>by obtain⟨_,rfl⟩:=D2 h;rfl
theorem Tg:B0 "_law_cell_at" "_law_cell_at" Jx ["_law_script","_law_k"]:=fun _ _ _ _ _ _ _ h=>by obtain⟨_,_,rfl⟩:=Cv h;rfl
theorem VC:B0 "_law_whole" "_law_whole" IU ["_law_found"]:=fun _ _ _ _ _ _ _ h=>by obtain⟨_,rfl⟩:=D2 h;rfl
theorem Uz:B0 "_law_stream" "_law_stream" IE ["_law_cell_here","_law_many"]:=fun _ _ _ _ _ _ _ h=>by obtain⟨_,_,rfl⟩:=Cv h;rfl
theorem Sa:B0 "_law_names" "_law_names" Hw ["_law_cell_here","_law_many"]:=fun _ _ _ _ _ _ _ h=>by obtain⟨_,_,rfl⟩:=Cv h;rfl
theorem Sr:B0 "_law_number" "_law_number" Jh ["_law_cell_here","_law_far"]:=fun _ _ _ _ _ _ _ h=>by obtain⟨_,_,rfl⟩:=Cv h;rfl
theorem Pk:B0 "_law_spot_text" "_law_spot_text" IA ["_law_spot_here"]:=fun _ _ _ _ _ _ _ h=>by obtain⟨_,rfl⟩:=D2 h;rfl
theorem Qe:B0 "_law_spot" "_law_spot" JM ["_law_one","_law_other","_law_known"]:=fun _ _ _ _ _ _ _ h=>by obtain⟨_,_,_,rfl⟩:=EO h;rfl
theorem RW:B0 "_law_cell" "_law_cell" Gz ["_law_xs","_law_known","_law_names_here"]:=fun _ _ _ _ _ _ _ h=>by obtain⟨_,_,_,rfl⟩:=EO h;rfl
theorem Q3:B0 "_law_leaf" "_law_leaf" Jk ["_law_cell_here","_law_known","_law_names_here"]:=fun _ _ _ _ _ _ _ h=>by obtain⟨_,_,_,rfl⟩:=EO h;rfl
theorem VH:B0 "_law_both" "_law_both" Jf ["_law_sign_here","_law_left","_law_right"]:=fun _ _ _ _ _ _ _ h=>by obtain⟨_,_,_,rfl⟩:=EO h;rfl
theorem V4:B0 "_law_term" "_law_term" IY ["_law_cell_here","_law_known","_law_names_here"]:=fun _ _ _ _ _ _ _ h=>by obtain⟨_,_,_,rfl⟩:=EO h;rfl
theorem Qf:B0 "_law_loop" "_law_loop" Gf ["_law_cell_here","_law_names_here","_law_opened","_law_last"]:=fun _ _ _ _ _ _ _ h=>by obtain⟨_,_,_,_,rfl⟩:=KC h;rfl
theorem Tu:B0 "_law_deed" "_law_deed" Hl ["_law_cell_here","_law_opened","_law_path","_law_names_here"]:=fun _ _ _ _ _ _ _ h=>by obtain⟨_,_,_,_,rfl⟩:=KC h;rfl
theorem RK:B0 "_law_program" "_law_program" Jr ["_law_cells","_law_names_here"]:=fun _ _ _ _ _ _ _ h=>by obtain⟨_,_,rfl⟩:=Cv h;rfl
theorem UH:B0 "_law_sign" "_law_sign" IF ["_law_cell_here"]:=fun _ _ _ _ _ _ _ h=>by obtain⟨_,rfl⟩:=D2 h;rfl
theorem Pi:B0 "_law_spread" "_law_spread" IM ["_law_text","_law_x"]:=fun _ _ _ _ _ _ _ h=>by obtain⟨_,_,rfl⟩:=Cv h;rfl
theorem RQ:B0 "_law_noisy" "_law_noisy" Hd ["_law_rows","_law_size","_law_cell_here"]:=fun _ _ _ _ _ _ _ h=>by obtain⟨_,_,_,rfl⟩:=EO h;rfl
theorem RI:B0 "_law_spots" "_law_spots" JG ["_law_found","_law_due"]:=fun _ _ _ _ _ _ _ h=>by obtain⟨_,_,rfl⟩:=Cv h;rfl
theorem SI:B0 "_law_same" "_law_same" Jq ["_law_term_here","_law_shape"]:=fun _ _ _ _ _ _ _ h=>by obtain⟨_,_,rfl⟩:=Cv h;rfl
theorem Rv:B0 "_law_kept" "_law_kept" FB ["_law_found","_law_due"]:=fun _ _ _ _ _ _ _ h=>by obtain⟨_,_,rfl⟩:=Cv h;rfl
theorem P3:B0 "_law_good" "_law_good" Hf ["_law_found","_law_size","_law_deeds"]:=fun _ _ _ _ _ _ _ h=>by obtain⟨_,_,_,rfl⟩:=EO h;rfl
theorem UQ:B0 "law" "law" JE ["_law_script"]:=fun _ _ _ _ _ _ _ h=>by obtain⟨_,rfl⟩:=D2 h;rfl
theorem txt_mk {w:World}{K:Xa}{h:Heap}{mg:Str->Option Value}{fa:Addr}(X:K.In h)(G:h.Ns mainGlobals mg)(hfa:mg "law"=some (.ref fa))
  {C_Term:Addr} {C_Number:Addr} {C_Value:Addr} {C_Cell:Addr} {C_Joined:Addr} {C_Deed:Addr} {C_Program:Addr} {C_Draft:Addr} {f1 f2 f3 f4 f5 f6 f7 f8 f9 f10 f11 f12 f13 f14 f15 f16 f17 f18 f19 f20 f21 f22 f23 f24 f25 f26 f27 f28 f29 f30 f31 f32 f33 f34 f35 f36 f37 f38 f39 f40 f41 f42 f43 f44 f45 f46 f47 f48 f49 f50 f51 f52:Addr} {d1 d2 d3 d4 d5 d6 d7 d8 d9 d10 d11 d12 d13 d14 d15 d16 d17 d18 d19 d20 d21 d22 d23 d24 d25 d26 d27 d28 d29 d30 d31 d32 d33 d34 d35 d36 d37 d38 d39 d40 d41 d42 d43 d44 d45 d46 d47 d48 d49 d50 d51 d52:FuncData} {t_FIGURES:Tok} {t_LEAST_SIZE:Tok} {t_LETTERS:Tok} {t_MOST_DEEDS:Tok} {t_MOST_FIGURES:Tok} {t_MOST_LETTERS:Tok} {t_MOST_LOOPS:Tok} {t_MOST_SPOTS:Tok} {u_ROW_WORDS:Addr} {e_ROW_WORDS:Option Addr} {n_ROW_WORDS:Nat} {b_ROW_WORDS:Array (Option Value)} {t_ROW_WORDS0:Tok} {t_ROW_WORDS1:Tok} {t_ROW_WORDS2:Tok} {t_SIGNS:Tok} {u_STRENGTHS:Addr} {n_STRENGTHS:Nat} {h_STRENGTHS0:Int} {k_STRENGTHS0 s_STRENGTHS0:Tok} {h_STRENGTHS1:Int} {k_STRENGTHS1 s_STRENGTHS1:Tok} {h_STRENGTHS2:Int} {k_STRENGTHS2 s_STRENGTHS2:Tok} {h_STRENGTHS3:Int} {k_STRENGTHS3 s_STRENGTHS3:Tok}
  (a_Term:ClA K C_Term "Term")
  (a_Number:ClA K C_Number "Number")
  (a_Value:ClA K C_Value "Value")
  (a_Cell:ClA K C_Cell "Cell")
  (a_Joined:ClA K C_Joined "Joined")
  (a_Deed:ClA K C_Deed "Deed")
  (a_Program:ClA K C_Program "Program")
  (a_Draft:ClA K C_Draft "Draft")
  (h1:FR K C_Number "__init__" "Number.__init__" J2 f1 d1)
  (h2:FR K C_Value "__init__" "Value.__init__" J1 f2 d2)
  (h3:FR K C_Cell "__init__" "Cell.__init__" JP f3 d3)
  (h4:FR K C_Joined "__init__" "Joined.__init__" J5 f4 d4)
  (h5:FR K C_Deed "__init__" "Deed.__init__" JT f5 d5)
  (h6:FR K C_Program "__init__" "Program.__init__" Iu f6 d6)
  (h7:B9 K "made_of" HB f7 d7)
  (h8:B9 K "number_of" JA f8 d8)
  (h9:B9 K "is_name" Jv f9 d9)
  (h10:B9 K "risen" JR f10 d10)
  (h11:B9 K "fallen" JN f11 d11)
  (h12:B9 K "spot_of" Ik f12 d12)
  (h13:B9 K "bare_row" JF f13 d13)
  (h14:B9 K "words_of" Hz f14 d14)
  (h15:B9 K "part_end" J8 f15 d15)
  (h16:B9 K "cell_of" Gw f16 d16)
  (h17:B9 K "part_of" Jm f17 d17)
  (h18:B9 K "parts_of" J0 f18 d18)
  (h19:B9 K "join_waiting" Jz f19 d19)
  (h20:B9 K "term_of" JC f20 d20)
  (h21:FR K C_Draft "__init__" "Draft.__init__" Jg f21 d21)
  (h22:B9 K "spots_known" HK f22 d22)
  (h23:B9 K "names_known" IK f23 d23)
  (h24:B9 K "tables_kept" Ip f24 d24)
  (h25:B9 K "deed_taken" Jy f25 d25)
  (h26:B9 K "size_taken" IQ f26 d26)
  (h27:B9 K "loop_taken" IB f27 d27)
  (h28:B9 K "end_taken" JS f28 d28)
  (h29:B9 K "taken" Iv f29 d29)
  (h30:B9 K "read" Jw f30 d30)
  (h31:B9 K "_law_cell_at" Jx f31 d31)
  (h32:B9 K "_law_whole" IU f32 d32)
  (h33:B9 K "_law_stream" IE f33 d33)
  (h34:B9 K "_law_names" Hw f34 d34)
  (h35:B9 K "_law_number" Jh f35 d35)
  (h36:B9 K "_law_spot_text" IA f36 d36)
  (h37:B9 K "_law_spot" JM f37 d37)
  (h38:B9 K "_law_cell" Gz f38 d38)
  (h39:B9 K "_law_leaf" Jk f39 d39)
  (h40:B9 K "_law_both" Jf f40 d40)
  (h41:B9 K "_law_term" IY f41 d41)
  (h42:B9 K "_law_loop" Gf f42 d42)
  (h43:B9 K "_law_deed" Hl f43 d43)
  (h44:B9 K "_law_program" Jr f44 d44)
  (h45:B9 K "_law_sign" IF f45 d45)
  (h46:B9 K "_law_spread" IM f46 d46)
  (h47:B9 K "_law_noisy" Hd f47 d47)
  (h48:B9 K "_law_spots" JG f48 d48)
  (h49:B9 K "_law_same" Jq f49 d49)
  (h50:B9 K "_law_kept" FB f50 d50)
  (h51:B9 K "_law_good" Hf f51 d51)
  (h52:B9 K "law" JE f52 d52)
  (n_Number_n:PySem.W.findIn K (.ref C_Number) "n"=some none)
  (n_Value_name:PySem.W.findIn K (.ref C_Value) "name"=some none)
  (n_Cell_table:PySem.W.findIn K (.ref C_Cell) "table"=some none)
  (n_Cell_spots:PySem.W.findIn K (.ref C_Cell) "spots"=some none)
  (n_Joined_sign:PySem.W.findIn K (.ref C_Joined) "sign"=some none)
  (n_Joined_left:PySem.W.findIn K (.ref C_Joined) "left"=some none)
  (n_Joined_right:PySem.W.findIn K (.ref C_Joined) "right"=some none)
  (n_Deed_names:PySem.W.findIn K (.ref C_Deed) "names"=some none)
  (n_Deed_lows:PySem.W.findIn K (.ref C_Deed) "lows"=some none)
  (n_Deed_highs:PySem.W.findIn K (.ref C_Deed) "highs"=some none)
  (n_Deed_table:PySem.W.findIn K (.ref C_Deed) "table"=some none)
  (n_Deed_spots:PySem.W.findIn K (.ref C_Deed) "spots"=some none)
  (n_Deed_term:PySem.W.findIn K (.ref C_Deed) "term"=some none)
  (n_Deed_path:PySem.W.findIn K (.ref C_Deed) "path"=some none)
  (n_Program_size:PySem.W.findIn K (.ref C_Program) "size"=some none)
  (n_Program_deeds:PySem.W.findIn K (.ref C_Program) "deeds"=some none)
  (n_Draft_size:PySem.W.findIn K (.ref C_Draft) "size"=some none)
  (n_Draft_deeds:PySem.W.findIn K (.ref C_Draft) "deeds"=some none)
  (n_Draft_tables:PySem.W.findIn K (.ref C_Draft) "tables"=some none)
  (n_Draft_names:PySem.W.findIn K (.ref C_Draft) "names"=some none)
  (n_Draft_lows:PySem.W.findIn K (.ref C_Draft) "lows"=some none)
  (n_Draft_highs:PySem.W.findIn K (.ref C_Draft) "highs"=some none)
  (n_Draft_path:PySem.W.findIn K (.ref C_Draft) "path"=some none)
  (hn0:PySem.W.specialIn K (.builtin "object.__class__") "__get__"=some (some (.builtin "getset_descriptor.__get__"))) (ht0:PySem.W.takesIn K (.builtin "object.__class__")=some true)
  (ha_Number:PySem.W.findIn K (.ref C_Number) "__class__"=some (some (.builtin "object.__class__"))) (hm_Number:PySem.W.mroIn K C_Number (.type "object")=some true)
  (is_Number_Term:PySem.W.kitOne K (.ref C_Number) (.ref C_Term)=some true)
  (is_Number_Number:PySem.W.kitOne K (.ref C_Number) (.ref C_Number)=some true)
  (is_Number_Value:PySem.W.kitOne K (.ref C_Number) (.ref C_Value)=some false)
  (is_Number_Cell:PySem.W.kitOne K (.ref C_Number) (.ref C_Cell)=some false)
  (is_Number_Joined:PySem.W.kitOne K (.ref C_Number) (.ref C_Joined)=some false)
  (is_Number_Deed:PySem.W.kitOne K (.ref C_Number) (.ref C_Deed)=some false)
  (is_Number_Program:PySem.W.kitOne K (.ref C_Number) (.ref C_Program)=some false)
  (is_Number_Draft:PySem.W.kitOne K (.ref C_Number) (.ref C_Draft)=some false)
  (ha_Value:PySem.W.findIn K (.ref C_Value) "__class__"=some (some (.builtin "object.__class__"))) (hm_Value:PySem.W.mroIn K C_Value (.type "object")=some true)
  (is_Value_Term:PySem.W.kitOne K (.ref C_Value) (.ref C_Term)=some true)
  (is_Value_Number:PySem.W.kitOne K (.ref C_Value) (.ref C_Number)=some false)
  (is_Value_Value:PySem.W.kitOne K (.ref C_Value) (.ref C_Value)=some true)
  (is_Value_Cell:PySem.W.kitOne K (.ref C_Value) (.ref C_Cell)=some false)
  (is_Value_Joined:PySem.W.kitOne K (.ref C_Value) (.ref C_Joined)=some false)
  (is_Value_Deed:PySem.W.kitOne K (.ref C_Value) (.ref C_Deed)=some false)
  (is_Value_Program:PySem.W.kitOne K (.ref C_Value) (.ref C_Program)=some false)
  (is_Value_Draft:PySem.W.kitOne K (.ref C_Value) (.ref C_Draft)=some false)
  (ha_Cell:PySem.W.findIn K (.ref C_Cell) "__class__"=some (some (.builtin "object.__class__"))) (hm_Cell:PySem.W.mroIn K C_Cell (.type "object")=some true)
  (is_Cell_Term:PySem.W.kitOne K (.ref C_Cell) (.ref C_Term)=some true)
  (is_Cell_Number:PySem.W.kitOne K (.ref C_Cell) (.ref C_Number)=some false)
  (is_Cell_Value:PySem.W.kitOne K (.ref C_Cell) (.ref C_Value)=some false)
  (is_Cell_Cell:PySem.W.kitOne K (.ref C_Cell) (.ref C_Cell)=some true)
  (is_Cell_Joined:PySem.W.kitOne K (.ref C_Cell) (.ref C_Joined)=some false)
  (is_Cell_Deed:PySem.W.kitOne K (.ref C_Cell) (.ref C_Deed)=some false)
  (is_Cell_Program:PySem.W.kitOne K (.ref C_Cell) (.ref C_Program)=some false)
  (is_Cell_Draft:PySem.W.kitOne K (.ref C_Cell) (.ref C_Draft)=some false)
  (ha_Joined:PySem.W.findIn K (.ref C_Joined) "__class__"=some (some (.builtin "object.__class__"))) (hm_Joined:PySem.W.mroIn K C_Joined (.type "object")=some true)
  (is_Joined_Term:PySem.W.kitOne K (.ref C_Joined) (.ref C_Term)=some true)
  (is_Joined_Number:PySem.W.kitOne K (.ref C_Joined) (.ref C_Number)=some false)
  (is_Joined_Value:PySem.W.kitOne K (.ref C_Joined) (.ref C_Value)=some false)
  (is_Joined_Cell:PySem.W.kitOne K (.ref C_Joined) (.ref C_Cell)=some false)
  (is_Joined_Joined:PySem.W.kitOne K (.ref C_Joined) (.ref C_Joined)=some true)
  (is_Joined_Deed:PySem.W.kitOne K (.ref C_Joined) (.ref C_Deed)=some false)
  (is_Joined_Program:PySem.W.kitOne K (.ref C_Joined) (.ref C_Program)=some false)
  (is_Joined_Draft:PySem.W.kitOne K (.ref C_Joined) (.ref C_Draft)=some false)
  (is_str_Term:PySem.W.kitOne K (.type "str") (.ref C_Term)=some false)
  (is_str_Number:PySem.W.kitOne K (.type "str") (.ref C_Number)=some false)
  (is_str_Value:PySem.W.kitOne K (.type "str") (.ref C_Value)=some false)
  (is_str_Cell:PySem.W.kitOne K (.type "str") (.ref C_Cell)=some false)
  (is_str_Joined:PySem.W.kitOne K (.type "str") (.ref C_Joined)=some false)
  (is_str_Deed:PySem.W.kitOne K (.type "str") (.ref C_Deed)=some false)
  (is_str_Program:PySem.W.kitOne K (.type "str") (.ref C_Program)=some false)
  (is_str_Draft:PySem.W.kitOne K (.type "str") (.ref C_Draft)=some false)
  (ha_Deed:PySem.W.findIn K (.ref C_Deed) "__class__"=some (some (.builtin "object.__class__"))) (hm_Deed:PySem.W.mroIn K C_Deed (.type "object")=some true)
  (is_Deed_Term:PySem.W.kitOne K (.ref C_Deed) (.ref C_Term)=some false)
  (is_Deed_Number:PySem.W.kitOne K (.ref C_Deed) (.ref C_Number)=some false)
  (is_Deed_Value:PySem.W.kitOne K (.ref C_Deed) (.ref C_Value)=some false)
  (is_Deed_Cell:PySem.W.kitOne K (.ref C_Deed) (.ref C_Cell)=some false)
  (is_Deed_Joined:PySem.W.kitOne K (.ref C_Deed) (.ref C_Joined)=some false)
  (is_Deed_Deed:PySem.W.kitOne K (.ref C_Deed) (.ref C_Deed)=some true)
  (is_Deed_Program:PySem.W.kitOne K (.ref C_Deed) (.ref C_Program)=some false)
  (is_Deed_Draft:PySem.W.kitOne K (.ref C_Deed) (.ref C_Draft)=some false)
  (ha_Program:PySem.W.findIn K (.ref C_Program) "__class__"=some (some (.builtin "object.__class__"))) (hm_Program:PySem.W.mroIn K C_Program (.type "object")=some true)
  (is_Program_Term:PySem.W.kitOne K (.ref C_Program) (.ref C_Term)=some false)
  (is_Program_Number:PySem.W.kitOne K (.ref C_Program) (.ref C_Number)=some false)
  (is_Program_Value:PySem.W.kitOne K (.ref C_Program) (.ref C_Value)=some false)
  (is_Program_Cell:PySem.W.kitOne K (.ref C_Program) (.ref C_Cell)=some false)
  (is_Program_Joined:PySem.W.kitOne K (.ref C_Program) (.ref C_Joined)=some false)
  (is_Program_Deed:PySem.W.kitOne K (.ref C_Program) (.ref C_Deed)=some false)
  (is_Program_Program:PySem.W.kitOne K (.ref C_Program) (.ref C_Program)=some true)
  (is_Program_Draft:PySem.W.kitOne K (.ref C_Program) (.ref C_Draft)=some false)
  (ha_Draft:PySem.W.findIn K (.ref C_Draft) "__class__"=some (some (.builtin "object.__class__"))) (hm_Draft:PySem.W.mroIn K C_Draft (.type "object")=some true)
  (is_Draft_Term:PySem.W.kitOne K (.ref C_Draft) (.ref C_Term)=some false)
  (is_Draft_Number:PySem.W.kitOne K (.ref C_Draft) (.ref C_Number)=some false)
  (is_Draft_Value:PySem.W.kitOne K (.ref C_Draft) (.ref C_Value)=some false)
  (is_Draft_Cell:PySem.W.kitOne K (.ref C_Draft) (.ref C_Cell)=some false)
  (is_Draft_Joined:PySem.W.kitOne K (.ref C_Draft) (.ref C_Joined)=some false)
  (is_Draft_Deed:PySem.W.kitOne K (.ref C_Draft) (.ref C_Deed)=some false)
  (is_Draft_Program:PySem.W.kitOne K (.ref C_Draft) (.ref C_Program)=some false)
  (is_Draft_Draft:PySem.W.kitOne K (.ref C_Draft) (.ref C_Draft)=some true)
  (z_abs:PySem.W.nsIn K mainGlobals "abs"=some none)
  (z_all:PySem.W.nsIn K mainGlobals "all"=some none)
  (z_bool:PySem.W.nsIn K mainGlobals "bool"=some none)
  (z_enumerate:PySem.W.nsIn K mainGlobals "enumerate"=some none)
  (z_int:PySem.W.nsIn K mainGlobals "int"=some none)
  (z_isinstance:PySem.W.nsIn K mainGlobals "isinstance"=some none)
  (z_len:PySem.W.nsIn K mainGlobals "len"=some none)
  (z_list:PySem.W.nsIn K mainGlobals "list"=some none)
  (z_range:PySem.W.nsIn K mainGlobals "range"=some none)
  (z_str:PySem.W.nsIn K mainGlobals "str"=some none)
  (z_tuple:PySem.W.nsIn K mainGlobals "tuple"=some none)
  (g_FIGURES:PySem.W.nsIn K mainGlobals "FIGURES"=some (some (.str "0123456789" t_FIGURES)))
  (g_LEAST_SIZE:PySem.W.nsIn K mainGlobals "LEAST_SIZE"=some (some (.int 2 t_LEAST_SIZE)))
  (g_LETTERS:PySem.W.nsIn K mainGlobals "LETTERS"=some (some (.str "abcdefghijklmnopqrstuvwxyz" t_LETTERS)))
  (g_MOST_DEEDS:PySem.W.nsIn K mainGlobals "MOST_DEEDS"=some (some (.int 6 t_MOST_DEEDS)))
  (g_MOST_FIGURES:PySem.W.nsIn K mainGlobals "MOST_FIGURES"=some (some (.int 18 t_MOST_FIGURES)))
  (g_MOST_LETTERS:PySem.W.nsIn K mainGlobals "MOST_LETTERS"=some (some (.int 8 t_MOST_LETTERS)))
  (g_MOST_LOOPS:PySem.W.nsIn K mainGlobals "MOST_LOOPS"=some (some (.int 3 t_MOST_LOOPS)))
  (g_MOST_SPOTS:PySem.W.nsIn K mainGlobals "MOST_SPOTS"=some (some (.int 3 t_MOST_SPOTS)))
  (g_ROW_WORDS:PySem.W.nsIn K mainGlobals "ROW_WORDS"=some (some (.ref u_ROW_WORDS)))
  (q_ROW_WORDS:K.lookup u_ROW_WORDS=some ⟨.type "tuple",e_ROW_WORDS,.seq #[.str "for" t_ROW_WORDS0,.str "end" t_ROW_WORDS1,.str "size" t_ROW_WORDS2] n_ROW_WORDS,b_ROW_WORDS⟩)
  (g_SIGNS:PySem.W.nsIn K mainGlobals "SIGNS"=some (some (.str "+-*()" t_SIGNS)))
  (g_STRENGTHS:PySem.W.nsIn K mainGlobals "STRENGTHS"=some (some (.ref u_STRENGTHS)))
  (q_STRENGTHS:K.lookup u_STRENGTHS=some ⟨.type "dict",none,.dict #[⟨h_STRENGTHS0,.str "(" k_STRENGTHS0,.int 0 s_STRENGTHS0⟩,⟨h_STRENGTHS1,.str "+" k_STRENGTHS1,.int 1 s_STRENGTHS1⟩,⟨h_STRENGTHS2,.str "-" k_STRENGTHS2,.int 1 s_STRENGTHS2⟩,⟨h_STRENGTHS3,.str "*" k_STRENGTHS3,.int 2 s_STRENGTHS3⟩] n_STRENGTHS,#[]⟩)
  (hh_STRENGTHS0:h_STRENGTHS0=hashStr w "(")
  (hh_STRENGTHS1:h_STRENGTHS1=hashStr w "+")
  (hh_STRENGTHS2:h_STRENGTHS2=hashStr w "-")
  (hh_STRENGTHS3:h_STRENGTHS3=hashStr w "*")
  (qsm_STRENGTHS:(u_STRENGTHS==sysModules)=false)
  (qnb:He K=true) :
  ∃a:Ad,Tx w K mg a/\fa=a.f_S/\(∀(s:Shared) (v:Value),BindsTo s a.d_S ⟨[v],[]⟩ [("_law_script",v)]):=by
 have e:=hfa.symm.trans (AJ X G h52.a)
 cases e
 obtain⟨_,_,_,_,_,_,_,_,_,rfl,_⟩:=h52.F.ex
 exact⟨⟨f1,d1,f2,d2,f3,d3,f4,d4,f5,d5,f6,d6,f7,d7,f8,d8,f9,d9,f10,d10,f11,d11,f12,d12,f13,d13,f14,d14,f15,d15,f16,d16,f17,d17,f18,d18,f19,d19,f20,d20,f21,d21,f22,d22,f23,d23,f24,d24,f25,d25,f26,d26,f27,d27,f28,d28,f29,d29,f30,d30,f31,d31,f32,d32,f33,d33,f34,d34,f35,d35,f36,d36,f37,d37,f38,d38,f39,d39,f40,d40,f41,d41,f42,d42,f43,d43,f44,d44,f45,d45,f46,d46,f47,d47,f48,d48,f49,d49,f50,d50,f51,d51,fa,_,C_Term,C_Number,C_Value,C_Cell,C_Joined,C_Deed,C_Program,C_Draft,.str "0123456789" t_FIGURES,.int 2 t_LEAST_SIZE,.str "abcdefghijklmnopqrstuvwxyz" t_LETTERS,.int 6 t_MOST_DEEDS,.int 18 t_MOST_FIGURES,.int 8 t_MOST_LETTERS,.int 3 t_MOST_LOOPS,.int 3 t_MOST_SPOTS,u_ROW_WORDS,.str "+-*()" t_SIGNS,u_STRENGTHS⟩,⟨h1.F,
  h1.F.binds V0,
  h2.F,
  h2.F.binds Rj,
  h3.F,
  h3.F.binds UI,
  h4.F,
  h4.F.binds Pu,
  h5.F,
  h5.F.binds Vr,
  h6.F,
  h6.F.binds Uh,
  h7.F,
  h7.F.binds RU,
  AJ X G h7.a,
  h8.F,
  h8.F.binds PK,
  AJ X G h8.a,
  h9.F,
  h9.F.binds Uy,
  AJ X G h9.a,
  h10.F,
  h10.F.binds TV,
  AJ X G h10.a,
  h11.F,
  h11.F.binds Vg,
  AJ X G h11.a,
  h12.F,
  h12.F.binds S0,
  AJ X G h12.a,
  h13.F,
  h13.F.binds Ue,
  AJ X G h13.a,
  h14.F,
  h14.F.binds T8,
  AJ X G h14.a,
  h15.F,
  h15.F.binds VN,
  AJ X G h15.a,
  h16.F,
  h16.F.binds Ve,
  AJ X G h16.a,
  h17.F,
  h17.F.binds Tq,
  AJ X G h17.a,
  h18.F,
  h18.F.binds P9,
  AJ X G h18.a,
  h19.F,
  h19.F.binds Pj,
  AJ X G h19.a,
  h20.F,
  h20.F.binds VL,
  AJ X G h20.a,
  h21.F,
  h21.F.binds QA,
  h22.F,
  h22.F.binds UO,
  AJ X G h22.a,
  h23.F,
  h23.F.binds SK,
  AJ X G h23.a,
  h24.F,
  h24.F.binds U0,
  AJ X G h24.a,
  h25.F,
  h25.F.binds Qy,
  AJ X G h25.a,
  h26.F,
  h26.F.binds Vm,
  AJ X G h26.a,
  h27.F,
  h27.F.binds QD,
  AJ X G h27.a,
  h28.F,
  h28.F.binds RX,
  AJ X G h28.a,
  h29.F,
  h29.F.binds UD,
  AJ X G h29.a,
  h30.F,
  h30.F.binds Tj,
  AJ X G h30.a,
  h31.F,
  h31.F.binds Tg,
  AJ X G h31.a,
  h32.F,
  h32.F.binds VC,
  AJ X G h32.a,
  h33.F,
  h33.F.binds Uz,
  AJ X G h33.a,
  h34.F,
  h34.F.binds Sa,
  AJ X G h34.a,
  h35.F,
  h35.F.binds Sr,
  AJ X G h35.a,
  h36.F,
  h36.F.binds Pk,
  AJ X G h36.a,
  h37.F,
  h37.F.binds Qe,
  AJ X G h37.a,
  h38.F,
  h38.F.binds RW,
  AJ X G h38.a,
  h39.F,
  h39.F.binds Q3,
  AJ X G h39.a,
  h40.F,
  h40.F.binds VH,
  AJ X G h40.a,
  h41.F,
  h41.F.binds V4,
  AJ X G h41.a,
  h42.F,
  h42.F.binds Qf,
  AJ X G h42.a,
  h43.F,
  h43.F.binds Tu,
  AJ X G h43.a,
  h44.F,
  h44.F.binds RK,
  AJ X G h44.a,
  h45.F,
  h45.F.binds UH,
  AJ X G h45.a,
  h46.F,
  h46.F.binds Pi,
  AJ X G h46.a,
  h47.F,
  h47.F.binds RQ,
  AJ X G h47.a,
  h48.F,
  h48.F.binds RI,
  AJ X G h48.a,
  h49.F,
  h49.F.binds SI,
  AJ X G h49.a,
  h50.F,
  h50.F.binds Rv,
  AJ X G h50.a,
  h51.F,
  h51.F.binds P3,
  AJ X G h51.a,
  h52.F,
  h52.F.binds UQ,
  AJ X G h52.a,
  ⟨a_Term.pg,a_Term.hd,a_Term.po,a_Term.sa⟩,
  AJ X G a_Term.a,
  ⟨a_Number.pg,a_Number.hd,a_Number.po,a_Number.sa⟩,
  AJ X G a_Number.a,
  ⟨a_Number.mi,h1.a,h1.i,a_Number.kc⟩,
  n_Number_n,
  ⟨a_Value.pg,a_Value.hd,a_Value.po,a_Value.sa⟩,
  AJ X G a_Value.a,
  ⟨a_Value.mi,h2.a,h2.i,a_Value.kc⟩,
  n_Value_name,
  ⟨a_Cell.pg,a_Cell.hd,a_Cell.po,a_Cell.sa⟩,
  AJ X G a_Cell.a,
  ⟨a_Cell.mi,h3.a,h3.i,a_Cell.kc⟩,
  n_Cell_table,
  n_Cell_spots,
  ⟨a_Joined.pg,a_Joined.hd,a_Joined.po,a_Joined.sa⟩,
  AJ X G a_Joined.a,
  ⟨a_Joined.mi,h4.a,h4.i,a_Joined.kc⟩,
  n_Joined_sign,
  n_Joined_left,
  n_Joined_right,
  ⟨a_Deed.pg,a_Deed.hd,a_Deed.po,a_Deed.sa⟩,
  AJ X G a_Deed.a,
  ⟨a_Deed.mi,h5.a,h5.i,a_Deed.kc⟩,
  n_Deed_names,
  n_Deed_lows,
  n_Deed_highs,
  n_Deed_table,
  n_Deed_spots,
  n_Deed_term,
  n_Deed_path,
  ⟨a_Program.pg,a_Program.hd,a_Program.po,a_Program.sa⟩,
  AJ X G a_Program.a,
  ⟨a_Program.mi,h6.a,h6.i,a_Program.kc⟩,
  n_Program_size,
  n_Program_deeds,
  ⟨a_Draft.pg,a_Draft.hd,a_Draft.po,a_Draft.sa⟩,
  AJ X G a_Draft.a,
  ⟨a_Draft.mi,h21.a,h21.i,a_Draft.kc⟩,
  n_Draft_size,
  n_Draft_deeds,
  n_Draft_tables,
  n_Draft_names,
  n_Draft_lows,
  n_Draft_highs,
  n_Draft_path,
  fun H x dx fs e=>.ins e ⟨a_Number.pg,a_Number.hd,a_Number.po,a_Number.sa⟩ ha_Number hn0 ht0 hm_Number,
  is_Number_Term,
  is_Number_Number,
  is_Number_Value,
  is_Number_Cell,
  is_Number_Joined,
  is_Number_Deed,
  is_Number_Program,
  is_Number_Draft,
  fun H x dx fs e=>.ins e ⟨a_Value.pg,a_Value.hd,a_Value.po,a_Value.sa⟩ ha_Value hn0 ht0 hm_Value,
  is_Value_Term,
  is_Value_Number,
  is_Value_Value,
  is_Value_Cell,
  is_Value_Joined,
  is_Value_Deed,
  is_Value_Program,
  is_Value_Draft,
  fun H x dx fs e=>.ins e ⟨a_Cell.pg,a_Cell.hd,a_Cell.po,a_Cell.sa⟩ ha_Cell hn0 ht0 hm_Cell,
  is_Cell_Term,
  is_Cell_Number,
  is_Cell_Value,
  is_Cell_Cell,
  is_Cell_Joined,
  is_Cell_Deed,
  is_Cell_Program,
  is_Cell_Draft,
  fun H x dx fs e=>.ins e ⟨a_Joined.pg,a_Joined.hd,a_Joined.po,a_Joined.sa⟩ ha_Joined hn0 ht0 hm_Joined,
  is_Joined_Term,
  is_Joined_Number,
  is_Joined_Value,
  is_Joined_Cell,
  is_Joined_Joined,
  is_Joined_Deed,
  is_Joined_Program,
  is_Joined_Draft,
  is_str_Term,
  is_str_Number,
  is_str_Value,
  is_str_Cell,
  is_str_Joined,
  is_str_Deed,
  is_str_Program,
  is_str_Draft,
  fun H x dx fs e=>.ins e ⟨a_Deed.pg,a_Deed.hd,a_Deed.po,a_Deed.sa⟩ ha_Deed hn0 ht0 hm_Deed,
  is_Deed_Term,
  is_Deed_Number,
  is_Deed_Value,
  is_Deed_Cell,
  is_Deed_Joined,
  is_Deed_Deed,
  is_Deed_Program,
  is_Deed_Draft,
  fun H x dx fs e=>.ins e ⟨a_Program.pg,a_Program.hd,a_Program.po,a_Program.sa⟩ ha_Program hn0 ht0 hm_Program,
  is_Program_Term,
  is_Program_Number,
  is_Program_Value,
  is_Program_Cell,
  is_Program_Joined,
  is_Program_Deed,
  is_Program_Program,
  is_Program_Draft,
  fun H x dx fs e=>.ins e ⟨a_Draft.pg,a_Draft.hd,a_Draft.po,a_Draft.sa⟩ ha_Draft hn0 ht0 hm_Draft,
  is_Draft_Term,
  is_Draft_Number,
  is_Draft_Value,
  is_Draft_Cell,
  is_Draft_Joined,
  is_Draft_Deed,
  is_Draft_Program,
  is_Draft_Draft,
  qnb,
  EW X G z_abs,
  EW X G z_all,
  EW X G z_bool,
  EW X G z_enumerate,
  EW X G z_int,
  EW X G z_isinstance,
  EW X G z_len,
  EW X G z_list,
  EW X G z_range,
  EW X G z_str,
  EW X G z_tuple,
  AJ X G g_FIGURES,
  ⟨_,rfl⟩,
  AJ X G g_LEAST_SIZE,
  ⟨_,rfl⟩,
  AJ X G g_LETTERS,
  ⟨_,rfl⟩,
  AJ X G g_MOST_DEEDS,
  ⟨_,rfl⟩,
  AJ X G g_MOST_FIGURES,
  ⟨_,rfl⟩,
  AJ X G g_MOST_LETTERS,
  ⟨_,rfl⟩,
  AJ X G g_MOST_LOOPS,
  ⟨_,rfl⟩,
  AJ X G g_MOST_SPOTS,
  ⟨_,rfl⟩,
  AJ X G g_ROW_WORDS,
  rfl,
  fun H=>.inr ⟨_,_,_,q_ROW_WORDS,rfl,rfl,AG rfl,(.cons ⟨_,rfl⟩ (.cons ⟨_,rfl⟩ (.cons ⟨_,rfl⟩ .nil)))⟩,
  AJ X G g_SIGNS,
  ⟨_,rfl⟩,
  AJ X G g_STRENGTHS,
  rfl,
  fun P=>To q_STRENGTHS hh_STRENGTHS0 hh_STRENGTHS1 hh_STRENGTHS2 hh_STRENGTHS3 qsm_STRENGTHS (by decide +kernel)⟩,rfl,fun s v=>.of_eq rfl⟩
end Fw
open PySem PySem.W PyProof.Rows
namespace PySem.W.Fast
def tw10020055295516735869:=True
def tw1004084257025488354:=True
def tw10080404844854387638:=True
def tw10097409328726022554:=True
def tw10124154516460811626:=True
def tw10180913942766379767:=True
def tw10192567097045300637:=True
def tw10196483285523950560:=True
def tw10227589003712198324:=True
def tw10230494182114997467:=True
def tw1030485048282978:=True
def tw10333657341699230705:=True
def tw10359485812591997317:=True
def tw10418102531696078936:=True
def tw10493628326560134965:=True
def tw10529339391857819764:=True
def tw10657605747603196418:=True
def tw10680212273589858716:=True
def tw10698729957016017680:=True
def tw10700187868292414887:=True
def tw10708820467487278501:=True
def tw10781982019109379780:=True
def tw10799146253134477230:=True
def tw10881698381129755924:=True
def tw10991984777298485274:=True
def tw11023832542367661918:=True
def tw11034749501790871336:=True
def tw11052897042024293192:=True
def tw11080049287078224455:=True
def tw11082794282373884993:=True
def tw1109268983848015292:=True
def tw11097566345166763775:=True
def tw11106375106918782123:=True
def tw11142001225241920276:=True
def tw1119065586740256355:=True
def tw11245559214710229833:=True
def tw11247439356539639754:=True
def tw11258954099175094524:=True
def tw1126172572442132394:=True
def tw11277518274989938259:=True
def tw11291551355701943925:=True
def tw1131487574997388001:=True
def tw11330004831563174323:=True
def tw11394874317795646569:=True
def tw11407898012433821570:=True
def tw11438669909829121604:=True
def tw11451966798696427807:=True
def tw11527447151376853620:=True
def tw11547763927597870613:=True
def tw11598168880726744827:=True
def tw11614670238235875300:=True
def tw11653374163985775109:=True
def tw11710081616539179744:=True
def tw11722646335024850785:=True
def tw1179992368537849290:=True
def tw11843878599040327931:=True
def tw11940332158461016532:=True
def tw11961287386150336247:=True
def tw12009196807114297359:=True
def tw12063554107587957360:=True
def tw12083292858484681600:=True
def tw12129916419068045827:=True
def tw12142402705229143665:=True
def tw12210645711377909905:=True
def tw12270066430816294358:=True
def tw12322684131681972291:=True
def tw12386232937307835638:=True
def tw1242586279568418347:=True
def tw12489074622303629209:=True
def tw12518023492023158571:=True
def tw1264968459164336619:=True
def tw12662448010279500737:=True
def tw12756534993559553524:=True
def tw12775228028504861127:=True
def tw12775980818183378308:=True
def tw12789450493629655454:=True
def tw1285265495248333004:=True
def tw12860212812457821857:=True
def tw1292746627303408994:=True
def tw12970865285315139526:=True
def tw12975910014785763234:=True
def tw13002694052304819386:=True
def tw13016421674874997394:=True
def tw13072101624815469757:=True
def tw13151147849125983257:=True
def tw1316224626997078979:=True
def tw13286244285279993955:=True
def tw13350331289998566509:=True
def tw13353513792522870938:=True
def tw13378954657981045762:=True
def tw13510162084965902326:=True
def tw13510835609860054413:=True
def tw13592777389842785815:=True
def tw13635957989375421784:=True
def tw13645125642465854036:=True
def tw13691854862494265623:=True
def tw13711648745943797412:=True
def tw13776970390651024759:=True
def tw13806719121298193109:=True
def tw1384051446887090050:=True
def tw13861322412718495793:=True
def tw1388535516217088354:=True
def tw13886404257526191759:=True
def tw13895134188357827298:=True
def tw13909722179465841048:=True
def tw13929540615630083941:=True
def tw13948052091471390323:=True
def tw13973848032696414865:=True
def tw13987748929873528524:=True
def tw13995364045234703347:=True
def tw13996349546584429243:=True
def tw14022821333325188111:=True
def tw14080227515575547403:=True
def tw14108627181428941802:=True
def tw14109242895662642039:=True
def tw14127057544256605414:=True
def tw14133562783577992595:=True
def tw14154397168481361797:=True
def tw14155493287910466395:=True
def tw14199733128964217143:=True
def tw14200633829116775215:=True
def tw14214315786662536608:=True
def tw14227139907202641220:=True
def tw14229368222208415989:=True
def tw14248392941875080987:=True
def tw14267615944659501555:=True
def tw14301486697953933739:=True
def tw1430298942448456258:=True
def tw14351556609779085961:=True
def tw14358483774126697407:=True
def tw14439361588229575770:=True
def tw14483567536616890855:=True
def tw14497480686284256144:=True
def tw14507918120883802726:=True
def tw14593527844780538044:=True
def tw14672179010687670029:=True
def tw14706293219667903314:=True
def tw14735065170745834631:=True
def tw14738873478084280093:=True
def tw14762954869329400278:=True
def tw14766233877299324729:=True
def tw14767639765504616521:=True
def tw14885090660588873747:=True
def tw14949345597400271722:=True
def tw15067002415684142288:=True
def tw15078291974105542013:=True
def tw15103035419758163226:=True
def tw15137055206115704970:=True
def tw15263504297830929882:=True
def tw15281379340721923095:=True
def tw15286279347128316192:=True
def tw1529363444086242805:=True
def tw15304572205858238786:=True
def tw1536292383289002315:=True
def tw15373560913457082976:=True
def tw15397597026130122048:=True
def tw15404568192092168559:=True
def tw15421917138088624861:=True
def tw15423159824964516153:=True
def tw15430297224984322752:=True
def tw1544587531994401635:=True
def tw15454632705021874158:=True
def tw15484333586805621877:=True
def tw15592888602211339843:=True
def tw15612502220734628644:=True
def tw15620721214388378518:=True
def tw15623978787083517324:=True
def tw156754792686332554:=True
def tw15681864308166357307:=True
def tw15726304735643567121:=True
def tw15729889873801033464:=True
def tw15747940977781904545:=True
def tw15773670235536127859:=True
def tw15818229603963143256:=True
def tw15828111761677779053:=True
def tw15869787169274725010:=True
def tw15910485780622801374:=True
def tw15929078948674439158:=True
def tw15970363083557139827:=True
def tw15977220669610632631:=True
def tw16025328210169388023:=True
def tw16101130254112319059:=True
def tw16153433006762609926:=True
def tw16167609813555754870:=True
def tw1617456478387782610:=True
def tw16256613922386899056:=True
def tw16321237882148986203:=True
def tw16330043539874797548:=True
def tw16340654259055338380:=True
def tw16342321744119180787:=True
def tw16367996701076578002:=True
def tw16380738556251746250:=True
def tw16463575588029501665:=True
def tw1646469349138504715:=True
def tw16466517846510755713:=True
def tw16475782555586272422:=True
def tw16506621999978494523:=True
def tw16519653678709394220:=True
def tw16589901477987375500:=True
def tw16597511873775292409:=True
def tw16645163396535991437:=True
def tw16688064925915430429:=True
def tw16735684447687349145:=True
def tw16750832068503503068:=True
def tw16781723846834248866:=True
def tw16807195645286180079:=True
def tw16942261606063556151:=True
def tw16987016727897553150:=True
def tw1700920233742429100:=True
def tw17026161747303365987:=True
def tw17031009549351486086:=True
def tw17046983370971560701:=True
def tw17135016837641030623:=True
def tw17164552026249467373:=True
def tw17181944716432747703:=True
def tw1719334430178045181:=True
def tw1724904881656832180:=True
def tw17250446806672522375:=True
def tw1725236372990246177:=True
def tw17293357195429724527:=True
def tw17316596301179294985:=True
def tw17317803732552578649:=True
def tw17321841278577798909:=True
def tw17332632782573006132:=True
def tw17432830337415468327:=True
def tw17492860595455785973:=True
def tw17551213337897515357:=True
def tw17621330932500219068:=True
def tw17689298041517624042:=True
def tw17755559435495196977:=True
def tw17762073801410133626:=True
def tw17787097542622522245:=True
def tw17806802378838700238:=True
def tw17810334462155754663:=True
def tw17826010361362655904:=True
def tw17840370437057190668:=True
def tw1790085239048664536:=True
def tw17904086801815322283:=True
def tw17967520729041660603:=True
def tw17980225284843155250:=True
def tw17990316292381316935:=True
def tw18000414330052067483:=True
def tw18059254482257864827:=True
def tw18104722055418902350:=True
def tw1810869983993904437:=True
def tw18114298963927463915:=True
def tw18129439927409702973:=True
def tw18135879848145306338:=True
def tw18186996027820879752:=True
def tw18254841454445177754:=True
def tw18296255964347969220:=True
def tw18339700858013880355:=True
def tw18409507386210755502:=True
def tw1996253323192379745:=True
def tw2075138791176029649:=True
def tw2105300737548597026:=True
def tw2137203111109807290:=True
def tw2227007780249430915:=True
def tw223167577257046902:=True
def tw2282657473594263692:=True
def tw2286267438807004290:=True
def tw2314294559956064184:=True
def tw2327532013155039993:=True
def tw2366266742727179679:=True
def tw2459183818150986261:=True
def tw2464717226431644403:=True
def tw2570675000051741038:=True
def tw2605466681193834485:=True
def tw2621802468823102586:=True
def tw2642507458232000846:=True
def tw2694278558519594113:=True
def tw2714261469806691293:=True
def tw2714427423370311812:=True
def tw2753289992195523043:=True
def tw2769197562865618277:=True
def tw2796149729035373007:=True
def tw2796646992901314727:=True
def tw2808595185412641897:=True
def tw2850671108761425303:=True
def tw2873094766460527959:=True
def tw2911593507042287275:=True
def tw2928167961625412453:=True
def tw2940753079754342044:=True
def tw2942960828573036434:=True
def tw295822785014179652:=True
def tw3006730113695050731:=True
def tw3051815213055828719:=True
def tw3052465279252493050:=True
def tw3064412759634396080:=True
def tw3076683684326597372:=True
def tw3123938564139256058:=True
def tw315011580913405711:=True
def tw3161213959247474208:=True
def tw3200042933651803684:=True
def tw3201392490445094161:=True
def tw320717937314394929:=True
def tw3229276547891841695:=True
def tw3230498819071106013:=True
def tw3239261626084783167:=True
def tw3269561754406684540:=True
def tw3386598293412738380:=True
def tw3407584810048322217:=True
def tw3429025464207205498:=True
def tw3451390903478995086:=True
def tw3463107058688973911:=True
def tw348596358166551387:=True
def tw3506054927492759255:=True
def tw3521796069473614108:=True
def tw3555066201845403165:=True
def tw35826567939629006:=True
def tw3590138934331702392:=True
def tw3608385103386127473:=True
def tw3609808838424412173:=True
def tw3626914545666298166:=True
def tw3652654540033201432:=True
def tw3663066330712078613:=True
def tw3681406380014851907:=True
def tw3722492837981988335:=True
def tw3725660389927118025:=True
def tw3752778081399130422:=True
def tw3890522749012663983:=True
def tw3913460004036124289:=True
def tw3924865492078606627:=True
def tw397042069526105344:=True
def tw4058476300926911593:=True
def tw406321336809547943:=True
def tw4065507611330102503:=True
def tw4082053702257175054:=True
def tw4090839327331891430:=True
def tw4114238046574985224:=True
def tw4121502363547697613:=True
def tw4180326776283329046:=True
def tw4181963960980808061:=True
def tw4235221191441461174:=True
def tw4258725908175544183:=True
def tw4301458311994414457:=True
def tw4339820190087014400:=True
def tw4340895351321468103:=True
def tw4366031807784702316:=True
def tw4374317363014484476:=True
def tw4390035162084414394:=True
def tw4394866182874494080:=True
def tw4395195649428294995:=True
def tw4423318889483327434:=True
def tw4456612790803140306:=True
def tw4525239356485113967:=True
def tw4563417656100490857:=True
def tw4628559754669874606:=True
def tw466169004209448050:=True
def tw4679198137621356225:=True
def tw4713340992929440983:=True
def tw4757132852610800283:=True
def tw4765118922631822783:=True
def tw4767308531215181259:=True
def tw4771177496520308758:=True
def tw4794073002109664629:=True
def tw480556689087032511:=True
def tw4809619958970845516:=True
def tw4853047504276473854:=True
def tw4855081987373712371:=True
def tw4873098927653643709:=True
def tw4894238324424984138:=True
def tw4960833250135446414:=True
def tw4973084963562681734:=True
def tw4975799040545214526:=True
def tw5005516121892225325:=True
def tw5039129689445763562:=True
def tw5040654972209138105:=True
def tw5170143533392233990:=True
def tw5185490414143455254:=True
def tw5185726545193119712:=True
def tw5190911806623905546:=True
def tw5224439627389726500:=True
def tw524116488971722814:=True
def tw5248582232451039489:=True
def tw5275269924694304561:=True
def tw534722526242351888:=True
def tw5414223659571897641:=True
def tw5453122804978938157:=True
def tw5465908348887930563:=True
def tw5528984405826833568:=True
def tw5555543657139478560:=True
def tw5576158509028824363:=True
def tw5581926632547184170:=True
def tw5607888902553084127:=True
def tw5633975902933638248:=True
def tw5664766616592815691:=True
def tw5721818567976472851:=True
def tw573227507626101713:=True
def tw5747040133351452984:=True
def tw5758359966213322264:=True
def tw578016262941939585:=True
def tw583489909924639368:=True
def tw5855844855728920114:=True
def tw5869417982153026731:=True
def tw5873796133090673046:=True
def tw5903871588166778227:=True
def tw5915297150617490506:=True
def tw6018901554790113236:=True
def tw6099480496465398928:=True
def tw6116993029839115394:=True
def tw616285258517851872:=True
def tw6208807155039224848:=True
def tw6220853705164922640:=True
def tw6244063396927565679:=True
def tw6298234772327256293:=True
def tw6364309939172402825:=True
def tw6399804511774747106:=True
def tw6408554989002306009:=True
def tw6423103330105555104:=True
def tw6441659401449493042:=True
def tw6479546752409345329:=True
def tw6561447680633374888:=True
def tw6577987699189240938:=True
def tw6592933739723045777:=True
def tw6615293170446442495:=True
def tw6746270286660812396:=True
def tw6793658524381399392:=True
def tw6809122810501983188:=True
def tw6814605668789890161:=True
def tw685316483821026958:=True
def tw6854807100739945971:=True
def tw6860660577156080181:=True
def tw6871016341473078148:=True
def tw6878083575270837618:=True
def tw6887581090491170288:=True
def tw6953371490788300037:=True
def tw6960530941309602294:=True
def tw6969907349107227833:=True
def tw6982177214292582640:=True
def tw7061956082318515271:=True
def tw7079813013610824585:=True
def tw7080853192708656083:=True
def tw7083996698042684060:=True
def tw7088299827330621204:=True
def tw7107999610514779467:=True
def tw7115187715239722605:=True
def tw7125958494929327693:=True
def tw7162726682572445822:=True
def tw7191280863635154710:=True
def tw7198822473791284034:=True
def tw7216871808235333336:=True
def tw7225786687498536455:=True
def tw7260200036223708842:=True
def tw7264166952506093225:=True
def tw7283145656081518248:=True
def tw7302866820022752631:=True
def tw7305935002052602540:=True
def tw7352299482247192699:=True
def tw74058303116216348:=True
def tw7448249496999075476:=True
def tw7461630121004482354:=True
def tw7604264689477541948:=True
def tw7623951897140251709:=True
def tw7649208941713948489:=True
def tw7694596541434039092:=True
def tw7738053948384404162:=True
def tw7771993063954352749:=True
def tw7776163495550690022:=True
def tw7795132112807271103:=True
def tw7891866888836552700:=True
def tw7919172801447153980:=True
def tw7967963085393216919:=True
def tw8019358620880898518:=True
def tw8051271668659840987:=True
def tw8073491504427376136:=True
def tw8125588965776420622:=True
def tw813464079743781798:=True
def tw8166882351743451003:=True
def tw8170552666279990230:=True
def tw8175572893851977317:=True
def tw824379040683442847:=True
def tw8315691831924005091:=True
def tw8398762515605916580:=True
def tw8441150073546316130:=True
def tw8452081761572743642:=True
def tw8458529115327140452:=True
def tw8504419128980975074:=True
def tw8504426619559042102:=True
def tw8522788048774707225:=True
def tw8523976532576368183:=True
def tw8525036971820537434:=True
def tw8541253599352357623:=True
def tw8566732144149003944:=True
def tw8576667698284945152:=True
def tw8609891636505446540:=True
def tw862683027388859153:=True
def tw8629028510737322499:=True
def tw8645950572237822277:=True
def tw8656996370723682108:=True
def tw8675519121079861994:=True
def tw8739418892287103395:=True
def tw8803669130329092599:=True
def tw8855284822831582018:=True
def tw8866524079163896975:=True
def tw8882703894248219776:=True
def tw8887468121540683102:=True
def tw8889117189643489464:=True
def tw8956420304493046160:=True
def tw8987201793755192827:=True
def tw8996166975854197045:=True
def tw907277485476950460:=True
def tw9099388899978052357:=True
def tw9178570926573008706:=True
def tw9223381922474789606:=True
def tw9226748045647591100:=True
def tw9264372410218741886:=True
def tw9297009929409831171:=True
def tw932602955693029269:=True
def tw933792139887989975:=True
def tw9401998639794590241:=True
def tw9443367711587038694:=True
def tw9465548256249066942:=True
def tw9489481385324343279:=True
def tw9527960892810409398:=True
def tw9572479781035639605:=True
def tw9575515138201785057:=True
def tw963388954276569319:=True
def tw9636253134179341460:=True
def tw9749267876301061637:=True
def tw9763395162042633268:=True
def tw9777085259208518571:=True
def tw9816698591253539645:=True
def tw9821164903546625788:=True
def tw9868839143576907706:=True
def tw9881370369026167031:=True
def tw9905206849495963874:=True
def tw9945748795318307400:=True
def tw9951914535016741889:=True
end PySem.W.Fast
set_option maxRecDepth 100000 in
set_option maxHeartbeats 0 in
theorem PySem.Challenge.cw_furrow_k25_programs_read_holds : PySem.Challenge.rw_furrow_k25_programs_read.Holds := by
 w_on;o_law;k_head;(case hw=>w_witness2)
 k_fill
 refine L2.law_walk (l:=PySem.Challenge.rw_furrow_k25_programs_read) (x:="_law_script") 90 (by decide) rfl rfl (fun w h Y=>PySem.W.kIn_of Y) ?F
 case F=>
  intro w mg fa h KX G hmg
  suffices hh:∃a:Fw.Ad,Fw.Tx w _ mg a/\fa=a.f_S/\(∀(s:Shared) (v:Value),BindsTo s a.d_S ⟨[v],[]⟩ [("_law_script",v)]) by
   obtain⟨a,T,e,b⟩:=hh
   subst e
   exact⟨a.d_S,b,fun base _ _=>Fw.ok_law T⟩
  refine' Fw.txt_mk KX G hmg ?a_Term ?a_Number ?a_Value ?a_Cell ?a_Joined ?a_Deed ?a_Program ?a_Draft ?h1 ?h2 ?h3 ?h4 ?h5 ?h6 ?h7 ?h8 ?h9 ?h10 ?h11 ?h12 ?h13 ?h14 ?h15 ?h16 ?h17 ?h18 ?h19 ?h20 ?h21 ?h22 ?h23 ?h24 ?h25 ?h26 ?h27 ?h28 ?h29 ?h30 ?h31 ?h32 ?h33 ?h34 ?h35 ?h36 ?h37 ?h38 ?h39 ?h40 ?h41 ?h42 ?h43 ?h44 ?h45 ?h46 ?h47 ?h48 ?h49 ?h50 ?h51 ?h52 ?n_Number_n ?n_Value_name ?n_Cell_table ?n_Cell_spots ?n_Joined_sign ?n_Joined_left ?n_Joined_right ?n_Deed_names ?n_Deed_lows ?n_Deed_highs ?n_Deed_table ?n_Deed_spots ?n_Deed_term ?n_Deed_path ?n_Program_size ?n_Program_deeds ?n_Draft_size ?n_Draft_deeds ?n_Draft_tables ?n_Draft_names ?n_Draft_lows ?n_Draft_highs ?n_Draft_path ?hn0 ?ht0 ?ha_Number ?hm_Number ?is_Number_Term ?is_Number_Number ?is_Number_Value ?is_Number_Cell ?is_Number_Joined ?is_Number_Deed ?is_Number_Program ?is_Number_Draft ?ha_Value ?hm_Value ?is_Value_Term ?is_Value_Number ?is_Value_Value ?is_Value_Cell ?is_Value_Joined ?is_Value_Deed ?is_Value_Program ?is_Value_Draft ?ha_Cell ?hm_Cell ?is_Cell_Term ?is_Cell_Number ?is_Cell_Value ?is_Cell_Cell ?is_Cell_Joined ?is_Cell_Deed ?is_Cell_Program ?is_Cell_Draft ?ha_Joined ?hm_Joined ?is_Joined_Term ?is_Joined_Number ?is_Joined_Value ?is_Joined_Cell ?is_Joined_Joined ?is_Joined_Deed ?is_Joined_Program ?is_Joined_Draft ?is_str_Term ?is_str_Number ?is_str_Value ?is_str_Cell ?is_str_Joined ?is_str_Deed ?is_str_Program ?is_str_Draft ?ha_Deed ?hm_Deed ?is_Deed_Term ?is_Deed_Number ?is_Deed_Value ?is_Deed_Cell ?is_Deed_Joined ?is_Deed_Deed ?is_Deed_Program ?is_Deed_Draft ?ha_Program ?hm_Program ?is_Program_Term ?is_Program_Number ?is_Program_Value ?is_Program_Cell ?is_Program_Joined ?is_Program_Deed ?is_Program_Program ?is_Program_Draft ?ha_Draft ?hm_Draft ?is_Draft_Term ?is_Draft_Number ?is_Draft_Value ?is_Draft_Cell ?is_Draft_Joined ?is_Draft_Deed ?is_Draft_Program ?is_Draft_Draft ?z_abs ?z_all ?z_bool ?z_enumerate ?z_int ?z_isinstance ?z_len ?z_list ?z_range ?z_str ?z_tuple ?g_FIGURES ?g_LEAST_SIZE ?g_LETTERS ?g_MOST_DEEDS ?g_MOST_FIGURES ?g_MOST_LETTERS ?g_MOST_LOOPS ?g_MOST_SPOTS ?g_ROW_WORDS ?q_ROW_WORDS ?g_SIGNS ?g_STRENGTHS ?q_STRENGTHS ?hh_STRENGTHS0 ?hh_STRENGTHS1 ?hh_STRENGTHS2 ?hh_STRENGTHS3 ?qsm_STRENGTHS ?qnb
  any_goals first|refine'⟨?_,L2.fun_mk ?_ ?_ ?_⟩|refine'⟨?_,?_,L2.fun_mk ?_ ?_ ?_⟩|refine' Fw.ClA.mk ?_ ?_ ?_ ?_ ?_ ?_ ?_
  any_goals first|k_is|kit_is|exact rfl|kernel_rfl|decide
#print axioms PySem.Challenge.cw_furrow_k25_programs_read_holds
