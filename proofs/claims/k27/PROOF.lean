import PyProof.Rows.All
import Wide.All
import OpenK.AllK
import Wide.FinOn
import Lean
import PyProof.EqAt
import PyProof.EqKinds
import PyProof.TupleCall
import PyProof.ListMulRoad
import PySem.Challenge.RW_furrow_k27_the_first_row_that_is_wrong
set_option genSizeOf false
set_option genInjectivity false
set_option compiler.extract_closed false
set_option Elab.async false
set_option linter.all false
set_option maxRecDepth 100000
set_option maxHeartbeats 4000000
noncomputable section
abbrev Zc:=PySem.W.Frag
def A9:=@if_neg
def Ac:=@if_pos
def Ag:=@List.length_map
def An:=@List.length_append
def Ao:=@PySem.wpAny_bind
def Aq:=@Nat.le_refl
def Av:=@List.mem_cons
def AH:=@List.mem_cons_self
def AJ:=@List.length_cons
def AR:=@List.map_append
def AU:=@PySem.W.mg_of
def B5:=@List.mem_cons_of_mem
def Bb:=@List.length_take
def Bc:=@decide_eq_true
def Bf:=@List.length_singleton
def Bg:=@decide_eq_false
def Bj:=@PySem.wpAny_pure
def Bo:=@PySem.Heap.lt_size
def Br:=@List.append_assoc
def Bt:=@List.mem_singleton
def By:=@List.mem_append
def Bz:=@PySem.Heap.get?_push_of_some
def BC:=@List.getElem?_eq_getElem
def BE:=@List.map_cons
def BI:=@Nat.zero_le
def BJ:=@PySem.F.plainAttrs_list
def BP:=@Nat.le_trans
def BQ:=@List.getElem?_eq_some_iff
def BS:=@List.length_drop
def BU:=@Int.emod_nonneg
def BX:=@List.size_toArray
def C0:=@Int.emod_lt_of_pos
def C6:=@Bool.false_ne_true
def Ca:=@Nat.ne_of_lt
def Ce:=@List.getElem?_map
def Co:=@Option.some.inj
def Cp:=@List.not_mem_nil
def Cq:=@List.cons_ne_nil
def Cz:=@List.mem_append_right
def CB:=@Nat.lt_of_lt_of_le
def CC:=@PySem.F.slot_list_append
def CF:=@PySem.F.type_list_append
def CG:=@beq_iff_eq
def CK:=@List.mem_map
def CU:=@List.mem_of_getElem?
def CV:=@PySem.wpAny_mono
def D6:=@List.append_nil
def Dl:=@PySem.Heap.get?_push_size
def Dx:=@List.cons_append
def E1:=@List.lookup_cons
def E2:=@PySem.F.plainAttrs_str
def E3:=@Classical.em
def Eh:=@List.mem_append_left
def Ei:=@Bool.eq_iff_iff
def Ej:=@List.getElem?_append_left
def El:=@List.take_length
def EA:=@List.getElem?_append_right
def EB:=@List.all_eq_true
def EC:=@PySem.F.slot_list_pop
def ED:=@PySem.F.type_list_pop
def EF:=@beq_eq_false_iff_ne
def EG:=@decide_eq_true_eq
def EU:=@Nat.lt_irrefl
def EV:=@PySem.W.kia_one
def EW:=@List.all_cons
def EY:=@List.getElem_mem
def EZ:=@List.mem_of_mem_take
def F0:=@PySem.W.mg_none_of
def F1:=@bne_iff_ne
def Fj:=@List.length_replicate
def Fk:=@Nat.sub_self
def Fl:=@List.filter_cons
def Fm:=@List.eq_nil_of_length_eq_zero
def Fn:=@PySem.wpAny_call
def Fp:=@if_true
def FL:=@Int.toNat_natCast
def FM:=@List.nil_append
def FN:=@List.take_left
def FO:=@List.map_map
def FP:=@PySem.sizeLine_eq
def FQ:=@if_false
def FR:=@PySem.wpAny_field
def Gc:=@List.nodup_cons
def Gd:=@PySem.Heap.get?_update_other
def Ge:=@Nat.succ_pos
def Gf:=@List.getD_eq_getElem?_getD
def Gg:=@List.mem_of_mem_drop
def Gh:=@List.take_of_length_le
def Gi:=@List.drop_eq_getElem_cons
def Gj:=@List.filter_append
def Gk:=@PySem.codeAny_mono
def Gm:=@PySem.wpAny_Call_Name_kw
def Gn:=@PySem.call_meets
def Gp:=@PySem.wpAny_holding
def GZ:=@List.mem_filter
def Ha:=@Nat.le_of_lt
def Hb:=@Nat.ne_of_gt
def Hc:=@Bool.and_eq_true
def Hd:=@List.flatten_cons
def He:=@Bool.false_eq_true
def Ia:=@Nat.le_succ
def Ib:=@List.replicate_succ
def Ic:=@List.drop_left
def Ie:=@List.dropWhile_cons
def Ig:=@Classical.byContradiction
def Ih:=@List.length_reverse
def Ii:=@List.reverse_cons
def Ij:=@PySem.wpAny_truthy_bool
def Ik:=@PySem.wpAny_passesOwn
def Il:=@PySem.typeIs_str
def Im:=@PySem.wpAny_loadPart_at
def Jh:=@PySem.Heap.size_push
def Ji:=@List.any_cons
def Jj:=@List.length_nil
def Jk:=@List.drop_zero
def Jl:=@List.map_drop
def Jm:=@Nat.min_eq_left
def Jn:=@List.drop_drop
def Jo:=@List.takeWhile_cons
def Jp:=@List.reverse_reverse
def Jq:=@List.map_take
def Jr:=@Nat.le_add_right
def Js:=@Nat.zero_add
def Jt:=@List.map_eq_nil_iff
def Ju:=@List.length_filter_le
def Jv:=@PySem.wpAny_standAt
def Jw:=@of_decide_eq_true
def Jx:=@PySem.codeAny_call_builtin
def Lz:=@List.mem_range
def LA:=@Nat.lt_succ_self
def LB:=@PySem.W.callWith_K
def LC:=@PySem.mem_of_lookup
def LD:=@PySem.Heap.get?_update_self
def LF:=@List.length_dropLast
def LG:=@List.find?_cons
def LH:=@List.take_append_drop
def LI:=@Nat.le_succ_of_le
def LJ:=@List.reverse_append
def LK:=@Array.getElem?_eq_some_iff
def LL:=@List.mem_replicate
def LM:=@List.all_map
def LN:=@PySem.F.slot_str_partition
def LO:=@PySem.F.type_str_partition
def LP:=@PySem.wpAny_execs_nil
def LQ:=@PySem.wpAny_pyIter_list
def LR:=@PySem.wpAny_setField_rec
def LS:=@PySem.wpAny_attempt
def NK:=@List.getElem?_set_self
def NM:=@Bool.or_false
def NN:=@Nat.succ_le_succ
def NO:=@List.dropLast_concat_getLast
def NP:=@List.nodup_nil
def NQ:=@List.sum_cons
def NR:=@Bool.eq_false_iff
def NS:=@Bool.or_true
def NT:=@PySem.Value.ref.inj
def NU:=@Option.map_eq_some_iff
def NV:=@PySem.F.slot_str_split
def NW:=@PySem.F.type_str_split
def NX:=@List.drop_length
def NY:=@PySem.F.slot_str_join
def NZ:=@PySem.F.type_str_join
def O0:=@List.length_pos_iff
def O1:=@PySem.seqIndex_neg
def O2:=@PySem.wpAny_isSubtype_exc
def QX:=@List.filterMap_cons
def QY:=@List.getElem?_set_ne
def QZ:=@PySem.W.any_some
def R0:=@List.of_mem_zip
def R1:=@List.take_sublist
def R3:=@List.map_congr_left
def R4:=@List.drop_eq_nil_of_le
def R5:=@Bool.or_eq_true
def R6:=@List.isEmpty_iff
def R7:=@List.filter_eq_self
def R8:=@PyProof.Rows.toString_length_le
def R9:=@List.dropLast_concat
def Ra:=@List.filter_reverse
def Rb:=@List.append_eq_nil_iff
def Rc:=@Nat.not_lt_zero
def Re:=@Bool.and_eq_true_iff
def Rf:=@ne_true_of_eq_false
def Rg:=@PySem.wpAny_Constant_str
def Rh:=@not_false_eq_true
def Z8:=@PyProof.Rows.callWith_type1
def Z9:=@PyProof.Rows.callWith_builtin1
def Za:=@PySem.F.slot_dict_setdefault
def Zb:=@PySem.plainObj_wpAny_Assign_Attribute
namespace L2
open PySem PySem.Spec PyProof.Rows
abbrev Bp:=Sum Int Str
def Ho:Bp->Value->Bool
 |.inl k,v=>Value.isInt k v
 |.inr x,v=>Value.isStrOf x v
def Ve (w:World):Bp->Int
 |.inl k=>hashInt k
 |.inr x=>hashStr w x
theorem FJ:∀{k:Bp} {v:Value},Ho k v=true->(∃i t,k=Sum.inl i/\v=Value.int i t)\/(∃x t,k=Sum.inr x/\v=Value.str x t)
 |
  .inl i,v,h=>by
  obtain⟨t,e⟩:=Value.isInt_shape (k:=i) (v:=v) h;exact .inl ⟨i,t,rfl,e⟩
 |
  .inr x,v,h=>by
  obtain⟨t,e⟩:=Value.isStrOf_shape (x:=x) (v:=v) h;exact .inr ⟨x,t,rfl,e⟩
theorem WT (i:Int)(t:Tok):Ho (.inl i) (.int i t)=true:=by simp[Ho,Value.isInt]
theorem UC (x:Str)(t:Tok):Ho (.inr x) (.str x t)=true:=by simp[Ho,Value.isStrOf]
theorem Vj (a b:Int):decide ((Sum.inl a:Bp)=Sum.inl b)=(a==b):=by
 by_cases e:a=b
 .subst e;simp
 .have h:¬(Sum.inl a:Bp)=Sum.inl b:=λq=>e (Sum.inl.inj q);rw[Bg h];exact(EF.mpr e).symm
theorem Sy (a b:Str):decide ((Sum.inr a:Bp)=Sum.inr b)=decide (a=b):=by
 by_cases e:a=b
 .subst e;simp
 .have h:¬(Sum.inr a:Bp)=Sum.inr b:=λq=>e (Sum.inr.inj q);rw[Bg h,Bg e]
theorem W2 (a:Int)(b:Str):decide ((Sum.inl a:Bp)=Sum.inr b)=false:=Bg (λq=>nomatch q)
theorem Yn (a:Str)(b:Int):decide ((Sum.inr a:Bp)=Sum.inl b)=false:=Bg (λq=>nomatch q)
def DL (prog:Program)(w:World):PySem.KeyKind prog w Bp where
 is:=Ho
 hash:=Ve w
 inj:=λv a b ha hb=>by
  rcases FJ ha with⟨i,t,rfl,rfl⟩|⟨x,t,rfl,rfl⟩
  .rcases FJ hb with⟨j,u,rfl,e⟩|⟨y,u,rfl,e⟩
   .injection e with e1 _;rw[e1]
   .exact nomatch e
  .rcases FJ hb with⟨j,u,rfl,e⟩|⟨y,u,rfl,e⟩
   .exact nomatch e
   .injection e with e1 _;rw[e1]
 byValue:=λk v h=>by
  rcases FJ h with⟨i,t,rfl,rfl⟩|⟨x,t,rfl,rfl⟩<;>rfl
 pyHash:=λhv h=>by
  rcases FJ hv with⟨i,t,rfl,rfl⟩|⟨x,t,rfl,rfl⟩
  .exact wpAny_pyHash_int h
  .exact wpAny_pyHash_str h
 eqBool:=λhu hv h=>by
  rcases FJ hu with⟨i,t,rfl,rfl⟩|⟨x,t,rfl,rfl⟩
  .rcases FJ hv with⟨j,u,rfl,rfl⟩|⟨y,u,rfl,rfl⟩
   .rw[Vj]at h;exact wpAny_eqBool_int h
   .rw[W2]at h;exact SeqAt.EqAt.int_str i t y u _ _ _ _ h
  .rcases FJ hv with⟨j,u,rfl,rfl⟩|⟨y,u,rfl,rfl⟩
   .rw[Yn]at h;exact SeqAt.EqAt.str_int x t j u _ _ _ _ h
   .rw[Sy]at h;exact wpAny_eqBool_str h
 «strs» := λk x t v h=>by
  rcases FJ h with⟨i,u,rfl,e⟩|⟨y,u,rfl,e⟩
  .exact nomatch e
  .injection e with e1 _;subst e1;cases v<;>rfl
theorem Sh (prog:Program)(w:World)(i:Int)(t:Tok):(DL prog w).is (.inl i) (.int i t)=true:=WT i t
theorem WA (prog:Program)(w:World)(x:Str)(t:Tok):(DL prog w).is (.inr x) (.str x t)=true:=UC x t
set_option genInjectivity true in
inductive V where
 |non|bl (b:Bool)|int (i:Int)|str (x:Str)|byt (b:Array UInt8)|flt (b:UInt64)|ref (a:Addr)|ty (n:String)
 deriving DecidableEq
def AK:V->Value->Prop
 |.non,u=>u=Value.none
 |.bl b,u=>u=Value.bool b
 |.int i,u=>∃t,u=Value.int i t
 |.str x,u=>∃t,u=Value.str x t
 |.byt b,u=>∃t,u=Value.bytes b t
 |.flt b,u=>∃t,u=Value.float b t
 |.ref a,u=>u=Value.ref a
 |.ty n,u=>u=Value.type n
abbrev AE:List V->List Value->Prop:=Paired AK
theorem AE.length {xs:List V}{us:List Value}(r:AE xs us):xs.length=us.length:=Paired.length r
theorem AE.get:∀{xs:List V} {us:List Value} {i:Nat} {x:V},AE xs us->xs[i]?=some x->∃u,us[i]?=some u/\AK x u
 |_,_,_,_,.nil,e=>by simp at e
 |_,_,0,_,.cons r _,e=>by simp at e;subst e;exact⟨_,rfl,r⟩
 |
  _,_,i+1,x,.cons _ t,e=>by
  obtain⟨u,h1,h2⟩:=AE.get (i:=i) (x:=x) t (by simpa using e);exact⟨u,by simpa using h1,h2⟩
theorem AE.set {x:V}{u:Value}(r:AK x u):∀{xs:List V} {us:List Value} (i:Nat),AE xs us->AE (xs.set i x) (us.set i u)
 |_,_,_,.nil=>.nil
 |_,_,0,.cons _ t=>.cons r t
 |_,_,i+1,.cons q t=>.cons q (AE.set r i t)
theorem AE.append:∀{xs ys:List V} {us ws:List Value},AE xs us->AE ys ws->AE (xs++ys) (us++ws)
 |_,_,_,_,.nil,s=>s
 |_,_,_,_,.cons r t,s=>.cons r (AE.append t s)
theorem AE.take:∀{xs:List V} {us:List Value} (n:Nat),AE xs us->AE (xs.take n) (us.take n)
 |_,_,0,_=>.nil
 |_,_,_+1,.nil=>.nil
 |_,_,n+1,.cons r t=>.cons r (AE.take n t)
theorem AE.drop:∀{xs:List V} {us:List Value} (n:Nat),AE xs us->AE (xs.drop n) (us.drop n)
 |_,_,0,r=>r
 |_,_,_+1,.nil=>.nil
 |_,_,n+1,.cons _ t=>AE.drop n t
theorem AE.none_of:∀{xs:List V} {us:List Value} {i:Nat},AE xs us->xs[i]?=none->us[i]?=none:=fun{xs us i} r e=>by
 have h1:=r.length;have h2:xs.length<=i:=List.getElem?_eq_none_iff.mp e;exact List.getElem?_eq_none_iff.mpr (by lia)
def F9:Option V->Option Value->Prop
 |some v,some u=>AK v u
 |none,none=>True
 |_,_=>False
def KV {κ:Type}:List (κ×V)->List (κ×Value)->Prop:=Paired fun(p:κ×V) (q:κ×Value)=>p.1=q.1/\AK p.2 q.2
def kV:Bp->V
 |.inl i=>.int i
 |.inr x=>.str x
set_option genInjectivity true in
inductive HO where
 |lst (xs:List V)
 |tup (xs:List V)
 |dK (kvs:List (Bp×V))|dT (kvs:List (List Bp×V))
 |set (S:Int->Bool) (n:Nat)
 |ins (C dx:Addr) (fs:List (Str×V))
 |own (x:Addr)
 |xd (fs:List (Str×V))
 |met (f x:Addr)
 |rng (lo hi:Int)
 |frz (o:Obj) (u:HO)
 |tbl (ps:Array Value)
 |ext (φ:Heap->Prop)
abbrev Hp:=Addr->Option HO
def upd (H:Hp)(a:Addr)(o:HO):Hp:=λb=>if b=a then some o else H b
theorem A3 {H:Hp}{a:Addr}{o:HO}:upd H a o a=some o:=by unfold upd;rw[Ac rfl]
theorem Aa {H:Hp}{a b:Addr}{o:HO}(h:b≠a):upd H a o b=H b:=by unfold upd;rw[A9 h]
theorem JI {H:Hp}{a:Addr}{o u:HO}:upd (upd H a o) a u=upd H a u:=by
 funext b;unfold upd;split<;>rfl
theorem Dm {H:Hp}{a b:Addr}{o u:HO}(h:H a=some o)(h':H b=some u)(d:o≠u):a≠b:=by
 intro e;subst e;rw[h]at h';exact d (Co h')
theorem B0 {H:Hp}{a b:Addr}{o:HO}(h:H a=some o)(h':H b=none):a≠b:=by
 intro e;subst e;rw[h]at h';cases h'
section
variable (P:Program)(w:World)
def FW (h:Heap)(a:Addr)(its:Array Value):Prop := ∃o,h.get? a=some o/\o.cls = .type "tuple"/\(∃n,o.data = .seq its n)/\o.dict=none
theorem FW.tup {h:Heap}{a:Addr}{its:Array Value}(x:FW h a its):IsTup h a its:=by obtain⟨o,e,c,d,_⟩:=x;exact⟨o,e,c,d⟩
theorem FW.new (h:Heap)(its:Array Value):FW (h.push {cls:=.type "tuple",data:=.seq its}) h.objs.size its:=⟨_,Dl _ rfl,rfl,⟨_,rfl⟩,rfl⟩
def BN (H:Hp)(h:Heap)(a:Addr):HO->Prop
 |.lst xs=>xs.length<=sizeLine/\∃(its:List Value) (n:Nat),AE xs its/\h.get? a=some {cls:=.type "list",data:=.seq its.toArray n}
 |.tup xs=>xs.length<=sizeLine/\∃its:List Value,AE xs its/\FW h a its.toArray
 |.dK kvs=>kvs.length<=sizeLine/\(a==sysModules)=false/\∃vs,KV kvs vs/\h.DictOf (DL P w) a vs
 |.dT kvs=>kvs.length<=sizeLine/\(a==sysModules)=false/\∃xs:List (List Bp×Addr×Value),
  Paired (fun(p:List Bp×V) (q:List Bp×Addr×Value)=>p.1=q.1/\H q.2.1=some (.tup (p.1.map kV))/\AK p.2 q.2.2) kvs xs/\
  ∃o es ep,h.get? a=some o/\o.ExactDict/\o.data = .dict es ep/\es.toList=xs.map (entryOfKey (tupleKind (DL P w)))/\(xs.map (·.1)).Nodup
 |.set S n=>h.SetOf (intKind P w) a S n
 |.ins C dx fs=>H dx=some (.own a)/\fs.length<=1000/\dx≠a/\h.get? a=some (PySem.W.instObj C dx)/\
  ∃mA,h.Ns1 dx mA/\(∀f,F9 (fs.lookup f) (mA f))/\PySem.Within mA (fs.map (·.1))
 |.own _=>∃o,h.get? a=some o
 |.xd fs=>∃mA,h.Ns1 a mA/\∀f,F9 (fs.lookup f) (mA f)
 |.rng lo hi=>∃t u v,h.get? a=some {cls:=.type "range",data:=.fields #[.int lo t,.int hi u,.int 1 v]}
 |.frz o u=>h.get? a=some o/\BN H h a u
 |.tbl ps=>h.get? a=some {cls:=.none,data:=.fields ps}
 |.met f x=>h.get? a=some (PySem.W.methodObj (.ref f) (.ref x))
 |.ext φ=>φ h/\(∃o,h.get? a=some o)/\∀h1 h2:Heap,φ h1->(∀o,h1.get? a=some o->h2.get? a=some o)->φ h2
def BA (H:Hp)(h:Heap):Prop := ∀a o,H a=some o->BN P w H h a o
end
section
variable {P:Program}{w:World}{H H':Hp}{h h':Heap}{a:Addr}{o:HO}
theorem BN.lt (x:BN P w H h a o):a<h.objs.size:=by
 cases o with
 |lst xs=>obtain⟨_,_,_,_,e⟩:=x;exact Bo e
 |tup xs=>obtain⟨_,_,_,p⟩:=x;exact p.tup.lt
 |dK kvs=>obtain⟨_,_,_,_,o,_,_,e,_⟩:=x;exact Bo e
 |dT kvs=>obtain⟨_,_,_,_,o,_,_,e,_⟩:=x;exact Bo e
 |set S n=>obtain⟨o,_,_,_,e,_⟩:=x;exact Bo e
 |ins C dx fs=>obtain⟨_,_,_,e,_⟩:=x;exact Bo e
 |own y=>obtain⟨_,e⟩:=x;exact Bo e
 |xd fs=>obtain⟨_,⟨_,_,_,e,_⟩,_⟩:=x;exact Bo e
 |rng lo hi=>obtain⟨_,_,_,e⟩:=x;exact Bo e
 |frz ob u=>obtain⟨e,_⟩:=x;exact Bo e
 |tbl ps=>exact Bo (show h.get? a=some _ from x)
 |met f y=>exact Bo (show h.get? a=some _ from x)
 |ext φ=>obtain⟨_,⟨_,e⟩,_⟩:=x;exact Bo e
theorem Paired.mapP {α β:Type}{F G:α->β->Prop}:∀{l₁:List α} {l₂:List β},Paired F l₁ l₂->(∀a b,F a b->G a b)->Paired G l₁ l₂
 |_,_,.nil,_=>.nil
 |_,_,.cons r t,f=>.cons (f _ _ r) (Paired.mapP t f)
theorem BN.stay (x:BN P w H h a o)(k:∀b u,(b=a\/H b=some (.own a))->h.get? b=some u->h'.get? b=some u)
  (ho:∀b,H b=some (.own a)->H' b=some (.own a)) (ht:∀b xs,H b=some (.tup xs)->H' b=some (.tup xs)):BN P w H' h' a o:=by
 induction o with
 |lst xs=>obtain⟨z,its,n,r,e⟩:=x;exact⟨z,its,n,r,k _ _ (.inl rfl) e⟩
 |tup xs=>obtain⟨z,its,r,ob,e,c⟩:=x;exact⟨z,its,r,ob,k _ _ (.inl rfl) e,c⟩
 |dK kvs=>obtain⟨z,y,vs,r,ob,es,ep,e,c⟩:=x;exact⟨z,y,vs,r,ob,es,ep,k _ _ (.inl rfl) e,c⟩
 |
  dT kvs=>
  obtain⟨z,y,xs,r,ob,es,ep,e,c⟩:=x;exact⟨z,y,xs,Paired.mapP r λp q z=>⟨z.1,ht _ _ z.2.1,z.2.2⟩,ob,es,ep,k _ _ (.inl rfl) e,c⟩
 |set S n=>obtain⟨ob,es,ep,t,e,c⟩:=x;exact⟨ob,es,ep,t,k _ _ (.inl rfl) e,c⟩
 |
  ins C dx fs=>
  obtain⟨d,z,ne,e,mA,⟨od,es,ep,e2,c⟩,r⟩:=x;exact⟨ho _ d,z,ne,k _ _ (.inl rfl) e,mA,⟨od,es,ep,k _ _ (.inr d) e2,c⟩,r⟩
 |own y=>obtain⟨ob,e⟩:=x;exact⟨ob,k _ _ (.inl rfl) e⟩
 |xd fs=>obtain⟨mA,⟨od,es,ep,e,c⟩,r⟩:=x;exact⟨mA,⟨od,es,ep,k _ _ (.inl rfl) e,c⟩,r⟩
 |rng lo hi=>obtain⟨t,u,v,e⟩:=x;exact⟨t,u,v,k _ _ (.inl rfl) e⟩
 |frz ob u ih=>obtain⟨e,q⟩:=x;exact⟨k _ _ (.inl rfl) e,ih q⟩
 |
  tbl ps=>
  have e:h.get? a=some {cls:=.none,data:=.fields ps}:=x;show h'.get? a=some {cls:=.none,data:=.fields ps};exact k a _ (.inl rfl) e
 |
  met f y=>
  have e:h.get? a=some (PySem.W.methodObj (.ref f) (.ref y)):=x;show h'.get? a=some (PySem.W.methodObj (.ref f) (.ref y));exact k a _ (.inl rfl) e
 |ext φ=>obtain⟨p,⟨o,e⟩,st⟩:=x;exact⟨st _ _ p λo q=>k _ _ (.inl rfl) q,⟨o,k _ _ (.inl rfl) e⟩,st⟩
theorem BA.lt (x:BA P w H h)(e:H a=some o):a<h.objs.size:=(x a o e).lt
theorem BA.fresh (x:BA P w H h)(e:h.objs.size<=a):H a=none:=by
 cases q:H a with
 |none=>rfl
 |some u=>exact absurd (CB (x.lt q) e) (EU _)
theorem BA.kept (x:BA P w H h)(k:∀b u,h.get? b=some u->h'.get? b=some u):BA P w H h':=λa o e=>
 (x a o e).stay (λb u _ q=>k b u q) (λ_ q=>q) λ_ _ q=>q
theorem BA.laid (x:BA P w H h)(k:∀b u,h.get? b=some u->h'.get? b=some u)(hp:h.objs.size<=a)(new:BN P w (upd H a o) h' a o):BA P w (upd H a o) h':=λb u e=>by
 have hn:=x.fresh hp;by_cases hb:b=a
 .subst hb;rw[A3]at e;cases e;exact new
 .rw[Aa hb]at e;exact(x b u e).stay (λc v _ q=>k c v q) (λc q=>by rw[Aa (B0 q hn)];exact q) λc xs q=>by rw[Aa (B0 q hn)];exact q
end
def Rd (H:Hp)(a:Addr)(u:HO):Prop:=H a=some u\/∃o,H a=some (.frz o u)
theorem Rd.ok {P:Program}{w:World}{H:Hp}{h:Heap}{a:Addr}{u:HO}(r:Rd H a u)(x:BA P w H h):BN P w H h a u:=by
 rcases r with r|⟨o,r⟩
 .exact x a u r
 .obtain⟨_,q⟩:=x a _ r;exact q
def Ip:Option HO->Prop
 |some (.lst _)=>True
 |some (.dK _)=>True
 |some (.dT _)=>True
 |some (.set _ _)=>True
 |some (.ins _ _ _)=>True
 |some (.ext _)=>True
 |_=>False
section
variable {P:Program}{w:World}{H:Hp}{h h':Heap}{x e:Addr}{o':HO}
theorem BA.write (ok:BA P w H h)(mu:Ip (H x))(he:e=x\/H e=some (.own x))(k:∀b u,b≠e->h.get? b=some u->h'.get? b=some u)(heo:∃u,h'.get? e=some u)
  (new:BN P w (upd H x o') h' x o'):BA P w (upd H x o') h':=λb u q=>by
 have nown:∀c y,H c=some (.own y)->c≠x:=λc y r z=>by subst z;rw[r]at mu;exact mu
 have ntup:∀c xs,H c=some (.tup xs)->c≠x:=λc xs r z=>by subst z;rw[r]at mu;exact mu
 by_cases hb:b=x
 .subst hb;rw[A3]at q;cases q;exact new
 .rw[Aa hb]at q;by_cases hbe:b=e
  .have q':H b=some (.own x):=by
    rcases he with z|z
    .exact absurd (hbe.trans z) hb
    .rw[hbe];exact z
   rw[q]at q';cases q';obtain⟨v,hv⟩:=heo;exact⟨v,by rw[hbe];exact hv⟩
  .refine(ok b u q).stay (λc v hc r=>k c v ?_ r) (λc r=>by rw[Aa (nown c b r)];exact r) λc xs r=>by rw[Aa (ntup c xs r)];exact r
   rcases hc with rfl|hc
   .exact hbe
   .rintro rfl;rcases he with z|z
    .exact nown c b hc z
    .rw[hc]at z;cases z;exact hb rfl
end
structure Un (fs ex:List Addr)(H H':Hp)(h h':Heap):Prop where
 keep:∀b o,h.get? b=some o->H b=none->b∉fs->b∉ex->h'.get? b=some o
 slot:∀b o,h.get? b=some o->H b=none->b∈fs->b∉ex->∃sl,h'.get? b=some {o with slots:=sl}
 free:∀b o,h.get? b=some o->H b=none->b∉ex->H' b=none
 there:∀b o,h.get? b=some o->b∉ex->∃o',h'.get? b=some o'
 tups:∀b xs,H b=some (.tup xs)->H' b=some (.tup xs)
 frzs:∀b o u,H b=some (.frz o u)->H' b=some (.frz o u)
 tbls:∀b ps,H b=some (.tbl ps)->∃more,H' b=some (.tbl (ps++more))
section
variable {fs fs' ex ex':List Addr}{H H1 H2:Hp}{h h1 h2 h':Heap}{a x e:Addr}{o:HO}
theorem Un.any (u:Un fs ex H H1 h h1){b:Addr}{ob:Obj}(q:h.get? b=some ob)(n:H b=none)(hx:b∉ex):∃sl,h1.get? b=some {ob with slots:=sl}:=by
 by_cases hb:b∈fs
 .exact u.slot b ob q n hb hx
 .exact⟨ob.slots,u.keep b ob q n hb hx⟩
theorem Un.kept (k:∀b u,h.get? b=some u->h'.get? b=some u):Un fs ex H H h h':=
 ⟨λb ob q _ _ _=>k b ob q,λb ob q _ _ _=>⟨ob.slots,k b ob q⟩,λ_ _ _ n _=>n,λb ob q _=>⟨ob,k b ob q⟩,λ_ _ q=>q,λ_ _ _ q=>q,λ_ ps q=>⟨#[],by rw[q];simp⟩⟩
theorem Un.refl:Un fs ex H H h h:=Un.kept λ_ _ q=>q
theorem Un.laid (k:∀b u,h.get? b=some u->h'.get? b=some u)(hp:h.objs.size<=a)(hn:H a=none):Un fs ex H (upd H a o) h h' where
 keep:=λb u q _ _ _=>k b u q
 slot:=λb u q _ _ _=>⟨u.slots,k b u q⟩
 free:=λb u q n _=>by rw[Aa (Ca (CB (Bo q) hp))];exact n
 there:=λb u q _=>⟨u,k b u q⟩
 tups:=λb xs q=>by rw[Aa (B0 q hn)];exact q
 frzs:=λb u xs q=>by rw[Aa (B0 q hn)];exact q
 tbls:=λb ps q=>⟨#[],by rw[Aa (B0 q hn),q];simp⟩
theorem Un.write (mu:Ip (H x))(he:e=x\/H e=some (.own x))(k:∀b u,b≠e->h.get? b=some u->h'.get? b=some u)(heo:∃u,h'.get? e=some u):Un fs ex H (upd H x o) h h':=by
 have hx:∀b,H b=none->b≠x:=λb n z=>by subst z;rw[n]at mu;exact mu
 have hb:∀b,H b=none->b≠e:=λb n z=>by
  subst z;rcases he with r|r
  .exact hx b n r
  .rw[n]at r;cases r
 have hm:∀b u,H b=some u->¬Ip (some u)->b≠x:=λb u q nm z=>by subst z;rw[q]at mu;exact nm mu
 refine⟨λb u q n _ _=>k b u (hb b n) q,λb u q n _ _=>⟨u.slots,k b u (hb b n) q⟩,λb u q n _=>by rw[Aa (hx b n)];exact n,λb u q _=>?_,
  λb xs q=>by rw[Aa (hm b _ q λz=>z)];exact q,λb u xs q=>by rw[Aa (hm b _ q λz=>z)];exact q,λb ps q=>⟨#[],by rw[Aa (hm b _ q λz=>z),q];simp⟩⟩
 by_cases hbe:b=e
 .subst hbe;exact heo
 .exact⟨u,k b u hbe q⟩
end
def KQ (h:Heap)(H:Hp):List Addr:=(List.range h.objs.size).filter λa=>(H a).isSome
def Fy (h:Heap)(H:Hp):Heap:=PySem.W.hideAll h (KQ h H)
theorem WD (h:Heap)(H:Hp):(Fy h H).objs.size=h.objs.size:=PySem.W.hideAll_size _ _
theorem X8 {h:Heap}{H:Hp}{b:Addr}{o:Obj}(e:h.get? b=some o)(n:H b=none):(Fy h H).get? b=some o:=
 PySem.W.hideAll_get _ e λhm=>by
  have q:(H b).isSome=true:=(GZ.mp hm).2;rw[n]at q;simp at q
theorem SD {h:Heap}{H:Hp}{b:Addr}{o:Obj}(e:(Fy h H).get? b=some o):h.get? b=some o/\H b=none:=by
 have e':h.get? b=some o:=PySem.W.of_hideAll (KQ h H) e;refine⟨e',?_⟩;cases q:H b with
 |none=>rfl
 |
  some x=>
  have hm:b∈KQ h H:=GZ.mpr ⟨Lz.mpr (Bo e'),by simp[q]⟩;have z:(Fy h H).get? b=none:=PySem.W.hideAll_none (KQ h H) hm;rw[z]at e;cases e
structure Mod (K:Zc)(mg:Str->Option Value)(base:Heap):Prop where
 kin:K.In base
 glob:base.Ns mainGlobals mg
 blt:∃mb,base.Ns builtinsNs mb/\∀x:Str,x≠"__name__"->mb x=bootBuiltins x
 nolimit:base.NoLimit
structure Cx where
 prog:Program
 w:World
 K:Zc
 mg:Str->Option Value
 base:Heap
 A:Around
 N:List Str
 s₀:Shared
 H₀:Hp
 env:Env
 outer:List Env
 stack:List Env
 ex:List Addr
 fn:Str->Bool
 calm:Bool
 pn:List (Addr×Obj)
 xe:Value->Shared->Prop
def DM (l:List Env):List Addr:=l.filterMap (·.frame)
abbrev Cx.fs (X:Cx):List Addr:=DM X.outer
def J9 (sc:Scope)(x:Str):Prop:=sc.names.lookup x=some .local\/sc.names.lookup x=some .cell\/sc.names.lookup x=some .free
def GI (sc:Scope)(x:Str):Prop:=sc.names.lookup x=some .local\/sc.names.lookup x=some .cell
def RS (env:Env)(h:Heap)(m:Str->Option Value)(x:Str)(u:Value):Prop:=
 (env.kindOf x=some .local/\m x=some u)\/((env.kindOf x=some .cell\/env.kindOf x=some .free)/\∃c,env.cells.lookup x=some c/\h.IsCell c (some u))
structure Cx.Ok (X:Cx):Prop where
 mod:Mod X.K X.mg X.base
 kind:X.env.scope.kind = .function
 glob:X.env.globals=mainGlobals
 blt:X.env.builtins=builtinsNs
 above:X.s₀.heap.objs.size<=X.env.locals
 inj:∀x y c,X.env.cells.lookup x=some c->X.env.cells.lookup y=some c->x=y
 has:∀x,(X.env.kindOf x=some .cell\/X.env.kindOf x=some .free)->∃c,X.env.cells.lookup x=some c
 cab:∀x c,X.fn x=true->X.env.cells.lookup x=some c->X.s₀.heap.objs.size<=c
 hd:X.calm=true->X.A.handled=none
 frames:X.A.frames=some X.stack
 stk:X.stack=X.outer\/(X.stack=X.env::X.outer/\X.env.frame=some X.env.locals)
 exf:∀b∈X.ex,b≠X.env.locals/\∀x c,X.env.cells.lookup x=some c->c≠b
 bs:∀b o,X.base.get? b=some o->X.s₀.heap.get? b=some o/\X.H₀ b=none
 bsz:X.base.objs.size<=X.s₀.heap.objs.size
 noex:∀b o,X.base.get? b=some o->b∉X.ex
 exfs:∀b∈X.ex,b∉X.fs
 funs:X.s₀.heap.FunFrames X.base X.outer
 frf:∀b∈X.fs,X.H₀ b=none
structure A7 (X:Cx)(pins:List (Addr×Obj))(σ:List (Option V))(H:Hp)(s:Shared):Prop where
 ok:X.Ok
 os:s.os=X.s₀.os
 bare:AllBare s.gens
 base:Un X.fs X.ex X.H₀ H X.s₀.heap s.heap
 loc:∃m,s.heap.Ns X.env.locals m/\∀(i:Nat) (x:Str) (v:V),X.N[i]?=some x->σ[i]?=some (some v)->J9 X.env.scope x->∃u,AK v u/\RS X.env s.heap m x u
 cell:∀x c,X.env.cells.lookup x=some c->∃v,s.heap.IsCell c v
 free:H X.env.locals=none
 freeC:∀x c,X.env.cells.lookup x=some c->H c=none
 pin:∀p∈X.pn++pins,s.heap.get? p.1=some p.2/\H p.1=none/\p.1≠X.env.locals/\p.1∉X.fs/\∀v,p.2.data≠.cell v
 hok:BA X.prog X.w H s.heap
 len:σ.length=X.N.length
section
variable {X:Cx}{pins:List (Addr×Obj)}{σ:List (Option V)}{H H':Hp}{s:Shared}{h':Heap}
theorem Cx.Ok.nofr (ok:X.Ok){b:Addr}{o:Obj}(e:X.base.get? b=some o):b∉X.fs:=λhb=>by
 have:=(ok.funs.mem hb).1;rw[e]at this;cases this
theorem A7.bs (I:A7 X pins σ H s):∀b o,X.base.get? b=some o->s.heap.get? b=some o/\H b=none:=λb o e=>
 ⟨I.base.keep b o (I.ok.bs b o e).1 (I.ok.bs b o e).2 (I.ok.nofr e) (I.ok.noex b o e),I.base.free b o (I.ok.bs b o e).1 (I.ok.bs b o e).2 (I.ok.noex b o e)⟩
theorem A7.bk (I:A7 X pins σ H s):∀b o,X.base.get? b=some o->s.heap.get? b=some o:=λb o e=>(I.bs b o e).1
theorem A7.mod (I:A7 X pins σ H s):Mod X.K X.mg X.base:=I.ok.mod
theorem A7.kIn (I:A7 X pins σ H s):X.K.In s.heap:=I.ok.mod.kin.keeps I.bk
theorem A7.lt (I:A7 X pins σ H s):X.env.locals<s.heap.objs.size:=by obtain⟨_,hn,_⟩:=I.loc;exact hn.lt
theorem A7.sz (I:A7 X pins σ H s):X.s₀.heap.objs.size<=s.heap.objs.size:=BP I.ok.above (Ha I.lt)
theorem A7.nofs (I:A7 X pins σ H s){a:Addr}(h:s.heap.objs.size<=a):a∉X.fs:=λhb=>by
 obtain⟨_,o,ho,_⟩:=I.ok.funs.mem hb;exact absurd (CB (Bo ho) (BP I.sz h)) (EU _)
theorem A7.cne (I:A7 X pins σ H s):∀x c,X.env.cells.lookup x=some c->c≠X.env.locals:=λx c e z=>by
 obtain⟨v,o,ho,hd⟩:=I.cell x c e;obtain⟨m,⟨o',es,ep,ho',hd',_⟩,_⟩:=I.loc;rw[z,ho']at ho;cases ho;rw[hd']at hd;cases hd
theorem A7.funs (I:A7 X pins σ H s):s.heap.FunFrames X.base X.outer:=by
 have all:∀(l:List Env),(∀b∈DM l,b∈X.fs)->X.s₀.heap.FunFrames X.base l->s.heap.FunFrames X.base l:=by
  intro l;induction l with
  |nil=>intro _ _;trivial
  |
   cons env r ih=>
   intro hs hl;obtain⟨hk,⟨L,o,hf,hn,ho,hd⟩,hr⟩:=hl;have hL:L∈X.fs:=hs L (by unfold DM;rw[QX,hf];exact AH);obtain⟨sl,e⟩:=I.base.slot L o ho (I.ok.frf L hL) hL λz=>I.ok.exfs L z hL;exact⟨hk,⟨L,_,hf,hn,e,hd⟩,ih (λb hb=>hs b (by unfold DM;rw[QX,hf];exact B5 _ hb)) hr⟩
 exact all X.outer (λ_ hb=>hb) I.ok.funs
theorem A7.stack (I:A7 X pins σ H s):s.heap.FunFrames X.base X.stack:=by
 rcases I.ok.stk with e|⟨e,hf⟩
 .rw[e];exact I.funs
 .rw[e];obtain⟨m,hn,_⟩:=I.loc;refine .cons (by rw[I.ok.kind];decide) hf hn ?_ I.funs;exact Heap.get?_none_of_le (BP I.ok.bsz I.ok.above)
theorem A7.stkSub (I:A7 X pins σ H s):∀b∈DM X.stack,b∈X.env.locals::X.fs:=λb hb=>by
 rcases I.ok.stk with e|⟨e,hf⟩
 .rw[e]at hb;exact B5 _ hb
 .rw[e]at hb;unfold DM at hb;rw[QX,hf]at hb;exact hb
theorem A7.stkFree (I:A7 X pins σ H s):∀b∈DM X.stack,H b=none:=λb hb=>by
 rcases Av.mp (I.stkSub b hb) with e|hb
 .rw[e];exact I.free
 .obtain⟨_,o,ho,_⟩:=I.ok.funs.mem hb;exact I.base.free b o ho (I.ok.frf b hb) λz=>I.ok.exfs b z hb
theorem A7.step {g':Array GenState}{t':Nat}{d':Drawn}{ch:List Addr}(I:A7 X pins σ H s)
  (hch:∀b∈ch,(b∈X.ex\/X.s₀.heap.objs.size<=b)/\b≠X.env.locals/\(∀x c,X.env.cells.lookup x=some c->c≠b)/\∀p∈X.pn++pins,p.1≠b)
  (keep:∀b o,b≠X.env.locals->b∉X.fs->b∉ch->s.heap.get? b=some o->H b=none->h'.get? b=some o)
  (slot:∀b o,b≠X.env.locals->b∈X.fs->b∉ch->s.heap.get? b=some o->H b=none->∃sl,h'.get? b=some {o with slots:=sl}) (free:∀b o,b∉ch->s.heap.get? b=some o->H b=none->H' b=none)
  (there:∀b o,b∉ch->s.heap.get? b=some o->∃o',h'.get? b=some o')
  (tups:∀b xs,H b=some (.tup xs)->H' b=some (.tup xs)) (frzs:∀b o u,H b=some (.frz o u)->H' b=some (.frz o u)) (tbls:∀b ps,H b=some (.tbl ps)->∃more,H' b=some (.tbl (ps++more)))
  (ns:∀m,s.heap.Ns X.env.locals m->h'.Ns X.env.locals m) (hok:BA X.prog X.w H' h') (hg:AllBare g') :
  A7 X pins σ H' {s with heap:=h',gens:=g',drawn:=d',toks:=t'}:=by
 have neL:∀b o,X.s₀.heap.get? b=some o->b≠X.env.locals:=λb o e=>Ca (CB (Bo e) I.ok.above);have neC:∀b o,X.s₀.heap.get? b=some o->b∉X.ex->b∉ch:=λb o e hx hb=>by
  rcases(hch b hb).1 with z|z
  .exact hx z
  .exact absurd (CB (Bo e) z) (EU _)
 have cellK:∀x c,X.env.cells.lookup x=some c->∀v,s.heap.IsCell c v->h'.IsCell c v:=λx c e v ⟨o,ho,hd⟩=>by
  have nch:c∉ch:=λz=>(hch c z).2.2.1 x c e rfl;by_cases hc:c∈X.fs
  .obtain⟨sl,q⟩:=slot c o (I.cne x c e) hc nch ho (I.freeC x c e);exact⟨_,q,hd⟩
  .exact⟨o,keep c o (I.cne x c e) hc nch ho (I.freeC x c e),hd⟩
 refine⟨I.ok,I.os,hg,⟨λb o e n hb hx=>?_,λb o e n hb hx=>?_,λb o e n hx=>?_,λb o e hx=>?_,λb xs e=>tups b xs (I.base.tups b xs e),λb o xs e=>frzs b o xs (I.base.frzs b o xs e),λb ps e=>?_⟩,?_,λx c e=>?_,?_,λx c e=>?_,λp hp=>?_,hok,I.len⟩
 .exact keep b o (neL b o e) hb (neC b o e hx) (I.base.keep b o e n hb hx) (I.base.free b o e n hx)
 .obtain⟨sl,e1⟩:=I.base.slot b o e n hb hx;obtain⟨sl',e2⟩:=slot b _ (neL b o e) hb (neC b o e hx) e1 (I.base.free b o e n hx);exact⟨sl',e2⟩
 .obtain⟨o',e1⟩:=I.base.there b o e hx;exact free b o' (neC b o e hx) e1 (I.base.free b o e n hx)
 .obtain⟨o',e1⟩:=I.base.there b o e hx;exact there b o' (neC b o e hx) e1
 .obtain⟨m1,e1⟩:=I.base.tbls b ps e;obtain⟨m2,e2⟩:=tbls b _ e1;exact⟨m1++m2,by rw[e2,Array.append_assoc]⟩
 .obtain⟨m,hn,hl⟩:=I.loc;refine⟨m,ns m hn,λi x v e1 e2 e3=>?_⟩;obtain⟨u,r,l⟩:=hl i x v e1 e2 e3;refine⟨u,r,?_⟩;rcases l with l|⟨k,c,e,z⟩
  .exact .inl l
  .exact .inr ⟨k,c,e,cellK x c e _ z⟩
 .obtain⟨v,z⟩:=I.cell x c e;exact⟨v,cellK x c e v z⟩
 .obtain⟨m,⟨o,_,_,ho,_⟩,_⟩:=I.loc;exact free _ o (λz=>(hch _ z).2.1 rfl) ho I.free
 .obtain⟨v,o,ho,hd⟩:=I.cell x c e;exact free c o (λz=>(hch c z).2.2.1 x c e rfl) ho (I.freeC x c e)
 .obtain⟨e,n,ne,nf,d⟩:=I.pin p hp;have nch:p.1∉ch:=λz=>(hch p.1 z).2.2.2 p hp rfl;exact⟨keep p.1 p.2 ne nf nch e n,free p.1 p.2 nch e n,ne,nf,d⟩
theorem A7.un {t':Nat}(I:A7 X pins σ H s)(u:Un X.fs [] H H' s.heap h')(hok:BA X.prog X.w H' h'):A7 X pins σ H' {s with heap:=h',toks:=t'}:=by
 obtain⟨m,⟨o,es,ep,ho,r⟩,_⟩:=id I.loc;obtain⟨sl,hL⟩:=u.any ho I.free (by simp);exact I.step (g':=s.gens) (d':=s.drawn) (ch:=[]) (λ_ z=>nomatch z) (λb o _ hb _ e n=>u.keep b o e n hb (by simp)) (λb o _ hb _ e n=>u.slot b o e n hb (by simp)) (λb o _ e n=>u.free b o e n (by simp)) (λb o _ e=>u.there b o e (by simp)) u.tups u.frzs u.tbls (λm' hm=>by
  obtain⟨o',es',ep',ho',r'⟩:=hm;rw[ho]at ho';cases ho';exact⟨_,es',ep',hL,r'⟩) hok I.bare
theorem A7.call {g':Array GenState}{t':Nat}{d':Drawn}{ch:List Addr}(I:A7 X pins σ H s)(u:Un (DM X.stack) ch H H' s.heap h')(hok:BA X.prog X.w H' h')(hg:AllBare g')
  (hch:∀b∈ch,(b∈X.ex\/X.s₀.heap.objs.size<=b)/\b≠X.env.locals/\(∀x c,X.env.cells.lookup x=some c->c≠b)/\∀p∈X.pn++pins,p.1≠b) :
  A7 X pins σ H' {s with heap:=h',gens:=g',drawn:=d',toks:=t'}:=by
 obtain⟨m,⟨o,es,ep,ho,r⟩,_⟩:=id I.loc;obtain⟨sl,hL⟩:=u.any ho I.free λz=>(hch _ z).2.1 rfl;exact I.step (ch:=ch) hch (λb o hL hb hc e n=>u.keep b o e n (λz=>(Av.mp (I.stkSub b z)).elim hL hb) hc) (λb o _ _ hc e n=>u.any e n hc) (λb o hc e n=>u.free b o e n hc) (λb o hc e=>u.there b o e hc) u.tups u.frzs u.tbls (λm' hm=>by
  obtain⟨o',es',ep',ho',r'⟩:=hm;rw[ho]at ho';cases ho';exact⟨_,es',ep',hL,r'⟩) hok hg
theorem A7.turned {t':Nat}{it:Addr}(I:A7 X pins σ H s)(k:∀b o,b≠it->s.heap.get? b=some o->h'.get? b=some o)(hn:H it=none)(hL:it≠X.env.locals)
  (h1:it∈X.ex\/X.s₀.heap.objs.size<=it) (h2:∀x c,X.env.cells.lookup x=some c->c≠it) (h3:∀p∈X.pn++pins,p.1≠it):A7 X pins σ H {s with heap:=h',toks:=t'}:=by
 have nit:∀b u,H b=some u->b≠it:=λb u e z=>by rw[z,hn]at e;cases e
 refine I.step (g':=s.gens) (d':=s.drawn) (ch:=[it]) (λb hb=>?_) (λb o _ _ hc e _=>k b o (λz=>hc (by simp[z])) e) (λb o _ _ hc e _=>⟨o.slots,k b o (λz=>hc (by simp[z])) e⟩) (λ_ _ _ _ n=>n)
  (λb o hc e=>⟨o,k b o (λz=>hc (by simp[z])) e⟩) (λ_ _ e=>e) (λ_ _ _ e=>e) (λb ps e=>⟨#[],by rw[e];simp⟩) (λm hm=>?_) (λb u e=>?_) I.bare
 .have e:b=it:=by simpa using hb
  subst e;exact⟨h1,hL,h2,h3⟩
 .obtain⟨o,es,ep,ho,r⟩:=hm;exact⟨o,es,ep,k _ o (Ne.symm hL) ho,r⟩
 .refine(I.hok b u e).stay (λc v hc q=>k c v ?_ q) (λ_ q=>q) λ_ _ q=>q;rcases hc with z|z
  .rw[z];exact nit b u e
  .exact nit c _ z
theorem A7.tok (I:A7 X pins σ H s)(t:Nat):A7 X pins σ H {s with toks:=t}:=I.un (h':=s.heap) (t':=t) Un.refl I.hok
theorem A7.kept {t':Nat}(I:A7 X pins σ H s)(k:∀b u,s.heap.get? b=some u->h'.get? b=some u):A7 X pins σ H {s with heap:=h',toks:=t'}:=I.un (Un.kept k) (I.hok.kept k)
theorem A7.laid {a:Addr}{o:HO}{t':Nat}(I:A7 X pins σ H s)(k:∀b u,s.heap.get? b=some u->h'.get? b=some u)(hp:s.heap.objs.size<=a)(new:BN X.prog X.w (upd H a o) h' a o) :
 A7 X pins σ (upd H a o) {s with heap:=h',toks:=t'}:=I.un (Un.laid k hp (I.hok.fresh hp)) (I.hok.laid k hp new)
theorem A7.write {x e:Addr}{o:HO}{t':Nat}(I:A7 X pins σ H s)(mu:Ip (H x))(he:e=x\/H e=some (.own x))(k:∀b u,b≠e->s.heap.get? b=some u->h'.get? b=some u)(heo:∃u,h'.get? e=some u)
 (new:BN X.prog X.w (upd H x o) h' x o):A7 X pins σ (upd H x o) {s with heap:=h',toks:=t'}:=I.un (Un.write mu he k heo) (I.hok.write mu he k heo new)
theorem A7.weak {σ':List (Option V)}(I:A7 X pins σ H s)(hl:σ'.length=σ.length)(w:∀(i:Nat) v,σ'[i]?=some (some v)->σ[i]?=some (some v)):A7 X pins σ' H s:=
 ⟨I.ok,I.os,I.bare,I.base,let ⟨m,hn,hl'⟩:=I.loc;⟨m,hn,λi x v e1 e2 e3=>hl' i x v e1 (w i v e2) e3⟩,I.cell,I.free,I.freeC,I.pin,I.hok,hl.trans I.len⟩
theorem A7.pins_of {pins':List (Addr×Obj)}(I:A7 X pins σ H s)(h:∀p∈pins',s.heap.get? p.1=some p.2/\H p.1=none/\p.1≠X.env.locals/\p.1∉X.fs/\∀v,p.2.data≠.cell v):A7 X pins' σ H s:=
 ⟨I.ok,I.os,I.bare,I.base,I.loc,I.cell,I.free,I.freeC,λp hp=>(By.mp hp).elim (λz=>I.pin p (Eh _ z)) (h p),I.hok,I.len⟩
theorem MV {N:List Str}(hN:N.Nodup){i j:Nat}{x:Str}(a:N[i]?=some x)(b:N[j]?=some x):i=j:=by
 obtain⟨h1,e1⟩:=BQ.mp a;obtain⟨h2,e2⟩:=BQ.mp b;exact(List.getElem_inj hN).mp (e1.trans e2.symm)
theorem Yt {M:Model}{A:Around}{E:Value->Shared->Prop}{i:Nat}{x:Str}{v:V}{u:Value}{Q:Unit->Shared->Prop}(I:A7 X pins σ H s)(hN:X.N.Nodup)(hi:X.N[i]?=some x)(hx:GI X.env.scope x)(r:AK v u)
  (h:∀s',A7 X pins (σ.set i (some v)) H s'->(∃a,Heap.SameBut a s.heap s'.heap/\(a=X.env.locals\/X.env.cells.lookup x=some a))->Q () s') (hf:X.fn x=true\/X.env.scope.names.lookup x=some .local:=by first|exact .inl rfl|exact .inr rfl|assumption):wpAny M A (storeName X.env x u) Q E s:=by
 obtain⟨m,hn,hl⟩:=id I.loc;have hcls:(X.env.scope.kind == .class||(X.env.scope.kind == .module&&X.env.locals != X.env.globals))=false:=by rw[I.ok.kind];rfl
 have hiσ:i<σ.length:=by rw[I.len];exact(BQ.mp hi).1
 have cne:=I.cne;have tracked:∀{a:Addr} {h':Heap},(∃o,s.heap.get? a=some o/\H a=none)->Heap.SameBut a s.heap h'->BA X.prog X.w H h':=fun{a h'} ha hs b ob e=>by
  obtain⟨_,_,hfree⟩:=ha;refine(I.hok b ob e).stay (λc w' hc q=>(hs.2 c ?_).trans q) (λ_ q=>q) λ_ _ q=>q;rintro rfl;rcases hc with rfl|hc
  .rw[hfree]at e;cases e
  .rw[hfree]at hc;cases hc
 rcases hx with hk|hk
 .refine wpAny_storeName_local hk hn (λh' hn' hs=>?_) hcls;obtain⟨oL,_,_,hoL,_⟩:=id hn;refine h _ ⟨I.ok,I.os,I.bare,⟨λb o e n hb hx=>?_,λb o e n hb hx=>?_,I.base.free,λb o e hx=>?_,I.base.tups,I.base.frzs,I.base.tbls⟩,⟨_,hn',λj y v' e1 e2 e3=>?_⟩,λy c e=>?_,I.free,I.freeC,λp hp=>?_,tracked ⟨oL,hoL,I.free⟩ hs,by simpa using I.len⟩ ⟨_,hs,.inl rfl⟩
  .exact(hs.2 b (Ca (CB (Bo e) I.ok.above))).trans (I.base.keep b o e n hb hx)
  .obtain⟨sl,e1⟩:=I.base.slot b o e n hb hx;exact⟨sl,(hs.2 b (Ca (CB (Bo e) I.ok.above))).trans e1⟩
  .obtain⟨o',e1⟩:=I.base.there b o e hx;exact⟨o',(hs.2 b (Ca (CB (Bo e) I.ok.above))).trans e1⟩
  .by_cases hj:j=i
   .subst hj;rw[hi]at e1;cases e1;rw[NK hiσ]at e2;cases e2;exact⟨u,r,.inl ⟨hk,by simp⟩⟩
   .rw[QY (Ne.symm hj)]at e2;obtain⟨u',r',q⟩:=hl j y v' e1 e2 e3;refine⟨u',r',?_⟩;rcases q with⟨k,e⟩|⟨k,c,e,z⟩
    .refine .inl ⟨k,?_⟩;have:y≠x:=λe=>hj (MV hN e1 (e▸hi));simp[this,e]
    .exact .inr ⟨k,c,e,z.sameBut hs (cne y c e)⟩
  .obtain⟨w',z⟩:=I.cell y c e;exact⟨w',z.sameBut hs (cne y c e)⟩
  .obtain⟨e,n,ne,nf,d⟩:=I.pin p hp;exact⟨(hs.2 p.1 ne).trans e,n,ne,nf,d⟩
 .have hfn:X.fn x=true:=by
   rcases hf with z|z
   .exact z
   .rw[z]at hk;cases hk
  obtain⟨c,hc⟩:=I.ok.has x (.inl hk);obtain⟨w',z⟩:=I.cell x c hc;refine wpAny_storeName_cell I.ok.kind hk hc z (λh' hc' hs=>?_);obtain⟨oc,hoc,hocd⟩:=id z;refine h {s with heap:=h'} ⟨I.ok,I.os,I.bare,⟨λb o e n hb hx=>?_,λb o e n hb hx=>?_,I.base.free,λb o e hx=>?_,I.base.tups,I.base.frzs,I.base.tbls⟩,⟨m,hn.sameBut hs (Ne.symm (cne x c hc)),λj y v' e1 e2 e3=>?_⟩,λy c' e=>?_,I.free,I.freeC,λp hp=>?_,tracked ⟨oc,hoc,I.freeC x c hc⟩ hs,by simpa using I.len⟩ ⟨c,hs,.inr hc⟩
  .exact(hs.2 b (Ca (CB (Bo e) (I.ok.cab x c hfn hc)))).trans (I.base.keep b o e n hb hx)
  .obtain⟨sl,e1⟩:=I.base.slot b o e n hb hx;exact⟨sl,(hs.2 b (Ca (CB (Bo e) (I.ok.cab x c hfn hc)))).trans e1⟩
  .obtain⟨o',e1⟩:=I.base.there b o e hx;exact⟨o',(hs.2 b (Ca (CB (Bo e) (I.ok.cab x c hfn hc)))).trans e1⟩
  .by_cases hj:j=i
   .subst hj;rw[hi]at e1;cases e1;rw[NK hiσ]at e2;cases e2;exact⟨u,r,.inr ⟨.inl hk,c,hc,hc'⟩⟩
   .rw[QY (Ne.symm hj)]at e2;obtain⟨u',r',q⟩:=hl j y v' e1 e2 e3;refine⟨u',r',?_⟩;rcases q with q|⟨k,c',e,z'⟩
    .exact .inl q
    .refine .inr ⟨k,c',e,z'.sameBut hs ?_⟩;rintro rfl;exact hj (MV hN e1 (I.ok.inj _ _ _ e hc▸hi))
  .by_cases hcc:c'=c
   .subst hcc;exact⟨_,hc'⟩
   .obtain⟨w2,z2⟩:=I.cell y c' e;exact⟨w2,z2.sameBut hs hcc⟩
  .obtain⟨e,n,ne,nf,d⟩:=I.pin p hp;refine⟨(hs.2 p.1 ?_).trans e,n,ne,nf,d⟩;intro q;rw[q,hoc]at e;have q':oc=p.2:=Co e;exact d w' (by rw[←q'];exact hocd)
theorem Hq {M:Model}{A:Around}{E:Value->Shared->Prop}{i:Nat}{x:Str}{v:V}{u:Value}{Q:Unit->Shared->Prop}(I:A7 X pins σ H s)(hN:X.N.Nodup)(hi:X.N[i]?=some x)(hx:GI X.env.scope x)(r:AK v u)
  (h:∀s',A7 X pins (σ.set i (some v)) H s'->Q () s') (hf:X.fn x=true\/X.env.scope.names.lookup x=some .local:=by first|exact .inl rfl|exact .inr rfl|assumption):wpAny M A (storeName X.env x u) Q E s:=
 Yt I hN hi hx r (λs' I' _=>h s' I') hf
theorem A7.call' {s':Shared}{ch:List Addr}(I:A7 X pins σ H s)(ho:s'.os=s.os)(u:Un (DM X.stack) ch H H' s.heap s'.heap)(hok:BA X.prog X.w H' s'.heap)(hg:AllBare s'.gens)
  (hch:∀b∈ch,(b∈X.ex\/X.s₀.heap.objs.size<=b)/\b≠X.env.locals/\(∀x c,X.env.cells.lookup x=some c->c≠b)/\∀p∈X.pn++pins,p.1≠b):A7 X pins σ H' s':=by
 obtain⟨h',g',d',t',o'⟩:=s';have e:o'=s.os:=ho;subst e;exact I.call (g':=g') (t':=t') (d':=d') u hok hg hch
end
abbrev XK:=Value->Option Addr->Hp->Prop
abbrev St:=List (Option V)
abbrev VK:=V->Hp->Prop
abbrev TE:=St->Hp->VK->Prop
abbrev TT:=St->Hp->(Bool->Hp->Prop)->Prop
abbrev TA:=St->Hp->(List V->Hp->Prop)->Prop
structure CY where
 nx:St->Hp->Prop
 rt:VK
 bk:St->Hp->Prop:=λ_ _=>False
 ct:St->Hp->Prop:=λ_ _=>False
abbrev TS:=CY->St->Hp->Prop
def EP (X:Cx)(pins:List (Addr×Obj))(σ:St)(Q:VK)(u:Value)(s':Shared):Prop := ∃v H',A7 X pins σ H' s'/\AK v u/\Q v H'
def TP (X:Cx)(pins:List (Addr×Obj))(σ:St)(Q:Bool->Hp->Prop)(b:Bool)(s':Shared):Prop := ∃H',A7 X pins σ H' s'/\Q b H'
def AP (X:Cx)(pins:List (Addr×Obj))(σ:St)(Q:List V->Hp->Prop)(us:List Value)(s':Shared):Prop := ∃vs H',A7 X pins σ H' s'/\AE vs us/\Q vs H'
def SP (X:Cx)(pins:List (Addr×Obj))(D:CY)(f:Flow)(s':Shared):Prop:=
 match f with
 |.next=>∃σ' H',A7 X pins σ' H' s'/\D.nx σ' H'
 |.brk=>∃σ' H',A7 X pins σ' H' s'/\D.bk σ' H'
 |.cont=>∃σ' H',A7 X pins σ' H' s'/\D.ct σ' H'
 |.ret u=>∃v σ' H',A7 X pins σ' H' s'/\AK v u/\D.rt v H'
def PE (X:Cx)(e:Expr)(t:TE):Prop:=
 ∀(pins:List (Addr×Obj)) (s:Shared) (σ:St) (H:Hp) (Q:VK),A7 X pins σ H s->t σ H Q->wpAny (model X.prog X.w) X.A (eval e X.env) (EP X pins σ Q) X.xe s
def PT (X:Cx)(e:Expr)(t:TT):Prop:=
 ∀(pins:List (Addr×Obj)) (s:Shared) (σ:St) (H:Hp) (Q:Bool->Hp->Prop),A7 X pins σ H s->t σ H Q->wpAny (model X.prog X.w) X.A (isTrue e X.env (eval e X.env)) (TP X pins σ Q) X.xe s
def PW (X:Cx)(e:Expr)(t:TT):Prop:=
 ∀(whole:Sem Value) (pins:List (Addr×Obj)) (s:Shared) (σ:St) (H:Hp) (Q:Bool->Hp->Prop),A7 X pins σ H s->t σ H Q->wpAny (model X.prog X.w) X.A (isTrue e X.env whole) (TP X pins σ Q) X.xe s
theorem PW.pt {X:Cx}{e:Expr}{t:TT}(h:PW X e t):PT X e t:=h _
def PA (X:Cx)(es:List Expr)(t:TA):Prop:=
 ∀(pos:Pos) (pins:List (Addr×Obj)) (s:Shared) (σ:St) (H:Hp) (Q:List V->Hp->Prop),A7 X pins σ H s->t σ H Q->wpAny (model X.prog X.w) X.A (spliced (backTo pos (starEach es X.env))) (AP X pins σ Q) X.xe s
def PS (X:Cx)(st:Stmt)(t:TS):Prop:=
 ∀(pins:List (Addr×Obj)) (s:Shared) (σ:St) (H:Hp) (D:CY),A7 X pins σ H s->t D σ H->wpAny (model X.prog X.w) X.A (exec st X.env) (SP X pins D) X.xe s
def Dy (X:Cx)(st:List Stmt)(t:TS):Prop:=
 ∀(pins:List (Addr×Obj)) (s:Shared) (σ:St) (H:Hp) (D:CY),A7 X pins σ H s->t D σ H->wpAny (model X.prog X.w) X.A (execs st X.env) (SP X pins D) X.xe s
theorem AA {α:Type}{t:Sem α}{Q Q':α->Shared->Prop}{M:Model}{A:Around}{E:Value->Shared->Prop}{s:Shared}(h:wpAny M A t Q E s)(hQ:∀a s,Q a s->Q' a s):wpAny M A t Q' E s:=CV h hQ λ_ _ x=>x
section
variable {X:Cx}
def EL (i:Nat):TE:=fun σ H Q=>∃v,σ[i]?=some (some v)/\Q v H
def tC (v:V):TE:=λ_ H Q=>Q v H
theorem X2 {i:Nat}{x:Str}{pos:Pos}(hN:X.N[i]?=some x)(hv:J9 X.env.scope x)(hd:(x==("__debug__":Str))=false:=by decide)(hcd:(x==("__classdict__":Str))=false:=by decide):PE X (.Name x pos) (EL i):=by
 intro pins s σ H Q I h;obtain⟨v,e,h⟩:=h;obtain⟨m,hn,hl⟩:=I.loc;obtain⟨u,r,l⟩:=hl i x v hN e hv;have fin:EP X pins σ Q u s:=⟨v,H,I,r,h⟩
 rcases l with⟨hk,hm⟩|⟨hk,c,hc,hcell⟩
 .exact wpAny_Name (wpAny_loadName_local I.ok.kind hk hn hm fin) hd
 .rcases hk with hk|hk
  .exact wpAny_Name (wpAny_loadName_cell I.ok.kind hk hc hcell fin) hd
  .exact wpAny_Name (wpAny_loadName_free I.ok.kind hk hc hcell fin hcd) hd
theorem A2 {i j pos}:PE X (.Constant (.int i) j pos) (tC (.int i)):=λ_ _ _ H _ I h=>wpAny_Constant_int ⟨.int i,H,I.tok _,⟨_,rfl⟩,h⟩
theorem Cw {b j pos}:PE X (.Constant (.bool b) j pos) (tC (.bl b)):=λ_ _ _ H _ I h=>Constant_bool ⟨.bl b,H,I,rfl,h⟩
theorem Cd {j pos}:PE X (.Constant .none j pos) (tC .non):=λ_ _ _ H _ I h=>Constant_none ⟨.non,H,I,rfl,h⟩
theorem Ab {x j pos}:PE X (.Constant (.str x) j pos) (tC (.str x)):=λ_ _ _ H _ I h=>Calls.Constant_str ⟨.str x,H,I.tok _,⟨_,rfl⟩,h⟩
def Gl (X:Cx)(x:Str):Prop:=X.env.kindOf x=some .globalImplicit
theorem FF {E:Value->Shared->Prop}{pins:List (Addr×Obj)}{s:Shared}{σ:St}{H:Hp}{x:Str}{u:Value}{pos:Pos}{Q:Value->Shared->Prop}(I:A7 X pins σ H s)(hg:Gl X x)(hm:X.mg x=some u)(h:Q u s)
  (hd:(x==("__debug__":Str))=false:=by decide):wpAny (model X.prog X.w) X.A (eval (.Name x pos) X.env) Q E s:=
 Calls.Name_function_global I.ok.kind hg (Calls.loadGlobal_global (by rw[I.ok.glob];exact I.mod.glob.keeps I.bk) hm h) hd
theorem IC {E:Value->Shared->Prop}{pins:List (Addr×Obj)}{s:Shared}{σ:St}{H:Hp}{x:Str}{u:Value}{pos:Pos}{Q:Value->Shared->Prop}(I:A7 X pins σ H s)(hg:Gl X x)(hm:X.mg x=none)(hv:bootBuiltins x=some u)(h:Q u s)
  (hn:x≠"__name__":=by decide) (hd:(x==("__debug__":Str))=false:=by decide):wpAny (model X.prog X.w) X.A (eval (.Name x pos) X.env) Q E s:=by
 obtain⟨mb,h1,h2⟩:=I.mod.blt;exact Calls.Name_function_global I.ok.kind hg (Calls.loadGlobal_builtin (by rw[I.ok.glob];exact I.mod.glob.keeps I.bk) hm (by rw[I.ok.blt];exact h1.keeps I.bk) ((h2 x hn).trans hv) h) hd
theorem CJ {x:Str}{v:V}{u:Value}{pos:Pos}(hg:Gl X x)(hm:X.mg x=some u)(r:AK v u)(hd:(x==("__debug__":Str))=false:=by decide):PE X (.Name x pos) (tC v):=
 λ_ _ _ H _ I h=>FF I hg hm ⟨v,H,I,r,h⟩ hd
theorem Ot {x:Str}{v:V}{u:Value}{pos:Pos}(hg:Gl X x)(hm:X.mg x=none)(hv:bootBuiltins x=some u)(r:AK v u)(hn:x≠"__name__":=by decide)(hd:(x==("__debug__":Str))=false:=by decide):PE X (.Name x pos) (tC v):=
 λ_ _ _ H _ I h=>IC I hg hm hv ⟨v,H,I,r,h⟩ hn hd
variable {a b:Expr}{ta tb:TE}{pos:Pos}
def tB (t:TE):TT:=fun σ H Q=>t σ H λx H1=>∃c,x = .bl c/\Q c H1
theorem CI {e:Expr}{t:TE}(h:PE X e t)(he:∀whole,isTrue e X.env whole=(do let v ←whole;standAt e.pos;holding [v] (truthy v)):=by intro _;rfl):PT X e (tB t):=by
 intro pins s σ H Q I hw;refine isTrue_plain (AA (h pins s σ H _ I hw) λv s1 zz=>?_) (he _);obtain⟨x,H1,I1,r1,q1⟩:=zz;obtain⟨d,rfl,q⟩:=q1;cases r1;exact Ij ⟨H1,I1,q⟩
variable {tA tB':TT}{rest:List Expr}
def S4 (t u:TT):TT:=fun σ H Q=>t σ H λc H1=>if c=true then u σ H1 Q else Q false H1
def WR (t u:TT):TT:=fun σ H Q=>t σ H λc H1=>if c=true then Q true H1 else u σ H1 Q
def VX (t:TT):TT:=fun σ H Q=>t σ H λc H1=>Q (!c) H1
theorem E8 (ha:PT X a tA):PW X (.BoolOp .And [a] pos) tA:=by
 intro wh pins s σ H Q I h;refine isTrue_and (AA (ha pins s σ H Q I h) λc s1 e=>?_);cases c with
 |true=>exact isTrue_and_nil e
 |false=>exact e
theorem D4 (ha:PT X a tA):PW X (.BoolOp .Or [a] pos) tA:=by
 intro wh pins s σ H Q I h;refine isTrue_or (AA (ha pins s σ H Q I h) λc s1 e=>?_);cases c with
 |false=>exact isTrue_or_nil e
 |true=>exact e
theorem DG (ha:PT X a tA)(hb:PW X (.BoolOp .And (b::rest) pos) tB'):PW X (.BoolOp .And (a::b::rest) pos) (S4 tA tB'):=by
 intro wh pins s σ H Q I h;refine isTrue_and (AA (ha pins s σ H _ I h) λc s1 zz=>?_);obtain⟨H1,I1,q1⟩:=zz;cases c with
 |true=>exact hb wh pins s1 σ H1 Q I1 q1
 |false=>exact⟨H1,I1,q1⟩
theorem Cg (ha:PT X a tA)(hb:PW X (.BoolOp .Or (b::rest) pos) tB'):PW X (.BoolOp .Or (a::b::rest) pos) (WR tA tB'):=by
 intro wh pins s σ H Q I h;refine isTrue_or (AA (ha pins s σ H _ I h) λc s1 zz=>?_);obtain⟨H1,I1,q1⟩:=zz;cases c with
 |true=>exact⟨H1,I1,q1⟩
 |false=>exact hb wh pins s1 σ H1 Q I1 q1
theorem E4 (ha:PT X a tA):PT X (.UnaryOp .Not a pos) (VX tA):=by
 intro pins s σ H Q I h;exact isTrue_not (ha pins s σ H (λc H1=>Q (!c) H1) I h)
def Np (ta tb:TE):TE:=fun σ H Q=>ta σ H λx H1=>∃c,x = .bl c/\if c=true then tb σ H1 Q else Q (.bl false) H1
def Oy (ta tb:TE):TE:=fun σ H Q=>ta σ H λx H1=>∃c,x = .bl c/\if c=true then Q (.bl true) H1 else tb σ H1 Q
def XS (ta:TE):TE:=fun σ H Q=>ta σ H λx H1=>∃c,x = .bl c/\Q (.bl (!c)) H1
theorem Gv {op}{t:TE}(h:PE X a t):PE X (.BoolOp op [a] pos) t:=λpins s σ H Q I hw=>BoolOp_one (h pins s σ H Q I hw)
theorem K4 (ha:PE X a ta)(hb:PE X (.BoolOp .And (b::rest) pos) tb):PE X (.BoolOp .And (a::b::rest) pos) (Np ta tb):=by
 intro pins s σ H Q I h;refine BoolOp_and (AA (ha pins s σ H _ I h) λv s1 zz=>?_);obtain⟨x,H1,I1,r1,q1⟩:=zz;obtain⟨c,rfl,q1⟩:=q1;cases r1;refine Ij ?_;cases c with
 |true=>exact hb pins s1 σ H1 Q I1 q1
 |false=>exact⟨.bl false,H1,I1,rfl,q1⟩
theorem Nr (ha:PE X a ta)(hb:PE X (.BoolOp .Or (b::rest) pos) tb):PE X (.BoolOp .Or (a::b::rest) pos) (Oy ta tb):=by
 intro pins s σ H Q I h;refine BoolOp_or (AA (ha pins s σ H _ I h) λv s1 zz=>?_);obtain⟨x,H1,I1,r1,q1⟩:=zz;obtain⟨c,rfl,q1⟩:=q1;cases r1;refine Ij ?_;cases c with
 |false=>exact hb pins s1 σ H1 Q I1 q1
 |true=>exact⟨.bl true,H1,I1,rfl,q1⟩
theorem Ry (ha:PE X a ta):PE X (.UnaryOp .Not a pos) (XS ta):=by
 intro pins s σ H Q I h;refine UnaryOp_ (AA (ha pins s σ H _ I h) λv s1 zz=>?_);obtain⟨x,H1,I1,r1,q1⟩:=zz;obtain⟨c,rfl,q1⟩:=q1;cases r1;exact not_of (Ij ⟨.bl (!c),H1,I1,rfl,q1⟩)
end
def A4 (K:Zc)(H:Hp)(a:Addr)(xs:List V):Prop:=
 Rd H a (.lst xs)\/
  ∃(o:Obj) (its:Array Value) (n:Nat),K.lookup a=some o/\o.cls = .type "list"/\o.dict=none/\o.data = .seq its n/\its.size<=sizeLine/\AE xs its.toList
def Aw (K:Zc)(H:Hp)(a:Addr)(xs:List V):Prop:=
 Rd H a (.tup xs)\/
  ∃(o:Obj) (its:Array Value) (n:Nat),K.lookup a=some o/\o.cls = .type "tuple"/\o.data = .seq its n/\its.size<=sizeLine/\AE xs its.toList
def Uc:Value->Option V
 |.none=>some .non
 |.bool b=>some (.bl b)
 |.int i _=>some (.int i)
 |.str x _=>some (.str x)
 |.bytes b _=>some (.byt b)
 |.float b _=>some (.flt b)
 |.ref a=>some (.ref a)
 |.type n=>some (.ty n)
 |_=>none
theorem AK.abs {x:V}{u:Value}(r:AK x u):Uc u=some x:=by
 cases x with
 |non=>cases r;rfl
 |bl _=>cases r;rfl
 |int _=>obtain⟨t,rfl⟩:=r;rfl
 |str _=>obtain⟨t,rfl⟩:=r;rfl
 |byt _=>obtain⟨t,rfl⟩:=r;rfl
 |flt _=>obtain⟨t,rfl⟩:=r;rfl
 |ref _=>cases r;rfl
 |ty _=>cases r;rfl
theorem AK.inj {x y:V}{u:Value}(r:AK x u)(q:AK y u):x=y:=Co (r.abs.symm.trans q.abs)
theorem AE.inj:∀{xs ys:List V} {us:List Value},AE xs us->AE ys us->xs=ys:=by
 intro xs;induction xs with
 |
  nil=>
  intro ys us h k;cases h;cases k;rfl
 |
  cons x xs ih=>
  intro ys us h k;cases h with
  |
   cons r t=>
   cases k with
   |cons r' t'=>rw[r.inj r',ih t t']
section
variable {X:Cx}{pins:List (Addr×Obj)}{σ:St}{H:Hp}{s:Shared}{a:Addr}{xs ys:List V}
theorem A4.of {K:Zc}(h:H a=some (.lst xs)):A4 K H a xs:=.inl (.inl h)
theorem Aw.of {K:Zc}(h:H a=some (.tup xs)):Aw K H a xs:=.inl (.inl h)
theorem A7.list (I:A7 X pins σ H s)(h:A4 X.K H a xs):∃its:List Value,AE xs its/\PlainL s.heap a its.toArray/\xs.length<=sizeLine:=by
 rcases h with h|⟨o,its,n,hk,hc,hd,hs,hz,r⟩
 .obtain⟨z,its,n,r,e⟩:=h.ok I.hok;exact⟨its,r,⟨_,n,e,rfl,rfl,rfl⟩,z⟩
 .refine⟨its.toList,r,⟨o,n,I.kIn a o hk,hc,hd,by simpa using hs⟩,?_⟩;have e:=r.length;simp only[Array.length_toList]at e;lia
theorem A7.tuple (I:A7 X pins σ H s)(h:Aw X.K H a xs):∃its:List Value,AE xs its/\IsTup s.heap a its.toArray/\xs.length<=sizeLine:=by
 rcases h with h|⟨o,its,n,hk,hc,hs,hz,r⟩
 .obtain⟨z,its,r,p⟩:=h.ok I.hok;exact⟨its,r,p.tup,z⟩
 .refine⟨its.toList,r,⟨o,I.kIn a o hk,hc,n,by simpa using hs⟩,?_⟩;have e:=r.length;simp only[Array.length_toList]at e;lia
theorem A7.list_inj (I:A7 X pins σ H s)(h:A4 X.K H a xs)(h':A4 X.K H a ys):xs=ys:=by
 obtain⟨its,r,⟨o,n,e,_,_,d⟩,_⟩:=I.list h;obtain⟨its',r',⟨o',n',e',_,_,d'⟩,_⟩:=I.list h';rw[e]at e';cases e';rw[d]at d';injection d' with d1 _;have:its=its':=by simpa using congrArg Array.toList d1
 subst this;exact r.inj r'
theorem A7.tuple_inj (I:A7 X pins σ H s)(h:Aw X.K H a xs)(h':Aw X.K H a ys):xs=ys:=by
 obtain⟨its,r,⟨o,e,_,n,d⟩,_⟩:=I.tuple h;obtain⟨its',r',⟨o',e',_,n',d'⟩,_⟩:=I.tuple h';rw[e]at e';cases e';rw[d]at d';injection d' with d1 _;have:its=its':=by simpa using congrArg Array.toList d1
 subst this;exact r.inj r'
end
abbrev Cx.wish (X:Cx)(E:Value->Shared->Prop):Cx:={X with xe:=E}
abbrev Cx.nox (X:Cx):Cx:=X.wish λ_ _=>False
theorem Cx.Ok.wish {X:Cx}(ok:X.Ok)(E:Value->Shared->Prop):(X.wish E).Ok:=
 ⟨ok.mod,ok.kind,ok.glob,ok.blt,ok.above,ok.inj,ok.has,ok.cab,ok.hd,ok.frames,ok.stk,ok.exf,ok.bs,ok.bsz,ok.noex,ok.exfs,ok.funs,ok.frf⟩
theorem Cx.Ok.unwish {X:Cx}{E:Value->Shared->Prop}(ok:(X.wish E).Ok):X.Ok:=
 ⟨ok.mod,ok.kind,ok.glob,ok.blt,ok.above,ok.inj,ok.has,ok.cab,ok.hd,ok.frames,ok.stk,ok.exf,ok.bs,ok.bsz,ok.noex,ok.exfs,ok.funs,ok.frf⟩
section
variable {X:Cx}{pins:List (Addr×Obj)}{σ:St}{H:Hp}{s:Shared}{E:Value->Shared->Prop}
theorem A7.wish (I:A7 X pins σ H s)(E:Value->Shared->Prop):A7 (X.wish E) pins σ H s:=⟨I.ok.wish E,I.os,I.bare,I.base,I.loc,I.cell,I.free,I.freeC,I.pin,I.hok,I.len⟩
theorem A7.unwish (I:A7 (X.wish E) pins σ H s):A7 X pins σ H s:=⟨I.ok.unwish,I.os,I.bare,I.base,I.loc,I.cell,I.free,I.freeC,I.pin,I.hok,I.len⟩
theorem SP.unwish {D:CY}{f:Flow}{s':Shared}(h:SP (X.wish E) pins D f s'):SP X pins D f s':=by
 cases f with
 |next=>obtain⟨σ',H',I,q⟩:=h;exact⟨σ',H',I.unwish,q⟩
 |brk=>obtain⟨σ',H',I,q⟩:=h;exact⟨σ',H',I.unwish,q⟩
 |cont=>obtain⟨σ',H',I,q⟩:=h;exact⟨σ',H',I.unwish,q⟩
 |ret u=>obtain⟨v,σ',H',I,r,q⟩:=h;exact⟨v,σ',H',I.unwish,r,q⟩
theorem Dy.nox {st:List Stmt}{t:TS}(h:Dy X.nox st t):Dy X st t:=λpins s σ H D I hw=>
 CV (h pins s σ H D (I.wish _) hw) (λ_ _ q=>q.unwish) λ_ _ z=>False.elim z
end
section
variable {X:Cx}{st:Stmt}{rest:List Stmt}{t u:TS}{e:Expr}{te:TE}{pos:Pos}
def M6:TS:=λD σ H=>D.nx σ H
def Dt (t u:TS):TS:=λD σ H=>t {D with nx:=u D} σ H
theorem AS:Dy X [] M6:=λ_ _ σ H _ I h=>LP ⟨σ,H,I,h⟩
theorem A5 (h1:PS X st t)(h2:Dy X rest u):Dy X (st::rest) (Dt t u):=by
 intro pins s σ H D I h;refine wpAny_execs_cons (AA (h1 pins s σ H {D with nx:=u D} I h) λf s1 q=>?_);cases f with
 |
  next=>
  obtain⟨σ',H',I',q⟩:=q;exact h2 pins s1 σ' H' D I' q
 |ret v=>exact q
 |brk=>exact q
 |cont=>exact q
theorem Af (h1:PS X st t):Dy X [st] t:=by
 intro pins s σ H D I h;refine wpAny_execs_cons (AA (h1 pins s σ H D I h) λf s1 q=>?_);cases f with
 |next=>exact LP q
 |ret v=>exact q
 |brk=>exact q
 |cont=>exact q
def Sq:TS:=λD σ H=>D.bk σ H
theorem Sx:PS X (.Break pos) Sq:=λ_ _ σ H _ I h=>wpAny_Break ⟨σ,H,I,h⟩
theorem A7.quiet {pins:List (Addr×Obj)}{σ:St}{H:Hp}{s:Shared}(I:A7 X pins σ H s):interactive X.env=false:=by simp[interactive,I.ok.kind]
def YU (te:TE):TS:=λD σ H=>te σ H λ_ H1=>D.nx σ H1
theorem BF (he:PE X e te)(hs:swapsWith e none pos.line X.env=pure false:=by rfl):PS X (.Expr e pos) (YU te):=by
 intro pins s σ H D I h;refine wpAny_Expr_any (AA (he pins s σ H _ I h) λv s1 zz=>?_) I.quiet hs;obtain⟨x,H1,I1,r1,q1⟩:=zz;exact⟨σ,H1,I1,q1⟩
def G9 (te:TE):TS:=λD σ H=>te σ H D.rt
theorem Ay (he:PE X e te):PS X (.Return (some e) pos) (G9 te):=by
 intro pins s σ H D I h;refine wpAny_Return_some (AA (he pins s σ H _ I h) λv s1 zz=>?_);obtain⟨x,H1,I1,r1,q1⟩:=zz;exact⟨x,σ,H1,I1,r1,q1⟩
def IV (c:TT)(t u:TS):TS:=λD σ H=>c σ H λb H1=>if b=true then t D σ H1 else u D σ H1
theorem AM {c:Expr}{a b:List Stmt}{tc:TT}(hc:PT X c tc)(ha:Dy X a t)(hb:Dy X b u):PS X (.If c a b pos) (IV tc t u):=by
 intro pins s σ H D I h;refine wpAny_If (AA (hc pins s σ H _ I h) λd s1 zz=>?_);obtain⟨H1,I1,q1⟩:=zz;cases d with
 |true=>exact ha pins s1 σ H1 D I1 q1
 |false=>exact hb pins s1 σ H1 D I1 q1
end
abbrev TG:=V->St->Hp->(St->Hp->Prop)->Prop
abbrev GH:=List V->St->Hp->(St->Hp->Prop)->Prop
def PG (X:Cx)(target:Expr)(t:TG):Prop:=
 ∀(pins:List (Addr×Obj)) (s:Shared) (σ:St) (H:Hp) (v:V) (u:Value) (Q:St->Hp->Prop),A7 X pins σ H s->AK v u->t v σ H Q->
  wpAny (model X.prog X.w) X.A (assign target X.env u) (λ_ s'=>∃σ' H',A7 X pins σ' H' s'/\Q σ' H') X.xe s
def JZ (X:Cx)(ts:List Expr)(t:GH):Prop:=
 ∀(pins:List (Addr×Obj)) (s:Shared) (σ:St) (H:Hp) (vs:List V) (us:List Value) (Q:St->Hp->Prop),A7 X pins σ H s->AE vs us->t vs σ H Q->
  wpAny (model X.prog X.w) X.A (assignInOrder ((assignEach ts X.env).map (·.2)) us) (λ_ s'=>∃σ' H',A7 X pins σ' H' s'/\Q σ' H') X.xe s
abbrev My:=V->V->V->Hp->(Hp->Prop)->Prop
def Qs (X:Cx)(t:My):Prop:=
 ∀(pins:List (Addr×Obj)) (s:Shared) (σ:St) (H:Hp) (o i v:V) (ov iv u:Value) (Q:Hp->Prop),A7 X pins σ H s->AK o ov->AK i iv->AK v u->t o i v H Q->
  wpAny (model X.prog X.w) X.A (setItem ov iv u) (λ_ s'=>∃H',A7 X pins σ H' s'/\Q H') X.xe s
abbrev HI:=V->V->Hp->VK->Prop
def NC (X:Cx)(op:Operator)(t:HI):Prop:=
 ∀(pins:List (Addr×Obj)) (s:Shared) (σ:St) (H:Hp) (x y:V) (v u:Value) (Q:VK),A7 X pins σ H s->AK x v->AK y u->t x y H Q->
  wpAny (model X.prog X.w) X.A (inplaceOp op v u) (EP X pins σ Q) X.xe s
section
variable {X:Cx}{pos:Pos}
def Am (i:Nat):TG:=λv σ H Q=>Q (σ.set i (some v)) H
theorem BB {i:Nat}{x:Str}(hN:X.N.Nodup)(hi:X.N[i]?=some x)(hx:GI X.env.scope x)(hf:X.fn x=true\/X.env.scope.names.lookup x=some .local:=by first|exact .inl rfl|exact .inr rfl|assumption):PG X (.Name x pos) (Am i):=by
 intro pins s σ H v u Q I r h;exact wpAny_assign_Name (Hq I hN hi hx r (λs' I'=>⟨_,H,I',h⟩) hf)
def XA:GH:=λvs σ H Q=>vs=[]/\Q σ H
def Rl (t:TG)(u:GH):GH:=λvs σ H Q=>∃v r,vs=v::r/\t v σ H fun σ' H'=>u r σ' H' Q
theorem Gu:JZ X [] XA:=by
 intro pins s σ H vs us Q I r h;obtain⟨e,h⟩:=h;subst e;cases r;exact assignInOrder_nil ⟨σ,H,I,h⟩
theorem DO {e:Expr}{es:List Expr}{t:TG}{u:GH}(h1:PG X e t)(h2:JZ X es u)
  (hs:(assignEach (e::es) X.env).map (·.2)=assign e X.env::(assignEach es X.env).map (·.2):=by rfl):JZ X (e::es) (Rl t u):=by
 intro pins s σ H vs us Q I r h;obtain⟨v,vr,e1,h⟩:=h;subst e1;cases r with
 |
  cons r rr=>
  rw[hs];refine assignInOrder_cons (AA (h1 pins s σ H _ _ _ I r h) λ_ s1 zz=>?_);obtain⟨σ1,H1,I1,q1⟩:=zz;exact h2 pins s1 σ1 H1 _ _ Q I1 rr q1
def OI (K:Zc)(n:Nat)(t:GH):TG:=λv σ H Q=>∃a xs,v = .ref a/\Aw K H a xs/\xs.length=n/\t xs σ H Q
theorem GP {es:List Expr}{k:Nat}{t:GH}{n:Nat}(hc:X.calm=true)(h:JZ X es t)
  (hn:(assignEach es X.env).length=n:=by rfl) (hst:(assignEach es X.env).findIdx? (·.1)=none:=by rfl):PG X (.Tuple es k pos) (OI X.K n t):=by
 intro pins s σ H v u Q I r hw;obtain⟨a,xs,e1,hq,hl,hw⟩:=hw;subst e1;cases r;obtain⟨its,rv,ht,hz⟩:=I.tuple hq;refine assign_Tuple_tuple (I.ok.hd hc) ht (by simp[hn,←hl,rv.length]) hst λh' hx=>?_;have I1:A7 X pins σ H {s with heap:=h'}:=I.kept (t':=s.toks) λb o e=>hx b o (Ca (Bo e)) e;exact h pins _ σ H xs _ Q I1 (by simpa using rv) hw
def Hr (te:TE)(g:TG):TS:=λD σ H=>te σ H λx H1=>g x σ H1 D.nx
theorem IZ {tg e:Expr}{te:TE}{g:TG}(he:PE X e te)(hg:PG X tg g)(hs:swapsWithSole [tg] e pos.line X.env=pure false:=by rfl)(hw:swappedStores [tg] e X.env=pure none:=by rfl)
  (h1:(assignEach [tg] X.env).map (·.2)=[assign tg X.env]:=by rfl):PS X (.Assign [tg] e pos) (Hr te g):=by
 intro pins s σ H D I h;refine wpAny_Assign_stores (AA (he pins s σ H _ I h) λv s1 zz=>?_) hs hw;obtain⟨x,H1,I1,r1,q1⟩:=zz;rw[h1];exact AA (hg pins s1 σ H1 x v _ I1 r1 q1) λ_ s2 q=>q
theorem Ak {i:Nat}{x:Str}{e:Expr}{te:TE}{pos':Pos}(hN:X.N.Nodup)(hi:X.N[i]?=some x)(hx:GI X.env.scope x)(he:PE X e te)(hs:swapsWith e (some (.Name x pos')) pos.line X.env=pure false:=by rfl)(hf:X.fn x=true\/X.env.scope.names.lookup x=some .local:=by first|exact .inl rfl|exact .inr rfl|assumption) :
  PS X (.Assign [.Name x pos'] e pos) (Hr te (Am i)):=by
 intro pins s σ H D I h;refine wpAny_Assign_Name (AA (he pins s σ H _ I h) λv s1 zz=>?_) hs;obtain⟨y,H1,I1,r1,q1⟩:=zz;exact Hq I1 hN hi hx r1 (λs2 I2=>⟨_,H1,I2,q1⟩) hf
def Mo (i:Nat)(te:TE)(ti:HI):TS:=λD σ H=>∃x,σ[i]?=some (some x)/\te σ H λy H1=>ti x y H1 λz H2=>D.nx (σ.set i (some z)) H2
theorem VN {i:Nat}{x:Str}{e:Expr}{te:TE}{op:Operator}{ti:HI}{pos':Pos}(hN:X.N.Nodup)(hi:X.N[i]?=some x)(hx:GI X.env.scope x)(he:PE X e te)(ho:NC X op ti)(hf:X.fn x=true\/X.env.scope.names.lookup x=some .local:=by first|exact .inl rfl|exact .inr rfl|assumption) :
  PS X (.AugAssign (.Name x pos') op e pos) (Mo i te ti):=by
 intro pins s σ H D I h;obtain⟨v,e1,h⟩:=h;obtain⟨m,hn,hl⟩:=I.loc;have vis:J9 X.env.scope x:=by rcases hx with k|k;exact .inl k;exact .inr (.inl k)
 obtain⟨u,r,l⟩:=hl i x v hi e1 vis;refine wpAny_AugAssign_Name ?_;have go:wpAny (model X.prog X.w) X.A (eval e X.env) (λw s₂=>wpAny (model X.prog X.w) X.A (inplaceOp op u w) (λr s₃=>wpAny (model X.prog X.w) X.A (storeName X.env x r) (λ_=>SP X pins D .next) X.xe s₃) X.xe s₂) X.xe s:=by
  refine AA (he pins s σ H _ I h) λw s1 zz=>?_;obtain⟨y,H1,I1,r1,q1⟩:=zz;refine AA (ho pins s1 σ H1 v y u w _ I1 r r1 q1) λz s2 zz=>?_;obtain⟨zv,H2,I2,r2,q2⟩:=zz;exact Hq I2 hN hi hx r2 (λs3 I3=>⟨_,H2,I3,q2⟩) hf
 rcases l with⟨hk,hm⟩|⟨hk,c,hc,hcell⟩
 .exact wpAny_loadName_local I.ok.kind hk hn hm go
 .rcases hk with hk|hk
  .exact wpAny_loadName_cell I.ok.kind hk hc hcell go
  .rcases hx with k|k
   .have:X.env.scope.names.lookup x=some .free:=hk;rw[k]at this;cases this
   .have:X.env.scope.names.lookup x=some .free:=hk;rw[k]at this;cases this
def Yj (to ti te:TE)(tget:V->V->Hp->VK->Prop)(tip:HI)(tset:My):TS:=λD σ H=>to σ H λo H1=>ti σ H1 λi H2=>tget o i H2 λx H3=>te σ H3 λy H4=>tip x y H4 λz H5=>tset o i z H5 λH6=>D.nx σ H6
def Q3 (X:Cx)(t:V->V->Hp->VK->Prop):Prop:=
 ∀(pins:List (Addr×Obj)) (s:Shared) (σ:St) (H:Hp) (o i:V) (ov iv:Value) (Q:VK),A7 X pins σ H s->AK o ov->AK i iv->t o i H Q->
  wpAny (model X.prog X.w) X.A (getItem ov iv) (EP X pins σ Q) X.xe s
theorem Px {o i e:Expr}{to ti te:TE}{tget:V->V->Hp->VK->Prop}{tip:HI}{tset:My}{op:Operator}{tpos:Pos}(ho:PE X o to)(hi:PE X i ti)(hg:Q3 X tget)(he:PE X e te)(hp:NC X op tip)(hs:Qs X tset)
  (ha:∀ov iv new,augStore i ov iv new=(do holding [new,ov,iv] (setItem ov iv new);release [new,ov,iv] [];pure .next):=by intros;rfl):PS X (.AugAssign (.Subscript o i tpos) op e pos) (Yj to ti te tget tip tset):=by
 intro pins s σ H D I h;refine wpAny_AugAssign_SubscriptAny (AA (ho pins s σ H _ I h) λov s1 zz=>?_) ha;obtain⟨x1,H1,I1,r1,q1⟩:=zz;refine AA (hi pins s1 σ H1 _ I1 q1) λiv s2 zz=>?_;obtain⟨x2,H2,I2,r2,q2⟩:=zz;refine AA (hg pins s2 σ H2 x1 x2 ov iv _ I2 r1 r2 q2) λold s3 zz=>?_;obtain⟨x3,H3,I3,r3,q3⟩:=zz;refine AA (he pins s3 σ H3 _ I3 q3) λv s4 zz=>?_;obtain⟨x4,H4,I4,r4,q4⟩:=zz;refine AA (hp pins s4 σ H4 x3 x4 old v _ I4 r3 r4 q4) λnew s5 zz=>?_;obtain⟨x5,H5,I5,r5,q5⟩:=zz;refine AA (hs pins s5 σ H5 x1 x2 x5 ov iv new _ I5 r1 r2 r5 q5) λ_ s6 zz=>?_;obtain⟨H6,I6,q6⟩:=zz;exact⟨σ,H6,I6,q6⟩
def M8 (f:Int->Int->Int):HI:=λx y H Q=>∃i j,x = .int i/\y = .int j/\Q (.int (f i j)) H
theorem LX:NC X .Add (M8 λi j=>i+j):=by
 intro pins s σ H x y v u Q I r1 r2 h;obtain⟨i,j,e1,e2,q⟩:=h;subst e1;subst e2;obtain⟨t,rfl⟩:=r1;obtain⟨t',rfl⟩:=r2;exact iadd_int ⟨.int _,H,I.tok _,⟨_,rfl⟩,q⟩
end
section
variable {X:Cx}{pos:Pos}
def Ls (c:TT)(tb:TS):TS:=λD σ H=>∃W:Nat->St->Hp->Prop,(∃m,W m σ H)/\∀m σ H,W m σ H->
 c σ H λb H1=>if b=true then ∃N:St->Hp->Prop,(∀σ' H',N σ' H'->∃m',m'<m/\W m' σ' H')/\tb {D with nx:=N,ct:=N,bk:=D.nx} σ H1 else D.nx σ H1
theorem IT {c:Expr}{body:List Stmt}{tc:TT}{tb:TS}(hp:PassesOwn (model X.prog X.w) X.A X.env X.xe)(hc:PT X c tc)(hb:Dy X body tb):PS X (.While c body [] pos) (Ls tc tb):=by
 intro pins s σ H D I h;obtain⟨W,⟨m0,w0⟩,turn⟩:=h;refine wpAny_While (codeAny_whileLoop (λn s'=>∃σ' H',A7 X pins σ' H' s'/\W n σ' H') ?_ m0 ⟨σ,H,I,w0⟩);rintro n s1 ⟨σ1,H1,I1,w1⟩;refine Ik hp (AA (hc pins s1 σ1 H1 _ I1 (turn n σ1 H1 w1)) λb s2 zz=>?_);obtain⟨H2,I2,q2⟩:=zz;cases b with
 |
  true=>
  obtain⟨N,hN,q2⟩:=q2;rw[Ac rfl];refine Ik hp (AA (hb pins s2 σ1 H2 _ I2 q2) λf s3 q3=>?_);cases f with
  |
   next=>
   obtain⟨σ3,H3,I3,n3⟩:=q3;obtain⟨m',hm,w3⟩:=hN σ3 H3 n3;exact⟨m',hm,σ3,H3,I3,w3⟩
  |
   cont=>
   obtain⟨σ3,H3,I3,n3⟩:=q3;obtain⟨m',hm,w3⟩:=hN σ3 H3 n3;exact⟨m',hm,σ3,H3,I3,w3⟩
  |brk=>exact q3
  |ret v=>exact q3
 |
  false=>
  rw[A9 C6];exact LP ⟨σ1,H2,I2,q2⟩
end
structure It where
 go:Nat->Hp->Prop
 yld:Nat->Hp->V->Hp->Prop
 stop:Nat->Hp->Prop
def Ez (X:Cx)(pins:List (Addr×Obj))(H:Hp)(b:Addr):Prop:=
 H b=none/\b≠X.env.locals/\b∉X.fs/\(b∈X.ex\/X.s₀.heap.objs.size<=b)/\(∀x c,X.env.cells.lookup x=some c->c≠b)/\∀p∈X.pn++pins,p.1≠b
theorem A7.fpOk {X:Cx}{pins:List (Addr×Obj)}{σ:St}{H H':Hp}{s:Shared}{b:Addr}(I:A7 X pins σ H s)(hb:s.heap.objs.size<=b)(hn:H' b=none):Ez X pins H' b:=by
 refine⟨hn,Hb (CB I.lt hb),I.nofs hb,.inr (BP I.sz hb),λx c e z=>?_,λp hp z=>?_⟩
 .obtain⟨v,q⟩:=I.cell x c e;exact absurd (CB q.lt (by rw[z];exact hb)) (EU _)
 .exact absurd (CB (Bo (I.pin p hp).1) (by rw[z];exact hb)) (EU _)
structure Hk (P:Program)(w:World)(K:Zc)(tg:Expr)(J:It)(fp:List Addr)(it:Addr)(tn:Nat->Heap->Prop):Prop where
 mem:it∈fp
 obj:∀i h,tn i h->∀b∈fp,∃o,h.get? b=some o/\∀v,o.data≠.cell v
 keep:∀i h h',tn i h->(∀b∈fp,∀o,h.get? b=some o->h'.get? b=some o)->tn i h'
 item:∀(X:Cx),X.prog=P->X.w=w->X.K=K->X.calm=true->∀(i:Nat) (pins:List (Addr×Obj)) (s:Shared) (σ:St) (H:Hp) (E:Value->Shared->Prop),A7 X pins σ H s->(∀b∈fp,Ez X pins H b)->tn i s.heap->J.go i H->
  wpAny (model P w) X.A (pyNext (.ref it)) (λr s1=>∃u,r=some u/\
   wpAny (model P w) X.A (letOwnedTupleGo tg (.ref it) u) (λ_ s2=>∃x H',A7 X pins σ H' s2/\AK x u/\J.yld i H x H'/\tn (i+1) s2.heap/\∀b∈fp,H' b=none) E s1) E s
 done:∀(X:Cx),X.prog=P->X.w=w->X.K=K->X.calm=true->∀(i:Nat) (pins:List (Addr×Obj)) (s:Shared) (σ:St) (H:Hp) (E:Value->Shared->Prop),A7 X pins σ H s->(∀b∈fp,Ez X pins H b)->tn i s.heap->J.stop i H->
  wpAny (model P w) X.A (pyNext (.ref it)) (λr s1=>r=none/\A7 X pins σ H s1) E s
 self:∀(A:Around) (i:Nat) (s:Shared) (Q:Value->Shared->Prop) (E:Value->Shared->Prop),tn i s.heap->Q (.ref it) s->wpAny (model P w) A (pyIter (.ref it)) Q E s
abbrev TI:=St->Hp->(It->Hp->Prop)->Prop
def QL (X:Cx)(pins:List (Addr×Obj))(σ:St)(tg:Expr)(R:It->Hp->Prop)(itv:Value)(s2:Shared):Prop:=
 ∃(it:Addr) (fp:List Addr) (tn:Nat->Heap->Prop) (J:It) (H':Hp),itv = .ref it/\A7 X pins σ H' s2/\Hk X.prog X.w X.K tg J fp it tn/\tn 0 s2.heap/\(∀b∈fp,Ez X pins H' b)/\R J H'
def PI (X:Cx)(tg iter:Expr)(wi:TI):Prop:=
 ∀(pins:List (Addr×Obj)) (s:Shared) (σ:St) (H:Hp) (R:It->Hp->Prop),A7 X pins σ H s->wi σ H R->
  wpAny (model X.prog X.w) X.A (eval iter X.env) (λv s1=>wpAny (model X.prog X.w) X.A (pyIter v) (QL X pins σ tg R) X.xe s1) X.xe s
theorem Lm {M:Model}{A:Around}{E:Value->Shared->Prop}{s:Shared}{tg:Expr}{it:Addr}{u:Value}{o:Obj}{n:String}{vs:Array Value}{Q:Unit->Shared->Prop}(ho:s.heap.get? it=some o)(hc:o.cls = .type n)(hd:o.data = .fields vs)
  (hn:["enumerate","zip","dict_itemiterator","dict_reverseitemiterator","odict_iterator","itertools.zip_longest","itertools.pairwise"].contains n=false) (hQ:Q () s):wpAny M A (letOwnedTupleGo tg (.ref it) u) Q E s:=by
 unfold letOwnedTupleGo;cases tg<;>first
  |exact Bj hQ
  |(cases u<;>first
   |exact Bj hQ
   |(
    refine Ao (wpAny_load ho ?_);rw[hc,hd];show wpAny M A (if(["enumerate","zip","dict_itemiterator","dict_reverseitemiterator","odict_iterator","itertools.zip_longest","itertools.pairwise"].contains n&&vs[0]?==some (rawInt _))=true then _ else _) Q E s;rw[A9 (by intro h;rw[hn,Bool.false_and]at h;cases h)];exact Bj hQ))
def GN (K:Zc)(a:Addr):It:=
 ⟨λi H=>∃xs x,A4 K H a xs/\xs[i]?=some x,λi H x H'=>H'=H/\∀xs,A4 K H a xs->xs[i]?=some x,λi H=>∃xs,A4 K H a xs/\xs.length<=i⟩
def NB (K:Zc)(a:Addr):It:=
 ⟨λi H=>∃xs x,Aw K H a xs/\xs[i]?=some x,λi H x H'=>H'=H/\∀xs,Aw K H a xs->xs[i]?=some x,λi H=>∃xs,Aw K H a xs/\xs.length<=i⟩
def GD (lo:Int)(n:Nat):It:=⟨λi _=>i<n,λi H x H'=>H'=H/\x = .int (lo+i),λi _=>n<=i⟩
theorem Sv {P:Program}{w:World}{K:Zc}{tg:Expr}(a it:Addr):Hk P w K tg (GN K a) [it] it (λi h=>h.IsListIter it a i) where
 mem:=by simp
 obj:=λi h st b hb=>by
  have e:b=it:=by simpa using hb
  subst e;obtain⟨o,e,c,d⟩:=st;exact⟨o,e,λv z=>by rw[d]at z;cases z⟩
 keep:=λi h h' st k=>st.at λo e=>k it (by simp) o e
 item:=by
  intro X hP hw hK hc i pins s σ H E I hf st hg;subst hP hw hK;obtain⟨xs,x,hq,hx⟩:=hg;obtain⟨its,rv,p,hz⟩:=I.list hq;obtain⟨u,hu,ru⟩:=rv.get hx;obtain⟨f0,f1,f2,f3,f4,f5⟩:=hf it (by simp);refine wpAny_pyNext_list_item st p.isList (x:=u) (by simpa using hu) λh' st' sb=>?_;have I1:A7 X pins σ H {s with heap:=h'}:=I.turned (t':=s.toks) (λb o hb e=>(sb.2 b hb).trans e) f0 f1 f3 f4 f5;obtain⟨o,e,c,d⟩:=id st';exact⟨u,rfl,Lm (s:={s with heap:=h'}) e c d (by decide) ⟨x,H,I1,ru,⟨rfl,λys hy=>by rw[I.list_inj hy hq];exact hx⟩,st',λb hb=>(hf b hb).1⟩⟩
 done:=by
  intro X hP hw hK hc i pins s σ H E I hf st hg;subst hP hw hK;obtain⟨xs,hq,hx⟩:=hg;obtain⟨its,rv,p,hz⟩:=I.list hq;obtain⟨f0,f1,f2,f3,f4,f5⟩:=hf it (by simp);have hl:=rv.length;exact wpAny_pyNext_list_end (I.ok.hd hc) st p.isList (by simp;lia) λh' eb=>⟨rfl,I.turned (t':=s.toks) (λb o hb e=>eb b o hb e) f0 f1 f3 f4 f5⟩
 self:=λ_ _ _ _ _ st h=>wpAny_pyIter_listiter st h
theorem YA {P:Program}{w:World}{K:Zc}{tg:Expr}(a it:Addr):Hk P w K tg (NB K a) [it] it (λi h=>h.IsTupleIter it a i) where
 mem:=by simp
 obj:=λi h st b hb=>by
  have e:b=it:=by simpa using hb
  subst e;obtain⟨o,e,c,d⟩:=st;exact⟨o,e,λv z=>by rw[d]at z;cases z⟩
 keep:=λi h h' st k=>st.at λo e=>k it (by simp) o e
 item:=by
  intro X hP hw hK hc i pins s σ H E I hf st hg;subst hP hw hK;obtain⟨xs,x,hq,hx⟩:=hg;obtain⟨its,rv,p,hz⟩:=I.tuple hq;obtain⟨u,hu,ru⟩:=rv.get hx;obtain⟨f0,f1,f2,f3,f4,f5⟩:=hf it (by simp);refine wpAny_pyNext_tuple_item st (show s.heap.IsTuple a its.toArray from p) (x:=u) (by simpa using hu) λh' st' sb=>?_;have I1:A7 X pins σ H {s with heap:=h'}:=I.turned (t':=s.toks) (λb o hb e=>(sb.2 b hb).trans e) f0 f1 f3 f4 f5;obtain⟨o,e,c,d⟩:=id st';exact⟨u,rfl,Lm (s:={s with heap:=h'}) e c d (by decide) ⟨x,H,I1,ru,⟨rfl,λys hy=>by rw[I.tuple_inj hy hq];exact hx⟩,st',λb hb=>(hf b hb).1⟩⟩
 done:=by
  intro X hP hw hK hc i pins s σ H E I hf st hg;subst hP hw hK;obtain⟨xs,hq,hx⟩:=hg;obtain⟨its,rv,p,hz⟩:=I.tuple hq;obtain⟨f0,f1,f2,f3,f4,f5⟩:=hf it (by simp);have hl:=rv.length;exact wpAny_pyNext_tuple_end (I.ok.hd hc) st (show s.heap.IsTuple a its.toArray from p) (by simp;lia) λh' eb=>⟨rfl,I.turned (t':=s.toks) (λb o hb e=>eb b o hb e) f0 f1 f3 f4 f5⟩
 self:=λ_ _ _ _ _ st h=>wpAny_pyIter_tupleiter st h
theorem So {P:Program}{w:World}{K:Zc}{tg:Expr}(it:Addr)(lo:Int)(n:Nat):Hk P w K tg (GD lo n) [it] it (λi h=>IsRangeIter h it (lo+(i:Nat)*1) ((n:Int)-(i:Nat)) 1) where
 mem:=by simp
 obj:=λi h st b hb=>by
  have e:b=it:=by simpa using hb
  subst e;exact⟨_,st,λv z=>by
   have z':Data.fields _=Data.cell v:=z;cases z'⟩
 keep:=λi h h' st k=>k it (by simp) _ st
 item:=by
  intro X hP hw hK hc i pins s σ H E I hf st hg;subst hP hw hK;obtain⟨f0,f1,f2,f3,f4,f5⟩:=hf it (by simp);have W:=Walks.range (prog:=X.prog) (w:=X.w) (I.ok.hd hc) it lo 1 n;refine W.item i s _ _ hg st λv h' tk hv st' kk=>?_;obtain⟨t,rfl⟩:=hv;have I1:A7 X pins σ H {s with heap:=h',toks:=tk}:=I.turned (λb o hb e=>kk b o (by simpa using hb) e) f0 f1 f3 f4 f5;refine⟨_,rfl,Lm (s:={s with heap:=h',toks:=tk}) (n:="range_iterator") st' rfl rfl (by decide) ⟨.int (lo+i),H,I1,⟨t,?_⟩,⟨rfl,rfl⟩,st',λb hb=>(hf b hb).1⟩⟩;rw[Int.mul_one]
 done:=by
  intro X hP hw hK hc i pins s σ H E I hf st hg;subst hP hw hK;obtain⟨f0,f1,f2,f3,f4,f5⟩:=hf it (by simp);exact wpAny_pyNext_range_end (I.ok.hd hc) st (by have:n<=i:=hg;lia) λh' eb=>⟨rfl,I.turned (t':=s.toks) (λb o hb e=>eb b o hb e) f0 f1 f3 f4 f5⟩
 self:=λ_ _ _ _ _ st h=>wpAny_pyIter_rangeiter st h
section
variable {X:Cx}{tg:Expr}
def SM (K:Zc)(tl:TE):TI:=fun σ H R=>tl σ H λx H1=>∃a,x = .ref a/\(∃xs,A4 K H1 a xs)/\R (GN K a) H1
def Us (K:Zc)(tl:TE):TI:=fun σ H R=>tl σ H λx H1=>∃a,x = .ref a/\(∃xs,Aw K H1 a xs)/\R (NB K a) H1
theorem DD {l:Expr}{tl:TE}(hl:PE X l tl):PI X tg l (SM X.K tl):=by
 intro pins s σ H R I h;refine AA (hl pins s σ H _ I h) λv s1 zz=>?_;obtain⟨x,H1,I1,r1,q1⟩:=zz;obtain⟨a,e,⟨xs,hq⟩,q⟩:=q1;subst e;cases r1;obtain⟨its,rv,p,hz⟩:=I1.list hq;refine LQ p.isList ?_;refine⟨s1.heap.objs.size,[s1.heap.objs.size],_,_,H1,rfl,I1.kept (t':=s1.toks) λb o e=>Bz _ e,Sv a _,⟨_,Dl _ rfl,rfl,rfl⟩,λb hb=>?_,q⟩;have e:b=s1.heap.objs.size:=by simpa using hb
 subst e;exact I1.fpOk (Aq _) (I1.hok.fresh (Aq _))
theorem Me {l:Expr}{tl:TE}(hl:PE X l tl):PI X tg l (Us X.K tl):=by
 intro pins s σ H R I h;refine AA (hl pins s σ H _ I h) λv s1 zz=>?_;obtain⟨x,H1,I1,r1,q1⟩:=zz;obtain⟨a,e,⟨xs,hq⟩,q⟩:=q1;subst e;cases r1;obtain⟨its,rv,p,hz⟩:=I1.tuple hq;refine wpAny_pyIter_tuple (show s1.heap.IsTuple a its.toArray from p) ?_;refine⟨s1.heap.objs.size,[s1.heap.objs.size],_,_,H1,rfl,I1.kept (t':=s1.toks) λb o e=>Bz _ e,YA a _,⟨_,Dl _ rfl,rfl,rfl⟩,λb hb=>?_,q⟩;have e:b=s1.heap.objs.size:=by simpa using hb
 subst e;exact I1.fpOk (Aq _) (I1.hok.fresh (Aq _))
theorem YR {pins:List (Addr×Obj)}{σ:St}{H:Hp}{s:Shared}{R:It->Hp->Prop}{E:Value->Shared->Prop}{lo hi:Int}{t u v:Tok}{tk:Nat}(I:A7 X pins σ H s)(h1 : -(2 ^ 62)<=lo)(h2:lo<2 ^ 62)(h3 : -(2 ^ 62)<=hi)(h4:hi<2 ^ 62)
  (q:R (GD lo (hi-lo).toNat) H):wpAny (model X.prog X.w) X.A (pyIter (.ref s.heap.objs.size)) (QL X pins σ tg R) E {s with heap:=s.heap.push {cls:=.type "range",data:=.fields #[.int lo t,.int hi u,.int 1 v]},toks:=tk}:=by
 refine wpAny_pyIter_range (IsRange.new ..) (small_one h1 h2 h3 h4) ?_;have I1:A7 X pins σ H {s with heap:=s.heap.push {cls:=.type "range",data:=.fields #[.int lo t,.int hi u,.int 1 v]},toks:=tk}:=I.kept λb o e=>Bz _ e;refine⟨(s.heap.push {cls:=.type "range",data:=.fields #[.int lo t,.int hi u,.int 1 v]}).objs.size,[(s.heap.push {cls:=.type "range",data:=.fields #[.int lo t,.int hi u,.int 1 v]}).objs.size],_,_,H,rfl,
  I1.kept (t':=tk) λb o e=>Bz _ e,So _ lo (hi-lo).toNat,?_,λb hb=>?_,q⟩
 .have e1:lo+((0:Nat):Int)*1=lo:=by simp
  have e2:(((hi-lo).toNat:Nat):Int)-((0:Nat):Int)=Builtin.Range.rangeSize lo hi 1:=by rw[rangeSize_one];split<;>lia
  show IsRangeIter _ _ (lo+((0:Nat):Int)*1) ((((hi-lo).toNat:Nat):Int)-((0:Nat):Int)) 1;rw[e1,e2];exact Dl _ rfl
 .have e:b=(s.heap.push {cls:=.type "range",data:=.fields #[.int lo t,.int hi u,.int 1 v]}).objs.size:=by simpa using hb
  subst e;exact I1.fpOk (Aq _) (I1.hok.fresh (Aq _))
def VI (ta:TA):TI:=fun σ H R=>ta σ H λvs H1=>∃j:Int,vs=[.int j]/\-(2 ^ 62)<=j/\j<2 ^ 62/\R (GD 0 j.toNat) H1
theorem KS {a:Expr}{ta:TA}{p pos:Pos}(hg:Gl X "range")(hm:X.mg "range"=none)(ha:PA X [a] ta)(hs:starEach [a] X.env=[(false,eval a X.env)]:=by rfl):PI X tg (.Call (.Name "range" p) [a] [] pos) (VI ta):=by
 intro pins s σ H R I h;refine Call_ (IC I hg hm boot_range (Z8 (AA (ha pos pins s σ H _ I h) λus s1 zz=>?_) hs rfl));obtain⟨vs,H1,I1,r1,q1⟩:=zz;obtain⟨j,e,q1,q2,q⟩:=q1;subst e;cases r1 with
 |
  cons r rr=>
  cases rr;obtain⟨t,rfl⟩:=r;exact call_range_1 (YR I1 (by lia) (by lia) q1 q2 (by simpa using q))
def Ro (wi:TI)(g:TG)(tb:TS):TS:=λD σ H=>wi σ H λJ H1=>∃W:Nat->Nat->St->Hp->Prop,(∃m,W 0 m σ H1)/\∀i m σ H,W i m σ H->
 (J.stop i H/\D.nx σ H)\/(J.go i H/\∃N:St->Hp->Prop,(∀σ' H',N σ' H'->∃m',m'<m/\W (i+1) m' σ' H')/\∀x H',J.yld i H x H'->g x σ H' fun σ2 H2=>tb {D with nx:=N,ct:=N,bk:=D.nx} σ2 H2)
def Hv (fp:List Addr)(h:Heap):List (Addr×Obj):=fp.filterMap λb=>(h.get? b).map λo=>(b,o)
theorem Iz {fp:List Addr}{h:Heap}{b:Addr}{o:Obj}(hb:b∈fp)(e:h.get? b=some o):(b,o)∈Hv fp h:=List.mem_filterMap.mpr ⟨b,hb,by rw[e];rfl⟩
theorem TJ {fp:List Addr}{h:Heap}{p:Addr×Obj}(hp:p∈Hv fp h):p.1∈fp/\h.get? p.1=some p.2:=by
 obtain⟨b,hb,e⟩:=List.mem_filterMap.mp hp;cases q:h.get? b with
 |none=>rw[q]at e;cases e
 |
  some o=>
  rw[q]at e;have e':(b,o)=p:=Co e;subst e';exact⟨hb,q⟩
theorem A7.pinned {pins:List (Addr×Obj)}{σ:St}{H:Hp}{s:Shared}{fp:List Addr}(I:A7 X pins σ H s)(hf:∀b∈fp,Ez X pins H b)(ho:∀b∈fp,∃o,s.heap.get? b=some o/\∀v,o.data≠.cell v):A7 X (pins++Hv fp s.heap) σ H s:=
 I.pins_of λp hp=>(By.mp hp).elim (λz=>I.pin p (Cz _ z)) λz=>by
  obtain⟨hb,e⟩:=TJ z;obtain⟨f0,f1,f2,_⟩:=hf p.1 hb;obtain⟨o,e',d⟩:=ho p.1 hb;rw[e]at e';cases e';exact⟨e,f0,f1,f2,d⟩
theorem A7.unpinned {pins pl:List (Addr×Obj)}{σ:St}{H:Hp}{s:Shared}(I:A7 X (pins++pl) σ H s):A7 X pins σ H s:=I.pins_of λp hp=>I.pin p (Cz _ (Eh _ hp))
theorem EI {iter:Expr}{body:List Stmt}{wi:TI}{g:TG}{tb:TS}{pos:Pos}(hp:PassesOwn (model X.prog X.w) X.A X.env X.xe)(hc:X.calm=true)(hi:PI X tg iter wi)(hg:PG X tg g)(hb:Dy X body tb)
  (hs:∀x,foldedSetIterable iter X.env x=pure x:=by intro _;rfl):PS X (.For tg iter body [] pos) (Ro wi g tb):=by
 intro pins s σ H D I h;refine wpAny_For (AA (hi pins s σ H _ I h) λv s1 h1=>AA h1 λitv s2 h2=>?_) hs;obtain⟨it,fp,tn,J,H2,e,I2,T,st2,f2,W,⟨m0,w0⟩,turn⟩:=h2;subst e;have stat:∀{H':Hp},(∀b∈fp,H' b=none)->∀b∈fp,Ez X pins H' b:=λhn b hb=>⟨hn b hb,(f2 b hb).2⟩
 refine codeAny_forLoop_any (λn s'=>∃i σ' H',A7 X pins σ' H' s'/\tn i s'.heap/\(∀b∈fp,H' b=none)/\W i n σ' H') ?_ m0 ⟨0,σ,H2,I2,st2,λb hb=>(f2 b hb).1,w0⟩;rintro n s3 ⟨i,σ3,H3,I3,st3,fr3,w3⟩;rcases turn i n σ3 H3 w3 with⟨stop,qn⟩|⟨go,N,hN,step⟩
 .refine Ik hp (AA (T.done X rfl rfl rfl hc i pins s3 σ3 H3 X.xe I3 (stat fr3) st3 stop) λr s4 zz=>?_);obtain⟨hr,I4⟩:=zz;subst hr;exact LP ⟨σ3,H3,I4,qn⟩
 .refine Ik hp (AA (T.item X rfl rfl rfl hc i pins s3 σ3 H3 X.xe I3 (stat fr3) st3 go) λr s4 zz=>?_);obtain⟨u,hr,h4⟩:=zz;subst hr;refine Ik hp (AA h4 λ_ s5 zz=>?_);obtain⟨x,H5,I5,r5,y5,st5,fr5⟩:=zz;have I5':=I5.pinned (stat fr5) (T.obj _ _ st5);refine Ik hp (AA (hg _ s5 σ3 H5 x u _ I5' r5 (step x H5 y5)) λ_ s6 zz=>?_);obtain⟨σ6,H6,I6,q6⟩:=zz;refine Ik hp (AA (hb _ s6 σ6 H6 _ I6 q6) λf s7 q7=>?_);have again:∀{σ7:St} {H7:Hp},A7 X (pins++Hv fp s5.heap) σ7 H7 s7->N σ7 H7->∃m,m<n/\∃i σ' H',A7 X pins σ' H' s7/\tn i s7.heap/\(∀b∈fp,H' b=none)/\W i m σ' H':=fun{σ7 H7} I7 n7=>by
   obtain⟨m',hm,w7⟩:=hN σ7 H7 n7;refine⟨m',hm,i+1,σ7,H7,I7.unpinned,T.keep _ _ _ st5 λb hb o e=>(I7.pin (b,o) (Cz _ (Cz _ (Iz hb e)))).1,λb hb=>?_,w7⟩;obtain⟨o,e,d⟩:=T.obj _ _ st5 b hb;exact(I7.pin (b,o) (Cz _ (Cz _ (Iz hb e)))).2.1
  cases f with
  |next=>obtain⟨σ7,H7,I7,n7⟩:=q7;exact again I7 n7
  |cont=>obtain⟨σ7,H7,I7,n7⟩:=q7;exact again I7 n7
  |brk=>obtain⟨σ7,H7,I7,q7⟩:=q7;exact⟨σ7,H7,I7.unpinned,q7⟩
  |ret v=>obtain⟨x7,σ7,H7,I7,r7,q7⟩:=q7;exact⟨x7,σ7,H7,I7.unpinned,r7,q7⟩
end
theorem GY {K:Zc}{a:Addr}{xs:List V}{g:TG}{tb:TS}{D:CY}{σ:St}{H:Hp}(Pv:Nat->St->Hp->Prop)(h0:Pv 0 σ H)(hl:∀i σ H,i<=xs.length->Pv i σ H->A4 K H a xs)
  (hs:∀i x σ H,xs[i]?=some x->Pv i σ H->g x σ H fun σ2 H2=>tb {D with nx:=Pv (i+1),ct:=Pv (i+1),bk:=D.nx} σ2 H2) (hd:∀σ H,Pv xs.length σ H->D.nx σ H) :
  ∃W:Nat->Nat->St->Hp->Prop,(∃m,W 0 m σ H)/\∀i m σ H,W i m σ H->
   ((GN K a).stop i H/\D.nx σ H)\/((GN K a).go i H/\∃N:St->Hp->Prop,(∀σ' H',N σ' H'->∃m',m'<m/\W (i+1) m' σ' H')/\∀x H',(GN K a).yld i H x H'->g x σ H' fun σ2 H2=>tb {D with nx:=N,ct:=N,bk:=D.nx} σ2 H2):=by
 refine⟨λi m σ H=>m=xs.length-i/\i<=xs.length/\Pv i σ H,⟨xs.length,by simp,BI _,h0⟩,?_⟩;rintro i m σ H ⟨rfl,hi,p⟩;have q:=hl i σ H hi p;by_cases hlt:i<xs.length
 .refine .inr ⟨⟨xs,xs[i],q,by simp[hlt]⟩,Pv (i+1),fun σ' H' p'=>⟨xs.length-(i+1),by lia,rfl,hlt,p'⟩,λx H' y=>?_⟩;obtain⟨e,y⟩:=y;subst e;exact hs i x σ _ (y xs q) p
 .have e:i=xs.length:=by lia
  subst e;exact .inl ⟨⟨xs,q,Aq _⟩,hd σ H p⟩
theorem MM {lo:Int}{n:Nat}{g:TG}{tb:TS}{D:CY}{σ:St}{H:Hp}(Pv:Nat->St->Hp->Prop)(h0:Pv 0 σ H)
  (hs:∀i σ H,i<n->Pv i σ H->g (.int (lo+i)) σ H fun σ2 H2=>tb {D with nx:=Pv (i+1),ct:=Pv (i+1),bk:=D.nx} σ2 H2) (hd:∀σ H,Pv n σ H->D.nx σ H) :
  ∃W:Nat->Nat->St->Hp->Prop,(∃m,W 0 m σ H)/\∀i m σ H,W i m σ H->
   ((GD lo n).stop i H/\D.nx σ H)\/((GD lo n).go i H/\∃N:St->Hp->Prop,(∀σ' H',N σ' H'->∃m',m'<m/\W (i+1) m' σ' H')/\∀x H',(GD lo n).yld i H x H'->g x σ H' fun σ2 H2=>tb {D with nx:=N,ct:=N,bk:=D.nx} σ2 H2):=by
 refine⟨λi m σ H=>m=n-i/\i<=n/\Pv i σ H,⟨n,by simp,BI _,h0⟩,?_⟩;rintro i m σ H ⟨rfl,hi,p⟩;by_cases hlt:i<n
 .refine .inr ⟨hlt,Pv (i+1),fun σ' H' p'=>⟨n-(i+1),by lia,rfl,hlt,p'⟩,λx H' y=>?_⟩;obtain⟨e,y⟩:=y;subst e y;exact hs i σ _ hlt p
 .have e:i=n:=by lia
  subst e;exact .inl ⟨Aq _,hd σ H p⟩
abbrev R2:=V->V->Hp->VK->Prop
def BL (X:Cx)(f:Value->Value->Sem Value)(r:R2):Prop:=
 ∀(pins:List (Addr×Obj)) (s:Shared) (σ:St) (H:Hp) (x y:V) (v u:Value) (Q:VK),A7 X pins σ H s->AK x v->AK y u->r x y H Q->
  wpAny (model X.prog X.w) X.A (f v u) (EP X pins σ Q) X.xe s
def Ms (X:Cx)(f:Value->Sem Value)(r:V->Hp->VK->Prop):Prop:=
 ∀(pins:List (Addr×Obj)) (s:Shared) (σ:St) (H:Hp) (x:V) (v:Value) (Q:VK),A7 X pins σ H s->AK x v->r x H Q->
  wpAny (model X.prog X.w) X.A (f v) (EP X pins σ Q) X.xe s
def DU (X:Cx)(f:Value)(r:List V->Hp->VK->Prop):Prop:=
 ∀(pins:List (Addr×Obj)) (s:Shared) (σ:St) (H:Hp) (xs:List V) (us:List Value) (Q:VK),A7 X pins σ H s->AE xs us->r xs H Q->
  wpAny (model X.prog X.w) X.A (call f us) (EP X pins σ Q) X.xe s
def Fe (r:R2)(ta tb:TE):TE:=fun σ H Q=>ta σ H λx H1=>tb σ H1 λy H2=>r x y H2 Q
def Vx (r:V->Hp->VK->Prop)(ta:TE):TE:=fun σ H Q=>ta σ H λx H1=>r x H1 Q
def rI (C:Int->Int->Prop)(g:Int->Int->V):R2:=λx y H Q=>∃i j,x = .int i/\y = .int j/\C i j/\Q (g i j) H
def Fs (g:Int->Int->V):R2:=λx y H Q=>∃i j,x = .int i/\y = .int j/\Q (g i j) H
def rU (g:Int->V):V->Hp->VK->Prop:=λx H Q=>∃i,x = .int i/\Q (g i) H
section
variable {X:Cx}{a b c:Expr}{ta tb tc:TE}{pos:Pos}
theorem MZ (ha:PE X a ta)(hb:PE X b tb){pins:List (Addr×Obj)}{s:Shared}{σ:St}{H:Hp}{R:V->V->Hp->Prop}(I:A7 X pins σ H s)
  (h:ta σ H λx H1=>tb σ H1 λy H2=>R x y H2) {Q:Value->Shared->Prop} {f:Value->Value->Sem Value}
  (hf:∀v u s2 x y H2,A7 X pins σ H2 s2->AK x v->AK y u->R x y H2->wpAny (model X.prog X.w) X.A (f v u) Q X.xe s2) :
  wpAny (model X.prog X.w) X.A (eval a X.env) (λv s₁=>wpAny (model X.prog X.w) X.A (eval b X.env) (λu s₂=>wpAny (model X.prog X.w) X.A (f v u) Q X.xe s₂) X.xe s₁) X.xe s:=by
 refine AA (ha pins s σ H _ I h) λv s1 zz=>?_;obtain⟨x,H1,I1,r1,q1⟩:=zz;refine AA (hb pins s1 σ H1 _ I1 q1) λu s2 zz=>?_;obtain⟨y,H2,I2,r2,q2⟩:=zz;exact hf v u s2 x y H2 I2 r1 r2 q2
theorem A8 {op:Operator}{r:R2}(ho:BL X (binaryOp op) r)(ha:PE X a ta)(hb:PE X b tb):PE X (.BinOp a op b pos) (Fe r ta tb):=by
 intro pins s σ H Q I h;exact wpAny_BinOp (MZ ha hb I h λv u s2 x y H2 I2 rx ry q=>ho pins s2 σ H2 x y v u Q I2 rx ry q)
theorem Dh {op:UnaryOp}{r:V->Hp->VK->Prop}(ho:Ms X (unaryOp op) r)(ha:PE X a ta):PE X (.UnaryOp op a pos) (Vx r ta):=by
 intro pins s σ H Q I h;refine UnaryOp_ (AA (ha pins s σ H _ I h) λv s1 zz=>?_);obtain⟨x,H1,I1,r1,q1⟩:=zz;exact ho pins s1 σ H1 x v Q I1 r1 q1
theorem La {f:Value->Value->Sem Value}{C:Int->Int->Prop}{g:Int->Int->Int}
  (rule:∀(i j:Int) (t u:Tok) (s:Shared) (Q:Value->Shared->Prop) (E:Value->Shared->Prop),C i j->Q (.int (g i j) s.toks) {s with toks:=s.toks+1}->wpAny (model X.prog X.w) X.A (f (.int i t) (.int j u)) Q E s) :
  BL X f (rI C λi j=>.int (g i j)):=by
 intro pins s σ H x y v u Q I rx ry h;obtain⟨i,j,rfl,rfl,hc,q⟩:=h;obtain⟨t,rfl⟩:=rx;obtain⟨t',rfl⟩:=ry;exact rule i j t t' s _ _ hc ⟨.int (g i j),H,I.tok _,⟨_,rfl⟩,q⟩
theorem QH {f:Value->Value->Sem Value}{g:Int->Int->Int}
  (rule:∀(i j:Int) (t u:Tok) (s:Shared) (Q:Value->Shared->Prop) (E:Value->Shared->Prop),Q (.int (g i j) s.toks) {s with toks:=s.toks+1}->wpAny (model X.prog X.w) X.A (f (.int i t) (.int j u)) Q E s) :
  BL X f (Fs λi j=>.int (g i j)):=by
 intro pins s σ H x y v u Q I rx ry h;obtain⟨i,j,rfl,rfl,q⟩:=h;obtain⟨t,rfl⟩:=rx;obtain⟨t',rfl⟩:=ry;exact rule i j t t' s _ _ ⟨.int (g i j),H,I.tok _,⟨_,rfl⟩,q⟩
theorem KB {f:Value->Value->Sem Value}{g:Int->Int->Bool}
  (rule:∀(i j:Int) (t u:Tok) (s:Shared) (Q:Value->Shared->Prop) (E:Value->Shared->Prop),Q (.bool (g i j)) s->wpAny (model X.prog X.w) X.A (f (.int i t) (.int j u)) Q E s) :
  BL X f (Fs λi j=>.bl (g i j)):=by
 intro pins s σ H x y v u Q I rx ry h;obtain⟨i,j,rfl,rfl,q⟩:=h;obtain⟨t,rfl⟩:=rx;obtain⟨t',rfl⟩:=ry;exact rule i j t t' s _ _ ⟨.bl (g i j),H,I,rfl,q⟩
def Uy (i j:Int):Prop:=0<j/\j<1073741824
def X4 (i j:Int):Prop:=0<=j/\j<=1000000/\i.natAbs<2 ^ 64
def Nf (i j:Int):Prop:=(-(2 ^ 64)<i/\i<2 ^ 64)\/(-(2 ^ 64)<j/\j<2 ^ 64)
theorem Nf.ok {i j:Int}(h:Nf i j):IntMulOk i j:=by
 rcases h with⟨h1,h2⟩|⟨h1,h2⟩
 .exact .of_left (intBits_le_64 h1 h2)
 .exact .of_right (intBits_le_64 h1 h2)
theorem BG:BL X (binaryOp .Add) (Fs λi j=>.int (i+j)):=QH λ_ _ _ _ _ _ _ q=>add_int q
theorem Fb:BL X (binaryOp .Sub) (Fs λi j=>.int (i-j)):=QH λ_ _ _ _ _ _ _ q=>sub_int q
theorem G4:BL X (binaryOp .Mult) (rI Nf λi j=>.int (i*j)):=La λ_ _ _ _ _ _ _ hc q=>mul_int q hc.ok
theorem CW:BL X (binaryOp .FloorDiv) (rI Uy λi j=>.int (i/j)):=La λi j _ _ _ _ _ hc q=>by
 have h1:(0:Int)<j:=hc.1;have h2:j<1073741824:=hc.2;exact floordiv_int (by lia) (by rw[Int.fdiv_eq_ediv_of_nonneg i (by lia)];exact q) (.inl (PyProof.noPylong_small (by lia)))
theorem Bm:BL X (binaryOp .Mod) (rI (λ_ j=>0<j) λi j=>.int (i%j)):=La λi j _ _ _ _ _ hc q=>by
 have h1:(0:Int)<j:=hc;exact mod_int' (by lia) (by rw[Int.fmod_eq_emod_of_nonneg i (by lia)];exact q)
theorem Mr:BL X (binaryOp .Pow) (rI X4 λi j=>.int (i ^ j.toNat)):=La λ_ _ _ _ _ _ _ hc q=>pow_int_small hc.1 hc.2.1 hc.2.2 q
theorem XQ {f:Value->Sem Value}{g:Int->Int}
  (rule:∀(i:Int) (t:Tok) (s:Shared) (Q:Value->Shared->Prop) (E:Value->Shared->Prop),Q (.int (g i) s.toks) {s with toks:=s.toks+1}->wpAny (model X.prog X.w) X.A (f (.int i t)) Q E s) :
  Ms X f (rU λi=>.int (g i)):=by
 intro pins s σ H x v Q I rx h;obtain⟨i,rfl,q⟩:=h;obtain⟨t,rfl⟩:=rx;exact rule i t s _ _ ⟨.int (g i),H,I.tok _,⟨_,rfl⟩,q⟩
theorem Dj:Ms X (unaryOp .USub) (rU λi=>.int (-i)):=XQ λ_ _ _ _ _ q=>neg_int q
end
def Oe:V->V->Bool
 |.non,.non=>true|.non,.int _=>true|.int _,.non=>true|.non,.bl _=>true|.bl _,.non=>true|.non,.str _=>true|.str _,.non=>true
 |.int _,.int _=>true|.bl _,.bl _=>true|.str _,.str _=>true|.byt _,.byt _=>true
 |.int _,.str _=>true|.str _,.int _=>true|.bl _,.str _=>true|.str _,.bl _=>true
 |_,_=>false
def P2:R2:=λx y H Q=>Oe x y=true/\Q (.bl (decide (x=y))) H
def Qd:R2:=λx y H Q=>Oe x y=true/\Q (.bl (!decide (x=y))) H
theorem Q6 {i j:Int}:decide (V.int i=V.int j)=(i==j):=by
 rw[Ei];simp
theorem PC {i j:Bool}:decide (V.bl i=V.bl j)=(i==j):=by
 rw[Ei];simp
theorem OJ {i j:Str}:decide (V.str i=V.str j)=(i==j):=by
 rw[Ei];simp
theorem Od {i j:Array UInt8}:decide (V.byt i=V.byt j)=(i.toList==j.toList):=by
 rw[Ei];cases i;cases j;simp
section
variable {X:Cx}{a b c:Expr}{ta tb tc:TE}{pos:Pos}
theorem BR {pins:List (Addr×Obj)}{σ:St}{H:Hp}{s:Shared}{Q:VK}{k k':Bool}(I:A7 X pins σ H s)(q:Q (.bl k) H)(e:k=k'):EP X pins σ Q (.bool k') s:=by
 subst e;exact⟨.bl k,H,I,rfl,q⟩
theorem Bs:BL X (compareOp .Eq) P2:=by
 intro pins s σ H x y v u Q I rx ry h;obtain⟨hs,q⟩:=h;cases x with
 |
  non=>
  cases rx;cases y with
  |non=>cases ry;exact PySem.EqNone.eq_none_none (BR I q (by simp))
  |bl j=>cases ry;exact PySem.EqNone.eq_none_bool (BR I q (by simp))
  |int j=>obtain⟨t',rfl⟩:=ry;exact PySem.EqNone.eq_none_int (BR I q (by simp))
  |str j=>obtain⟨t',rfl⟩:=ry;exact PySem.EqNone.eq_none_str (BR I q (by simp))
  |_=>exact absurd (show false=true from hs) C6
 |
  bl i=>
  cases rx;cases y with
  |non=>cases ry;exact PySem.EqNone.eq_bool_none (BR I q (by simp))
  |bl j=>cases ry;exact eq_bool (BR I q PC)
  |str j=>obtain⟨t',rfl⟩:=ry;exact PySem.EqMixed.eq_bool_str (BR I q (by simp))
  |_=>exact absurd (show false=true from hs) C6
 |
  int i=>
  obtain⟨t,rfl⟩:=rx;cases y with
  |non=>cases ry;exact PySem.EqNone.eq_int_none (BR I q (by simp))
  |int j=>obtain⟨t',rfl⟩:=ry;exact eq_int (BR I q Q6)
  |str j=>obtain⟨t',rfl⟩:=ry;exact PySem.EqMixed.eq_int_str (BR I q (by simp))
  |_=>exact absurd (show false=true from hs) C6
 |
  str i=>
  obtain⟨t,rfl⟩:=rx;cases y with
  |non=>cases ry;exact PySem.EqNone.eq_str_none (BR I q (by simp))
  |bl j=>cases ry;exact PySem.EqMixed.eq_str_bool (BR I q (by simp))
  |int j=>obtain⟨t',rfl⟩:=ry;exact PySem.EqMixed.eq_str_int (BR I q (by simp))
  |str j=>obtain⟨t',rfl⟩:=ry;exact eq_str (BR I q OJ)
  |_=>exact absurd (show false=true from hs) C6
 |
  byt i=>
  obtain⟨t,rfl⟩:=rx;cases y with
  |byt j=>obtain⟨t',rfl⟩:=ry;exact PySem.W.eq_bytes (BR I q Od)
  |_=>exact absurd (show false=true from hs) C6
 |_=>cases y<;>exact absurd (show false=true from hs) C6
theorem E9:BL X (compareOp .NotEq) Qd:=by
 intro pins s σ H x y v u Q I rx ry h;obtain⟨hs,q⟩:=h;cases x with
 |
  non=>
  cases rx;cases y with
  |non=>cases ry;exact PySem.EqNone.ne_none_none (BR I q (by simp))
  |bl j=>cases ry;exact PySem.EqNone.ne_none_bool (BR I q (by simp))
  |int j=>obtain⟨t',rfl⟩:=ry;exact PySem.EqNone.ne_none_int (BR I q (by simp))
  |str j=>obtain⟨t',rfl⟩:=ry;exact PySem.EqNone.ne_none_str (BR I q (by simp))
  |_=>exact absurd (show false=true from hs) C6
 |
  bl i=>
  cases rx;cases y with
  |non=>cases ry;exact PySem.EqNone.ne_bool_none (BR I q (by simp))
  |bl j=>cases ry;exact ne_bool (BR I q (congrArg not PC))
  |str j=>obtain⟨t',rfl⟩:=ry;exact PySem.EqMixed.ne_bool_str (BR I q (by simp))
  |_=>exact absurd (show false=true from hs) C6
 |
  int i=>
  obtain⟨t,rfl⟩:=rx;cases y with
  |non=>cases ry;exact PySem.EqNone.ne_int_none (BR I q (by simp))
  |int j=>obtain⟨t',rfl⟩:=ry;exact ne_int (BR I q (congrArg not Q6))
  |str j=>obtain⟨t',rfl⟩:=ry;exact PySem.EqMixed.ne_int_str (BR I q (by simp))
  |_=>exact absurd (show false=true from hs) C6
 |
  str i=>
  obtain⟨t,rfl⟩:=rx;cases y with
  |non=>cases ry;exact PySem.EqNone.ne_str_none (BR I q (by simp))
  |bl j=>cases ry;exact PySem.EqMixed.ne_str_bool (BR I q (by simp))
  |int j=>obtain⟨t',rfl⟩:=ry;exact PySem.EqMixed.ne_str_int (BR I q (by simp))
  |str j=>obtain⟨t',rfl⟩:=ry;exact ne_str (BR I q (congrArg not OJ))
  |_=>exact absurd (show false=true from hs) C6
 |
  byt i=>
  obtain⟨t,rfl⟩:=rx;cases y with
  |byt j=>obtain⟨t',rfl⟩:=ry;exact PySem.W.ne_bytes (BR I q (congrArg not Od))
  |_=>exact absurd (show false=true from hs) C6
 |_=>cases y<;>exact absurd (show false=true from hs) C6
theorem EK:BL X (compareOp .Lt) (Fs λi j=>.bl (decide (i<j))):=KB λ_ _ _ _ _ _ _ q=>lt_int q
theorem RK:BL X (compareOp .LtE) (Fs λi j=>.bl (decide (i<=j))):=KB λ_ _ _ _ _ _ _ q=>le_int q
theorem FH:BL X (compareOp .Gt) (Fs λi j=>.bl (decide (j<i))):=KB λ_ _ _ _ _ _ _ q=>gt_int q
theorem Tq:BL X (compareOp .GtE) (Fs λi j=>.bl (decide (j<=i))):=KB λ_ _ _ _ _ _ _ q=>ge_int q
theorem IG:BL X (compareOp .In) (λx y H Q=>∃i j,x = .str i/\y = .str j/\Q (.bl (!(Builtin.Str.occurrences j i 0 j.length 1).isEmpty)) H):=by
 intro pins s σ H x y v u Q I rx ry h;obtain⟨i,j,rfl,rfl,q⟩:=h;obtain⟨t,rfl⟩:=rx;obtain⟨t',rfl⟩:=ry;exact in_str (BR I q rfl)
theorem EN:BL X (compareOp .Is) (λx y H Q=>y = .non/\Q (.bl (decide (x = .non))) H):=by
 intro pins s σ H x y v u Q I rx ry h;obtain⟨rfl,q⟩:=h;cases ry;refine is_none_gen (BR I q ?_);cases x<;>first
  |(cases rx;rfl)
  |(obtain⟨t,rfl⟩:=rx;rfl)
theorem M0:BL X (compareOp .IsNot) (λx y H Q=>y = .non/\Q (.bl (!decide (x = .non))) H):=by
 intro pins s σ H x y v u Q I rx ry h;obtain⟨rfl,q⟩:=h;cases ry;refine isnot_none_gen (BR I q ?_);cases x<;>first
  |(cases rx;rfl)
  |(obtain⟨t,rfl⟩:=rx;rfl)
theorem Ax (b:Expr){op:CmpOp}(h:op≠.In:=by decide)(h2:op≠.NotIn:=by decide):behindInMarks op b=false:=by
 have e1:(op==CmpOp.In)=false:=by cases op<;>first|rfl|exact absurd rfl h
 have e2:(op==CmpOp.NotIn)=false:=by cases op<;>first|rfl|exact absurd rfl h2
 cases b<;>simp[behindInMarks,e1,e2]
theorem DY {op:CmpOp}{r:R2}(ho:BL X (compareOp op) r)(ha:PE X a ta)(hb:PE X b tb)(hm:behindInMarks op b=false):PE X (.Compare a [op] [b] pos) (Fe r ta tb):=by
 intro pins s σ H Q I h;exact wpAny_Compare1 (MZ ha hb I h λv u s2 x y H2 I2 rx ry q=>ho pins s2 σ H2 x y v u Q I2 rx ry q) hm
def Oz (t:TE):TT:=fun σ H Q=>t σ H λx H'=>∃k,x = .bl k/\Q k H'
theorem Au {op:CmpOp}{r:R2}(ho:BL X (compareOp op) r)(ha:PE X a ta)(hb:PE X b tb)(hm:behindInMarks op b=false):PT X (.Compare a [op] [b] pos) (Oz (Fe r ta tb)):=by
 intro pins s σ H Q I h;refine wpAny_isTrue_Compare1 (AA (ha pins s σ H _ I h) λv s1 ⟨x,H1,I1,r1,q1⟩=>AA (hb pins s1 σ H1 _ I1 q1) λu s2 ⟨y,H2,I2,r2,q2⟩=>
  AA (ho pins s2 σ H2 x y v u _ I2 r1 r2 q2) λc s3 ⟨z,H3,I3,r3,k,e,q3⟩=>?_) hm
 subst e;cases r3;exact Ij ⟨H3,I3,q3⟩
theorem GE:(sizeLine:Nat)<2 ^ 63:=by rw[FP];decide
theorem Be:BL X (binaryOp .Add) (λx y H Q=>∃i j,x = .str i/\y = .str j/\i.length+j.length<=sizeLine/\Q (.str (i++j)) H):=by
 intro pins s σ H x y v u Q I rx ry h;obtain⟨i,j,rfl,rfl,hz,q⟩:=h;obtain⟨t,rfl⟩:=rx;obtain⟨t',rfl⟩:=ry;exact add_str (λt' tk=>⟨.str (i++j),H,I.tok _,⟨_,rfl⟩,q⟩) hz
theorem Ep {x:V}{us:List Value}(r:AE [x] us):∃u,us=[u]/\AK x u:=by
 cases r with
 |cons r1 r2=>cases r2;exact⟨_,rfl,r1⟩
theorem VV {x y:V}{us:List Value}(r:AE [x,y] us):∃u w',us=[u,w']/\AK x u/\AK y w':=by
 cases r with
 |
  cons r1 r2=>
  cases r2 with
  |cons r3 r4=>cases r4;exact⟨_,_,rfl,r1,r3⟩
theorem Oa:DU X (.builtin "abs") (λxs H Q=>∃i,xs=[.int i]/\Q (.int (if i<0 then -i else i)) H):=by
 intro pins s σ H xs us Q I r h;obtain⟨i,rfl,q⟩:=h;obtain⟨u,rfl,t,rfl⟩:=Ep r;exact call_abs_int λu tk=>⟨.int (if i<0 then -i else i),H,I.tok _,⟨_,rfl⟩,q⟩
theorem WJ (hc:X.calm=true):DU X (.builtin "max") (λxs H Q=>∃i j,xs=[.int i,.int j]/\Q (.int (if j>i then j else i)) H):=by
 intro pins s σ H xs us Q I r h;obtain⟨i,j,rfl,q⟩:=h;obtain⟨u,w',rfl,⟨t,rfl⟩,⟨t',rfl⟩⟩:=VV r;refine max_two_ints (I.ok.hd hc) λh' tk k=>⟨_,H,I.kept k,?_,q⟩
 by_cases hj:j>i
 .rw[Ac hj,Ac hj];exact⟨_,rfl⟩
 .rw[A9 hj,A9 hj];exact⟨_,rfl⟩
theorem Kf:DU X (.type "int") (λxs H Q=>(∃i,xs=[.int i]/\Q (.int i) H)\/∃k,xs=[.bl k]/\Q (.int (if k then 1 else 0)) H):=by
 intro pins s σ H xs us Q I r h;rcases h with⟨i,rfl,q⟩|⟨k,rfl,q⟩
 .obtain⟨u,rfl,t,rfl⟩:=Ep r;exact call_int_int ⟨.int i,H,I,⟨_,rfl⟩,q⟩
 .obtain⟨u,rfl,r1⟩:=Ep r;cases r1;exact call_int_bool ⟨.int (if k then 1 else 0),H,I.tok _,⟨_,rfl⟩,q⟩
theorem Jz:DU X (.type "str") (λxs H Q=>∃i,xs=[.int i]/\i.natAbs.log2<1920/\Q (.str (toString i)) H):=by
 intro pins s σ H xs us Q I r h;obtain⟨i,rfl,hz,q⟩:=h;obtain⟨u,rfl,t,rfl⟩:=Ep r;exact PySem.P.str_of_int hz ⟨.str _,H,I.tok _,⟨_,rfl⟩,q⟩
end
structure Hm (h:Heap)(x dx C:Addr)(mA:Str->Option Value):Prop where
 obj:h.get? x=some (PySem.W.instObj C dx)
 ns:h.Ns1 dx mA
 ne:dx≠x
theorem O3 {h:Heap}{dx:Addr}{mA:Str->Option Value}(n:h.Ns1 dx mA):∃od,h.get? dx=some od/\∀name,PySem.W.lookIn name od=some (mA name):=by
 obtain⟨o,es,ep,ho,hd,hk,_,hm⟩:=n;refine⟨o,ho,λname=>?_⟩;have e:=hm name;unfold nsFind findBy at e;rw[←Array.find?_toList]at e;unfold PySem.W.lookIn;rw[hd];dsimp only;split
 .rename_i y q;rw[q]at e;exact congrArg some e
 .rename_i q;rw[q]at e;have a:es.toList.any (·.refKey)=false:=by
   rw[List.any_eq_false];intro y hy;obtain⟨z,t,hkey⟩:=hk y (Array.mem_toList_iff.mp hy);simp[DictEntry.refKey,hkey]
  have a':¬es.toList.any (·.refKey)=true:=by rw[a];exact C6
  rw[A9 a'];exact congrArg some e
theorem Hm.look {h:Heap}{x dx C:Addr}{mA:Str->Option Value}(I:Hm h x dx C mA):∃od,PySem.W.InstAt h x (PySem.W.instObj C dx) C (some od)/\∀name,PySem.W.lookIn name od=some (mA name):=
 let ⟨od,ho,hl⟩:=O3 I.ns
 ⟨od,⟨I.obj,rfl,rfl,ho⟩,hl⟩
section
variable {prog:Program}{w:World}{A:Around}{E:Value->Shared->Prop}{s:Shared}{K:Zc}{x dx C f:Addr}{mA:Str->Option Value}{name:Str}{v:Value}
theorem Xy {expr:Bool}{Q:Value->Shared->Prop}(X:K.In s.heap)(I:Hm s.heap x dx C mA)(hg:PySem.W.plainGet K C name=true)(hh:PySem.W.hasDictIn K C=true)
  (ha:PySem.W.findIn K (.ref C) name=some none) (hv:mA name=some v) (hv':PySem.W.handedIn v=true) (h:Q v {s with toks:=s.toks+1}) :
  wpAny (model prog w) A (getAttr (.ref x) name expr) Q E s:=by
 obtain⟨od,J,hl⟩:=I.look;exact PySem.W.get_value X J (PySem.W.plainGet_of hg).1 (PySem.W.findObj_own hh ha rfl (by rw[hl,hv])) hv' h
theorem X5 {ns:List Str}{Q:Unit->Shared->Prop}(X:K.In s.heap)(I:Hm s.heap x dx C mA)
  (hs:PySem.W.findIn K (.ref C) "__setattr__"=some (some (.builtin "object.__setattr__"))) (hp:PySem.W.plainOver K C=true) (ht:PySem.W.takerIn K C name=some none) (hh:PySem.W.hasDictIn K C=true)
  (hw:PySem.Within mA ns) (hsz:ns.length<=sizeLine)
  (h:∀h',Hm h' x dx C (λy=>if y=name then some v else mA y)->Heap.SameBut dx s.heap h'->Q () {s with heap:=h',toks:=s.toks+2}) :
  wpAny (model prog w) A (setAttr (.ref x) name v) Q E s:=by
 obtain⟨od,J,hl⟩:=I.look;refine PySem.W.set_plain X J hs (PySem.W.osa_open (s:={s with toks:=s.toks+1}) (r:=none) X J hp ht λb=>?_);obtain⟨cd,hc,hd'⟩:=QZ hh;have hx:s.heap.get? x=some ⟨.ref C,some dx,.plain,#[]⟩:=I.obj;refine Ao (Bj (Ao (Ao (wpAny_loadPart hx (Ao (PySem.W.Looks.here (s:={s with toks:=s.toks+1}) (PySem.W.looks_clsIn X hc) ?_))))));rw[hd'];refine Bj (a:=some dx) (Ao (Bj (Ao ?_)));refine wpAny_nsSet1 (s:={s with toks:=s.toks+1}) I.ns λh' hn2 hs2=>?_;obtain⟨oD,esD,epD,hoD,hdD,hcD⟩:=hn2.count (PySem.Within.cons name v hw);refine Ao (wpAny_lookBehind hoD (by rw[hdD];exact pastItsLine_dict (BP hcD (by rw[AJ];lia))) ?_);exact Bj (h _ ⟨(hs2.2 _ (Ne.symm I.ne)).trans I.obj,hn2,I.ne⟩ hs2)
theorem Vt {R:Result->Shared->Prop}{vs:List Value}{kw:List (Str×Value)}(X:K.In s.heap)(hm:PySem.W.makesIn K C=true)
  (hi:PySem.W.findIn K (.ref C) "__init__"=some (some (.ref f))) (hf:PySem.W.typeIn K (.ref f)=some (.type "function"))
  (h:codeAny (model prog w) (A.under (.builtin "type.__call__" ⟨.ref C::vs,kw⟩)) (.call (.ref f) ⟨.ref (s.heap.objs.size+1)::vs,kw⟩) (PySem.W.InitBack (s.heap.objs.size+1) R)
   {s with heap:=(s.heap.push PySem.W.emptyDict).push (PySem.W.instObj C s.heap.objs.size)}) :
  codeAny (model prog w) A (.call (.ref C) ⟨vs,kw⟩) R s:=by
 obtain⟨hh,g,d,t,os⟩:=s;exact PySem.W.make_core (PySem.W.makes_of X hm) (PySem.W.looks_findIn X hi) (λself=>PySem.W.bind_fn X self hf) (.inl rfl) h
end
def Ah (f:Str)(v:V):List (Str×V)->List (Str×V)
 |[]=>[(f,v)]
 |(g,x)::r=>if g=f then(g,v)::r else(g,x)::Ah f v r
theorem QP (f g:Str)(v:V):∀fs:List (Str×V),(Ah f v fs).lookup g=if g=f then some v else fs.lookup g
 |
  []=>by
  show List.lookup g [(f,v)]=_;by_cases h:g=f
  .have hb:(g==f)=true:=CG.mpr h;simp only[List.lookup,hb,Ac h]
  .have hb:(g==f)=false:=EF.mpr h;simp only[List.lookup,hb,A9 h]
 |
  (k,x)::r=>by
  have ih:=QP f g v r;rw[show Ah f v ((k,x)::r)=(if k=f then(k,v)::r else(k,x)::Ah f v r) from rfl];by_cases hk:k=f
  .rw[Ac hk];by_cases h:g=k
   .have hb:(g==k)=true:=CG.mpr h;simp only[List.lookup,hb,Ac (h.trans hk)]
   .have hb:(g==k)=false:=EF.mpr h;simp only[List.lookup,hb,A9 (λe:g=f=>h (e.trans hk.symm))]
  .rw[A9 hk];by_cases h:g=k
   .have hb:(g==k)=true:=CG.mpr h;simp only[List.lookup,hb,A9 (λe:g=f=>hk (h.symm.trans e))]
   .have hb:(g==k)=false:=EF.mpr h;simp only[List.lookup,hb];exact ih
theorem Nk (f:Str)(v:V):∀fs:List (Str×V),f∈(Ah f v fs).map (·.1)/\∀g,g∈fs.map (·.1)->g∈(Ah f v fs).map (·.1)
 |[]=>⟨by simp[Ah],λg h=>by simp at h⟩
 |
  (k,x)::r=>by
  obtain⟨i1,i2⟩:=Nk f v r;rw[show Ah f v ((k,x)::r)=(if k=f then(k,v)::r else(k,x)::Ah f v r) from rfl];by_cases hk:k=f
  .rw[Ac hk];subst hk;exact⟨by simp,λg h=>by simpa using h⟩
  .rw[A9 hk];refine⟨?_,λg h=>?_⟩
   .rw[BE];exact B5 _ i1
   .rw[BE]at h ⊢;rcases Av.mp h with e|e
    .exact Av.mpr (.inl e)
    .exact B5 _ (i2 g e)
theorem PR (f:Str)(v:V):∀fs:List (Str×V),(Ah f v fs).length<=fs.length+1
 |[]=>by simp[Ah]
 |
  (k,x)::r=>by
  have ih:=PR f v r;rw[show Ah f v ((k,x)::r)=(if k=f then(k,v)::r else(k,x)::Ah f v r) from rfl];by_cases hk:k=f
  .rw[Ac hk,AJ,AJ];lia
  .rw[A9 hk,AJ,AJ];lia
theorem F9.some_of {v:V}{o:Option Value}(r:F9 (some v) o):∃u,o=some u/\AK v u:=by
 cases o with
 |none=>exact(show False from r).elim
 |some u=>exact⟨u,rfl,r⟩
theorem Q1 {v:V}{u:Value}(r:AK v u):PySem.W.handedIn u=true:=by
 cases v with
 |non=>cases (show u=Value.none from r);rfl
 |bl b=>cases (show u=Value.bool b from r);rfl
 |int i=>obtain⟨t,e⟩:=(show ∃t,u=Value.int i t from r);cases e;rfl
 |str x=>obtain⟨t,e⟩:=(show ∃t,u=Value.str x t from r);cases e;rfl
 |byt b=>obtain⟨t,e⟩:=(show ∃t,u=Value.bytes b t from r);cases e;rfl
 |flt b=>obtain⟨t,e⟩:=(show ∃t,u=Value.float b t from r);cases e;rfl
 |ref a=>cases (show u=Value.ref a from r);rfl
 |ty n=>cases (show u=Value.type n from r);rfl
section
variable {P:Program}{w:World}{H H':Hp}{h h':Heap}{a C dx:Addr}{fs fs':List (Str×V)}
theorem NH (hok:BA P w H h)(e:H a=some (.ins C dx fs)):∃mA,Hm h a dx C mA/\(∀f,F9 (fs.lookup f) (mA f))/\PySem.Within mA (fs.map (·.1))/\fs.length<=1000/\H dx=some (.own a):=by
 obtain⟨d,z,ne,ob,mA,n,r,q⟩:=(show BN P w H h a (.ins C dx fs) from hok a _ e)
 exact⟨mA,⟨ob,n,ne⟩,r,q,z,d⟩
end
structure DQ (K:Zc)(C:Addr):Prop where
 pg:PySem.W.plainGet K C Str.empty=true
 hd:PySem.W.hasDictIn K C=true
 po:PySem.W.plainOver K C=true
 sa:PySem.W.findIn K (.ref C) "__setattr__"=some (some (.builtin "object.__setattr__"))
theorem DQ.get {K:Zc}{C:Addr}(c:DQ K C)(f:Str):PySem.W.plainGet K C f=true:=c.pg
def BV (K:Zc)(C:Addr)(f:Str):Prop:=PySem.W.findIn K (.ref C) f=some none
theorem BV.taker {K:Zc}{C:Addr}{f:Str}(n:BV K C f):PySem.W.takerIn K C f=some none:=by
 unfold PySem.W.takerIn;rw[show PySem.W.findIn K (.ref C) f=some none from n];rfl
section
variable {X:Cx}{pins:List (Addr×Obj)}{σ:St}{H:Hp}{s:Shared}{a C dx:Addr}{fs:List (Str×V)}{f:Str}{v:V}{A:Around}{E:Value->Shared->Prop}
theorem Vy {b:Bool}{Q:Value->Shared->Prop}(I:A7 X pins σ H s)(e:H a=some (.ins C dx fs))(c:DQ X.K C)(n:BV X.K C f)(l:fs.lookup f=some v)
  (h:∀u s',A7 X pins σ H s'->AK v u->Q u s'):wpAny (model X.prog X.w) A (getAttr (.ref a) f b) Q E s:=by
 obtain⟨mA,O,r,_,_,_⟩:=NH I.hok e;obtain⟨u,hu,ru⟩:=F9.some_of (v:=v) (o:=mA f) (by rw[←l];exact r f);exact Xy I.kIn O (c.get f) c.hd n hu (Q1 ru) (h u _ (I.tok _) ru)
theorem UA {y:V}{u:Value}{Q:Unit->Shared->Prop}(I:A7 X pins σ H s)(e:H a=some (.ins C dx fs))(c:DQ X.K C)(n:BV X.K C f)(hl:fs.length<1000)(ry:AK y u)
  (h:∀s',A7 X pins σ (upd H a (.ins C dx (Ah f y fs))) s'->Q () s'):wpAny (model X.prog X.w) A (setAttr (.ref a) f u) Q E s:=by
 obtain⟨mA,O,r,wi,_,ho⟩:=NH I.hok e;have hz:(fs.map (·.1)).length<=sizeLine:=by rw[Ag,FP];lia
 refine X5 I.kIn O c.sa c.po n.taker c.hd wi hz λh' O' sb=>h _ ?_;have hd:∃o,h'.get? dx=some o:=by obtain⟨o,_,_,e',_⟩:=O'.ns;exact⟨o,e'⟩
 refine I.write (x:=a) (e:=dx) (by rw[e];exact True.intro) (.inr ho) (λb q hb z=>(sb.2 b hb).trans z) hd ?_;refine⟨by rw[Aa O.ne];exact ho,?_,O.ne,O'.obj,_,O'.ns,λg=>?_,λg hg=>?_⟩
 .have:=PR f y fs;lia
 .show F9 ((Ah f y fs).lookup g) (if g=f then some u else mA g);rw[QP];by_cases q:g=f
  .rw[Ac q,Ac q];exact ry
  .rw[A9 q,A9 q];exact r g
 .by_cases q:g=f
  .rw[q];exact(Nk f y fs).1
  .refine(Nk f y fs).2 g (wi g λz=>hg ?_);show(if g=f then some u else mA g)=none;rw[A9 q];exact z
theorem A7.made (I:A7 X pins σ H s):A7 X pins σ (upd (upd H s.heap.objs.size (.own (s.heap.objs.size+1))) (s.heap.objs.size+1) (.ins C s.heap.objs.size []))
  {s with heap:=(s.heap.push PySem.W.emptyDict).push (PySem.W.instObj C s.heap.objs.size)}:=by
 have e1:(s.heap.push PySem.W.emptyDict).get? s.heap.objs.size=some PySem.W.emptyDict:=Dl s.heap rfl;have e2:((s.heap.push PySem.W.emptyDict).push (PySem.W.instObj C s.heap.objs.size)).get? (s.heap.objs.size+1)=some (PySem.W.instObj C s.heap.objs.size):=by
  have:=Dl (s.heap.push PySem.W.emptyDict) (o:=PySem.W.instObj C s.heap.objs.size) rfl
  rwa [Jh]at this
 have e3:(s.heap.push PySem.W.emptyDict).Ns s.heap.objs.size (λ_=>none):=⟨PySem.W.emptyDict,#[],_,e1,rfl,(λe he=>absurd he (by simp)),λ_=>rfl⟩
 have I1:=I.laid (a:=s.heap.objs.size) (o:=.own (s.heap.objs.size+1)) (h':=s.heap.push PySem.W.emptyDict) (t':=s.toks) (λb u q=>Bz _ q) (Aq _) ⟨_,e1⟩;refine I1.laid (a:=s.heap.objs.size+1) (o:=.ins C s.heap.objs.size []) (t':=s.toks) (λb u q=>Bz _ q) (Nat.le_of_eq (Jh _ _)) ?_;have ne:s.heap.objs.size≠s.heap.objs.size+1:=Ca (LA _);refine⟨by rw[Aa ne,A3],BI _,ne,e2,λ_=>none,(Heap.Ns1.of_empty e3).at λo q=>Bz _ q,λ_=>True.intro,λy hy=>absurd rfl hy⟩
theorem QM {prog:Program}{w:World}{env:Env}{e:Expr}{f:Str}{pos:Pos}{s:Shared}{Q:Value->Shared->Prop}(hb:attributeBase e f env (eval e env)=eval e env)
  (h:wpAny (model prog w) A (eval e env) (λo s₁=>wpAny (model prog w) A (getAttr o f true) Q E s₁) E s):wpAny (model prog w) A (eval (.Attribute e f pos) env) Q E s:=
 Attribute_any_ h (by rw[arm_eval_Attribute,hb])
end
def QE (K:Zc)(ta:TE)(f:Str):TE:=fun σ H Q=>ta σ H λx H1=>∃a C dx fs v,x = .ref a/\H1 a=some (.ins C dx fs)/\DQ K C/\BV K C f/\fs.lookup f=some v/\Q v H1
def UI (K:Zc)(ta tv:TE)(f:Str):TS:=λD σ H=>tv σ H λy H1=>ta σ H1 λx H2=>∃a C dx fs,x = .ref a/\H2 a=some (.ins C dx fs)/\DQ K C/\BV K C f/\fs.length<1000/\
 D.nx σ (upd H2 a (.ins C dx (Ah f y fs)))
section
variable {X:Cx}{o e value:Expr}{f:Str}{pos pos' tpos:Pos}{ta tv:TE}
theorem BH (he:PE X e ta)(hb:attributeBase e f X.env (eval e X.env)=eval e X.env):PE X (.Attribute e f pos) (QE X.K ta f):=by
 intro pins s σ H Q I h;refine QM hb (AA (he pins s σ H _ I h) λu s1 zz=>?_);obtain⟨x,H1,I1,rx,a,C,dx,fs,v,ex,ea,c,n,l,q⟩:=zz;subst ex;obtain rfl:u=Value.ref a:=rx;exact Vy I1 ea c n l λu' s2 I2 ru=>⟨v,H1,I2,ru,q⟩
theorem Cv (ha:PE X o ta)(hv:PE X value tv)(hs:swapsWith value (some (.Attribute o f pos')) pos.line X.env=pure false):PS X (.Assign [.Attribute o f pos'] value pos) (UI X.K ta tv f):=by
 intro pins s σ H D I h;refine Zb (AA (hv pins s σ H _ I h) λu s1 zz=>?_) hs;obtain⟨y,H1,I1,ry,q⟩:=zz;refine AA (ha pins s1 σ H1 _ I1 q) λov s2 zz=>?_;obtain⟨x,H2,I2,rx,a,C,dx,fs,ex,ea,c,n,l,q2⟩:=zz;subst ex;obtain rfl:ov=Value.ref a:=rx;exact UA I2 ea c n l ry λs3 I3=>⟨σ,_,I3,q2⟩
end
section
variable {X:Cx}{pins:List (Addr×Obj)}{σ:St}{H:Hp}{s:Shared}{A:Around}{E:Value->Shared->Prop}{Q:Value->Shared->Prop}{c:Value}{b:Bool}
inductive CT (K:Zc)(H:Hp):V->Value->Prop where
 |non:CT K H .non (.type "NoneType")
 |bl (x:Bool):CT K H (.bl x) (.type "bool")
 |int (i:Int):CT K H (.int i) (.type "int")
 |str (x:Str):CT K H (.str x) (.type "str")
 |flt (x:UInt64):CT K H (.flt x) (.type "float")
 |lst {a:Addr} {xs:List V} (e:H a=some (.lst xs)):CT K H (.ref a) (.type "list")
 |frz {a:Addr} {o:Obj} {xs:List V} (e:H a=some (.frz o (.lst xs))):CT K H (.ref a) (.type "list")
 |tup {a:Addr} {xs:List V} (e:H a=some (.tup xs)):CT K H (.ref a) (.type "tuple")
 |dK {a:Addr} {kvs:List (Bp×V)} (e:H a=some (.dK kvs)):CT K H (.ref a) (.type "dict")
 |dT {a:Addr} {kvs:List (List Bp×V)} (e:H a=some (.dT kvs)):CT K H (.ref a) (.type "dict")
 |ins {a C dx:Addr} {fs:List (Str×V)} (e:H a=some (.ins C dx fs)) (cl:DQ K C) (ha:PySem.W.findIn K (.ref C) "__class__"=some (some (.builtin "object.__class__")))
  (hn:PySem.W.specialIn K (.builtin "object.__class__") "__get__"=some (some (.builtin "getset_descriptor.__get__"))) (htk:PySem.W.takesIn K (.builtin "object.__class__")=some true)
  (hm:PySem.W.mroIn K C (.type "object")=some true):CT K H (.ref a) (.ref C)
theorem Xh {x:V}{u t:Value}(I:A7 X pins σ H s)(rx:AK x u)(ty:CT X.K H x t)(e:PySem.W.kitOne X.K t c=some b)(h:∀tk,Q (.bool b) {s with toks:=tk}) :
  wpAny (model X.prog X.w) A (call (.builtin "isinstance") [u,c]) Q E s:=by
 cases ty with
 |non=>cases (show u=Value.none from rx);exact EV PySem.W.kitx_none I.kIn True.intro e (λz=>nomatch z) h
 |bl y=>cases (show u=Value.bool y from rx);exact EV PySem.W.kitx_bool I.kIn True.intro e (λz=>nomatch z) h
 |int i=>obtain⟨t,q⟩:=(show ∃t,u=Value.int i t from rx);cases q;exact EV PySem.W.kitx_int I.kIn True.intro e (λz=>nomatch z) h
 |str y=>obtain⟨t,q⟩:=(show ∃t,u=Value.str y t from rx);cases q;exact EV PySem.W.kitx_str I.kIn True.intro e (λz=>nomatch z) h
 |flt y=>obtain⟨t,q⟩:=(show ∃t,u=Value.float y t from rx);cases q;exact EV PySem.W.kitx_float I.kIn True.intro e (λz=>nomatch z) h
 |
  @lst a xs ea=>
  cases (show u=Value.ref a from rx);obtain⟨_,_,n,_,h1⟩:=(show BN X.prog X.w H s.heap a (.lst xs) from I.hok a _ ea)
  exact EV PySem.W.kitx_list I.kIn ⟨_,h1,rfl⟩ e (λz=>nomatch z) h
 |
  @frz a ob xs ea=>
  cases (show u=Value.ref a from rx);obtain⟨_,_,_,n,_,h1⟩:=(show BN X.prog X.w H s.heap a (.frz ob (.lst xs)) from I.hok a _ ea)
  exact EV PySem.W.kitx_list I.kIn ⟨_,h1,rfl⟩ e (λz=>nomatch z) h
 |
  @tup a xs ea=>
  cases (show u=Value.ref a from rx);obtain⟨_,_,_,p⟩:=(show BN X.prog X.w H s.heap a (.tup xs) from I.hok a _ ea)
  obtain⟨o,h1,h2,_⟩:=p;exact EV PySem.W.kitx_tuple I.kIn ⟨o,h1,h2⟩ e (λz=>nomatch z) h
 |
  @dK a kvs ea=>
  cases (show u=Value.ref a from rx);obtain⟨_,_,vs,_,p⟩:=(show BN X.prog X.w H s.heap a (.dK kvs) from I.hok a _ ea)
  obtain⟨o,es,ep,h1,h2,_⟩:=p;exact EV PySem.W.kitx_dict I.kIn ⟨o,h1,h2.1⟩ e (λz=>nomatch z) h
 |
  @dT a kvs ea=>
  cases (show u=Value.ref a from rx);obtain⟨_,_,xs,_,o,es,ep,h1,h2,_⟩:=(show BN X.prog X.w H s.heap a (.dT kvs) from I.hok a _ ea)
  exact EV PySem.W.kitx_dict I.kIn ⟨o,h1,h2.1⟩ e (λz=>nomatch z) h
 |
  @ins a C dx fs ea cl ha hn htk hm=>
  cases (show u=Value.ref a from rx);obtain⟨mA,O,_⟩:=NH I.hok ea;obtain⟨od,J,_⟩:=O.look;exact EV (PySem.W.kitx_own (cl.get _) cl.hd ha hn htk hm) I.kIn J e (λz=>nomatch z) h
end
structure Ci (k:Nat)(A:Around):Prop where
 hd:A.handled=none
 dp:A.depth+3*k+5<recursionLimit
 un:A.units+16*k+200<cLine
 gd:A.guards=some []
theorem Ci.mono {j k:Nat}{A:Around}(r:Ci k A)(h:j<=k):Ci j A:=⟨r.hd,by have:=r.dp;lia,by have:=r.un;lia,r.gd⟩
theorem Ci.deeper {k:Nat}{A:Around}(r:Ci (k+1) A)(env:Env):Ci k (A.deeper env):=
 ⟨r.hd,by have:=r.dp;show A.depth+1+3*k+5<_;lia,by have:=r.un;show A.units+3+16*k+200<_;lia,r.gd⟩
theorem U9 {A:Around}{C:Addr}{us:List Value}{kw:List (Str×Value)}:(A.under (.builtin "type.__call__" ⟨.ref C::us,kw⟩)).depth=A.depth+1:=by
 first|rfl|simp[Around.under,Code.weight,Code.isCreation,Code.isGuard,Code.isCaller,Code.frames,Code.isFrame,guardIds]
theorem Th {A:Around}{C:Addr}{us:List Value}{kw:List (Str×Value)}:(A.under (.builtin "type.__call__" ⟨.ref C::us,kw⟩)).units=A.units+1:=by
 first|rfl|simp[Around.under,Code.cUnits,Code.frames,Code.isFrame]
theorem SI {A:Around}{C:Addr}{us:List Value}{kw:List (Str×Value)}:(A.under (.builtin "type.__call__" ⟨.ref C::us,kw⟩)).guards=A.guards:=by
 have:Code.guards (.builtin "type.__call__" ⟨.ref C::us,kw⟩)=[]:=by first|rfl|simp[Code.guards,Code.isGuard,guardIds]
 show pushGuards (Code.guards (.builtin "type.__call__" ⟨.ref C::us,kw⟩)) A.guards=A.guards;rw[this];cases A.guards<;>rfl
theorem Ci.make {k:Nat}{A:Around}(r:Ci (k+1) A)(C:Addr)(us:List Value)(kw:List (Str×Value)):Ci k (A.under (.builtin "type.__call__" ⟨.ref C::us,kw⟩)):=
 ⟨r.hd,by have:=r.dp;rw[U9];lia,by have:=r.un;rw[Th];lia,by rw[SI];exact r.gd⟩
theorem Ci.depth {k:Nat}{A:Around}(r:Ci k A):A.depth<recursionLimit:=by have:=r.dp;lia
def GL:TA:=λ_ H Q=>Q [] H
def HL (ta:TE)(tr:TA):TA:=fun σ H Q=>ta σ H λx H1=>tr σ H1 λxs H2=>Q (x::xs) H2
section
variable {X:Cx}{e:Expr}{es:List Expr}{te:TE}{t:TA}{pos:Pos}
theorem A1:PA X [] GL:=λ_ _ _ _ H Q I h=>Calls.spliced_nil ⟨[],H,I,.nil,h⟩
theorem A0 (ha:PE X e te)(hr:PA X es t)(hs:starEach (e::es) X.env=(false,eval e X.env)::starEach es X.env:=by rfl):PA X (e::es) (HL te t):=by
 intro pos pins s σ H Q I h;rw[hs];show wpAny _ _ (spliced ((false,eval e X.env)::backTo pos (starEach es X.env))) _ _ s;refine Calls.spliced_cons (AA (ha pins s σ H _ I h) λu s1 zz=>?_);obtain⟨x,H1,I1,r1,q1⟩:=zz;refine AA (hr pos pins s1 σ H1 _ I1 q1) λus s2 zz=>?_;obtain⟨xs,H2,I2,r2,q2⟩:=zz;exact⟨x::xs,H2,I2,.cons r1 r2,q2⟩
def Qm (t:TA):TE:=fun σ H Q=>t σ H λxs H1=>xs.length<=sizeLine/\∀p,H1 p=none->Q (.ref p) (upd H1 p (.tup xs))
def M9 (t:TA):TE:=fun σ H Q=>t σ H λxs H1=>xs.length<=sizeLine/\∀p,H1 p=none->Q (.ref p) (upd H1 p (.lst xs))
theorem Cf {x1}(h:PA X es t):PE X (.Tuple es x1 pos) (Qm t):=by
 intro pins s σ H Q I hq;refine wpAny_Tuple_spliced (AA (h pos pins s σ H _ I hq) λus s1 zz=>?_);obtain⟨xs,H1,I1,r,z,q⟩:=zz;refine⟨by rw[←r.length];exact z,?_⟩;have hf:H1 s1.heap.objs.size=none:=I1.hok.fresh (Aq _);refine⟨.ref s1.heap.objs.size,upd H1 s1.heap.objs.size (.tup xs),I1.laid (t':=s1.toks) (λb u e=>Bz _ e) (Aq _) ?_,rfl,q _ hf⟩;exact⟨z,us,r,⟨_,Dl _ rfl,rfl,⟨_,rfl⟩,rfl⟩⟩
theorem Bh (h:PA X es t):PE X (.List es pos) (M9 t):=by
 intro pins s σ H Q I hq;refine wpAny_List_spliced (AA (h pos pins s σ H _ I hq) λus s1 zz=>?_);obtain⟨xs,H1,I1,r,z,q⟩:=zz;refine⟨by rw[←r.length];exact z,?_⟩;have hf:H1 s1.heap.objs.size=none:=I1.hok.fresh (Aq _);refine⟨.ref s1.heap.objs.size,upd H1 s1.heap.objs.size (.lst xs),I1.laid (t':=s1.toks) (λb u e=>Bz _ e) (Aq _) ?_,rfl,q _ hf⟩;exact⟨z,us,0,r,Dl _ rfl⟩
end
abbrev Sp:=List V->Hp->VK->XK->Prop
abbrev DS:=List Env->Hp->Shared->XK->Value->Shared->Prop
structure Gx (P:Program)(w:World)(K:Zc)(mg:Str->Option Value)(base:Heap)(A:Around)(outer:List Env)(s:Shared)(H:Hp):Prop where
 frames:A.frames=some outer
 mod:Mod K mg base
 bs:∀b o,base.get? b=some o->s.heap.get? b=some o/\H b=none
 bsz:base.objs.size<=s.heap.objs.size
 funs:s.heap.FunFrames base outer
 frf:∀b∈DM outer,H b=none
 hok:BA P w H s.heap
 bare:AllBare s.gens
def CE (outer:List Env)(P:Program)(w:World)(H:Hp)(s:Shared)(Q:VK)(u:Value)(s':Shared):Prop:=
 ∃v H',s'.os=s.os/\AllBare s'.gens/\Un (DM outer) [] H H' s.heap s'.heap/\BA P w H' s'.heap/\AK v u/\Q v H'
def CR (CX:DS)(outer:List Env)(P:Program)(w:World)(H:Hp)(s:Shared)(Q:VK)(E:XK)(r:Result)(s':Shared):Prop:=
 match r with
 |.ok (.ret u)=>CE outer P w H s Q u s'
 |.ok _=>False
 |.error e=>CX outer H s E e s'
structure AQ (P:Program)(w:World)(K:Zc)(mg:Str->Option Value)(base:Heap)(CX:DS)(k:Nat)(f:Addr)(fd:FuncData)(ps:List Str)(sp:Sp):Prop where
 len:∀vs H Q E,sp vs H Q E->vs.length=ps.length
 run:∀(A:Around) (outer:List Env) (s:Shared) (H:Hp) (args:Args) (us:List Value) (vs:List V) (Q:VK) (E:XK),Ci k A->Gx P w K mg base A outer s H->BindsTo s fd args (ps.zip us)->AE vs us->sp vs H Q E->
  codeAny (model P w) A (.call (.ref f) args) (CR CX outer P w H s Q E) s
theorem Gx.make {P:Program}{w:World}{K:Zc}{mg:Str->Option Value}{base:Heap}{A:Around}{outer:List Env}{s:Shared}{H:Hp}(e:Gx P w K mg base A outer s H)(C:Addr)(us:List Value)(kw:List (Str×Value)) :
 Gx P w K mg base (A.under (.builtin "type.__call__" ⟨.ref C::us,kw⟩)) outer s H:=⟨by first|exact e.frames|(simpa[Around.under,Code.envs,Code.isFrame,pushEnvs] using e.frames),e.mod,e.bs,e.bsz,e.funs,e.frf,e.hok,e.bare⟩
section
variable {X:Cx}{pins:List (Addr×Obj)}{σ:St}{H:Hp}{s s':Shared}
theorem A7.env0 (I:A7 X pins σ H s):Gx X.prog X.w X.K X.mg X.base X.A X.stack s H:=
 ⟨I.ok.frames,I.ok.mod,I.bs,BP I.ok.bsz I.sz,I.stack,I.stkFree,I.hok,I.bare⟩
theorem A7.after {Q:VK}{u:Value}(I:A7 X pins σ H s)(h:CE X.stack X.prog X.w H s Q u s'):EP X pins σ Q u s':=by
 obtain⟨v,H',os,bare,un,hok,r,q⟩:=h;obtain⟨hh,g,d,t,os'⟩:=s';obtain rfl:os'=s.os:=os;exact⟨v,H',I.call (h':=hh) (g':=g) (d':=d) (t':=t) (ch:=[]) un hok bare (λb z=>absurd z (by simp)),r,q⟩
end
def Os (sp:Sp)(dvs:List V)(E:XK)(t:TA):TE:=fun σ H Q=>t σ H λvs H1=>sp (vs++dvs) H1 Q E
def OE (C:Addr)(sp:Sp)(dvs:List V)(E:XK)(t:TA):TE:=fun σ H Q=>t σ H λvs H1=>∀x dx,H1 x=none->H1 dx=none->dx≠x->
 sp (.ref x::(vs++dvs)) (upd (upd H1 dx (.own x)) x (.ins C dx [])) (λv H2=>v = .non/\Q (.ref x) H2) E
def AV (K:Zc)(fd:FuncData)(ps:List Str)(ds:List Value):Prop:=
 ∀(s:Shared) (us:List Value),K.In s.heap->(us++ds).length=ps.length->BindsTo s fd ⟨us,[]⟩ (ps.zip (us++ds))
theorem AV.all {K:Zc}{fd:FuncData}{ps:List Str}(h:∀us:List Value,us.length=ps.length->bindArgs fd ⟨us,[]⟩=pure (ps.zip us)):AV K fd ps []:=λs us _ hl=>by
 rw[D6]at hl ⊢;exact .of_eq (h us hl)
def G7 (CX:DS)(X:Cx)(E:XK):Prop := ∀(pins:List (Addr×Obj)) (σ:St) (H:Hp) (s:Shared) (e:Value) (s':Shared),A7 X pins σ H s->CX X.stack H s E e s'->X.xe e s'
section
variable {X:Cx}{CX:DS}{k:Nat}{f C:Addr}{fd:FuncData}{ps:List Str}{sp:Sp}{dvs:List V}{ds:List Value}{E:XK}{x m:Str}{p pos apos:Pos}{e o:Expr}{es:List Expr}{ta:TE}{t:TA}
theorem Ou {pins:List (Addr×Obj)}{σ:St}{H:Hp}{s:Shared}{Q:VK}{us:List Value}{vs:List V}(F:AQ X.prog X.w X.K X.mg X.base CX k f fd ps sp)(hr:Ci k X.A)(hb:AV X.K fd ps ds)(hd:AE dvs ds)(hx:G7 CX X E)
  (I:A7 X pins σ H s) (r:AE vs us) (h:sp (vs++dvs) H Q E):wpAny (model X.prog X.w) X.A (call (.ref f) us) (EP X pins σ Q) X.xe s:=by
 have r2:AE (vs++dvs) (us++ds):=r.append hd;have hl:(us++ds).length=ps.length:=by rw[←r2.length];exact F.len _ _ _ _ h
 refine Fn (Gk (F.run X.A X.stack s H ⟨us,[]⟩ (us++ds) (vs++dvs) Q E hr I.env0 (hb s us I.kIn hl) r2 h) λr s' hq=>?_);cases r with
 |error e=>exact hx pins σ H s e s' I hq
 |
  ok fl=>
  cases fl with
  |ret u=>exact I.after hq
  |next=>exact False.elim hq
  |brk=>exact False.elim hq
  |cont=>exact False.elim hq
theorem AD (F:AQ X.prog X.w X.K X.mg X.base CX k f fd ps sp)(hr:Ci k X.A)(hg:Gl X x)(hm:X.mg x=some (.ref f))(hk:PySem.W.keepIn X.K (.ref f)=true)(hb:AV X.K fd ps ds)(hd:AE dvs ds)(hx:G7 CX X E)
  (ha:PA X (e::es) t) (hdb:(x==("__debug__":Str))=false:=by decide) (he:starEach (e::es) X.env=(false,eval e X.env)::starEach es X.env:=by rfl) (hpl:(backTo pos (starEach es X.env)).any (·.1)=false:=by rfl) :
  PE X (.Call (.Name x p) (e::es) [] pos) (Os sp dvs E t):=by
 intro pins s σ H Q I h;refine Gm (FF I hg hm ?_ hdb);refine LB (h₀:=X.base) I.ok.mod.kin hk (AA (ha pos pins s σ H _ I h) λus s1 zz=>?_) he hpl;obtain⟨vs,H1,I1,r,q⟩:=zz;refine⟨I1.kIn,?_⟩;exact Ou F hr hb hd hx I1 r q
structure Mk (K:Zc)(C f:Addr):Prop where
 makes:PySem.W.makesIn K C=true
 init:PySem.W.findIn K (.ref C) "__init__"=some (some (.ref f))
 fn:PySem.W.isFn K (.ref f)=true
 kp:PySem.W.keepIn K (.ref C)=true
theorem OM {pins:List (Addr×Obj)}{σ:St}{H:Hp}{s:Shared}{Q:VK}{us:List Value}{vs:List V}(M:Mk X.K C f)(F:AQ X.prog X.w X.K X.mg X.base CX k f fd ps sp)(hr:Ci (k+1) X.A)(hb:AV X.K fd ps ds)(hd:AE dvs ds)
  (hx:G7 CX X E) (I:A7 X pins σ H s) (r:AE vs us)
  (h:∀x dx,H x=none->H dx=none->dx≠x->sp (.ref x::(vs++dvs)) (upd (upd H dx (.own x)) x (.ins C dx [])) (λv H2=>v = .non/\Q (.ref x) H2) E) :
  wpAny (model X.prog X.w) X.A (call (.ref C) us) (EP X pins σ Q) X.xe s:=by
 have hq:=h (s.heap.objs.size+1) s.heap.objs.size (I.hok.fresh (Ia _)) (I.hok.fresh (Aq _)) (Ca (LA _));have I2:=A7.made (C:=C) I;have r2:AE (V.ref (s.heap.objs.size+1)::(vs++dvs)) (Value.ref (s.heap.objs.size+1)::(us++ds)):=.cons rfl (r.append hd);have hl:(Value.ref (s.heap.objs.size+1)::us++ds).length=ps.length:=by
  have e:=r2.length;rw[F.len _ _ _ _ hq]at e;exact e.symm
 refine Fn (Vt (f:=f) I.kIn M.makes M.init (CG.mp M.fn) (Gk (F.run _ X.stack _ _ ⟨Value.ref (s.heap.objs.size+1)::us,[]⟩ (Value.ref (s.heap.objs.size+1)::(us++ds)) _ _ E (hr.make C us [])
  (I2.env0.make C us []) (hb _ (Value.ref (s.heap.objs.size+1)::us) I2.kIn hl) r2 hq) λr s' hq'=>?_))
 cases r with
 |error e=>exact hx pins σ _ _ e s' I2 hq'
 |
  ok fl=>
  cases fl with
  |
   ret u=>
   obtain⟨v,H',I3,rv,ev,q3⟩:=I2.after hq';subst ev;exact⟨rv,⟨V.ref (s.heap.objs.size+1),H',I3,rfl,q3⟩⟩
  |next=>exact False.elim hq'
  |brk=>exact False.elim hq'
  |cont=>exact False.elim hq'
theorem HJ (M:Mk X.K C f)(F:AQ X.prog X.w X.K X.mg X.base CX k f fd ps sp)(hr:Ci (k+1) X.A)(hg:Gl X x)(hm:X.mg x=some (.ref C))(hb:AV X.K fd ps ds)(hd:AE dvs ds)(hx:G7 CX X E)
  (ha:PA X (e::es) t) (hdb:(x==("__debug__":Str))=false:=by decide) (he:starEach (e::es) X.env=(false,eval e X.env)::starEach es X.env:=by rfl) (hpl:(backTo pos (starEach es X.env)).any (·.1)=false:=by rfl) :
  PE X (.Call (.Name x p) (e::es) [] pos) (OE C sp dvs E t):=by
 intro pins s σ H Q I h;refine Gm (FF I hg hm ?_ hdb);refine LB (h₀:=X.base) I.ok.mod.kin M.kp (AA (ha pos pins s σ H _ I h) λus s1 zz=>?_) he hpl;obtain⟨vs,H1,I1,r,q⟩:=zz;refine⟨I1.kIn,?_⟩;exact OM M F hr hb hd hx I1 r q
theorem UR (M:Mk X.K C f)(F:AQ X.prog X.w X.K X.mg X.base CX k f fd ps sp)(hr:Ci (k+1) X.A)(hg:Gl X x)(hm:X.mg x=some (.ref C))(hb:AV X.K fd ps ds)(hd:AE dvs ds)(hx:G7 CX X E)
  (hdb:(x==("__debug__":Str))=false:=by decide):PE X (.Call (.Name x p) [] [] pos) (OE C sp dvs E GL):=by
 intro pins s σ H Q I h;refine Gm (FF I hg hm ?_ hdb);exact PySem.W.callWith_K0 I.kIn M.kp (OM (us:=[]) M F hr hb hd hx I .nil h)
end
section
variable {X:Cx}{CX:DS}{k:Nat}{f C:Addr}{fd:FuncData}{ps ks:List Str}{sp:Sp}{E:XK}{x m:Str}{p pos apos kpos:Pos}{e o:Expr}{es:List Expr}{kws:List Keyword}{te ta:TE}{t tk:TA}{nm:Option Str}
variable {g:List Value->List Value->List Value}{gV:List V->List V->List V}
end
structure B1 (N P:List Str)(sc:Scope):Prop where
 kind:sc.kind = .function
 co:sc.isCoroutine=false
 gen:sc.isGenerator=false
 nd:N.Nodup
 pre:N.take P.length=P
 par:∀x∈P,sc.names.lookup x=some .local\/sc.names.lookup x=some .cell
 nofree:∀y∈sc.names,y.2≠.free
theorem Pe {kindOf:Str->Option NameKind}{x:Str}:∀{binds:List (Str×Value)} {m:Str->Option Value},(∀v,(x,v)∉binds)->bindL kindOf binds m x=m x
 |[],_,_=>rfl
 |
  (n,v)::r,m,h=>by
  unfold bindL;rw[Pe λw hw=>h w (B5 _ hw)];split
  .have:x≠n:=by rintro rfl;exact h v AH
   simp[this]
  .rfl
theorem ON {kindOf:Str->Option NameKind}{x:Str}:∀{binds:List (Str×Value)} {m:Str->Option Value},(∀v,(x,v)∉binds)->bindC kindOf binds m x=m x
 |[],_,_=>rfl
 |
  (n,v)::r,m,h=>by
  unfold bindC;rw[ON λw hw=>h w (B5 _ hw)];split
  .rfl
  .have:x≠n:=by rintro rfl;exact h v AH
   simp[this]
theorem P9 {kindOf:Str->Option NameKind}{x:Str}{v:Value}:∀{P:List Str} {vs:List Value} {i:Nat} {m:Str->Option Value},P.Nodup->P[i]?=some x->vs[i]?=some v->kindOf x=some .local->
  bindL kindOf (P.zip vs) m x=some v
 |[],_,_,_,_,h,_,_=>by simp at h
 |_::_,[],_,_,_,_,h,_=>by simp at h
 |
  p::P,w::vs,0,m,nd,h1,h2,hk=>by
  simp at h1 h2;subst h1;subst h2;show bindL kindOf ((p,w)::P.zip vs) m p=_;unfold bindL;rw[Pe λv hv=>(Gc.mp nd).1 (R0 hv).1,Ac hk];simp
 |
  p::P,w::vs,i+1,m,nd,h1,h2,hk=>by
  show bindL kindOf ((p,w)::P.zip vs) m x=_;unfold bindL;exact P9 (i:=i) (Gc.mp nd).2 (by simpa using h1) (by simpa using h2) hk
theorem Pu {kindOf:Str->Option NameKind}{x:Str}{v:Value}:∀{P:List Str} {vs:List Value} {i:Nat} {m:Str->Option Value},P.Nodup->P[i]?=some x->vs[i]?=some v->kindOf x≠some .local->
  bindC kindOf (P.zip vs) m x=some v
 |[],_,_,_,_,h,_,_=>by simp at h
 |_::_,[],_,_,_,_,h,_=>by simp at h
 |
  p::P,w::vs,0,m,nd,h1,h2,hk=>by
  simp at h1 h2;subst h1;subst h2;show bindC kindOf ((p,w)::P.zip vs) m p=_;unfold bindC;rw[ON λv hv=>(Gc.mp nd).1 (R0 hv).1,A9 hk];simp
 |
  p::P,w::vs,i+1,m,nd,h1,h2,hk=>by
  show bindC kindOf ((p,w)::P.zip vs) m x=_;unfold bindC;exact Pu (i:=i) (Gc.mp nd).2 (by simpa using h1) (by simpa using h2) hk
def start (N:List Str)(vs:List V):St:=vs.map some++List.replicate (N.length-vs.length) none
def FY (CX:DS)(P:Program)(w:World)(K:Zc)(mg:Str->Option Value)(base:Heap)(N:List Str)(qual:Str)(scope:Scope)(f:Addr)(cd:Value)(A:Around)(outer:List Env)(s:Shared)(H:Hp)(E:XK):Cx where
 prog:=P
 w:=w
 K:=K
 mg:=mg
 base:=base
 A:=A.deeper (envOfC qual scope s.heap.objs.size f cd)
 N:=N
 s₀:=s
 H₀:=H
 env:=envOfC qual scope s.heap.objs.size f cd
 outer:=outer
 stack:=envOfC qual scope s.heap.objs.size f cd::outer
 ex:=[]
 calm:=true
 fn:=λ_=>true
 pn:=[]
 xe:=λe s'=>wpAny (model P w) (A.deeper (envOfC qual scope s.heap.objs.size f cd)) (leaving (envOfC qual scope s.heap.objs.size f cd) e) (λ_ s''=>CX outer H s E e s'') (λe' s''=>CX outer H s E e' s'') s'
theorem Pn {sc:Scope}{n:Nat}{x:Str}(h:sc.names.lookup x=some .cell):∃c,(cellsFrom n sc.names []).lookup x=some c:=by
 have q:=PySem.W.cellsFrom_some sc.names n [] (.inl h);exact Option.isSome_iff_exists.mp q
theorem X3 {CX:DS}{P:Program}{w:World}{K:Zc}{mg:Str->Option Value}{base:Heap}{N ps:List Str}{qual:Str}{scope:Scope}{f:Addr}{cd:Value}{A:Around}{outer:List Env}{s s1:Shared}{H:Hp}{E:XK}{us:List Value}{vs:List V}
  (S:B1 N ps scope) (hd:A.handled=none) (e0:Gx P w K mg base A outer s H) (hl:vs.length=ps.length) (r:AE vs us)
  (x:InCallC s s.heap.objs.size (bindL (envOfC qual scope s.heap.objs.size f cd).kindOf (ps.zip us) λ_=>none) (cellsFrom (s.heap.objs.size+1) scope.names []) (bindC (envOfC qual scope s.heap.objs.size f cd).kindOf (ps.zip us) λ_=>none) s1) :
  A7 (FY CX P w K mg base N qual scope f cd A outer s H E) [] (start N vs) H s1:=by
 have hpl:ps.length<=N.length:=by have:=congrArg List.length S.pre;rw[Bb]at this;lia
 obtain⟨h1,tk,rfl,hk⟩:=x.done;have noA:∀b:Addr,b∉(FY CX P w K mg base N qual scope f cd A outer s H E).ex:=λb z=>absurd (show b∈([]:List Addr) from z) (by simp);refine⟨⟨e0.mod,S.kind,rfl,rfl,Aq _,λy z c h1 h2=>?_,λy hy=>?_,λy c _ h=>?_,λ_=>hd,Around.frames_deeper e0.frames,.inr ⟨rfl,rfl⟩,λb z=>absurd z (noA b),e0.bs,e0.bsz,λb _ _=>noA b,λb z=>absurd z (noA b),e0.funs,e0.frf⟩,
  rfl,e0.bare,Un.kept hk,⟨_,x.toInCall.ns,λi y v h1 h2 h3=>?_⟩,λy c h=>⟨_,x.cell y c h⟩,e0.hok.fresh (Aq _),λy c h=>?_,λp hp=>absurd (show p∈([]:List (Addr×Obj)) from hp) (by simp),e0.hok.kept hk,?_⟩
 .exact name_of_addr x.apart (LC h1) (LC h2)
 .have hy:scope.names.lookup y=some .cell\/scope.names.lookup y=some .free:=hy;rcases hy with hy|hy
  .exact Pn hy
  .exact absurd rfl (S.nofree _ (LC hy))
 .exact Ha (x.above y c (LC h))
 .have hi:i<vs.length:=by
   unfold start at h2;by_cases hi:i<vs.length
   .exact hi
   .rw[EA (by simpa using hi)]at h2;rw[List.getElem?_replicate]at h2;split at h2<;>cases h2
  have ha:vs[i]?=some v:=by
   unfold start at h2;rw[Ej (by simpa using hi),Ce]at h2;cases e:vs[i]? with
   |none=>rw[e]at h2;cases h2
   |some a=>rw[e]at h2;cases h2;rfl
  obtain⟨u,hu,rv⟩:=r.get ha;have hp:ps[i]?=some y:=by
   rw[←S.pre,List.getElem?_take_of_lt (by lia)];exact h1
  have ndP:ps.Nodup:=by rw[←S.pre];exact S.nd.sublist (R1 _ _)
  refine⟨u,rv,?_⟩;rcases S.par y (CU hp) with k|k
  .exact .inl ⟨k,P9 ndP hp hu k⟩
  .obtain⟨c,e⟩:=Pn (n:=s.heap.objs.size+1) k;refine .inr ⟨.inl k,c,e,?_⟩;have q:=x.cell y c e;rw[Pu ndP hp hu (by show scope.names.lookup y≠_;rw[k];decide)]at q;exact q
 .exact e0.hok.fresh (Ha (x.above y c (LC h)))
 .unfold start;show _=N.length;rw[An,Ag,Fj];lia
theorem OC {CX:DS}{P:Program}{w:World}{K:Zc}{mg:Str->Option Value}{base:Heap}{k:Nat}{f:Addr}{name qual:Str}{params:Arguments}{body:List Stmt}{scope:Scope}{dV kV doc pm cdv ct oc:Value}{an od:Option Addr}
  {osl:Array (Option Value)} {N ps:List Str} {sp:Sp} (lk:K.lookup f=some ⟨oc,od,.func (PySem.W.fnOf name qual params body scope dV kV doc pm an cdv ct),osl⟩) (hcd:PySem.W.codeIn K cdv qual=true) (S:B1 N ps scope)
  (len:∀vs H Q E,sp vs H Q E->vs.length=ps.length)
  (hbody:∀(A:Around) (outer:List Env) (s:Shared) (H:Hp) (vs:List V) (Q:VK) (E:XK),Ci k (A.deeper (envOfC qual scope s.heap.objs.size f cdv))->sp vs H Q E->
   ∃t,Dy (FY CX P w K mg base N qual scope f cdv A outer s H E) body t/\t {nx:=λ_ H'=>Q .non H',rt:=Q} (start N vs) H) :
  AQ P w K mg base CX (k+1) f (PySem.W.fnOf name qual params body scope dV kV doc pm an cdv ct) ps sp:=by
 refine⟨len,λA outer s H args us vs Q E hr e0 hb r hsp=>?_⟩;have hl:=len _ _ _ _ hsp;have KX:K.In s.heap:=e0.mod.kin.keeps λb o e=>(e0.bs b o e).1;have lim:s.heap.NoLimit:=e0.mod.nolimit.keeps λb o e=>(e0.bs b o e).1;have hkind:∀y∈ps.zip us,scope.names.lookup y.1=some .local\/(scope.names.lookup y.1=some .cell/\((cellsFrom (s.heap.objs.size+1) scope.names []).lookup y.1).isSome=true):=fun⟨n,v⟩ hy=>by
  rcases S.par n (R0 hy).1 with q|q
  .exact .inl q
  .exact .inr ⟨q,PySem.W.cellsFrom_some _ _ _ (.inl q)⟩
 refine codeAny_call_function hr.depth (KX _ _ lk) rfl S.co S.gen rfl (PySem.W.codeRec_of KX hcd) (hb _ _ _ _ ?_);refine wpAny_newFunctionEnv_cells S.kind hkind λenv he s1 x=>?_;subst he;refine⟨lim.keeps x.toInCall.keep,codeAny_func ?_⟩;obtain⟨t,ht,hq⟩:=hbody A outer s H vs Q E (hr.deeper _) hsp;have I:A7 (FY CX P w K mg base N qual scope f cdv A outer s H E) [] (start N vs) H s1:=X3 S hr.hd e0 hl r x;refine CV (ht [] s1 (start N vs) H _ I hq) (λfl s' hs=>?_) λe s' hs=>hs;have fin:∀{σ':St} {H':Hp} {v:V} {u:Value},A7 (FY CX P w K mg base N qual scope f cdv A outer s H E) [] σ' H' s'->AK v u->Q v H'->CE outer P w H s Q u s':=
  fun{σ' H' v u} J rv q=>⟨v,H',J.os,J.bare,J.base,J.hok,rv,q⟩
 cases fl with
 |
  ret u=>
  obtain⟨v,σ',H',J,rv,q⟩:=hs;exact fin J rv q
 |
  next=>
  obtain⟨σ',H',J,q⟩:=hs;exact fin (v:=V.non) (u:=Value.none) J rfl q
 |
  brk=>
  obtain⟨_,_,_,q⟩:=hs;exact False.elim q
 |
  cont=>
  obtain⟨_,_,_,q⟩:=hs;exact False.elim q
section
variable {X:Cx}{x:Str}{p pos:Pos}{e:Expr}{es:List Expr}{t:TA}{id T:String}{r:List V->Hp->VK->Prop}
def KC (r:List V->Hp->VK->Prop)(t:TA):TE:=fun σ H Q=>t σ H λvs H1=>r vs H1 Q
theorem B6 (hc:DU X (.builtin id) r)(hg:Gl X x)(hm:X.mg x=none)(hv:bootBuiltins x=some (.builtin id))(ha:PA X (e::es) t)(hn:x≠"__name__":=by decide)(hdb:(x==("__debug__":Str))=false:=by decide)
  (he:starEach (e::es) X.env=(false,eval e X.env)::starEach es X.env:=by rfl) (hpl:(backTo pos (starEach es X.env)).any (·.1)=false:=by rfl):PE X (.Call (.Name x p) (e::es) [] pos) (KC r t):=by
 intro pins s σ H Q I h;refine Gm (IC I hg hm hv ?_ hn hdb);refine Z9 (AA (ha pos pins s σ H _ I h) λus s1 zz=>?_) he hpl;obtain⟨vs,H1,I1,r1,q1⟩:=zz;exact hc pins s1 σ H1 vs us Q I1 r1 q1
theorem Du (hc:DU X (.type T) r)(hg:Gl X x)(hm:X.mg x=none)(hv:bootBuiltins x=some (.type T))(ha:PA X (e::es) t)(hn:x≠"__name__":=by decide)(hdb:(x==("__debug__":Str))=false:=by decide)
  (he:starEach (e::es) X.env=(false,eval e X.env)::starEach es X.env:=by rfl) (hpl:(backTo pos (starEach es X.env)).any (·.1)=false:=by rfl):PE X (.Call (.Name x p) (e::es) [] pos) (KC r t):=by
 intro pins s σ H Q I h;refine Gm (IC I hg hm hv ?_ hn hdb);refine Z8 (AA (ha pos pins s σ H _ I h) λus s1 zz=>?_) he hpl;obtain⟨vs,H1,I1,r1,q1⟩:=zz;exact hc pins s1 σ H1 vs us Q I1 r1 q1
end
end L2
namespace HT
open PySem PyProof.Rows
section
open PySem.SeqAt
open PySem.AutoSeq1 (wpAny_loadPart')
open PySem.MeetsSeq PySem.MeetsSeq2 PySem.MeetsSeq3
end
section
variable {prog:Program}{w:World}{A:Around}{E:Value->Shared->Prop}{s:Shared}
def sIx (n d:Nat):Option Int->Nat
 |none=>d
 |some v=>if v<0 then(v+(n:Int)).toNat else min v.toNat n
theorem sIx_none (n d:Nat):sIx n d none=d:=rfl
theorem sIx_nat (n d k:Nat):sIx n d (some (k:Int))=min k n:=by
 show(if(k:Int)<0 then((k:Int)+(n:Int)).toNat else min (k:Int).toNat n)=min k n;rw[A9 (by lia),FL]
theorem sIx_le (n d:Nat)(hd:d<=n)(o:Option Int):sIx n d o<=n:=by
 cases o with
 |none=>exact hd
 |
  some v=>
  show(if v<0 then(v+(n:Int)).toNat else min v.toNat n)<=n;by_cases hv:v<0
  .rw[Ac hv];lia
  .rw[A9 hv];exact Nat.min_le_right _ _
end
end HT
namespace L2
open PySem PySem.Spec PyProof.Rows
abbrev TO:=St->Hp->(Option Int->Hp->Prop)->Prop
def PO (X:Cx)(e:Option Expr)(t:TO):Prop:=
 ∀(pins:List (Addr×Obj)) (s:Shared) (σ:St) (H:Hp) (Q:Option Int->Hp->Prop),A7 X pins σ H s->t σ H Q->
  wpAny (model X.prog X.w) X.A (evalPart e X.env) (λu s'=>∃o H',A7 X pins σ H' s'/\IsPart u o/\Q o H') X.xe s
def S9:TO:=λ_ H Q=>Q none H
def VC (t:TE):TO:=fun σ H Q=>t σ H λx H1=>∃i,x = .int i/\Q (some i) H1
section
variable {X:Cx}{e:Expr}{te:TE}{lo hi:Option Expr}{tl th:TO}{pos p2:Pos}
theorem Cy:PO X none S9:=by
 intro pins s σ H Q I h;rw[evalPart_none];exact Bj ⟨none,H,I,.none,h⟩
theorem BW (h:PE X e te):PO X (some e) (VC te):=by
 intro pins s σ H Q I hw;rw[evalPart_some];refine AA (h pins s σ H _ I hw) λu s1 zz=>?_;obtain⟨x,H1,I1,r1,q1⟩:=zz;obtain⟨i,rfl,q⟩:=q1;obtain⟨t,rfl⟩:=r1;exact⟨some i,H1,I1,.int i t,q⟩
def MX (X:Cx)(r:V->Option Int->Option Int->Hp->VK->Prop):Prop:=
 ∀(pins:List (Addr×Obj)) (s:Shared) (σ:St) (H:Hp) (x:V) (v vl vu:Value) (lo hi:Option Int) (sl:Addr) (Q:VK),A7 X pins σ H s->AK x v->s.heap.IsSliceOf sl vl vu .none->IsPart vl lo->IsPart vu hi->r x lo hi H Q->
  ∃T id,typeLookup (.type T) "__getitem__"=pure (some (.builtin id))/\s.TypeIs v T/\wpAny (model X.prog X.w) X.A (getItem v (.ref sl)) (EP X pins σ Q) X.xe s
def Wd (r:V->Option Int->Option Int->Hp->VK->Prop)(te:TE)(tl th:TO):TE:=fun σ H Q=>te σ H λx H1=>tl σ H1 λl H2=>th σ H2 λu H3=>r x l u H3 Q
theorem C7 {r:V->Option Int->Option Int->Hp->VK->Prop}(hr:MX X r)(he:PE X e te)(hl:PO X lo tl)(hu:PO X hi th):PE X (.Subscript e (.Slice lo hi none p2) pos) (Wd r te tl th):=by
 intro pins s σ H Q I h;refine Subscript_ (AA (he pins s σ H _ I h) λv s1 zz=>?_);obtain⟨x,H1,I1,r1,q1⟩:=zz;refine wpAny_Slice (AA (hl pins s1 σ H1 _ I1 q1) λvl s2 zz=>?_);obtain⟨l,H2,I2,pl,q2⟩:=zz;refine AA (hu pins s2 σ H2 _ I2 q2) λvu s3 zz=>?_;obtain⟨u,H3,I3,pu,q3⟩:=zz;rw[evalPart_none];refine Bj ?_;have I4:A7 X pins σ H3 {s3 with heap:=s3.heap.push {cls:=.type "slice",data:=.fields #[vl,vu,.none]}}:=I3.kept (t':=s3.toks) λb ob q=>Bz _ q;obtain⟨T,id,hT,ht,hg⟩:=hr pins {s3 with heap:=s3.heap.push {cls:=.type "slice",data:=.fields #[vl,vu,.none]}} σ H3 x v vl vu l u s3.heap.objs.size Q I4 r1 (Heap.IsSliceOf.new ..) pl pu q3;show wpAny (model X.prog X.w) X.A (subscriptTail e (.Slice lo hi none p2) v (.ref s3.heap.objs.size)) (EP X pins σ Q) X.xe {s3 with heap:=s3.heap.push {cls:=.type "slice",data:=.fields #[vl,vu,.none]}};exact tail_any (ops:=[.ref s3.heap.objs.size,v]) ht hT hg (by with_unfolding_all rfl)
def Cr (xs:List V)(lo hi:Option Int):List V:=(xs.drop (HT.sIx xs.length 0 lo)).take (HT.sIx xs.length xs.length hi-HT.sIx xs.length 0 lo)
theorem Xc (xs:List V)(lo hi:Option Int):(Cr xs lo hi).length<=xs.length:=by
 unfold Cr;rw[Bb,BS];lia
end
def E6 (n:Nat)(i:Int):Option Nat:=if 0<=i then(if i<n then some i.toNat else none) else if -(n:Int)<=i then some (i+n).toNat else none
def Bu {α:Type}(xs:List α)(i:Int):Option α:=(E6 xs.length i).bind λj=>xs[j]?
theorem Qb {n:Nat}{i:Int}{j:Nat}(h:E6 n i=some j):seqIndex? i n=some j/\j<n/\-(n:Int)<=i/\i<n:=by
 unfold E6 at h;by_cases h0:0<=i
 .rw[Ac h0]at h;by_cases h1:i<n
  .rw[Ac h1]at h;have e:i.toNat=j:=Co h;exact⟨by rw[seqIndex_of h0 h1,e],by lia,by lia,h1⟩
  .rw[A9 h1]at h;cases h
 .rw[A9 h0]at h;by_cases h1 : -(n:Int)<=i
  .rw[Ac h1]at h;have e:(i+n).toNat=j:=Co h;exact⟨by rw[O1 (by lia) h1,e],by lia,h1,by lia⟩
  .rw[A9 h1]at h;cases h
theorem KY {α:Type}{xs:List α}{i:Int}{v:α}(h:Bu xs i=some v):∃j,seqIndex? i xs.length=some j/\xs[j]?=some v/\j<xs.length/\-(xs.length:Int)<=i/\i<xs.length:=by
 unfold Bu at h;cases e:E6 xs.length i with
 |none=>rw[e]at h;cases h
 |
  some j=>
  rw[e]at h;obtain⟨h1,h2,h3,h4⟩:=Qb e;exact⟨j,h1,h,h2,h3,h4⟩
theorem D8 {α:Type}{xs:List α}{j:Nat}{v:α}(h:xs[j]?=some v):Bu xs (j:Int)=some v:=by
 have hj:j<xs.length:=(BQ.mp h).1;have e:E6 xs.length (j:Int)=some j:=by
  unfold E6;rw[Ac (by lia),Ac (by lia)];simp
 unfold Bu;rw[e];exact h
theorem JL {α:Type}(xs:List α)(v:α):Bu (xs++[v]) (-1)=some v:=by
 have hl:(xs++[v]).length=xs.length+1:=by simp
 have e:E6 (xs++[v]).length (-1)=some xs.length:=by
  unfold E6;rw[hl,A9 (by decide),Ac (by lia)];congr 1;lia
 unfold Bu;rw[e];show(xs++[v])[xs.length]?=some v;simp
def V2 (b:Expr):Prop := ∀o i,subscripted b false o i=operate [o,i] (getItem o i)
def F2 (X:Cx)(r:R2):Prop:=
 ∀(value slice:Expr) (pins:List (Addr×Obj)) (s:Shared) (σ:St) (H:Hp) (x y:V) (v u:Value) (Q:VK),A7 X pins σ H s->AK x v->AK y u->r x y H Q->
  subscripted slice false v u=operate [v,u] (getItem v u)->wpAny (model X.prog X.w) X.A (subscriptTail value slice v u) (EP X pins σ Q) X.xe s
def Gz (X:Cx)(id:String)(r:V->List V->Hp->VK->Prop):Prop:=
 ∀(pins:List (Addr×Obj)) (s:Shared) (σ:St) (H:Hp) (x:V) (xs:List V) (v:Value) (us:List Value) (Q:VK),A7 X pins σ H s->AK x v->AE xs us->r x xs H Q->
  wpAny (model X.prog X.w) X.A (call (.builtin id) (v::us)) (EP X pins σ Q) X.xe s
section
variable {X:Cx}{a b:Expr}{ta tb:TE}{pos:Pos}
theorem Aj {r:R2}(hr:F2 X r)(ha:PE X a ta)(hb:PE X b tb)(hs:V2 b):PE X (.Subscript a b pos) (Fe r ta tb):=by
 intro pins s σ H Q I h;exact Subscript_ (MZ ha hb I h λv u s2 x y H2 I2 rx ry q=>hr a b pins s2 σ H2 x y v u Q I2 rx ry q (hs _ _))
def Na (K:Zc):R2:=λx y H Q=>∃p xs i v,x = .ref p/\y = .int i/\A4 K H p xs/\Bu xs i=some v/\Q v H
def IY (K:Zc):R2:=λx y H Q=>∃p xs i v,x = .ref p/\y = .int i/\Aw K H p xs/\Bu xs i=some v/\Q v H
def Nb:R2:=λx y H Q=>∃z i c,x = .str z/\y = .int i/\z.length<=sizeLine/\Bu z.cps.toList i=some c/\Q (.str ⟨#[c]⟩) H
theorem AX:F2 X (Na X.K):=by
 intro value slice pins s σ H x y v u Q I rx ry h hs;obtain⟨p,xs,i,z,rfl,rfl,hq,he,q⟩:=h;cases rx;obtain⟨t,rfl⟩:=ry;obtain⟨its,r,pl,hz⟩:=I.list hq;obtain⟨j,h1,h2,h3,h4,h5⟩:=KY he;obtain⟨w,ew,rw'⟩:=r.get h2;have hl:=r.length;have hn:=GE;have fin:EP X pins σ Q w s:=⟨z,H,I,rw',q⟩
 by_cases h0:0<=i
 .have hj:i.toNat=j:=by
   rw[seqIndex_of h0 h5]at h1;exact Co h1
  exact item_listR pl.isList h0 (by lia) (by rw[hj];simpa using ew) fin hs
 .have hj:(i+(its.toArray.size:Int)).toNat=j:=by
   rw[O1 (by lia) h4]at h1;rw[BX,←hl];exact Co h1
  exact subscriptTail_builtinR (x:=w) pl.isList.typeIs slot_list_getitem.lookup
   (wpAny_getItem_list_neg (Q:=λr s'=>r=w/\EP X pins σ Q r s') pl.isList (by lia) (by rw[BX]<;>lia) (by lia) (by rw[hj];simpa using ew) ⟨rfl,fin⟩) hs
theorem B7:F2 X (IY X.K):=by
 intro value slice pins s σ H x y v u Q I rx ry h hs;obtain⟨p,xs,i,z,rfl,rfl,hq,he,q⟩:=h;cases rx;obtain⟨t,rfl⟩:=ry;obtain⟨its,r,pl,hz⟩:=I.tuple hq;obtain⟨j,h1,h2,h3,h4,h5⟩:=KY he;obtain⟨w,ew,rw'⟩:=r.get h2;have hl:=r.length;have hn:=GE;have fin:EP X pins σ Q w s:=⟨z,H,I,rw',q⟩
 exact subscriptTail_builtinR (x:=w) pl.typeIs slot_tuple_getitem.lookup
  (getItem_tuple (j:=j) (Q:=λr s'=>r=w/\EP X pins σ Q r s') pl (by lia) (by lia) (by rw[BX,←hl];exact h1) (by simpa using ew) ⟨rfl,fin⟩) hs
theorem Fh:F2 X Nb:=by
 intro value slice pins s σ H x y v u Q I rx ry h hs;obtain⟨z,i,c,rfl,rfl,hz,he,q⟩:=h;obtain⟨t,rfl⟩:=rx;obtain⟨t',rfl⟩:=ry;obtain⟨j,h1,h2,h3,h4,h5⟩:=KY he;have hl:z.cps.toList.length=z.length:=by simp[Str.length]
 rw[hl]at h1 h4 h5;have hn:=GE;exact tail_any (Il s z t) slot_str_getitem.lookup (getItem_str (c:=c) (by
  have e1:decide (i < -(2 ^ 63:Int))=false:=Bg (by lia);have e2:decide (i≥2 ^ 63)=false:=Bg (by lia);rw[e1,e2,NM]) (by rw[h1];simpa using h2) ⟨.str ⟨#[c]⟩,H,I.tok _,⟨_,rfl⟩,q⟩) hs
theorem Sb (its:List Value)(n j:Nat)(u:Value):Obj.mapSeq (·.setIfInBounds j u) {cls:=.type "list",data:=.seq its.toArray n}={cls:=.type "list",data:=.seq (its.set j u).toArray n}:=by
 simp[Obj.mapSeq]
theorem A7.lst {pins:List (Addr×Obj)}{σ:St}{H:Hp}{s:Shared}{p:Addr}{xs:List V}(I:A7 X pins σ H s)(h:H p=some (.lst xs)) :
  ∃(its:List Value) (n:Nat),AE xs its/\s.heap.get? p=some {cls:=.type "list",data:=.seq its.toArray n}/\xs.length<=sizeLine:=by
 obtain⟨z,its,n,r,e⟩:=I.hok p _ h;exact⟨its,n,r,e,z⟩
theorem A7.lstUpd {pins:List (Addr×Obj)}{σ:St}{H:Hp}{s:Shared}{p:Addr}{xs ys:List V}{its its':List Value}{n n':Nat}{f:Obj->Obj}(I:A7 X pins σ H s)(h:H p=some (.lst xs))
  (ho:s.heap.get? p=some {cls:=.type "list",data:=.seq its.toArray n}) (hf:f {cls:=.type "list",data:=.seq its.toArray n}={cls:=.type "list",data:=.seq its'.toArray n'}) (r:AE ys its') (hz:ys.length<=sizeLine) (t:Nat) :
  A7 X pins σ (upd H p (.lst ys)) {s with heap:=s.heap.update p f,toks:=t}:=by
 have e:(s.heap.update p f).get? p=some {cls:=.type "list",data:=.seq its'.toArray n'}:=by
  rw[LD f ho (by rw[hf]<;>rfl),hf]
 refine I.write (x:=p) (e:=p) (by rw[h];trivial) (.inl rfl) (λb u hb q=>(Gd _ _ (Ne.symm hb)).trans q) ⟨_,e⟩ ?_;exact⟨hz,its',n',r,e⟩
def VZ:V->V->V->Hp->(Hp->Prop)->Prop:=λo i v H Q=>∃p xs k j,o = .ref p/\i = .int k/\H p=some (.lst xs)/\E6 xs.length k=some j/\Q (upd H p (.lst (xs.set j v)))
theorem QJ:Qs X VZ:=by
 intro pins s σ H o i v ov iv u Q I ro ri rv h;obtain⟨p,xs,k,j,rfl,rfl,hp,hj,q⟩:=h;cases ro;obtain⟨t,rfl⟩:=ri;obtain⟨its,n,r,ho,hz⟩:=I.lst hp;obtain⟨h1,h2,h3,h4⟩:=Qb hj;have hl:=r.length;have hn:=GE;have I':A7 X pins σ (upd H p (.lst (xs.set j v))) {s with heap:=s.heap.update p (Obj.mapSeq (·.setIfInBounds j u))}:=
  I.lstUpd hp ho (Sb its n j u) (r.set rv j) (by rw[List.length_set];exact hz) s.toks
 by_cases h0:0<=k
 .have hk:k.toNat=j:=by
   rw[seqIndex_of h0 h4]at h1;exact Co h1
  exact PySem.W.ki_setAt ho h0 (by lia) (by rw[BX,←hl];exact h4) (by rw[hk];exact⟨_,I',q⟩)
 .have hk:(k+(its.toArray.size:Int)).toNat=j:=by
   rw[O1 (by lia) h3]at h1;rw[BX,←hl];exact Co h1
  exact PySem.W.ki_setBack ho (by lia) (by rw[BX,←hl];exact h3) (by lia) (by rw[hk];exact⟨_,I',q⟩)
theorem SV (lo hi:Option Int)(n:Nat):(sliceBounds lo hi none n).1=((HT.sIx n 0 lo:Nat):Int)/\(sliceBounds lo hi none n).2.1=((HT.sIx n n hi:Nat):Int)/\(sliceBounds lo hi none n).2.2=1:=by
 refine⟨?_,?_,rfl⟩
 .cases lo with
  |none=>simp[sliceBounds,HT.sIx]
  |
   some i=>
   simp only[sliceBounds,HT.sIx,Option.getD_none,show(1:Int)>0 by decide,Fp];by_cases h:i<0
   .simp only[h,Fp]<;>lia
   .simp only[h,FQ]<;>lia
 .cases hi with
  |none=>simp[sliceBounds,HT.sIx]
  |
   some i=>
   simp only[sliceBounds,HT.sIx,Option.getD_none,show(1:Int)>0 by decide,Fp];by_cases h:i<0
   .simp only[h,Fp]<;>lia
   .simp only[h,FQ]<;>lia
theorem Tc (its:List Value)(lo hi:Option Int):slicePick its.toArray lo hi none=((its.drop (HT.sIx its.length 0 lo)).take (HT.sIx its.length its.length hi-HT.sIx its.length 0 lo)).toArray:=by
 obtain⟨h1,h2,h3⟩:=SV lo hi its.toArray.size;unfold slicePick;rw[h1,h2,h3];simp only[sliceRange_one,pick_run,BX]<;>rfl
def TF (K:Zc):V->Option Int->Option Int->Hp->VK->Prop:=λx lo hi H Q=>∃a xs,x = .ref a/\A4 K H a xs/\∀p,H p=none->Q (.ref p) (upd H p (.lst (Cr xs lo hi)))
theorem CH:MX X (TF X.K):=by
 intro pins s σ H x v vl vu lo hi sl Q I rx hs pl pu h;obtain⟨a,xs,rfl,hx,q⟩:=h;cases rx;obtain⟨its,r,ht,hz⟩:=I.list hx;have hlen:=r.length;refine⟨"list",_,slot_list_getitem.lookup,ht.isList.typeIs,?_⟩;refine wpAny_getItem_list_slice ht.isList hs pl pu .none (by simp) ?_ (by rw[BX]<;>lia);rw[Tc,←hlen];refine⟨.ref s.heap.objs.size,_,I.laid (t':=s.toks) (o:=.lst (Cr xs lo hi)) (λb ob q=>Bz _ q) (Aq _) ?_,rfl,q _ (I.hok.fresh (Aq _))⟩;exact⟨BP (Xc xs lo hi) hz,_,0,(r.drop (HT.sIx xs.length 0 lo)).take (HT.sIx xs.length xs.length hi-HT.sIx xs.length 0 lo),Dl _ rfl⟩
def Eo:V->Bool
 |.non=>true
 |.bl _=>true
 |.int _=>true
 |.str _=>true
 |_=>false
def Fd:V->V->Bool
 |.non,.non=>true
 |.bl a,.bl b=>a==b
 |.bl a,.int b=>(if a then 1 else 0)==b
 |.int a,.bl b=>a==(if b then 1 else 0)
 |.int a,.int b=>a==b
 |.str a,.str b=>a==b
 |_,_=>false
theorem UF {A:Around}{s:Shared}{y x:V}{u v:Value}(ry:AK y u)(rx:AK x v)(fy:Eo y=true)(fx:Eo x=true):SeqAt.EqAt A s u v (Fd y x):=by
 cases y with
 |
  non=>
  cases ry;cases x with
  |non=>cases rx;exact SeqAt.EqAt.same _
  |bl b=>cases rx;exact SeqAt.EqAt.none_bool b
  |int b=>obtain⟨t,rfl⟩:=rx;exact SeqAt.EqAt.none_int b t
  |str b=>obtain⟨t,rfl⟩:=rx;exact SeqAt.EqAt.none_str b t
  |_=>exact absurd (show false=true from fx) C6
 |
  bl a=>
  cases ry;cases x with
  |non=>cases rx;exact SeqAt.EqAt.bool_none a
  |bl b=>cases rx;exact SeqAt.EqAt.bool_bool a b
  |int b=>obtain⟨t,rfl⟩:=rx;exact SeqAt.EqAt.bool_int a b t
  |str b=>obtain⟨t,rfl⟩:=rx;exact SeqAt.EqAt.bool_str a b t
  |_=>exact absurd (show false=true from fx) C6
 |
  int a=>
  obtain⟨t',rfl⟩:=ry;cases x with
  |non=>cases rx;exact SeqAt.EqAt.int_none a t'
  |bl b=>cases rx;exact SeqAt.EqAt.int_bool a t' b
  |int b=>obtain⟨t,rfl⟩:=rx;exact SeqAt.EqAt.int_int a t' b t
  |str b=>obtain⟨t,rfl⟩:=rx;exact SeqAt.EqAt.int_str a t' b t
  |_=>exact absurd (show false=true from fx) C6
 |
  str a=>
  obtain⟨t',rfl⟩:=ry;cases x with
  |non=>cases rx;exact SeqAt.EqAt.str_none a t'
  |bl b=>cases rx;exact SeqAt.EqAt.str_bool a t' b
  |int b=>obtain⟨t,rfl⟩:=rx;exact SeqAt.EqAt.str_int a t' b t
  |str b=>obtain⟨t,rfl⟩:=rx;exact SeqAt.EqAt.str_str a t' b t
  |_=>exact absurd (show false=true from fx) C6
 |_=>exact absurd (show false=true from fy) C6
def DJ (x:V)(u:Value):Bool:=match u with
 |.none=>Fd .non x
 |.bool b=>Fd (.bl b) x
 |.int i _=>Fd (.int i) x
 |.str z _=>Fd (.str z) x
 |_=>false
theorem PQ {x y:V}{u:Value}(r:AK y u)(f:Eo y=true):DJ x u=Fd y x:=by
 cases y with
 |non=>cases r;rfl
 |bl b=>cases r;rfl
 |int i=>obtain⟨t,rfl⟩:=r;rfl
 |str z=>obtain⟨t,rfl⟩:=r;rfl
 |_=>exact absurd (show false=true from f) C6
theorem Ir {x:V}:∀{xs:List V} {us:List Value},AE xs us->xs.all Eo=true->us.any (DJ x)=xs.any λy=>Fd y x
 |_,_,.nil,_=>rfl
 |
  y::xs,u::us,.cons r t,f=>by
  rw[EW,Hc]at f;rw[Ji,Ji,PQ r f.1,Ir t f.2]
theorem Jf {A:Around}{s:Shared}{x:V}{v:Value}(rx:AK x v)(fx:Eo x=true):∀{xs:List V} {us:List Value},AE xs us->xs.all Eo=true->∀u∈us,SeqAt.EqAt A s u v (DJ x u)
 |_,_,.nil,_=>λu hu=>by cases hu
 |
  y::xs,u::us,.cons r t,f=>λu' hu=>by
  rw[EW,Hc]at f;rcases Av.mp hu with rfl|hu
  .rw[PQ r f.1];exact UF r rx f.1 fx
  .exact Jf rx fx t f.2 u' hu
def Dd (x:V)(xs:List V):Bool:=xs.any λy=>Fd y x
def Io (K:Zc)(neg:Bool):R2:=λx y H Q=>∃p xs,y = .ref p/\(A4 K H p xs\/Aw K H p xs)/\Eo x=true/\xs.all Eo=true/\Q (.bl (if neg then !Dd x xs else Dd x xs)) H
theorem GO:BL X (compareOp .In) (Io X.K false):=by
 intro pins s σ H x y v u Q I rx ry h;obtain⟨p,xs,rfl,hq,fx,fs,q⟩:=h;cases ry;rcases hq with hq|hq
 .obtain⟨its,r,pl,hz⟩:=I.list hq;refine SeqAt.in_listAt (DJ x) pl.isList (λw hw=>Jf rx fx r fs w (by simpa using hw)) ⟨.bl _,H,I,rfl,?_⟩;rw[show its.toArray.any (DJ x)=its.any (DJ x) by simp,Ir r fs];exact q
 .obtain⟨its,r,pl,hz⟩:=I.tuple hq;refine SeqAt.in_tupleAt (DJ x) pl (λw hw=>Jf rx fx r fs w (by simpa using hw)) ⟨.bl _,H,I,rfl,?_⟩;rw[show its.toArray.any (DJ x)=its.any (DJ x) by simp,Ir r fs];exact q
theorem Jy:BL X (compareOp .NotIn) (Io X.K true):=by
 intro pins s σ H x y v u Q I rx ry h;obtain⟨p,xs,rfl,hq,fx,fs,q⟩:=h;cases ry;rcases hq with hq|hq
 .obtain⟨its,r,pl,hz⟩:=I.list hq;refine SeqAt.notIn_listAt (DJ x) pl.isList (λw hw=>Jf rx fx r fs w (by simpa using hw)) ⟨.bl _,H,I,rfl,?_⟩;rw[show its.toArray.any (DJ x)=its.any (DJ x) by simp,Ir r fs];exact q
 .obtain⟨its,r,pl,hz⟩:=I.tuple hq;refine SeqAt.notIn_tupleAt (DJ x) pl (λw hw=>Jf rx fx r fs w (by simpa using hw)) ⟨.bl _,H,I,rfl,?_⟩;rw[show its.toArray.any (DJ x)=its.any (DJ x) by simp,Ir r fs];exact q
theorem Y0:BL X (compareOp .NotIn) (λx y H Q=>∃i j,x = .str i/\y = .str j/\Q (.bl (!(!(Builtin.Str.occurrences j i 0 j.length 1).isEmpty))) H):=by
 intro pins s σ H x y v u Q I rx ry h;obtain⟨i,j,rfl,rfl,q⟩:=h;obtain⟨t,rfl⟩:=rx;obtain⟨t',rfl⟩:=ry;exact notIn_str ⟨.bl _,H,I,rfl,q⟩
theorem Bw:DU X (.builtin "len") (λxs H Q=>∃p ys,xs=[.ref p]/\(A4 X.K H p ys\/Aw X.K H p ys)/\Q (.int ys.length) H):=by
 intro pins s σ H xs us Q I r h;obtain⟨p,ys,rfl,hq,q⟩:=h;obtain⟨u,rfl,rx⟩:=Ep r;cases rx;have hn:=GE;rcases hq with hq|hq
 .obtain⟨its,r',pl,hz⟩:=I.list hq;have hlen:=r'.length;exact Calls.call_len_list pl.isList (by simp only[BX]<;>lia) ⟨.int ys.length,H,I.tok _,⟨s.toks+1,by rw[BX,hlen]⟩,q⟩
 .obtain⟨its,r',pl,hz⟩:=I.tuple hq;have hlen:=r'.length;exact len_tuple pl (by simp only[BX]<;>lia) ⟨.int ys.length,H,I.tok _,⟨s.toks+1,by rw[BX,hlen]⟩,q⟩
theorem JN:DU X (.builtin "len") (λxs H Q=>∃z,xs=[.str z]/\z.length<=sizeLine/\Q (.int z.length) H):=by
 intro pins s σ H xs us Q I r h;obtain⟨z,rfl,hz,q⟩:=h;obtain⟨u,rfl,t,rfl⟩:=Ep r;have hn:=GE;exact len_str (by lia) ⟨.int z.length,H,I.tok _,⟨_,rfl⟩,q⟩
theorem X0:DU X (.type "list") (λxs H Q=>∃p ys,xs=[.ref p]/\(A4 X.K H p ys\/Aw X.K H p ys)/\∀l,H l=none->Q (.ref l) (upd H l (.lst ys))):=by
 intro pins s σ H xs us Q I r h;obtain⟨p,ys,rfl,hq,q⟩:=h;obtain⟨u,rfl,rx⟩:=Ep r;cases rx;have fin:∀(its:List Value),AE ys its->ys.length<=sizeLine->∀(h':Heap) (c':Nat),(∀b o',s.heap.get? b=some o'->h'.get? b=some o')->
   h'.get? s.heap.objs.size=some {cls:=.type "list",dict:=none,data:=.seq its.toArray c',slots := #[]}->EP X pins σ Q (.ref s.heap.objs.size) {s with heap:=h'}:=λits r' hz h' c' kp e=>
  ⟨.ref s.heap.objs.size,_,I.laid (t':=s.toks) kp (Aq _) (show BN X.prog X.w _ h' _ (.lst ys) from⟨hz,its,c',r',e⟩),rfl,q _ (I.hok.fresh (Aq _))⟩
 rcases hq with hq|hq
 .obtain⟨its,r',pl,hz⟩:=I.list hq;have hlen:=r'.length;obtain⟨o,ho,hc,n,hd⟩:=pl.isList;exact call_list_seq p (.inl rfl) ho hc hd (λh' c' kp e=>fin its r' hz h' c' kp e) (by simp only[BX]<;>lia)
 .obtain⟨its,r',pl,hz⟩:=I.tuple hq;have hlen:=r'.length;obtain⟨o,ho,hc,n,hd⟩:=pl;exact call_list_seq p (.inr rfl) ho hc hd (λh' c' kp e=>fin its r' hz h' c' kp e) (by simp only[BX]<;>lia)
theorem GA:DU X (.type "tuple") (λxs H Q=>∃p ys,xs=[.ref p]/\((A4 X.K H p ys/\∀l,H l=none->Q (.ref l) (upd H l (.tup ys)))\/(Aw X.K H p ys/\Q (.ref p) H))):=by
 intro pins s σ H xs us Q I r h;obtain⟨p,ys,rfl,h⟩:=h;obtain⟨u,rfl,rx⟩:=Ep r;cases rx;rcases h with⟨hq,q⟩|⟨hq,q⟩
 .obtain⟨its,r',pl,hz⟩:=I.list hq;have hlen:=r'.length;refine call_tuple_list pl.isList (λh' kp=>?_) (by simp only[BX]<;>lia);have I1:A7 X pins σ H {s with heap:=h'}:=I.kept (t':=s.toks) kp;have I2:A7 X pins σ (upd H h'.objs.size (.tup ys)) {s with heap:=h'.push {cls:=.type "tuple",data:=.seq its.toArray}}:=
   I1.laid (t':=s.toks) (λb o e=>Bz _ e) (Aq _) (show BN X.prog X.w _ _ _ (.tup ys) from⟨hz,its,r',FW.new _ _⟩)
  exact⟨.ref h'.objs.size,_,I2,rfl,q _ (I1.hok.fresh (Aq _))⟩
 .obtain⟨its,r',pl,hz⟩:=I.tuple hq;exact call_tuple_same pl ⟨.ref p,H,I,rfl,q⟩
def LY (K:Zc)(T:String)(x:V)(H:Hp):Prop:=match x with
 |.str _=>T="str"
 |.int _=>T="int"
 |.ref p=>(T="list"/\∃xs,A4 K H p xs)\/(T="tuple"/\∃o,K.lookup p=some o/\o.cls = .type "tuple"/\o.dict=none)\/
  (T="dict"/\((∃kvs,H p=some (.dK kvs))\/∃kvs,H p=some (.dT kvs)))\/(T="set"/\∃S n,H p=some (.set S n))
 |_=>False
theorem MS {pins:List (Addr×Obj)}{σ:St}{H:Hp}{s:Shared}{T:String}{x:V}{v:Value}(I:A7 X pins σ H s)(r:AK x v)(ty:LY X.K T x H) :
  s.TypeIs v T/\∀a,v = .ref a->∃ob,s.heap.get? a=some ob/\ob.dict=none:=by
 cases x with
 |
  str z=>
  obtain⟨t,rfl⟩:=r;cases (show T="str" from ty);exact⟨Il s z t,λ_ e=>nomatch e⟩
 |
  int i=>
  obtain⟨t,rfl⟩:=r;cases (show T="int" from ty);exact⟨typeIs_int s i t,λ_ e=>nomatch e⟩
 |
  ref p=>
  cases r;rcases ty with⟨rfl,xs,hq⟩|⟨rfl,o,hk,hc,hd⟩|⟨rfl,hk⟩|⟨rfl,S,n,hk⟩
  .obtain⟨its,_,pl,_⟩:=I.list hq;refine⟨pl.isList.typeIs,λa e=>?_⟩;cases e;obtain⟨o,n,e,c,hd,_⟩:=pl;exact⟨o,e,hd⟩
  .refine⟨⟨o,I.kIn p o hk,hc⟩,λa e=>?_⟩;cases e;exact⟨o,I.kIn _ o hk,hd⟩
  .have z:∃o,s.heap.get? p=some o/\o.ExactDict:=by
    rcases hk with⟨kvs,hk⟩|⟨kvs,hk⟩
    .obtain⟨_,_,_,_,o,_,_,e,ex,_⟩:=I.hok p _ hk;exact⟨o,e,ex⟩
    .obtain⟨_,_,_,_,o,_,_,e,ex,_⟩:=I.hok p _ hk;exact⟨o,e,ex⟩
   obtain⟨o,e,ex⟩:=z;refine⟨⟨o,e,ex.1⟩,λa e2=>?_⟩;cases e2;exact⟨o,e,ex.2.1⟩
  .obtain⟨o,_,_,_,e,ex,_⟩:=I.hok p _ hk;refine⟨⟨o,e,ex.1⟩,λa e2=>?_⟩;cases e2;exact⟨o,e,ex.2.1⟩
 |_=>exact False.elim ty
def Ts (K:Zc)(T:String)(r:V->List V->Hp->VK->Prop)(to:TE):TE:=fun σ H Q=>to σ H λx H1=>LY K T x H1/\r x [] H1 Q
def Q9 (K:Zc)(T:String)(r:V->List V->Hp->VK->Prop)(to:TE)(t:TA):TE:=fun σ H Q=>to σ H λx H1=>LY K T x H1/\t σ H1 λxs H2=>r x xs H2 Q
variable {o e:Expr}{es:List Expr}{to:TE}{t:TA}{name:Str}{apos cpos:Pos}{T id:String}{r:V->List V->Hp->VK->Prop}
theorem Ed (pa:PlainAttrs T)(slot:Slot T name id)(hty:typeOf (.builtin id)=pure (.type "method_descriptor"))(hm:Gz X id r)(ho:PE X o to)
  (hbase:attributeBase o name X.env (eval o X.env)=eval o X.env:=by rfl) (hline:(apos.endLine==cpos.line)=true:=by rfl):PE X (.Call (.Attribute o name apos) [] [] cpos) (Ts X.K T r to):=by
 intro pins s σ H Q I h;refine wpAny_Call_method0_late hbase hline (AA (ho pins s σ H _ I h) λv s1 zz=>?_);obtain⟨x,H1,I1,r1,ty,q1⟩:=zz;obtain⟨h1,h2⟩:=MS I1 r1 ty;exact⟨T,id,pa,slot,hty,h1,h2,Calls.callWith_builtin rfl (PySem.evalArgs_none (hm pins s1 σ H1 x [] v [] Q I1 r1 .nil q1))⟩
theorem Bx (pa:PlainAttrs T)(slot:Slot T name id)(hty:typeOf (.builtin id)=pure (.type "method_descriptor"))(hm:Gz X id r)(ho:PE X o to)(ha:PA X (e::es) t)
  (hbase:attributeBase o name X.env (eval o X.env)=eval o X.env:=by rfl)
  (hfew:((backTo cpos (starEach (e::es) X.env)).all (λx=>!x.1)&&(backToKw cpos (keywordEach [] X.env)).all (λx=>x.1.isSome)
   && decide ((e::es).length+([]:List Keyword).length+(if([]:List Keyword).isEmpty then 0 else 1)<30))=true:=by rfl)
  (hline:(apos.endLine==cpos.line)=true:=by rfl) (hs:starEach (e::es) X.env=(false,eval e X.env)::starEach es X.env:=by rfl) (hplain:(backTo cpos (starEach es X.env)).any (·.1)=false:=by rfl) :
  PE X (.Call (.Attribute o name apos) (e::es) [] cpos) (Q9 X.K T r to t):=by
 intro pins s σ H Q I h;refine wpAny_Call_method_late hbase hfew hline rfl (AA (ho pins s σ H _ I h) λv s1 zz=>?_);obtain⟨x,H1,I1,r1,ty,q1⟩:=zz;obtain⟨h1,h2⟩:=MS I1 r1 ty;refine⟨T,id,pa,slot,hty,h1,h2,?_⟩;have hA:=ha cpos pins s1 σ H1 _ I1 q1;rw[hs]at hA ⊢;refine Calls.callWith_builtin (by show(false||(backTo cpos (starEach es X.env)).any (·.1))=false;rw[hplain]<;>rfl) (Calls.evalArgs_plain ?_);refine AA hA λus s2 zz=>?_;obtain⟨vs,H2,I2,r2,q2⟩:=zz;exact hm pins s2 σ H2 x vs v us Q I2 r1 r2 q2
end
def Pq (X:Cx)(id:String)(r:V->List V->Hp->VK->Prop):Prop:=
 ∀(pins:List (Addr×Obj)) (s:Shared) (σ:St) (H:Hp) (x:V) (xs:List V) (v:Value) (us:List Value) (Q:VK),A7 X pins σ H s->AK x v->AE xs us->r x xs H Q->
  wpAny (model X.prog X.w) X.A (call (.builtin id) (v::us)) (EP X pins σ Q) X.xe s
theorem AE.one:∀{x:V} {us:List Value},AE [x] us->∃u,us=[u]/\AK x u:=by
 intro x us h;cases h with
 |
  cons r q=>
  cases q;exact⟨_,rfl,r⟩
theorem AE.two:∀{x y:V} {us:List Value},AE [x,y] us->∃u v,us=[u,v]/\AK x u/\AK y v:=by
 intro x y us h;cases h with
 |
  cons r q=>
  obtain⟨v,rfl,z⟩:=AE.one q;exact⟨_,_,rfl,r,z⟩
theorem AE.zero:∀{us:List Value},AE [] us->us=[]
 |_,.nil=>rfl
theorem AE.dropLast {xs:List V}{us:List Value}(h:AE xs us):AE xs.dropLast us.dropLast:=by
 induction h with
 |nil=>exact .nil
 |
  cons r t ih=>
  cases t with
  |nil=>exact .nil
  |cons q t'=>exact .cons r ih
theorem AE.rep {xs:List V}{us:List Value}(h:AE xs us):∀k:Nat,AE (List.replicate k xs).flatten (List.replicate k us).flatten
 |0=>.nil
 |
  k+1=>by
  rw[Ib,Ib,Hd,Hd];exact AE.append h (AE.rep h k)
theorem Xg {α:Type}(l:List α):l.eraseIdx (l.length-1)=l.dropLast:=by
 induction l with
 |nil=>rfl
 |
  cons a r ih=>
  cases r with
  |nil=>rfl
  |
   cons b r=>
   have e:(a::b::r).length-1=((b::r).length-1)+1:=by
    have h1:(a::b::r).length=r.length+2:=rfl;have h2:(b::r).length=r.length+1:=rfl;lia
   rw[e,List.eraseIdx_cons_succ,ih]
   all_goals rfl
theorem Pb (its:List Value):∀(k:Nat) (acc:List Value),
  List.foldl (λx1 x2=>x1++x2) acc.toArray (List.replicate k its.toArray)=(acc++(List.replicate k its).flatten).toArray
 |0,acc=>by simp
 |
  k+1,acc=>by
  have e:acc.toArray++its.toArray=(acc++its).toArray:=by simp
  have e2:(acc++its)++(List.replicate k its).flatten=acc++(List.replicate (k+1) its).flatten:=by
   rw[Ib,Hd,Br]
  rw[←e2,←Pb its k (acc++its),←e,Ib,List.foldl_cons]
section
variable {X:Cx}{pins:List (Addr×Obj)}{σ:St}{H:Hp}{s:Shared}{l b:Addr}{xs ys zs:List V}
theorem A7.lset {its its':List Value}{n:Nat}{f:Array Value->Array Value}{t':Nat}(I:A7 X pins σ H s)(hH:H l=some (.lst xs))
  (e:s.heap.get? l=some {cls:=.type "list",data:=.seq its.toArray n}) (hf:f its.toArray=its'.toArray) (hv:AE ys its') (hz:ys.length<=sizeLine) :
  A7 X pins σ (upd H l (.lst ys)) {s with heap:=s.heap.update l (Obj.mapSeq f),toks:=t'}:=by
 have q:=PySem.IsL.update e f;rw[hf]at q;refine I.write (x:=l) (e:=l) (by rw[hH];exact trivial) (.inl rfl) (λb' u hb hu=>(Gd s.heap (Obj.mapSeq f) (Ne.symm hb)).trans hu) ⟨_,q⟩ ?_;exact⟨hz,its',_,hv,q⟩
theorem A7.lnew {its:List Value}{t':Nat}(I:A7 X pins σ H s)(hv:AE ys its)(hz:ys.length<=sizeLine) :
  A7 X pins σ (upd H s.heap.objs.size (.lst ys)) {s with heap:=s.heap.push {cls:=.type "list",data:=.seq its.toArray},toks:=t'}:=
 I.laid (λ_ _ q=>Bz _ q) (Aq _) ⟨hz,its,0,hv,Dl _ rfl⟩
theorem A7.fresh (I:A7 X pins σ H s):H s.heap.objs.size=none:=I.hok.fresh (Aq _)
theorem A7.lstM (I:A7 X pins σ H s)(hH:H l=some (.lst xs)):xs.length<=sizeLine/\∃(its:List Value) (n:Nat),AE xs its/\xs.length=its.length/\s.heap.get? l=some {cls:=.type "list",data:=.seq its.toArray n}:=by
 obtain⟨z,its,n,r,e⟩:=I.hok l _ hH;exact⟨z,its,n,r,r.length,e⟩
theorem TY {n:Nat}(h:n<=sizeLine):Builtin.List.listTooLong n=false:=by
 unfold Builtin.List.listTooLong;exact Bg (by lia)
end
section
variable {X:Cx}
def QI:V->List V->Hp->VK->Prop:=λx vs H Q=>∃l xs y,x = .ref l/\vs=[y]/\H l=some (.lst xs)/\xs.length<sizeLine/\Q .non (upd H l (.lst (xs++[y])))
theorem Ct:Pq X "list.append" QI:=by
 intro pins s σ H x vs v us Q I rx rv h;obtain⟨l,xs,y,rfl,rfl,hH,hz,q⟩:=h;cases rx;obtain⟨u,rfl,ru⟩:=rv.one;obtain⟨z,its,n,r,hl,e⟩:=I.lstM hH;refine Gn F.slot_list_append ⟨_,e,rfl⟩ F.entry_list_append (F.args_list_append_2 _ _) (PySem.list_append l its.toArray n u (by rw[BX];lia)) ⟨e,?_⟩;refine⟨.non,_,I.lset (its':=its++[u]) hH e (by simp) (r.append (.cons ru .nil)) ?_,rfl,q⟩;rw[An,Bf];lia
def Yu:V->List V->Hp->VK->Prop:=λx vs H Q=>∃l xs y,x = .ref l/\vs=[]/\H l=some (.lst xs)/\xs[xs.length-1]?=some y/\Q y (upd H l (.lst xs.dropLast))
theorem Eg:Pq X "list.pop" Yu:=by
 intro pins s σ H x vs v us Q I rx rv h;obtain⟨l,xs,y,rfl,rfl,hH,hy,q⟩:=h;cases rx;have hus:=rv.zero;subst hus;obtain⟨z,its,n,r,hl,e⟩:=I.lstM hH;obtain⟨u,hu,ru⟩:=r.get hy;have hy':its.toArray[its.toArray.size-1]?=some u:=by
  show its.toArray[its.length-1]?=some u;rw[←Array.getElem?_toList,←hl];exact hu
 refine Gn F.slot_list_pop ⟨_,e,rfl⟩ F.entry_list_pop (F.args_list_pop_1 _) (MeetsSeq.list_pop_last l its.toArray n u hy' (by rw[BX];lia)) ⟨e,?_⟩;refine⟨y,_,I.lset (its':=its.dropLast) hH e ?_ r.dropLast ?_,ru,q⟩
 .show its.toArray.eraseIdxIfInBounds (its.toArray.size-1)=its.dropLast.toArray;rw[BX,List.eraseIdxIfInBounds_toArray,Xg]
 .rw[LF];lia
def UH:R2:=λx y H Q=>∃l b xs zs,x = .ref l/\y = .ref b/\H l=some (.lst xs)/\H b=some (.lst zs)/\xs.length+zs.length<=sizeLine/\∀p,H p=none->Q (.ref p) (upd H p (.lst (xs++zs)))
theorem BK:BL X (binaryOp .Add) UH:=by
 intro pins s σ H x y v u Q I rx ry h;obtain⟨l,b,xs,zs,rfl,rfl,hH,hB,hz,q⟩:=h;cases rx;cases ry;obtain⟨z,its,n,r,hl,e⟩:=I.lstM hH;obtain⟨z2,its2,n2,r2,hl2,e2⟩:=I.lstM hB;refine PySem.P.add_list e e2 ?_ (by rw[BX,BX];lia);have ea:its.toArray++its2.toArray=(its++its2).toArray:=by simp
 rw[ea];exact⟨.ref _,_,I.lnew (t':=s.toks) (r.append r2) (by rw[An];lia),rfl,q _ I.fresh⟩
def YK:R2:=λx y H Q=>∃l k xs,x = .ref l/\y = .int k/\H l=some (.lst xs)/\-(2 ^ 63)<=k/\k<2 ^ 63/\xs.length*k.toNat<=sizeLine/\
 ∀p,H p=none->Q (.ref p) (upd H p (.lst (List.replicate k.toNat xs).flatten))
theorem RF {α:Type}(xs:List α)(k:Nat):(List.replicate k xs).flatten.length=k*xs.length:=by
 induction k with
 |zero=>simp
 |succ k ih=>rw[Ib,Hd,An,ih,Nat.succ_mul,Nat.add_comm]
theorem Pd:BL X (binaryOp .Mult) YK:=by
 intro pins s σ H x y v u Q I rx ry h;obtain⟨l,k,xs,rfl,rfl,hH,h1,h2,hz,q⟩:=h;cases rx;obtain⟨t,rfl⟩:=ry;obtain⟨z,its,n,r,hl,e⟩:=I.lstM hH;have hlen:its.toArray.size*k.toNat<=sizeLine:=by rw[BX,←hl];exact hz
 have hcap:¬its.toArray.size*k.toNat>(2 ^ 63-1)/8:=by
  have:(sizeLine:Nat)<=(2 ^ 63-1)/8:=by decide
  lia
 have hfit:¬(!Builtin.List.listFitsIndex k)=true:=by
  rw[fitsIndex_both h1 h2];exact C6
 have hlong:¬Builtin.List.listTooLong (its.toArray.size*k.toNat)=true:=by
  rw[TY hlen];exact C6
 have hnew:List.foldl (λx1 x2=>x1++x2) #[] (List.replicate (if its.toArray.isEmpty=true then 0 else k.toNat) its.toArray)=(List.replicate k.toNat its).flatten.toArray:=by
  have f0:∀m:Nat,List.foldl (λx1 x2=>x1++x2) #[] (List.replicate m its.toArray)=(List.replicate m its).flatten.toArray:=λm=>by
   have:=Pb its m [];rw[FM]at this;exact this
  rw[f0];cases its with
  |nil=>simp
  |cons a r'=>rw[A9 (by simp)]
 refine wpAny_binaryOp_repeat_ref (T:="list") (U:="int") (by decide) ⟨_,e,rfl⟩ (λs'=>typeIs_int s' k t) noFill_list_mul F.fills_int_mul F.slot_int_rmul repeat_list F.slot_int_index.lookup
  (Gn F.slot_int_rmul (typeIs_int s k t) F.entry_int_rmul (F.args_int_rmul_2 _ _) (int___rmul___int_list k t l its.toArray n)
   ⟨e,rfl,⟨_,e,rfl⟩,Gn F.slot_list_mul ⟨_,e,rfl⟩ F.entry_list_mul (F.args_list_mul_2 _ _) (AutoListH.list___mul___list_int_3 l its.toArray n k t hfit hcap hlong) ⟨e,?_⟩⟩)
 rw[hnew];exact⟨.ref _,_,I.lnew (t':=s.toks) (r.rep k.toNat) (by rw[RF,Nat.mul_comm];exact hz),rfl,q _ I.fresh⟩
end
section
variable {prog:Program}{w:World}{A:Around}{E:Value->Shared->Prop}{s:Shared}
set_option maxRecDepth 100000 in
end
section
variable {X:Cx}
end
section
variable {κ:Type}[DecidableEq κ]
def D9 (kvs:List (κ×V))(k:κ):Option V:=(kvs.find? λkv=>decide (kv.1=k)).map (·.2)
def FG (kvs:List (κ×V))(k:κ)(v:V):List (κ×V):=
 if(kvs.any λkv=>decide (kv.1=k))=true then kvs.map (λkv=>if kv.1=k then(kv.1,v) else kv) else kvs++[(k,v)]
theorem RU {p:κ×V}{r:List (κ×V)}{k:κ}(e:p.1=k):D9 (p::r) k=some p.2:=by simp[D9,LG,e]
theorem SW {p:κ×V}{r:List (κ×V)}{k:κ}(e:¬p.1=k):D9 (p::r) k=D9 r k:=by simp[D9,LG,e]
theorem RJ (kvs:List (κ×V))(k:κ)(v:V):(FG kvs k v).length<=kvs.length+1:=by
 unfold FG;split
 .rw[Ag];lia
 .rw[An,AJ,Jj];lia
theorem KV.val {kvs:List (κ×V)}{vs:List (κ×Value)}(r:KV kvs vs)(k:κ):F9 (D9 kvs k) (valueAt vs k):=by
 unfold KV at r;induction r with
 |nil=>exact True.intro
 |
  @cons p q ps qs h t ih=>
  obtain⟨h1,h2⟩:=h;by_cases e:p.1=k
  .have e':q.1=k:=h1.symm.trans e;have b:valueAt (q::qs) k=some q.2:=by simp[valueAt,LG,e']
   rw[RU e,b];exact h2
  .have e':¬q.1=k:=λz=>e (h1.trans z);have b:valueAt (q::qs) k=valueAt qs k:=by simp[valueAt,LG,e']
   rw[SW e,b];exact ih
theorem KV.any {kvs:List (κ×V)}{vs:List (κ×Value)}(r:KV kvs vs)(k:κ):(kvs.any λkv=>decide (kv.1=k))=vs.any λkv=>decide (kv.1=k):=by
 unfold KV at r;induction r with
 |nil=>rfl
 |cons h t ih=>rw[Ji,Ji,ih,h.1]
theorem KV.repl {kvs:List (κ×V)}{vs:List (κ×Value)}(r:KV kvs vs)(k:κ){y:V}{u:Value}(ry:AK y u) :
  KV (kvs.map λkv=>if kv.1=k then(kv.1,y) else kv) (vs.map λkv=>if kv.1=k then(kv.1,u) else kv):=by
 unfold KV at r ⊢;induction r with
 |nil=>exact .nil
 |
  @cons p q ps qs h t ih=>
  rw[BE,BE];refine .cons ?_ ih;obtain⟨h1,h2⟩:=h;by_cases e:p.1=k
  .rw[Ac e,Ac (h1.symm.trans e)];exact⟨h1,ry⟩
  .rw[A9 e,A9 (λz=>e (h1.trans z))];exact⟨h1,h2⟩
theorem KV.put {kvs:List (κ×V)}{vs:List (κ×Value)}(r:KV kvs vs)(k:κ){y:V}{u:Value}(ry:AK y u):KV (FG kvs k y) (stored vs k u):=by
 unfold FG stored;rw[r.any k];by_cases e:(vs.any λkv=>decide (kv.1=k))=true
 .rw[Ac e,Ac e];exact r.repl k ry
 .rw[A9 e,A9 e];exact Paired.snoc r ⟨rfl,ry⟩
theorem KV.length {kvs:List (κ×V)}{vs:List (κ×Value)}(r:KV kvs vs):kvs.length=vs.length:=Paired.length r
end
theorem K7 {P:Program}{w:World}{k:Bp}{u:Value}(r:AK (kV k) u):(DL P w).is k u=true:=by
 cases k with
 |inl i=>obtain⟨t,e⟩:=(show ∃t,u=Value.int i t from r);subst e;exact Sh P w i t
 |inr x=>obtain⟨t,e⟩:=(show ∃t,u=Value.str x t from r);subst e;exact WA P w x t
theorem QT {P:Program}{w:World}:∀{ks:List Bp} {us:List Value},AE (ks.map kV) us->ItemsAre (DL P w) ks us
 |[],_,r=>by rw[List.map_nil]at r;cases r;exact .nil
 |
  k::ks,_,r=>by
  rw[BE]at r;cases r with
  |cons h t=>exact .cons (K7 h) (QT t)
abbrev KT (H:Hp):List (List Bp×V)->List (List Bp×Addr×Value)->Prop:=Paired λp q=>p.1=q.1/\H q.2.1=some (.tup (p.1.map kV))/\AK p.2 q.2.2
section
variable {P:Program}{w:World}{H:Hp}{h:Heap}{a:Addr}
theorem QR {u:HO}(ok:BA P w H h)(e:Rd H a u):BN P w H h a u:=e.ok ok
theorem O6 {kvs:List (Bp×V)}(ok:BA P w H h)(e:Rd H a (.dK kvs)):kvs.length<=sizeLine/\(a==sysModules)=false/\∃vs,KV kvs vs/\h.DictOf (DL P w) a vs:=
 show BN P w H h a (.dK kvs) from QR ok e
theorem Y7 {kvs:List (Bp×V)}(ok:BA P w H h)(e:H a=some (.dK kvs)):kvs.length<=sizeLine/\(a==sysModules)=false/\∃vs,KV kvs vs/\h.DictOf (DL P w) a vs:=O6 ok (.inl e)
theorem YC {ks:List Bp}(ok:BA P w H h)(e:H a=some (.tup (ks.map kV))):(tupleKind (DL P w)).is h ks a:=by
 obtain⟨_,its,r,o,h1,h2,⟨n,h3⟩,_⟩:=(show BN P w H h a (.tup (ks.map kV)) from ok a _ e)
 exact⟨o,its.toArray,n,h1,h2,h3,by simpa using QT r⟩
theorem Sw {kvs:List (List Bp×V)}(ok:BA P w H h)(e:Rd H a (.dT kvs)):kvs.length<=sizeLine/\(a==sysModules)=false/\
  ∃xs,KT H kvs xs/\h.DictOfH (tupleKind (DL P w)) a xs:=by
 obtain⟨z,y,xs,r,o,es,ep,h1,h2,h3,h4,h5⟩:=(show BN P w H h a (.dT kvs) from QR ok e)
 refine⟨z,y,xs,r,o,es,ep,h1,h2,h3,h4,λx hx=>?_,h5⟩;have all:∀{l:List (List Bp×V)} {m:List (List Bp×Addr×Value)},KT H l m->∀x∈m,(tupleKind (DL P w)).is h x.1 x.2.1:=by
  intro l m q;induction q with
  |nil=>intro x hx;exact nomatch hx
  |
   @cons p q ps qs hq t ih=>
   intro x hx;rcases Av.mp hx with e|hx
   .subst e;exact YC ok (by rw[←hq.1];exact hq.2.1)
   .exact ih x hx
 exact all r x hx
end
section
variable {X:Cx}{pins:List (Addr×Obj)}{σ:St}{H:Hp}{s:Shared}{a:Addr}{y v:V}{u r:Value}{o:Option V}{A:Around}{E:Value->Shared->Prop}
theorem A7.big (I:A7 X pins σ H s):sysModules<s.heap.objs.size:=by
 have h:mainGlobals<s.heap.objs.size:=(I.mod.glob.keeps I.bk).lt;exact Nat.lt_trans (by decide) h
theorem V4 {h':Heap}{t':Nat}{ob:HO}(I:A7 X pins σ H s)(mu:Ip (H a))(hs:Heap.SameBut a s.heap h')(he:∃q,h'.get? a=some q)(new:BN X.prog X.w (upd H a ob) h' a ob) :
  A7 X pins σ (upd H a ob) {s with heap:=h',toks:=t'}:=
 I.write (x:=a) (e:=a) mu (.inl rfl) (λb q hb z=>(hs.2 b hb).trans z) he new
theorem Tv {P:Program}{w:World}{H':Hp}{h':Heap}{kvs:List (Bp×V)}{vs:List (Bp×Value)}(z:kvs.length<=sizeLine)(hd:(a==sysModules)=false)(rel:KV kvs vs)(dd:h'.DictOf (DL P w) a vs) :
 BN P w H' h' a (.dK kvs):=⟨z,hd,vs,rel,dd⟩
end
section
variable {X:Cx}{pins:List (Addr×Obj)}{σ:St}{H:Hp}{s:Shared}{a:Addr}{kvs:List (Bp×V)}{k:Bp}{u:Value}{A:Around}{E:Value->Shared->Prop}
end
def OX (i:Expr):Prop := ∀ov iv,subscripted i false ov iv=operate [ov,iv] (getItem ov iv)
theorem SX {prog:Program}{w:World}{A:Around}{E:Value->Shared->Prop}{s:Shared}{env:Env}{value slice:Expr}{pos:Pos}{T id:String}{Q:Value->Shared->Prop}
  (hl:typeLookup (.type T) "__getitem__"=pure (some (.builtin id))) (hs:OX slice)
  (h:wpAny (model prog w) A (eval value env) (λo s₁=>wpAny (model prog w) A (eval slice env) (λi s₂=>s₂.TypeIs o T/\wpAny (model prog w) A (getItem o i) Q E s₂) E s₁) E s) :
  wpAny (model prog w) A (eval (.Subscript value slice pos) env) Q E s:=by
 refine Subscript_ (CV h (λo s₁ h₁=>CV h₁ (λi s₂ h₂=>?_) λ_ _ x=>x) λ_ _ x=>x);obtain⟨hT,h₂⟩:=h₂;unfold subscriptTail;refine Ao ?_;rw[getitemInPython_of_ne hT.not_modules];refine Ao (wpAny_specialOf hT hl ?_);have fin:wpAny (model prog w) A (subscripted slice false o i) (λr s₃=>wpAny (model prog w) A (letTemporaryGo value o r>>=λ_=>pure r) Q E s₃) E s₂:=by
  rw[hs o i];exact wpAny_operating (CV h₂ (λr s₃ h₃=>Ao (wpAny_letTemporaryGo (Bj h₃))) λ_ _ x=>x)
 first
  |exact Bj (Ao fin)
  |exact Ao (Bj (Ao fin))
  |exact Ao fin
section
variable {X:Cx}{o i e value:Expr}{pos pos' tpos:Pos}{td ty tv:TE}
end
theorem Vn {P:Program}{w:World}{H:Hp}(h:Heap)(hb:sysModules<h.objs.size):BN P w H (h.push {cls:=.type "dict",data:=.dict #[]}) h.objs.size (.dK []):=
 ⟨BI _,EF.mpr (Ne.symm (Ca hb)),[],.nil,Heap.DictOf.new h⟩
def YT:TE:=λ_ H Q=>∀p,H p=none->Q (.ref p) (upd H p (.dK []))
section
variable {X:Cx}{pos:Pos}
theorem XM:PE X (.Dict [] [] pos) YT:=λpins s σ H Q I h=>
 wpAny_Dict_empty ⟨.ref s.heap.objs.size,_,I.laid (a:=s.heap.objs.size) (o:=.dK []) (t':=s.toks) (λ_ _ q=>Bz _ q) (Aq _) (Vn s.heap I.big),rfl,h _ (I.hok.fresh (Aq _))⟩
end
structure M2 (X:Cx)(o:Expr)(m:Str)(apos:Pos)(e f:Expr)(cpos:Pos):Prop where
 base:attributeBase o m X.env (eval o X.env)=eval o X.env
 few:((backTo cpos (starEach [e,f] X.env)).all (λx=>!x.1)&&(backToKw cpos (keywordEach [] X.env)).all (λx=>x.1.isSome)
  && decide (([e,f]:List Expr).length+([]:List Keyword).length+(if([]:List Keyword).isEmpty then 0 else 1)<30))=true
 line:(apos.endLine==cpos.line)=true
 trees:backTo cpos (starEach [e,f] X.env)=[(false,eval e X.env),(false,eval f X.env)]
def Q5 (H:Hp)(a:Addr):Prop:=(∃kvs,Rd H a (.dK kvs))\/∃kvs,Rd H a (.dT kvs)
theorem Z6 {X:Cx}{pins:List (Addr×Obj)}{σ:St}{H:Hp}{s:Shared}{a:Addr}(I:A7 X pins σ H s)(d:Q5 H a) :
  s.TypeIs (.ref a) "dict"/\(∀b,Value.ref a = .ref b->∃ob,s.heap.get? b=some ob/\ob.dict=none)/\(a==sysModules)=false:=by
 rcases d with⟨kvs,e⟩|⟨kvs,e⟩
 .obtain⟨_,hd,vs,_,dd⟩:=O6 I.hok e;refine⟨dd.typeIs,λb q=>?_,hd⟩;cases q;obtain⟨ob,_,_,h1,h2,_⟩:=dd;exact⟨ob,h1,h2.2.1⟩
 .obtain⟨_,hd,xs,_,dd⟩:=Sw I.hok e;refine⟨dd.typeIs,λb q=>?_,hd⟩;cases q;obtain⟨ob,_,_,h1,h2,_⟩:=dd;exact⟨ob,h1,h2.2.1⟩
section
variable {X:Cx}{pins:List (Addr×Obj)}{σ:St}{H:Hp}{s:Shared}{a:Addr}{y d:V}{u r:Value}{o:Option V}{A:Around}{E:Value->Shared->Prop}
end
section
variable {X:Cx}{o e f:Expr}{apos cpos:Pos}{td ty tx:TE}
end
section
variable {X:Cx}{pins:List (Addr×Obj)}{σ:St}{H:Hp}{s:Shared}{a:Addr}{kvs:List (Bp×V)}{A:Around}{E:Value->Shared->Prop}
end
section
variable {X:Cx}{pins:List (Addr×Obj)}{σ:St}{H:Hp}{s:Shared}{a:Addr}{y:V}{u:Value}{A:Around}{E:Value->Shared->Prop}
end
end L2
namespace Att
open PySem PySem.W PySem.Calls PyProof.Rows
theorem X1 {P:Params}{h:Heap}:∀(ns:List Int) (vs:List Value),WellAll P h vs (ns.map WData.int)->IntsAre vs ns:=by
 intro ns;induction ns with
 |
  nil=>
  intro vs w;rw[List.map_nil]at w;cases w;exact .nil
 |
  cons n ns ih=>
  intro vs w;rw[BE]at w;cases w with
  |
   cons a b=>
   cases a;exact .cons _ _ (ih _ b)
theorem Xs {l:OpenLaw}{n:Nat}(hn:l.most=some n){P:Params}{h:Heap}{args:List WData}{vals:List Value}
  (hpre:l.row.toRowW.claim.pre args=true) (hwl:WellAll P h vals args) :
  ∃a vs ns,vals=[Value.ref a]/\args=[WData.list (ns.map WData.int)]/\h.get? a=some {cls:=.type "list",data:=.seq vs.toArray}/\IntsAre vs ns/\ns.length<=n:=by
 have hsh:WShape.hasAll [] args [.list .int]=true:=(pre_splitW hpre).1;have hc:l.pre.holds [] {args:=args}=true:=(pre_splitW hpre).2;obtain⟨d,r,rfl,h1,h2⟩:=hasAllW_cons hsh;obtain rfl:=hasAllW_nil h2;obtain⟨xs,rfl,h3⟩:=hasW_list h1;obtain⟨ns,rfl⟩:=items_int h3;have hlen:ns.length<=n:=by
  unfold OpenLaw.pre at hc;have h4:(WTm.not (.lt (.lit (.int (n:Int))) (.len (.arg 0)))).holds [] {args:=[.list (ns.map .int)]}=true:=by
   have h4:=(holds_andW hc).1;rw[hn]at h4;exact h4
  have h5:=condW_of h4 (w_not (w_lt w_lit (w_len_list (w_arg rfl))));rw[Ag]at h5;refine Nat.le_of_not_lt λq=>?_;have q':(n:Int)<((ns.length:Nat):Int):=by lia
  first
   |(rw[Bc q']at h5;exact absurd h5 (by decide))
   |(simp at h5;lia)
 cases hwl with
 |
  cons w1 w2=>
  cases w2;cases w1 with
  |list ho hall=>exact⟨_,_,ns,rfl,rfl,ho,X1 ns _ hall,hlen⟩
theorem U0 (l:OpenLaw)(args:List WData):l.row.toRowW.claim.post args (.bool true) args=true:=
 postW_of (r:=l.row.toRowW) (X:=(true==true))
  (show WShape.has [] (.bool true) .bool=true by first|rfl|decide|simp[WShape.has,WShape.arms,WShape.armsAll])
  (show(WTm.eq .res (.lit (.bool true))).value [] {args:=args,res:=some (.bool true),after:=args}=some (.bool (true==true)) from w_eq_bool (w_res rfl) w_lit) rfl
theorem attach_call {l:OpenLaw}{n:Nat}{q:Program}{loose:List Str}{XP:(Str->Option Value)->Heap->Prop}{YP:World->Heap->Prop}{d:DefRec}
  (hn:l.most=some n) (hdf:d.params.defaults=[])
  (call:∀(w:World) (s₀ s₁:Shared) (mg mb:Str->Option Value) (fa:Addr) (o:Obj) (pm cd doc:Value) (a:Addr) (vs:List Value) (ns:List Int),
   Ground q loose [] XP w s₀ mg mb s₁.heap->YP w s₁.heap->
   s₁.heap.get? fa=some o->o.data = .func (docDef d.name d.params d.body d.scope pm cd doc)->s₁.heap.CodeRec cd d.name->mg d.name=some (.ref fa)->
   s₁.heap.get? a=some {cls:=.type "list",data:=.seq vs.toArray}->IntsAre vs ns->ns.length<=n->s₁.gens = #[]->
   codeAny (model l.prog w) callerA (.call (.ref fa) ⟨[.ref a],[]⟩) (λr s'=>r = .ok (.ret (.bool true))/\OldK s₁.heap s'.heap/\s'.os=s₁.os/\AllBare s'.gens) s₁) :
  WalkO q loose XP YP l.row.toRowW d [] (λf vs=>PySem.call f vs):=by
 intro w s₀ s₁ mg mb G Y fa o pm cd doc dV kV ho hd hcd hD hmg hg args vals as hpre hlay hrd hwl hlo;obtain rfl:dV = .none:=Dflts.none hD hdf;obtain rfl:kV = .none:=Dflts.noKw hD;obtain⟨a,vs,ns,rfl,rfl,hobj,hints,hlen⟩:=Xs hn hpre hwl;refine enter_call (Gk (call w s₀ s₁ mg mb fa o pm cd doc a vs ns G Y ho (fd_plain hd) hcd hmg hobj hints hlen hg) λr s' hq=>?_);obtain⟨rfl,h2,h3,h4⟩:=hq;exact⟨.inl ⟨.bool true,.bool true,[],rfl,λ_=>rfl,.bool true,U0 l _,λ_=>⟨List.Pairwise.nil,λ_ hm=>(nomatch hm)⟩⟩,h2,h3,h4⟩
section
variable {prog:Program}{w:World}{A:Around}{E:Value->Shared->Prop}{s:Shared}{K:Frag}
end
end Att
namespace L2
open PySem PySem.Spec PyProof.Rows
theorem QG:∀{vs:List Value} {ns:List Int},IntsAre vs ns->AE (ns.map V.int) vs
 |_,_,.nil=>.nil
 |_,_,.cons n t h=>.cons ⟨t,rfl⟩ (QG h)
def JR (H:Hp):Prop := ∀b,H b=none\/∃o xs,H b=some (.frz o (.lst xs))
theorem Vk {P:Program}{w:World}{K:Zc}{mg mb:Str->Option Value}{CX:DS}{k:Nat}{fa a:Addr}{fd:FuncData}{x:Str}{sp:Sp}{s₁:Shared}{vs:List Value}{ns:List Int}
  (KX:K.In s₁.heap) (hns:s₁.heap.Ns mainGlobals mg) (hb:s₁.heap.Ns builtinsNs mb) (hbb:∀x:Str,x≠"__name__"->mb x=bootBuiltins x) (hlim:s₁.heap.NoLimit) (hg:s₁.gens = #[])
  (ha:s₁.heap.get? a=some {cls:=.type "list",data:=.seq vs.toArray}) (hi:IntsAre vs ns) (hl:ns.length<=sizeLine) (hr:Ci k callerA)
  (F:∀base:Heap,K.In base->base.Ns mainGlobals mg->AQ P w K mg base CX k fa fd [x] sp) (hbind:∀(s:Shared) (u:Value),BindsTo s fd ⟨[u],[]⟩ [(x,u)])
  (hsp:∀H:Hp,JR H->A4 K H a (ns.map V.int)->sp [.ref a] H (λv _=>v = .bl true) λ_ _ _=>False)
  (hCX:∀H e s',CX [] H s₁ (λ_ _ _=>False) e s'->False) :
  codeAny (model P w) callerA (.call (.ref fa) ⟨[.ref a],[]⟩) (λr s'=>r = .ok (.ret (.bool true))/\OldK s₁.heap s'.heap/\s'.os=s₁.os/\AllBare s'.gens) s₁:=by
 have rv:=QG hi;have lenV:=hi.length;have core:∀H:Hp,JR H->A4 K H a (ns.map V.int)->BA P w H s₁.heap->(∀b,H b≠none->b=a)->(H a≠none->K.lookup a=none)->
   codeAny (model P w) callerA (.call (.ref fa) ⟨[.ref a],[]⟩) (λr s'=>r = .ok (.ret (.bool true))/\OldK s₁.heap s'.heap/\s'.os=s₁.os/\AllBare s'.gens) s₁:=by
  intro H hO hS hok hA hK;have base_of:∀{b:Addr} {o:Obj},s₁.heap.get? b=some o->H b=none->(Fy s₁.heap H).get? b=some o:=λe n=>X8 e n;have noA:∀{b:Addr} {o:Obj} {es:Array DictEntry} {ep:Nat},s₁.heap.get? b=some o->o.data = .dict es ep->H b=none:=fun{b o es ep} e d=>by
   cases q:H b with
   |none=>rfl
   |
    some u=>
    have e':b=a:=hA b (by rw[q];simp);subst e';rw[ha]at e;cases e;have d':Data.seq vs.toArray _=Data.dict es ep:=d;cases d'
  have nsK:∀{b:Addr} {m:Str->Option Value},s₁.heap.Ns b m->(Fy s₁.heap H).Ns b m:=fun{b m} ⟨o,es,ep,e,d,r⟩=>⟨o,es,ep,base_of e (noA e d),d,r⟩
  have hKb:K.In (Fy s₁.heap H):=λb o e=>base_of (KX b o e) (by
   cases q:H b with
   |none=>rfl
   |
    some u=>
    have e':b=a:=hA b (by rw[q];simp);subst e';rw[hK (by rw[q];simp)]at e;cases e)
  have hM:Mod K mg (Fy s₁.heap H):=⟨hKb,nsK hns,⟨mb,nsK hb,hbb⟩,let ⟨mc,h1,h2⟩:=hlim;⟨mc,nsK h1,h2⟩⟩
  have e0:Gx P w K mg (Fy s₁.heap H) callerA [] s₁ H:=⟨rfl,hM,λb o e=>SD e,Nat.le_of_eq (WD _ _),trivial,λb hb=>absurd (show b∈([]:List Addr) from hb) (by simp),hok,.of_eq hg⟩
  refine Gk ((F _ hKb (nsK hns)).run callerA [] s₁ H ⟨[.ref a],[]⟩ [.ref a] [.ref a] _ _ hr e0 (hbind s₁ (.ref a)) (.cons rfl .nil) (hsp H hO hS)) λr s' h=>?_;cases r with
  |error e=>exact(hCX H e s' h).elim
  |
   ok fl=>
   cases fl with
   |next=>exact False.elim h
   |brk=>exact False.elim h
   |cont=>exact False.elim h
   |
    ret u=>
    obtain⟨v,H',os,bare,un,hok',r',q⟩:=h;have q':v = .bl true:=q;subst q';obtain rfl:u=Value.bool true:=r';refine⟨rfl,OldK.of_keep λb o e=>?_,os,bare⟩;cases q:H b with
    |none=>exact un.keep b o e q (by intro z;exact absurd (show b∈([]:List Addr) from z) (by simp)) (by simp)
    |
     some u=>
     rcases hO b with z|⟨ob,xs,z⟩
     .rw[q]at z;cases z
     .have z2:=un.frzs b ob _ z;obtain⟨e1,_⟩:=hok b _ z;obtain⟨e2,_⟩:=hok' b _ z2;rw[e]at e1;cases e1;exact e2
 cases hk:K.lookup a with
 |
  some o=>
  have e:=KX a o hk;rw[ha]at e;cases e;refine core (λ_=>none) (λ_=>.inl rfl) (.inr ⟨_,vs.toArray,_,hk,rfl,rfl,rfl,by rw[BX,lenV];exact hl,by simpa using rv⟩) (λb u z=>by have z':(none:Option HO)=some u:=z;cases z') (λb z=>absurd rfl z) λz=>absurd rfl z
 |
  none=>
  refine core (λb=>if b=a then some (.frz {cls:=.type "list",data:=.seq vs.toArray} (.lst (ns.map V.int))) else none) (λb=>?_) (.inl (.inr ⟨{cls:=.type "list",data:=.seq vs.toArray},Ac rfl⟩)) (λb u z=>?_) (λb z=>?_) λ_=>hk
  .by_cases hb:b=a
   .exact .inr ⟨_,_,Ac hb⟩
   .exact .inl (A9 hb)
  .by_cases hb:b=a
   .have z':=(Ac hb).symm.trans z;cases z';subst hb;exact⟨ha,by rw[Ag];exact hl,vs,_,rv,ha⟩
   .have z':=(A9 hb).symm.trans z;cases z'
  .by_cases hb:b=a
   .exact hb
   .exact absurd (A9 hb) z
theorem walk_of {l:PySem.W.OpenLaw}{n k:Nat}{q:Program}{loose:List Str}{XP:(Str->Option Value)->Heap->Prop}{YP:World->Heap->Prop}{d:DefRec}{K:Params->Zc}{CX:World->DS}{sp:World->Sp}{x:Str}
  (hn:l.most=some n) (hn2:n<=sizeLine) (hdf:d.params.defaults=[]) (hr:Ci k callerA)
  (hY:∀(w:World) (h:Heap),YP w h->(K w.params).In h)
  (F:∀(w:World) (mg:Str->Option Value) (fa:Addr) (h:Heap),(K w.params).In h->h.Ns mainGlobals mg->mg d.name=some (.ref fa)->
   ∃fd:FuncData,(∀(s:Shared) (u:Value),BindsTo s fd ⟨[u],[]⟩ [(x,u)])/\
    ∀base:Heap,(K w.params).In base->base.Ns mainGlobals mg->AQ l.prog w (K w.params) mg base (CX w) k fa fd [x] (sp w))
  (hsp:∀(w:World) (H:Hp) (a:Addr) (ns:List Int),ns.length<=n->JR H->A4 (K w.params) H a (ns.map V.int)->sp w [.ref a] H (λv _=>v = .bl true) λ_ _ _=>False)
  (hCX:∀(w:World) (H:Hp) (s:Shared) (e:Value) (s':Shared),CX w [] H s (λ_ _ _=>False) e s'->False) :
  PySem.W.WalkO q loose XP YP l.row.toRowW d [] (λf vs=>PySem.call f vs):=by
 refine Att.attach_call hn hdf λw s₀ s₁ mg mb fa o pm cd doc a vs ns G Y ho hd hcd hmg hobj hints hlen hg=>?_;have KX:=hY w _ Y;obtain⟨fd,hb,hF⟩:=F w mg fa _ KX G.T.g hmg;exact Vk KX G.T.g G.T.b G.T.builtins G.T.nolimit hg hobj hints (BP hlen hn2) hr hF hb (λH hO hS=>hsp w H a ns hlen hO hS) λH e s'=>hCX w H s₁ e s'
def Gb (s:Stmt)(j:Nat):Stmt:=match s with
 |.ClassDef _ _ _ body _ _ _ _ _ _ _=>body.getD j (.Pass ⟨0,0,0,0⟩)
 |_=>.Pass ⟨0,0,0,0⟩
def IE (s:Stmt):Arguments:=match s with
 |.FunctionDef _ a _ _ _ _ _ _ _ _=>a
 |_=>{posonlyargs:=[],args:=[],vararg:=none,kwonlyargs:=[],kw_defaults:=[],kwarg:=none,defaults:=[]}
def Gy (s:Stmt):List Stmt:=match s with
 |.FunctionDef _ _ b _ _ _ _ _ _ _=>b
 |_=>[]
def AF (s:Stmt):Scope:=match s with
 |.FunctionDef _ _ _ _ _ _ sc _ _ _=>sc
 |_=>{kind:=.function,names:=[],isGenerator:=false,isCoroutine:=false}
abbrev B3:DS:=λ_ _ _ _ _ _=>False
abbrev E0:XK:=λ_ _ _=>False
theorem Az {X:Cx}:G7 B3 X E0:=λ_ _ _ _ _ _ _ h=>h.elim
structure AZ (K:Zc)(x qual:Str)(st:Stmt)(f:Addr)(fd:FuncData):Prop where
 ex:∃(oc:Value) (od:Option Addr) (kV doc pm:Value) (an:Option Addr) (cdv ct:Value) (osl:Array (Option Value)),
  fd=PySem.W.fnOf x qual (IE st) (Gy st) (AF st) .none kV doc pm an cdv ct/\K.lookup f=some ⟨oc,od,.func fd,osl⟩/\PySem.W.codeIn K cdv qual=true
 kp:PySem.W.keepIn K (.ref f)=true
section
variable {P:Program}{w:World}{K:Zc}{mg:Str->Option Value}{base:Heap}
theorem AZ.ok {x qual:Str}{st:Stmt}{f:Addr}{fd:FuncData}{N ps:List Str}{k:Nat}{sp:Sp}(F:AZ K x qual st f fd)(S:B1 N ps (AF st))(len:∀vs H Q E,sp vs H Q E->vs.length=ps.length)
  (hbody:∀(cdv:Value) (A:Around) (outer:List Env) (s:Shared) (H:Hp) (vs:List V) (Q:VK) (E:XK),Ci k (A.deeper (envOfC qual (AF st) s.heap.objs.size f cdv))->sp vs H Q E->
   ∃t,Dy (FY B3 P w K mg base N qual (AF st) f cdv A outer s H E).nox (Gy st) t/\t {nx:=λ_ H'=>Q .non H',rt:=Q} (start N vs) H):AQ P w K mg base B3 (k+1) f fd ps sp:=by
 obtain⟨oc,od,kV,doc,pm,an,cdv,ct,osl,rfl,lk,hcd⟩:=F.ex;refine OC lk hcd S len λA outer s H vs Q E hr hsp=>?_;obtain⟨t,h,q⟩:=hbody cdv A outer s H vs Q E hr hsp;exact⟨t,h.nox,q⟩
theorem AZ.binds {x qual:Str}{st:Stmt}{f:Addr}{fd:FuncData}{ps:List Str}(F:AZ K x qual st f fd)
  (h:∀(kV doc pm:Value) (an:Option Addr) (cdv ct:Value) (us:List Value),us.length=ps.length->bindArgs (PySem.W.fnOf x qual (IE st) (Gy st) (AF st) .none kV doc pm an cdv ct) ⟨us,[]⟩=pure (ps.zip us)):AV K fd ps []:=by
 obtain⟨oc,od,kV,doc,pm,an,cdv,ct,osl,rfl,lk,hcd⟩:=F.ex;exact .all (h kV doc pm an cdv ct)
theorem fun_mk {x qual:Str}{st:Stmt}{f:Addr}{oc:Value}{od an:Option Addr}{osl:Array (Option Value)}{kV doc pm cdv ct:Value}(l:K.lookup f=some ⟨oc,od,.func (PySem.W.fnOf x qual (IE st) (Gy st) (AF st) .none kV doc pm an cdv ct),osl⟩)
 (c:PySem.W.codeIn K cdv qual=true) (k:PySem.W.keepIn K (.ref f)=true):AZ K x qual st f (PySem.W.fnOf x qual (IE st) (Gy st) (AF st) .none kV doc pm an cdv ct):=⟨⟨oc,od,kV,doc,pm,an,cdv,ct,osl,rfl,l,c⟩,k⟩
end
section
variable {X:Cx}
theorem pv (i:Nat){x:Str}{pos:Pos}(hN:X.N[i]?=some x:=by rfl)(hv:J9 X.env.scope x:=by first|exact Or.inl rfl|exact Or.inr (.inl rfl)|exact Or.inr (.inr rfl))(hd:(x==("__debug__":Str))=false:=by decide)
 (hcd:(x==("__classdict__":Str))=false:=by decide):PE X (.Name x pos) (EL i):=X2 hN hv hd hcd
end
theorem AL {A B:Prop}(h:B):if false=true then A else B:=by
 rw[A9 C6];exact h
theorem AG {A B:Prop}(h:A):if true=true then A else B:=by
 rw[Ac rfl];exact h
theorem AB {c A B:Prop}[Decidable c](h1:c->A)(h2:¬c->B):if c then A else B:=by
 by_cases h:c
 .rw[Ac h];exact h1 h
 .rw[A9 h];exact h2 h
def Ae (H H':Hp):Prop := ∀b o,H b=some o->H' b=some o
theorem Ae.refl (H:Hp):Ae H H:=λ_ _ h=>h
theorem Ae.trans {H H1 H2:Hp}(a:Ae H H1)(b:Ae H1 H2):Ae H H2:=λc o h=>b c o (a c o h)
theorem Ae.free {H H':Hp}(e:Ae H H'){l:Addr}(h:H' l=Option.none):H l=Option.none:=by
 cases q:H l with
 |none=>rfl
 |
  some o=>
  rw[e l o q]at h;cases h
theorem Ae.seq {K:Zc}{H H':Hp}{a:Addr}{xs:List V}(e:Ae H H')(h:A4 K H a xs):A4 K H' a xs:=by
 rcases h with(h|⟨o,h⟩)|h
 .exact .inl (.inl (e _ _ h))
 .exact .inl (.inr ⟨o,e _ _ h⟩)
 .exact .inr h
section
variable {κ:Type}[DecidableEq κ]
end
theorem Md (env:Env):∀(l:List (Str×NameKind)) (cs:List (Str×Addr)),(∀n,(n,NameKind.free)∈l->∃c,env.cells.lookup n=some c)->(∀x c,cs.lookup x=some c->env.cells.lookup x=some c)->
  ∃cl,(forIn l cs λx s=>if(x.snd==NameKind.free)=true then do let c ←cellOf env x.fst;pure (ForInStep.yield ((x.fst,c)::s)) else pure (ForInStep.yield s))=(pure cl:Sem (List (Str×Addr)))/\
   (∀x c,cl.lookup x=some c->env.cells.lookup x=some c)/\(∀n,(n,NameKind.free)∈l->∃c,cl.lookup n=some c)/\∀n c,cs.lookup n=some c->∃c',cl.lookup n=some c'
 |[],cs,_,h=>⟨cs,rfl,h,(λ_ z=>nomatch z),(λn c e=>⟨c,e⟩)⟩
 |
  (n,k)::r,cs,hf,h=>by
  by_cases hk:k = .free
  .subst hk;obtain⟨c,hc⟩:=hf n AH;have e:cellOf env n=pure c:=by unfold cellOf;rw[hc]
   obtain⟨cl,e1,h1,h2,h3⟩:=Md env r ((n,c)::cs) (λm hm=>hf m (B5 _ hm)) (λx c' q=>by
    rw[E1]at q;by_cases hx:x=n
    .subst hx;simp at q;subst q;exact hc
    .have:(x==n)=false:=by simpa using hx
     rw[this]at q;exact h x c' q)
   refine⟨cl,?_,h1,λm hm=>?_,λm c' q=>?_⟩
   .rw[List.forIn_cons];show((do let c ←cellOf env n;pure (ForInStep.yield ((n,c)::cs)))>>=_)=_;rw[e];exact e1
   .rcases Av.mp hm with z|z
    .cases z;exact h3 n c (by simp)
    .exact h2 m z
   .by_cases hx:m=n
    .subst hx;exact h3 m c (by simp)
    .have:(m==n)=false:=by simpa using hx
     exact h3 m c' (by rw[E1,this];exact q)
  .have hb:(k==NameKind.free)=false:=by simpa using hk
   obtain⟨cl,e1,h1,h2,h3⟩:=Md env r cs (λm hm=>hf m (B5 _ hm)) h;refine⟨cl,?_,h1,λm hm=>?_,h3⟩
   .rw[List.forIn_cons];dsimp only;rw[hb];exact e1
   .rcases Av.mp hm with z|z
    .cases z;exact absurd rfl hk
    .exact h2 m z
theorem Q0 {scope:Scope}{env:Env}(h:∀n,(n,NameKind.free)∈scope.names->∃c,env.cells.lookup n=some c) :
  ∃cl,closureFor scope env=pure cl/\(∀x c,cl.lookup x=some c->env.cells.lookup x=some c)/\∀n,(n,NameKind.free)∈scope.names->∃c,cl.lookup n=some c:=by
 obtain⟨cl,e,h1,h2,_⟩:=Md env scope.names [] h (λ_ _ z=>by simp at z);refine⟨cl,?_,h1,h2⟩;simp only[closureFor];rw[e];rfl
def D3 (X:Cx)(scope:Scope)(N':List Str)(cl:List (Str×Addr))(C:Addr)(s:Shared)(H:Hp)(fp:List Addr)(pins:List (Addr×Obj)):Cx where
 prog:=X.prog
 w:=X.w
 K:=X.K
 mg:=X.mg
 base:=X.base
 A:=X.A
 N:=N'
 s₀:=s
 H₀:=H
 env:=compEnvC scope cl C X.env
 outer:=X.stack
 stack:=X.stack
 ex:=fp
 calm:=X.calm
 fn:=λ_=>false
 pn:=X.pn++pins
 xe:=λ_ _=>False
structure Hz (sc:Scope)(out:Scope):Prop where
 kind:sc.kind = .function
 cell:∀y∈sc.names,y.2≠.cell
 loc:∀y∈sc.names,y.2 = .local->sc.names.lookup y.1=some .local
 free:∀y∈sc.names,y.2 = .free->out.names.lookup y.1=some .cell\/out.names.lookup y.1=some .free
def C1 (ρ:List (Option Nat))(σ:St):St:=ρ.map λo=>match o with|some i=>(σ[i]?).getD none|none=>none
def Jb (sc:Scope)(env:Env)(N N':List Str)(ρ:List (Option Nat)):Prop:=
 ρ.length=N'.length/\∀(j i:Nat) (x:Str),ρ[j]?=some (some i)->N'[j]?=some x->N[i]?=some x/\J9 env.scope x/\(x,NameKind.free)∈sc.names
theorem PZ {names:List (Str×NameKind)}{env:Env}{x:Str}{k:NameKind}(h:(names.map fun(n,k)=>if(k==NameKind.free&&env.scope.kind == .function&&env.kindOf n==some .cell) then(n,NameKind.cell) else(n,k)).lookup x=some k)
  (hk:k = .cell\/k = .free) (hc:∀y∈names,y.2≠.cell):(x,NameKind.free)∈names:=by
 induction names with
 |nil=>simp at h
 |
  cons p r ih=>
  obtain⟨n,k'⟩:=p;by_cases hx:x=n
  .subst hx;have hk':k' = .free:=by
    by_cases hc':(k'==NameKind.free&&env.scope.kind == .function&&env.kindOf x==some .cell)=true
    .simp only[Hc,CG]at hc';exact hc'.1.1
    .simp only[BE]at h;rw[A9 hc']at h;simp at h;subst h;rcases hk with z|z
     .exact absurd z (hc (x,k') AH)
     .exact z
   rw[hk'];exact AH
  .have hb:(x==n)=false:=by simpa using hx
   refine B5 _ (ih ?_ λy hy=>hc y (B5 _ hy));simp only[BE]at h;by_cases hc':(k'==NameKind.free&&env.scope.kind == .function&&env.kindOf n==some .cell)=true
   .rw[Ac hc',E1,hb]at h;exact h
   .rw[A9 hc',E1,hb]at h;exact h
theorem Ws:∀{names:List (Str×NameKind)} {env:Env} {x:Str},(x,NameKind.free)∈names->(names.map fun(n,k)=>if(k==NameKind.free&&env.scope.kind == .function&&env.kindOf n==some .cell) then(n,NameKind.cell) else(n,k)).lookup x=some .cell\/
  (names.map fun(n,k)=>if(k==NameKind.free&&env.scope.kind == .function&&env.kindOf n==some .cell) then(n,NameKind.cell) else(n,k)).lookup x=some .free\/names.lookup x≠some .free:=by
 intro names env x hm;by_cases hl:names.lookup x=some .free
 .induction names with
  |nil=>simp at hl
  |
   cons p r ih=>
   obtain⟨n,k'⟩:=p;by_cases hx:x=n
   .subst hx;simp at hl;subst hl;by_cases hc':(NameKind.free==NameKind.free&&env.scope.kind == .function&&env.kindOf x==some .cell)=true
    .left;simp only[BE];rw[Ac hc'];simp
    .right;left;simp only[BE];rw[A9 hc'];simp
   .have hb:(x==n)=false:=by simpa using hx
    rw[E1,hb]at hl;have hm':(x,NameKind.free)∈r:=by
     rcases Av.mp hm with z|z
     .cases z;exact absurd rfl hx
     .exact z
    have q:=ih hm' hl;simp only[BE];by_cases hc':(k'==NameKind.free&&env.scope.kind == .function&&env.kindOf n==some .cell)=true
    .rw[Ac hc',E1,hb,E1,hb];exact q
    .rw[A9 hc',E1,hb,E1,hb];exact q
 .exact .inr (.inr hl)
section
variable {X:Cx}{pins:List (Addr×Obj)}{σ:St}{H:Hp}{s:Shared}{scope:Scope}{N':List Str}{ρ:List (Option Nat)}{cl:List (Str×Addr)}{fp:List Addr}{C D:Addr}
theorem Tr (I:A7 X pins σ H s)(S:Hz scope X.env.scope)(hf:∀b∈fp,Ez X pins H b)(h1:∀x c,cl.lookup x=some c->X.env.cells.lookup x=some c)(h2:∀n,(n,NameKind.free)∈scope.names->∃c,cl.lookup n=some c)
  (hC:s.heap.objs.size<=C) (hfs:∀b∈fp,b<s.heap.objs.size):(D3 X scope N' cl C s H fp pins).Ok where
 mod:=I.ok.mod
 kind:=S.kind
 glob:=I.ok.glob
 blt:=I.ok.blt
 above:=hC
 inj:=λx y c e1 e2=>I.ok.inj x y c (h1 x c e1) (h1 y c e2)
 has:=λx hk=>h2 x (by
  rcases hk with hk|hk
  .exact PZ (env:=X.env) hk (.inl rfl) S.cell
  .exact PZ (env:=X.env) hk (.inr rfl) S.cell)
 cab:=λ_ _ z=>nomatch z
 hd:=I.ok.hd
 frames:=I.ok.frames
 stk:=.inl rfl
 exf:=λb hb=>⟨Ca (CB (hfs b hb) hC),λx c e=>(hf b hb).2.2.2.2.1 x c (h1 x c e)⟩
 bs:=I.bs
 bsz:=BP I.ok.bsz I.sz
 noex:=λb o e hb=>by
  rcases(hf b hb).2.2.2.1 with z|z
  .exact I.ok.noex b o e z
  .exact absurd (CB (CB (Bo e) I.ok.bsz) z) (EU _)
 exfs:=λb hb z=>by
  rcases Av.mp (I.stkSub b z) with q|q
  .exact(hf b hb).2.1 q
  .exact(hf b hb).2.2.1 q
 funs:=I.stack
 frf:=I.stkFree
theorem RQ {h₁:Heap}{tk:Nat}(I:A7 X pins σ H s)(S:Hz scope X.env.scope)(hρ:Jb scope X.env X.N N' ρ)(hf:∀b∈fp,Ez X pins H b)(h1:∀x c,cl.lookup x=some c->X.env.cells.lookup x=some c)
  (h2:∀n,(n,NameKind.free)∈scope.names->∃c,cl.lookup n=some c) (hC:s.heap.objs.size<=C) (hfs:∀b∈fp,b<s.heap.objs.size) (hn:h₁.Ns C (λ_=>none)) (hk:∀b o,s.heap.get? b=some o->h₁.get? b=some o)
  (hl:∀x,(x,NameKind.free)∈scope.names->scope.names.lookup x=some .free) :
  A7 (D3 X scope N' cl C s H fp pins) [] (C1 ρ σ) H {s with heap:=h₁,toks:=tk} where
 ok:=Tr I S hf h1 h2 hC hfs
 os:=rfl
 bare:=I.bare
 base:=Un.kept hk
 loc:=by
  refine⟨_,hn,λj x v e1 e2 hv=>?_⟩;obtain⟨m,hm,hl'⟩:=I.loc;unfold C1 at e2;rw[Ce]at e2;cases hr:ρ[j]? with
  |none=>rw[hr]at e2;simp at e2
  |
   some o=>
   cases o with
   |none=>rw[hr]at e2;simp at e2
   |
    some i=>
    rw[hr]at e2;obtain⟨q1,q2,q3⟩:=hρ.2 j i x hr e1;have e3:σ[i]?=some (some v):=by
     cases hσ:σ[i]? with
     |none=>simp[hσ]at e2
     |some z=>simp[hσ]at e2;rw[e2]
    obtain⟨u,r,lk⟩:=hl' i x v q1 e3 q2;refine⟨u,r,?_⟩;obtain⟨c,hc⟩:=h2 x q3;have hkind:(relabel scope X.env).names.lookup x=some .cell\/(relabel scope X.env).names.lookup x=some .free:=by
     rcases Ws (env:=X.env) q3 with z|z|z
     .exact .inl z
     .exact .inr z
     .exact absurd (hl x q3) z
    refine .inr ⟨hkind,c,hc,?_⟩;rcases lk with⟨k,_⟩|⟨_,c',e',z⟩
    .rcases S.free (x,.free) q3 rfl with z|z
     .have k':X.env.scope.names.lookup x=some .local:=k;rw[z]at k';cases k'
     .have k':X.env.scope.names.lookup x=some .local:=k;rw[z]at k';cases k'
    .have:=h1 x c hc;rw[e']at this;cases this;obtain⟨o,ho,hd⟩:=z;exact⟨o,hk _ _ ho,hd⟩
 cell:=λx c e=>by
  obtain⟨v,o,ho,hd⟩:=I.cell x c (h1 x c e);exact⟨v,o,hk _ _ ho,hd⟩
 free:=I.hok.fresh hC
 freeC:=λx c e=>I.freeC x c (h1 x c e)
 pin:=λp hp=>by
  have hp':p∈X.pn++pins:=by simpa[D3] using hp
  obtain⟨e,n,ne,nf,d⟩:=I.pin p hp';refine⟨hk _ _ e,n,Ca (CB (Bo e) hC),λz=>?_,d⟩;rcases Av.mp (I.stkSub p.1 z) with q|q
  .exact ne q
  .exact nf q
 hok:=I.hok.kept hk
 len:=by
  show(C1 ρ σ).length=N'.length;unfold C1;rw[Ag];exact hρ.1
end
theorem BA.track {P:Program}{w:World}{H:Hp}{h:Heap}{D:Addr}{o:HO}(x:BA P w H h)(n:H D=none)(new:BN P w (upd H D o) h D o):BA P w (upd H D o) h:=λb u e=>by
 by_cases hb:b=D
 .subst hb;rw[A3]at e;cases e;exact new
 .rw[Aa hb]at e;exact(x b u e).stay (λc v _ q=>q) (λc q=>by rw[Aa (B0 q n)];exact q) λc xs q=>by rw[Aa (B0 q n)];exact q
section
variable {prog:Program}{w:World}{A:Around}{R:Result->Shared->Prop}{s:Shared}
theorem Vd {elt target iter:Expr}{ifs:List Expr}{scope:Scope}{pos:Pos}{it acc:Value}{env:Env}(I:Nat->Shared->Prop)
  (turn:∀n s,I n s->wpAny (model prog w) A (pyNext it) (λr s₁=>match r with
   |none=>R (.ok .next) s₁
   |some v=>wpAny (model prog w) A (letOwnedTupleGo target it v) (λ_ s₁'=>wpAny (model prog w) A (assign target env v) (λ_ s₂=>
    wpAny (model prog w) A (forIn ifs true λc r=>if r=true then do let ok ←isTrue c env (eval c env);pure (ForInStep.yield ok) else pure (ForInStep.yield r)) (λok s₃=>
     if ok=true then wpAny (model prog w) A (eval elt env) (λx s₄=>
      wpAny (model prog w) A (call (.builtin "list.append") [acc,x]) (λ_ s₅=>∃m,m<n/\I m s₅) (λ_ _=>False) s₄) (λ_ _=>False) s₃
     else ∃m,m<n/\I m s₃) (λ_ _=>False) s₂) (λ_ _=>False) s₁') (λ_ _=>False) s₁) (λ_ _=>False) s)
  (n:Nat) (h:I n s) :
  codeAny (model prog w) A (.compLoop (.ListComp elt [⟨target,iter,ifs,0⟩] scope pos) 0 it acc env) R s:=by
 refine codeAny_loop rfl I (λn s hI=>?_) n h;show wpAny _ A ((compTurn (.ListComp elt [⟨target,iter,ifs,0⟩] scope pos) 0 it acc env).onRaise (λx=>do noteFrame x env;theTreesLotGoes x)) _ _ s;refine wpAny_noted ?_;rw[compTurn_list];refine Ao (Jv (Ao (CV (turn n s hI) (λr s₁ h₁=>?_) λ_ _ h'=>h'.elim)));cases r with
 |none=>exact Bj h₁
 |
  some v=>
  refine Ao (CV h₁ (λ_ s₁' h₁=>?_) λ_ _ h'=>h'.elim);refine Ao (CV h₁ (λ_ s₂ h₂=>Ao (CV h₂ (λok s₃ h₃=>?_) λ_ _ h'=>h'.elim)) λ_ _ h'=>h'.elim);cases ok with
  |false=>exact Bj ⟨rfl,h₃⟩
  |
   true=>
   exact Ao (Ao (CV h₃ (λx s₄ h₄=>Ao (CV h₄ (λ_ s₅ h₅=>Bj (Bj ⟨rfl,h₅⟩)) λ_ _ h'=>h'.elim)) λ_ _ h'=>h'.elim))
end
def GR (X:Cx)(ifs:List Expr)(t:TT):Prop:=
 ∀(pins:List (Addr×Obj)) (s:Shared) (σ:St) (H:Hp) (Q:Bool->Hp->Prop),A7 X pins σ H s->t σ H Q->
  wpAny (model X.prog X.w) X.A (forIn ifs true λc r=>if r=true then do let ok ←isTrue c X.env (eval c X.env);pure (ForInStep.yield ok) else pure (ForInStep.yield r)) (TP X pins σ Q) X.xe s
def Vs:TT:=λ_ H Q=>Q true H
theorem F7 {X:Cx}:GR X [] Vs:=λ_ _ _ H _ I h=>wpAny_tests_nil ⟨H,I,h⟩
theorem Kq {X:Cx}{c:Expr}{t:TT}(h:PT X c t):GR X [c] t:=λpins s σ H Q I hw=>wpAny_tests_one (h pins s σ H Q I hw)
def JY (ρ:List (Option Nat))(σ σ2:St):Prop:=σ2.length=ρ.length/\∀(j:Nat) v,(C1 ρ σ)[j]?=some (some v)->σ2[j]?=some (some v)
def GM (ρ:List (Option Nat))(g:TG)(tt:TT)(te:TE)(σ:St)(Q:VK)(J:It)(H1:Hp):Prop := ∃W:Nat->Nat->List V->Hp->Prop,(∃m,W 0 m [] H1)/\∀i m ys H',W i m ys H'->
 (J.stop i H'/\ys.length<=sizeLine/\∀p,H' p=none->Q (.ref p) (upd H' p (.lst ys)))\/
 (J.go i H'/\ys.length<sizeLine/\∃N:List V->Hp->Prop,(∀ys' H'',N ys' H''->∃m',m'<m/\W (i+1) m' ys' H'')/\∀x H2,J.yld i H' x H2->g x (C1 ρ σ) H2 fun σ2 H3=>JY ρ σ σ2/\tt σ2 H3 λok H4=>if ok=true then te σ2 H4 λv H5=>N (ys++[v]) H5 else N ys H4)
def HE (ρ:List (Option Nat))(wi:TI)(g:TG)(tt:TT)(te:TE):TE:=fun σ H Q=>wi σ H λJ H1=>GM ρ g tt te σ Q J H1
theorem Oc {X:Cx}{elt iter tg:Expr}{ifs:List Expr}{scope:Scope}{pos:Pos}{N':List Str}{ρ:List (Option Nat)}{wi:TI}{g:TG}{tt:TT}{te:TE}{cl:List (Str×Addr)}{RR:Value->Addr->Result->Shared->Prop}(hc:X.calm=true)(hi:PI X tg iter wi)(S:Hz scope X.env.scope)(hρ:Jb scope X.env X.N N' ρ)
  (hl:∀x,(x,NameKind.free)∈scope.names->scope.names.lookup x=some .free)
  (C4:∀(cl:List (Str×Addr)) (C:Addr) (s:Shared) (H:Hp) (fp:List Addr) (pins:List (Addr×Obj)),PG (D3 X scope N' cl C s H fp pins) tg g/\GR (D3 X scope N' cl C s H fp pins) ifs tt/\PE (D3 X scope N' cl C s H fp pins) elt te)
  {pins:List (Addr×Obj)} {s:Shared} {σ:St} {H:Hp} {Q:VK} (I:A7 X pins σ H s) (h:HE ρ wi g tt te σ H Q)
  (h1:∀x c,cl.lookup x=some c->X.env.cells.lookup x=some c) (h2:∀n,(n,NameKind.free)∈scope.names->∃c,cl.lookup n=some c)
  (fin:∀D C s' H' m,A7 X pins σ H' s'->Q (.ref D) H'->s'.heap.Ns C m->Ez X pins H' C->RR (.ref D) C (.ok .next) s') :
  wpAny (model X.prog X.w) X.A (eval iter X.env) (λx s₁=>wpAny (model X.prog X.w) X.A (pyIter x) (λit s₂=>wpAny (model X.prog X.w) X.A (newList []) (λacc s₃=>
   wpAny (model X.prog X.w) X.A (newFunctionEnv scope X.env.globals cl [] X.env.qual none .none (some X.env)) (λcenv s₄=>
    codeAny (model X.prog X.w) X.A (.compStart (.ListComp elt [⟨tg,iter,ifs,0⟩] scope pos) 0 it acc {cenv with scope:=relabel scope X.env}) (RR acc cenv.locals) s₄) X.xe s₃) X.xe s₂) X.xe s₁) X.xe s:=by
 refine AA (hi pins s σ H _ I h) λv s1 h1'=>AA h1' λitv s2 hx=>?_;obtain⟨it,fp,tn,J,H2,e,I2,T,st2,f2,W,⟨m0,w0⟩,turn⟩:=hx;subst e;have hfs:∀b∈fp,b<s2.heap.objs.size:=λb hb=>by
  obtain⟨o,e,_⟩:=T.obj _ _ st2 b hb;exact Bo e
 refine wpAny_newObj_type (wpAny_newFunctionEnv S.cell (by intro y hy;simp at hy) (λh₁ hns₁ hsb₁=>?_) S.kind);dsimp only at hns₁ hsb₁ ⊢;generalize hH2:s2.heap.push {cls:=.type "list",dict:=none,data:=.seq ([]:List Value).toArray}=G at hns₁ hsb₁ ⊢;have hC:G.objs.size=s2.heap.objs.size+1:=by rw[←hH2,Jh]
 have hDC:s2.heap.objs.size≠G.objs.size:=by rw[hC];exact Ca (LA _)
 have hCle:s2.heap.objs.size<=G.objs.size:=by rw[hC];exact Ia _
 have old:∀b o,s2.heap.get? b=some o->h₁.get? b=some o:=λb o e=>hsb₁.extBut b o (Ca (CB (Bo e) hCle)) (Bz _ (hH2▸Bz _ e));have hacc:h₁.get? s2.heap.objs.size=some {cls:=.type "list",dict:=none,data:=.seq ([]:List Value).toArray}:=hsb₁.extBut _ _ hDC (Bz _ (hH2▸Dl _ rfl));have hns₂:h₁.Ns G.objs.size (λ_=>none):=hns₁;generalize hXX:D3 X scope N' cl G.objs.size s2 H2 fp pins=XX at *;have IN:∀(tk:Nat),A7 XX [] (C1 ρ σ) H2 {s2 with heap:=h₁,toks:=tk}:=λtk=>hXX▸RQ (N':=N') I2 S hρ f2 h1 h2 hCle hfs hns₂ old hl;obtain⟨pg,pt,pe⟩:=C4 cl G.objs.size s2 H2 fp pins;rw[hXX]at pg pt pe;have eP:XX.prog=X.prog:=by rw[←hXX];rfl
 have eW:XX.w=X.w:=by rw[←hXX];rfl
 have eK:XX.K=X.K:=by rw[←hXX];rfl
 have eA:XX.A=X.A:=by rw[←hXX];rfl
 have eE:XX.env=compEnvC scope cl G.objs.size X.env:=by rw[←hXX];rfl
 have eL:XX.env.locals=G.objs.size:=by rw[eE];rfl
 have ec:XX.calm=true:=by rw[←hXX];exact hc
 have ex:XX.xe=λ_ _=>False:=by rw[←hXX];rfl
 have es0:XX.s₀=s2:=by rw[←hXX];rfl
 have eex:XX.ex=fp:=by rw[←hXX];rfl
 have efs:XX.fs=DM X.stack:=by rw[←hXX];rfl
 have eH0:XX.H₀=H2:=by rw[←hXX];rfl
 have epn:XX.pn=X.pn++pins:=by rw[←hXX];rfl
 have ecl:XX.env.cells=cl:=by rw[eE];rfl
 have stat:∀{H':Hp} {ps:List (Addr×Obj)},(∀b∈fp,H' b=none)->(∀p∈ps,p.1=s2.heap.objs.size)->∀b∈fp,Ez XX ps H' b:=fun{H' ps} hn hp b hb=>by
  refine⟨hn b hb,?_,?_,?_,?_,?_⟩
  .rw[eL];exact Ca (CB (hfs b hb) hCle)
  .rw[efs];intro z;rcases Av.mp (I2.stkSub b z) with q|q
   .exact(f2 b hb).2.1 q
   .exact(f2 b hb).2.2.1 q
  .rw[eex];exact .inl hb
  .rw[ecl];exact λx c e=>(f2 b hb).2.2.2.2.1 x c (h1 x c e)
  .intro p hp' z;rw[epn]at hp';rcases By.mp hp' with q|q
   .exact(f2 b hb).2.2.2.2.2 p q z
   .rw[hp p q]at z;exact absurd (hfs b hb) (by rw[z];exact EU _)
 have nofsD:s2.heap.objs.size∉XX.fs:=by
  rw[efs];intro z;rcases Av.mp (I2.stkSub _ z) with q|q
  .exact absurd I2.lt (by rw[←q];exact EU _)
  .exact I2.nofs (Aq _) q
 have pinD:∀{σ':St} {H':Hp} {s':Shared} {its:List Value} {n:Nat},A7 XX [] σ' H' s'->H' s2.heap.objs.size=none->s'.heap.get? s2.heap.objs.size=some {cls:=.type "list",data:=.seq its.toArray n}->
   A7 XX [(s2.heap.objs.size,{cls:=.type "list",data:=.seq its.toArray n})] σ' H' s':=fun{σ' H' s' its n} I' hn ho=>I'.pins_of λp hp=>by
  have e:p=(s2.heap.objs.size,{cls:=.type "list",data:=.seq its.toArray n}):=by simpa using hp
  subst e;refine⟨ho,hn,by rw[eL];exact hDC,nofsD,λv z=>?_⟩;have z':Data.seq its.toArray n=Data.cell v:=z;cases z'
 have loop:∀s₃:Shared,(∃tk,s₃={s2 with heap:=h₁,toks:=tk})->
   codeAny (model X.prog X.w) X.A (.compLoop (.ListComp elt [⟨tg,iter,ifs,0⟩] scope pos) 0 (.ref it) (.ref s2.heap.objs.size) (compEnvC scope cl G.objs.size X.env)) (RR (.ref s2.heap.objs.size) G.objs.size) s₃:=by
  rintro s₃ ⟨tk,rfl⟩;refine Vd (λn s'=>∃i ys its k H',A7 XX [] (C1 ρ σ) H' s'/\tn i s'.heap/\(∀b∈fp,H' b=none)/\H' s2.heap.objs.size=none/\AE ys its/\
   s'.heap.get? s2.heap.objs.size=some {cls:=.type "list",data:=.seq its.toArray k}/\W i n ys H') ?_ m0
   ⟨0,[],[],0,H2,IN tk,T.keep _ _ _ st2 λb _ o e=>old b o e,λb hb=>(f2 b hb).1,I2.hok.fresh (Aq _),.nil,hacc,w0⟩
  rintro n s3 ⟨i,ys,its,k,H3,I3,st3,fr3,hD3,rv,ho3,w3⟩;rcases turn i n ys H3 w3 with⟨stop,hz,qn⟩|⟨go,hz,N,hN,step⟩
  .have I3p:=pinD I3 hD3 ho3;have q:=T.done XX eP eW eK ec i _ s3 (C1 ρ σ) H3 (λ_ _=>False) I3p (stat fr3 (by simp)) st3 stop;rw[eA]at q;refine AA q λr s4 zz=>?_;obtain⟨hr,I4⟩:=zz;subst hr;have ho4:=(I4.pin (s2.heap.objs.size,{cls:=.type "list",data:=.seq its.toArray k}) (by simp)).1;obtain⟨m,hm,_⟩:=I4.loc;rw[eL]at hm;have hun:Un (DM X.stack) fp H2 (upd H3 s2.heap.objs.size (.lst ys)) s2.heap s4.heap:=by
    have u:=I4.base;rw[efs,eex,eH0,es0]at u;refine⟨u.keep,u.slot,λb o e n hx=>?_,u.there,λb xs e=>?_,λb o xs e=>?_,λb ps e=>?_⟩
    .rw[Aa (Ca (Bo e))];exact u.free b o e n hx
    .have q:=u.tups b xs e;rw[Aa (B0 q hD3)];exact q
    .have q:=u.frzs b o xs e;rw[Aa (B0 q hD3)];exact q
    .obtain⟨more,q⟩:=u.tbls b ps e;exact⟨more,by rw[Aa (B0 q hD3)];exact q⟩
   have hok:BA X.prog X.w (upd H3 s2.heap.objs.size (.lst ys)) s4.heap:=by
    have q:=I4.hok;rw[eP,eW]at q;exact q.track hD3 ⟨hz,its,k,rv,ho4⟩
   have hfr:∀b∈fp,(b∈X.ex\/X.s₀.heap.objs.size<=b)/\b≠X.env.locals/\(∀x c,X.env.cells.lookup x=some c->c≠b)/\∀p∈X.pn++pins,p.1≠b:=λb hb=>⟨(f2 b hb).2.2.2.1,(f2 b hb).2.1,(f2 b hb).2.2.2.2.1,(f2 b hb).2.2.2.2.2⟩
   have IO:A7 X pins σ (upd H3 s2.heap.objs.size (.lst ys)) s4:=I2.call' (by have:=I4.os;rw[es0]at this;exact this) hun hok I4.bare hfr;refine fin _ _ s4 _ m IO (qn _ hD3) hm (I2.fpOk hCle ?_);rw[Aa (Ne.symm hDC)];have:=I4.free;rw[eL]at this;exact this
  .have I3p:=pinD I3 hD3 ho3;have q:=T.item XX eP eW eK ec i _ s3 (C1 ρ σ) H3 (λ_ _=>False) I3p (stat fr3 (by simp)) st3 go;rw[eA]at q;refine AA q λr s4 zz=>?_;obtain⟨u,hr,h4⟩:=zz;subst hr;refine AA h4 λ_ s5 zz=>?_;obtain⟨x,H5,I5,r5,y5,st5,fr5⟩:=zz;have I5':=I5.pinned (stat fr5 (by simp)) (T.obj _ _ st5);have qa:=pg _ s5 (C1 ρ σ) H5 x u _ I5' r5 (step x H5 y5);rw[eP,eW,eA,eE,ex]at qa;refine AA qa λ_ s6 zz=>?_;obtain⟨σ6,H6,I6,⟨ou1,ou2⟩,q6⟩:=zz;have hw6:(C1 ρ σ).length=σ6.length:=by rw[ou1];unfold C1;rw[Ag]
   have qt:=pt _ s6 σ6 H6 _ I6 q6;rw[eP,eW,eA,eE,ex]at qt;refine AA qt λok s7 zz=>?_;obtain⟨H7,I7,q7⟩:=zz;have back:∀{s8:Shared} {H8:Hp},A7 XX ([(s2.heap.objs.size,{cls:=.type "list",data:=.seq its.toArray k})]++Hv fp s5.heap) σ6 H8 s8->tn (i+1) s8.heap/\(∀b∈fp,H8 b=none)/\H8 s2.heap.objs.size=none/\
     s8.heap.get? s2.heap.objs.size=some {cls:=.type "list",data:=.seq its.toArray k}:=fun{s8 H8} I8=>by
    refine⟨T.keep _ _ _ st5 λb hb o e=>(I8.pin (b,o) (Cz _ (Cz _ (Iz hb e)))).1,λb hb=>?_,?_,?_⟩
    .obtain⟨o,e,d⟩:=T.obj _ _ st5 b hb;exact(I8.pin (b,o) (Cz _ (Cz _ (Iz hb e)))).2.1
    .exact(I8.pin (s2.heap.objs.size,{cls:=.type "list",data:=.seq its.toArray k}) (by simp)).2.1
    .exact(I8.pin (s2.heap.objs.size,{cls:=.type "list",data:=.seq its.toArray k}) (by simp)).1
   cases ok with
   |
    false=>
    obtain⟨m',hm,w7⟩:=hN _ _ q7;obtain⟨b1,b2,b3,b4⟩:=back I7;exact⟨m',hm,i+1,ys,its,k,H7,(I7.pins_of (pins':=[]) (λ_ z=>nomatch z)).weak hw6 ou2,b1,b2,b3,rv,b4,w7⟩
   |
    true=>
    have qe:=pe _ s7 σ6 H7 _ I7 q7;rw[eP,eW,eA,eE,ex]at qe;refine AA qe λy s8 zz=>?_;obtain⟨v8,H8,I8,r8,n8⟩:=zz;obtain⟨m',hm,w8⟩:=hN _ _ n8;obtain⟨b1,b2,b3,b4⟩:=back I8;have hlen:=rv.length;refine Gn F.slot_list_append ⟨_,b4,rfl⟩ F.entry_list_append (F.args_list_append_2 _ _) (PySem.list_append s2.heap.objs.size its.toArray k y (by rw[BX];lia)) ⟨b4,?_⟩;have qL:=PySem.IsL.update b4 (λxs=>xs.push y);have I8':A7 XX [] σ6 H8 s8:=I8.pins_of (λ_ z=>nomatch z);have I9:A7 XX [] σ6 H8 {s8 with heap:=s8.heap.update s2.heap.objs.size (Obj.mapSeq λxs=>xs.push y),toks:=s8.toks}:=I8'.turned (it:=s2.heap.objs.size) (λb o hb e=>(Gd s8.heap _ (Ne.symm hb)).trans e) b3
     (by rw[eL];exact hDC) (.inr (by rw[es0];exact Aq _)) (by
      rw[ecl];intro x c e z;obtain⟨v,qc⟩:=I2.cell x c (h1 x c e);exact absurd qc.lt (by rw[z];exact EU _)) (by
      intro p hp z;have hp':p∈X.pn++pins:=by rw[epn]at hp;simpa using hp
      exact absurd (Bo (I2.pin p hp').1) (by rw[z];exact EU _))
    have hnd:s2.heap.objs.size∉fp:=λz=>EU _ (hfs _ z);rw[show its.toArray.push y=(its++[y]).toArray by simp]at qL;refine⟨m',hm,i+1,ys++[v8],its++[y],_,H8,I9.weak hw6 ou2,T.keep _ _ _ b1 λb hb o e=>(Gd s8.heap _ (by rintro rfl;exact hnd hb)).trans e,b2,b3,rv.append (.cons r8 .nil),qL,w8⟩
 refine codeAny_compStart_list (loop _ ⟨_,rfl⟩) (T.self X.A 0 _ _ _ (T.keep _ _ _ st2 λb _ o e=>old b o e) (loop _ ⟨_,rfl⟩))
theorem Xv {X:Cx}{elt iter tg:Expr}{ifs:List Expr}{scope:Scope}{pos:Pos}(N':List Str)(ρ:List (Option Nat)){wi:TI}{g:TG}{tt:TT}{te:TE}(hc:X.calm=true)(hi:PI X tg iter wi)(S:Hz scope X.env.scope)(hρ:Jb scope X.env X.N N' ρ)
  (hl:∀x,(x,NameKind.free)∈scope.names->scope.names.lookup x=some .free)
  (C4:∀(cl:List (Str×Addr)) (C:Addr) (s:Shared) (H:Hp) (fp:List Addr) (pins:List (Addr×Obj)),PG (D3 X scope N' cl C s H fp pins) tg g/\GR (D3 X scope N' cl C s H fp pins) ifs tt/\PE (D3 X scope N' cl C s H fp pins) elt te)
  (hs:∀x,foldedSetIterable iter X.env x=pure x:=by intro _;rfl):PE X (.ListComp elt [⟨tg,iter,ifs,0⟩] scope pos) (HE ρ wi g tt te):=by
 intro pins s σ H Q I h;obtain⟨cl,hcl,h1,h2⟩:=Q0 (scope:=scope) (env:=X.env) (λn hn=>I.ok.has n (S.free (n,.free) hn rfl));rw[eval_ListComp];refine wpAny_comprehension_free (use:=none) rfl hs hcl S.kind S.loc ?_;refine Oc (RR:=λacc C=>compPost (model X.prog X.w) X.A X.xe none (EP X pins σ Q) acc C) hc hi S hρ hl C4 I h h1 h2 ?_;intro D C s' H' m I' q hm hf;refine⟨m,hm,λh' sb=>⟨.ref D,H',?_,rfl,q⟩⟩;exact I'.turned (t':=s'.toks) (λb o hb e=>(sb.2 b hb).trans e) hf.1 hf.2.1 hf.2.2.2.1 hf.2.2.2.2.1 hf.2.2.2.2.2
theorem XN {X:Cx}{elt iter tg:Expr}{ifs:List Expr}{scope:Scope}{pos pos' spos:Pos}{i:Nat}{x:Str}(N':List Str)(ρ:List (Option Nat)){wi:TI}{g:TG}{tt:TT}{te:TE}(hN:X.N.Nodup)(hix:X.N[i]?=some x)(hx:GI X.env.scope x)
  (hc:X.calm=true) (hi:PI X tg iter wi) (S:Hz scope X.env.scope) (hρ:Jb scope X.env X.N N' ρ)
  (hl:∀x,(x,NameKind.free)∈scope.names->scope.names.lookup x=some .free)
  (C4:∀(cl:List (Str×Addr)) (C:Addr) (s:Shared) (H:Hp) (fp:List Addr) (pins:List (Addr×Obj)),PG (D3 X scope N' cl C s H fp pins) tg g/\GR (D3 X scope N' cl C s H fp pins) ifs tt/\PE (D3 X scope N' cl C s H fp pins) elt te)
  (hsw:swapsWith (.ListComp elt [⟨tg,iter,ifs,0⟩] scope pos) (some (.Name x pos')) spos.line X.env=pure true:=by rfl)
  (hs:∀x,foldedSetIterable iter X.env x=pure x:=by intro _;rfl) (hf:X.fn x=true\/X.env.scope.names.lookup x=some .local:=by first|exact .inl rfl|exact .inr rfl|assumption) :
  PS X (.Assign [.Name x pos'] (.ListComp elt [⟨tg,iter,ifs,0⟩] scope pos) spos) (Hr (HE ρ wi g tt te) (Am i)):=by
 intro pins s σ H Dn I h;obtain⟨cl,hcl,h1,h2⟩:=Q0 (scope:=scope) (env:=X.env) (λn hn=>I.ok.has n (S.free (n,.free) hn rfl));rw[exec_Assign_Name_used _ _ _ _ hsw];refine Ao (Jv (Ao ?_));show wpAny _ X.A (do let _ ←comprehension (.ListComp elt [⟨tg,iter,ifs,0⟩] scope pos) scope X.env _ (newList []) false (eval iter X.env) (some (assign (.Name x pos') X.env))) _ _ s;refine Ao (CV (wpAny_comprehension_free (use:=some (assign (.Name x pos') X.env)) (Q:=λ_ s'=>SP X pins Dn .next s') rfl hs hcl S.kind S.loc ?_) (λ_ s' hq=>Bj (Bj hq)) λ_ _ e=>e);refine Oc (RR:=λacc C=>compPost (model X.prog X.w) X.A X.xe (some (assign (.Name x pos') X.env)) (λ_ s'=>SP X pins Dn .next s') acc C) hc hi S hρ hl C4 I h h1 h2 ?_;intro D C s' H' m I' q hm hfC;obtain⟨oC,es,ep,hoC,hr⟩:=id hm;have pin:A7 X (pins++Hv [C] s'.heap) σ H' s':=I'.pinned (λb hb=>by
  have e:b=C:=by simpa using hb
  subst e;exact hfC) (λb hb=>by
  have e:b=C:=by simpa using hb
  subst e;exact⟨oC,hoC,λv z=>by rw[hr.1]at z;cases z⟩)
 show wpAny _ X.A (assign (.Name x pos') X.env (.ref D)) _ _ _;refine wpAny_assign_Name ?_;refine Hq (M:=model X.prog X.w) (A:=X.A) (E:=X.xe) pin hN hix hx (v:=.ref D) (u:=.ref D) rfl (λs'' I''=>?_) hf;have pC:=(I''.pin (C,oC) (Cz _ (Cz _ (Iz (by simp) hoC))))
 refine⟨m,⟨oC,es,ep,pC.1,hr⟩,λh' sb=>⟨_,H',?_,q⟩⟩;have I2:A7 X pins (σ.set i (some (.ref D))) H' s'':=I''.unpinned;exact I2.turned (t':=s''.toks) (λb o hb e=>(sb.2 b hb).trans e) hfC.1 hfC.2.1 hfC.2.2.2.1 hfC.2.2.2.2.1 hfC.2.2.2.2.2
theorem J0 (σ:St)(o:Option Nat)(ρ:List (Option Nat)):C1 (o::ρ) σ=(match o with|some i=>(σ[i]?).getD none|none=>none)::C1 ρ σ:=rfl
theorem UK {ρ:List (Option Nat)}{σ:St}(o:Option V):JY (none::ρ) σ (o::C1 ρ σ):=by
 refine⟨by unfold C1;simp,λj v e=>?_⟩;cases j with
 |zero=>rw[J0]at e;simp at e
 |succ j=>rw[J0]at e;simpa using e
theorem X7 {ρ:List (Option Nat)}{σ:St}(o o':Option V):JY (none::none::ρ) σ (o::o'::C1 ρ σ):=by
 refine⟨by unfold C1;simp,λj v e=>?_⟩;cases j with
 |zero=>rw[J0]at e;simp at e
 |
  succ j=>
  rw[J0,J0]at e;cases j with
  |zero=>simp at e
  |succ j=>simpa using e
theorem KG {J:It}{n:Nat}{X:Nat->V->Prop}{ρ:List (Option Nat)}{tt:TT}{te:TE}{σ:St}{H:Hp}{Q:VK}(Pv:Nat->List V->Hp->Prop)(h0:Pv 0 [] H)(hlen:n<=sizeLine)
  (hy:∀i ys H,i<=n->Pv i ys H->ys.length<=i) (hgo:∀i ys H,i<n->Pv i ys H->J.go i H) (hyl:∀i ys H x H',i<n->Pv i ys H->J.yld i H x H'->H'=H/\X i x) (hst:∀ys H,Pv n ys H->J.stop n H)
  (hs:∀i x ys H,i<n->X i x->Pv i ys H->tt (some x::C1 ρ σ) H λok H4=>if ok=true then te (some x::C1 ρ σ) H4 λv H5=>Pv (i+1) (ys++[v]) H5 else Pv (i+1) ys H4)
  (hd:∀ys H,Pv n ys H->∀p,H p=none->Q (.ref p) (upd H p (.lst ys))) :
  GM (none::ρ) (Am 0) tt te σ Q J H:=by
 refine⟨λi m ys H=>m=n-i/\i<=n/\Pv i ys H,⟨n,by simp,BI _,h0⟩,?_⟩;rintro i m ys H ⟨rfl,hi,p⟩;have hl:=hy i ys H hi p;by_cases hlt:i<n
 .refine .inr ⟨hgo i ys H hlt p,by lia,Pv (i+1),λys' H'' p'=>⟨n-(i+1),by lia,rfl,hlt,p'⟩,λx H' y=>?_⟩;obtain⟨e,y2⟩:=hyl i ys H x H' hlt p y;subst e;exact⟨UK _,hs i x ys _ hlt y2 p⟩
 .have e:i=n:=by lia
  subst e;exact .inl ⟨hst ys H p,by lia,hd ys H p⟩
theorem Mi {K:Zc}{a:Addr}{xs:List V}{ρ:List (Option Nat)}{tt:TT}{te:TE}{σ:St}{H:Hp}{Q:VK}(Pv:Nat->List V->Hp->Prop)(h0:Pv 0 [] H)(hlen:xs.length<=sizeLine)(hl:∀i ys H,i<=xs.length->Pv i ys H->Aw K H a xs/\ys.length<=i)
  (hs:∀i x ys H,xs[i]?=some x->Pv i ys H->tt (some x::C1 ρ σ) H λok H4=>if ok=true then te (some x::C1 ρ σ) H4 λv H5=>Pv (i+1) (ys++[v]) H5 else Pv (i+1) ys H4)
  (hd:∀ys H,Pv xs.length ys H->∀p,H p=none->Q (.ref p) (upd H p (.lst ys))) :
  GM (none::ρ) (Am 0) tt te σ Q (NB K a) H:=
 KG (n:=xs.length) (X:=λi x=>xs[i]?=some x) Pv h0 hlen (λi ys H hi p=>(hl i ys H hi p).2) (λi ys H hi p=>⟨xs,xs[i],(hl i ys H (Ha hi) p).1,by simp[hi]⟩) (λi ys H x H' hi p y=>⟨y.1,y.2 xs (hl i ys H (Ha hi) p).1⟩)
  (λys H p=>⟨xs,(hl _ ys H (Aq _) p).1,Aq _⟩) (λi x ys H _ e p=>hs i x ys H e p) hd
theorem G0 {K:Zc}{a:Addr}{xs:List V}{ρ:List (Option Nat)}{tt:TT}{te:TE}{σ:St}{H:Hp}{Q:VK}(Pv:Nat->List V->Hp->Prop)(h0:Pv 0 [] H)(hlen:xs.length<=sizeLine)(hl:∀i ys H,i<=xs.length->Pv i ys H->A4 K H a xs/\ys.length<=i)
  (hs:∀i x ys H,xs[i]?=some x->Pv i ys H->tt (some x::C1 ρ σ) H λok H4=>if ok=true then te (some x::C1 ρ σ) H4 λv H5=>Pv (i+1) (ys++[v]) H5 else Pv (i+1) ys H4)
  (hd:∀ys H,Pv xs.length ys H->∀p,H p=none->Q (.ref p) (upd H p (.lst ys))) :
  GM (none::ρ) (Am 0) tt te σ Q (GN K a) H:=
 KG (n:=xs.length) (X:=λi x=>xs[i]?=some x) Pv h0 hlen (λi ys H hi p=>(hl i ys H hi p).2) (λi ys H hi p=>⟨xs,xs[i],(hl i ys H (Ha hi) p).1,by simp[hi]⟩) (λi ys H x H' hi p y=>⟨y.1,y.2 xs (hl i ys H (Ha hi) p).1⟩)
  (λys H p=>⟨xs,(hl _ ys H (Aq _) p).1,Aq _⟩) (λi x ys H _ e p=>hs i x ys H e p) hd
theorem Sn {lo:Int}{n:Nat}{ρ:List (Option Nat)}{tt:TT}{te:TE}{σ:St}{H:Hp}{Q:VK}(Pv:Nat->List V->Hp->Prop)(h0:Pv 0 [] H)(hlen:n<=sizeLine)(hl:∀i ys H,i<=n->Pv i ys H->ys.length<=i)
  (hs:∀i ys H,i<n->Pv i ys H->tt (some (.int (lo+i))::C1 ρ σ) H λok H4=>if ok=true then te (some (.int (lo+i))::C1 ρ σ) H4 λv H5=>Pv (i+1) (ys++[v]) H5 else Pv (i+1) ys H4)
  (hd:∀ys H,Pv n ys H->∀p,H p=none->Q (.ref p) (upd H p (.lst ys))) :
  GM (none::ρ) (Am 0) tt te σ Q (GD lo n) H:=
 KG (n:=n) (X:=λi x=>x = .int (lo+i)) Pv h0 hlen hl (λi ys H hi p=>hi) (λi ys H x H' hi p y=>y) (λys H p=>Aq _) (λi x ys H hi e p=>by subst e;exact hs i ys H hi p) hd
abbrev cds (x:Str):List Nat:=x.cps.toList
theorem cds_len (x:Str):(cds x).length=x.length:=by simp[cds,Str.length]
theorem D2 {x y:Str}(h:cds x=cds y):x=y:=StrLaws.mk_of_toList (x:=x) h▸(StrLaws.mk_of_toList (x:=y) rfl).symm
theorem B4 (x y:Str):cds (x++y)=cds x++cds y:=by simp[cds,Str.cps_append]
theorem P4 (c:Nat):cds ⟨#[c]⟩=[c]:=rfl
theorem Wk (l:List Nat):cds ⟨l.toArray⟩=l:=by simp[cds]
def AC (l:List Nat):Str:=⟨l.toArray⟩
theorem Bl (l:List Nat):cds (AC l)=l:=by simp[cds,AC]
theorem ES (x:Str):AC (cds x)=x:=D2 (Bl _)
def CM {α:Type}(xs:List α)(lo hi:Option Int):List α:=(xs.drop (HT.sIx xs.length 0 lo)).take (HT.sIx xs.length xs.length hi-HT.sIx xs.length 0 lo)
theorem QA (n:Nat)(i:Int)(k:Nat):max 0 (min (if i<0 then i+(n:Int) else i) (n:Int))=((HT.sIx n k (some i):Nat):Int):=by
 unfold HT.sIx;dsimp only;split<;>lia
theorem Uk (lo hi:Option Int)(n:Nat):Builtin.Str.strSliceIndices lo hi 1 n=(List.range (HT.sIx n n hi-HT.sIx n 0 lo)).map (λk=>HT.sIx n 0 lo+k):=by
 have e:Builtin.Str.strSliceIndices lo hi 1 n=sliceRange ((HT.sIx n 0 lo:Nat):Int) ((HT.sIx n n hi:Nat):Int) 1:=by
  unfold Builtin.Str.strSliceIndices;simp only[show((1:Int)>0)=True by simp,Fp];congr 1
  .cases lo with
   |none=>rfl
   |some i=>exact QA n i 0
  .cases hi with
   |none=>rfl
   |some i=>exact QA n i n
 rw[e];unfold sliceRange;simp only[show((1:Int)>0)=True by simp,Fp];generalize HT.sIx n 0 lo=a;generalize HT.sIx n n hi=b;by_cases h:(a:Int)<b
 .rw[Ac h,show(((b:Int)-a+1-1)/1).toNat=b-a by simp<;>lia];refine R3 λk _=>?_;lia
 .rw[A9 h,show b-a=0 by lia];rfl
theorem Xe (x:Str)(lo hi:Option Int):cds (Txt.slice x lo hi)=CM (cds x) lo hi:=by
 unfold Txt.slice CM;have hl:=cds_len x;rw[hl,Uk];have b1:=HT.sIx_le x.length 0 (BI _) lo;have b2:=HT.sIx_le x.length x.length (Aq _) hi;generalize HT.sIx x.length 0 lo=a at *;generalize HT.sIx x.length x.length hi=b at *;split
 .rename_i h;have hb:b-a=x.length:=by simpa using h
  have ha:a=0:=by lia
  subst ha;rw[Jk,hb,←hl,El]
 .by_cases hab:a<=b
  .have q:=StrLaws.picks (cds x) (b-a) a (by lia);have q2:(List.filterMap (λx_1=>x.cps[x_1]?) (List.map (λk=>a+k) (List.range (b-a))))=List.filterMap (λx_1=>(cds x)[x_1]?) (List.map (λk=>a+k) (List.range (b-a))):=by
    simp[cds]
   rw[Wk,q2,q]
  .rw[show b-a=0 by lia];simp[cds]
section
variable {X:Cx}
def Xp:V->Option Int->Option Int->Hp->VK->Prop:=λx lo hi H Q=>∃z,x = .str z/\z.length<=sizeLine/\Q (.str (AC (CM (cds z) lo hi))) H
theorem Hx:MX X Xp:=by
 intro pins s σ H x v vl vu lo hi sl Q I rx hs pl pu h;obtain⟨z,rfl,hz,q⟩:=h;obtain⟨t,rfl⟩:=rx;rw[←Xe,ES]at q;refine⟨"str",_,F.slot_str_getitem.lookup,Il _ _ _,?_⟩;have go:∀(l u:Option (Int×Tok)),l.map (·.1)=lo->u.map (·.1)=hi->s.heap.IsSlice sl l u none->wpAny (model X.prog X.w) X.A (getItem (.str z t) (.ref sl)) (EP X pins σ Q) X.xe s:=λl u e1 e2 hS=>by
  subst e1 e2;exact wpAny_getItem_str_slice hS rfl (post_val_or_str ⟨BP (Txt.slice_le z _ _) hz,λt' k=>⟨.str _,H,I.tok _,⟨_,rfl⟩,q⟩⟩)
 cases pl with
 |
  none=>
  cases pu with
  |none=>exact go none none rfl rfl hs
  |int j u=>exact go none (some (j,u)) rfl rfl hs
 |
  int i t'=>
  cases pu with
  |none=>exact go (some (i,t')) none rfl rfl hs
  |int j u=>exact go (some (i,t')) (some (j,u)) rfl rfl hs
def YG:R2:=λx y H Q=>∃z n,x = .str z/\y = .int n/\-(2 ^ 63:Int)<=n/\n<=4096/\z.length<=4096/\Q (.str (Txt.mul z n)) H
theorem QB:BL X (binaryOp .Mult) YG:=by
 intro pins s σ H x y v u Q I rx ry h;obtain⟨z,n,rfl,rfl,h1,h2,h3,q⟩:=h;obtain⟨t,rfl⟩:=rx;obtain⟨t',rfl⟩:=ry;exact SB.mul (mulOk_of 4096 4096 h3 h2 h1 (by decide) (by decide)) λt' k=>⟨.str _,H,I.tok _,⟨_,rfl⟩,q⟩
theorem Nh {c:Nat}:∀{l:List Nat} {i:Nat},l[i]?=some c->(∀k,k<i->l[k]?≠some c)->l.idxOf c=i
 |[],i,h,_=>by simp at h
 |a::r,0,h,_=>by simp at h;subst h;simp
 |
  a::r,i+1,h,hn=>by
  have ha:a≠c:=λe=>hn 0 (Ge _) (by simp[e]);have q:=Nh (c:=c) (l:=r) (i:=i) (by simpa using h) (λk hk=>by simpa using hn (k+1) (Nat.succ_lt_succ hk));have hb:(a==c)=false:=by simpa using ha
  rw[List.idxOf_cons,hb,q];rfl
theorem Lh (x:Str)(c:Nat):(!(Builtin.Str.occurrences x ⟨#[c]⟩ 0 x.length 1).isEmpty)=decide (c∈cds x):=StrLaws.found_one x c
def Y3 (K:Zc):V->List V->Hp->VK->Prop:=λx xs H Q=>∃z p ys,x = .str z/\xs=[.ref p]/\(A4 K H p (ys.map V.str)\/Aw K H p (ys.map V.str))/\(ys.map (·.length)).sum+ys.length*z.length<=16777216/\Q (.str (Txt.join z ys)) H
theorem Mb:∀{ys:List Str} {us:List Value},AE (ys.map V.str) us->StrsAre us ys
 |[],_,.nil=>.nil
 |
  y::ys,_,.cons r t=>by
  obtain⟨k,rfl⟩:=r;exact .cons y k (Mb t)
theorem KJ:Gz X "str.join" (Y3 X.K):=by
 intro pins s σ H x xs v us Q I rx rv h;obtain⟨z,p,ys,rfl,rfl,hq,hz,q⟩:=h;obtain⟨t,rfl⟩:=rx;obtain⟨u,rfl,ru⟩:=rv.one;cases ru;rcases hq with hq|hq
 .obtain⟨its,r,pl,_⟩:=I.list hq;exact join_list pl.isList (by simpa using Mb r) hz λt' k=>⟨.str _,H,I.tok _,⟨_,rfl⟩,q⟩
 .obtain⟨its,r,pl,_⟩:=I.tuple hq;exact join_tuple pl (by simpa using Mb r) hz λt' k=>⟨.str _,H,I.tok _,⟨_,rfl⟩,q⟩
theorem We:DU X (.type "int") (λxs H Q=>∃z n,xs=[.str z]/\intText? z=some n/\z.length<=640/\Q (.int n) H):=by
 intro pins s σ H xs us Q I r h;obtain⟨z,n,rfl,hn,hl,q⟩:=h;obtain⟨u,rfl,t,rfl⟩:=Ep r;exact PySem.W.KIN.call_text hn hl ⟨.int n,H,I.tok _,⟨_,rfl⟩,q⟩
end
def M4 (z:Str):It:=⟨λi _=>i<(cds z).length,λi H x H'=>H'=H/\∃c,(cds z)[i]?=some c/\x = .str ⟨#[c]⟩,λi _=>(cds z).length<=i⟩
theorem OK {P:Program}{w:World}{K:Zc}{tg:Expr}(it:Addr)(z:Str)(t:Tok)(ty:String)(hty:ty="str_ascii_iterator"\/ty="str_iterator"):Hk P w K tg (M4 z) [it] it (λi h=>h.IsStrIter it ty z t i) where
 mem:=by simp
 obj:=λi h st b hb=>by
  have e:b=it:=by simpa using hb
  subst e;obtain⟨o,e,c,d⟩:=st;exact⟨o,e,λv z=>by rw[d]at z;cases z⟩
 keep:=λi h h' st k=>let ⟨o,ho,r⟩:=st;⟨o,k it (by simp) o ho,r⟩
 item:=by
  intro X hP hw hK hc i pins s σ H E I hf st hg;subst hP hw hK;obtain⟨f0,f1,f2,f3,f4,f5⟩:=hf it (by simp);have hlt:i<z.cps.size:=by have:i<(cds z).length:=hg;simpa[cds] using this
  have W:Walks X.prog X.w X.A it [it] [it] z.cps.size (SignAt z) (λi h=>h.IsStrIter it ty z t i):=by
   rcases hty with rfl|rfl
   .exact Walks.strAscii (I.ok.hd hc) it z t
   .exact Walks.strWide (I.ok.hd hc) it z t
  refine W.item i s _ _ hlt st λv h' tk hv st' kk=>?_;obtain⟨c,u,hcu,rfl⟩:=hv;have I1:A7 X pins σ H {s with heap:=h',toks:=tk}:=I.turned (λb o hb e=>kk b o (by simpa using hb) e) f0 f1 f3 f4 f5;obtain⟨o,e,c1,d⟩:=id st';refine⟨_,rfl,Lm (s:={s with heap:=h',toks:=tk}) e c1 d (by rcases hty with rfl|rfl<;>decide) ⟨.str ⟨#[c]⟩,H,I1,⟨u,rfl⟩,⟨rfl,c,by simpa[cds] using hcu,rfl⟩,st',λb hb=>(hf b hb).1⟩⟩
 done:=by
  intro X hP hw hK hc i pins s σ H E I hf st hg;subst hP hw hK;obtain⟨f0,f1,f2,f3,f4,f5⟩:=hf it (by simp);have hle:z.cps.size<=i:=by have:(cds z).length<=i:=hg;simpa[cds] using this
  have hn:z.cps[i]?=none:=by simp[hle]
  rcases hty with rfl|rfl
  .exact wpAny_pyNext_ascii_end (I.ok.hd hc) st hn λh' he'=>⟨rfl,I.turned (t':=s.toks) (λb o hb e=>he' b o hb e) f0 f1 f3 f4 f5⟩
  .exact wpAny_pyNext_wide_end (I.ok.hd hc) st hn λh' he'=>⟨rfl,I.turned (t':=s.toks) (λb o hb e=>he' b o hb e) f0 f1 f3 f4 f5⟩
 self:=λ_ _ _ _ _ st h=>by
  rcases hty with rfl|rfl
  .exact wpAny_pyIter_striter_ascii st h
  .exact wpAny_pyIter_striter_wide st h
def VD (tl:TE):TI:=fun σ H R=>tl σ H λx H1=>∃z,x = .str z/\R (M4 z) H1
theorem Up {X:Cx}{tg l:Expr}{tl:TE}(hl:PE X l tl):PI X tg l (VD tl):=by
 intro pins s σ H R I h;refine AA (hl pins s σ H _ I h) λv s1 zz=>?_;obtain⟨x,H1,I1,r1,q1⟩:=zz;obtain⟨z,e,q⟩:=q1;subst e;obtain⟨t,rfl⟩:=r1;have fin:∀b∈[s1.heap.objs.size],Ez X pins H1 b:=λb hb=>by
  have e:b=s1.heap.objs.size:=by simpa using hb
  subst e;exact I1.fpOk (Aq _) (I1.hok.fresh (Aq _))
 cases ha:z.cps.all (· < 128)
 .refine wpAny_pyIter_wide ha ?_;exact⟨s1.heap.objs.size,[s1.heap.objs.size],_,_,H1,rfl,I1.kept (t':=s1.toks) λb o e=>Bz _ e,OK _ z t _ (.inr rfl),⟨_,Dl _ rfl,rfl,rfl⟩,fin,q⟩
 .refine wpAny_pyIter_ascii ha ?_;exact⟨s1.heap.objs.size,[s1.heap.objs.size],_,_,H1,rfl,I1.kept (t':=s1.toks) λb o e=>Bz _ e,OK _ z t _ (.inl rfl),⟨_,Dl _ rfl,rfl,rfl⟩,fin,q⟩
theorem Sj {z:Str}{ρ:List (Option Nat)}{tt:TT}{te:TE}{σ:St}{H:Hp}{Q:VK}(Pv:Nat->List V->Hp->Prop)(h0:Pv 0 [] H)(hlen:(cds z).length<=sizeLine)(hl:∀i ys H,i<=(cds z).length->Pv i ys H->ys.length<=i)
  (hs:∀i c ys H,(cds z)[i]?=some c->Pv i ys H->tt (some (.str ⟨#[c]⟩)::C1 ρ σ) H λok H4=>if ok=true then te (some (.str ⟨#[c]⟩)::C1 ρ σ) H4 λv H5=>Pv (i+1) (ys++[v]) H5 else Pv (i+1) ys H4)
  (hd:∀ys H,Pv (cds z).length ys H->∀p,H p=none->Q (.ref p) (upd H p (.lst ys))) :
  GM (none::ρ) (Am 0) tt te σ Q (M4 z) H:=
 KG (n:=(cds z).length) (X:=λi x=>∃c,(cds z)[i]?=some c/\x = .str ⟨#[c]⟩) Pv h0 hlen hl (λi ys H hi p=>hi) (λi ys H x H' hi p y=>y) (λys H p=>Aq _) (λi x ys H hi ⟨c,hc,e⟩ p=>by subst e;exact hs i c ys H hc p) hd
section
variable {X:Cx}
theorem MN (hc:X.calm=true):DU X (.builtin "all") (λxs H Q=>∃(p:Addr) (bs:List Bool),xs=[.ref p]/\A4 X.K H p (bs.map V.bl)/\Q (.bl (bs.all id)) H):=by
 intro pins s σ H xs us Q I r h;obtain⟨p,bs,rfl,hq,q⟩:=h;obtain⟨u,rfl,ru⟩:=Ep r;cases ru;obtain⟨its,rv,pl,hz⟩:=I.list hq;have hne:p≠s.heap.objs.size:=by
  obtain⟨o,n,e,_⟩:=pl;exact Ca (Bo e)
 have hl:=rv.length;refine call_all_walk (LQ pl.isList ⟨s.heap.objs.size,_,_,its.toArray.size,_,_,λi=>bs.getD i true,rfl,Walks.list (A:=X.A.in1) (show X.A.in1.handled=none from I.ok.hd hc) s.heap.objs.size p hne its.toArray,⟨⟨_,Dl _ rfl,rfl,rfl⟩,(pl.isList).push _⟩,?_,λh' tk kk=>?_⟩)
 .intro i v s' Q' E hv hq';have hv':its[i]?=some v:=by simpa using hv
  have hb:∃b,bs[i]?=some b/\v = .bool b:=by
   cases e:(bs.map V.bl)[i]? with
   |
    none=>
    have:=rv.none_of e;rw[hv']at this;cases this
   |
    some y=>
    obtain⟨u,hu,ru⟩:=rv.get e;rw[hv']at hu;cases hu;rw[Ce]at e;cases eb:bs[i]? with
    |none=>rw[eb]at e;cases e
    |
     some b=>
     rw[eb]at e;cases e;exact⟨b,rfl,ru⟩
  obtain⟨b,hb,rfl⟩:=hb;refine Ij ?_;have hq2:Q' ((bs[i]?).getD true) s':=hq';rw[hb]at hq2;exact hq2
 .have e:((List.range its.toArray.size).all λi=>bs.getD i true)=bs.all id:=by
   have el:its.toArray.size=bs.length:=by rw[BX,←hl,Ag]
   rw[el];rw[Ei];simp only[EB,Lz];constructor
   .intro h b hb;obtain⟨i,hi,e⟩:=List.mem_iff_getElem.mp hb;have:=h i hi;rw[Gf,BC hi]at this;rw[←e];exact this
   .intro h i hi;rw[Gf,BC hi];exact h _ (EY hi)
  rw[e];refine⟨.bl (bs.all id),H,I.kept (t':=tk) λb o eb=>kk b o ?_ (Bz _ eb),rfl,q⟩;intro z;have z':b=s.heap.objs.size:=by simpa using z
  exact absurd (Bo eb) (by rw[z'];exact EU _)
def Mv:V->Option Value
 |.ty n=>some (.type n)
 |.ref a=>some (.ref a)
 |_=>none
theorem GK:DU X (.builtin "isinstance") (λxs H Q=>∃x c t cv b,xs=[x,c]/\Mv c=some cv/\CT X.K H x t/\PySem.W.kitOne X.K t cv=some b/\Q (.bl b) H):=by
 intro pins s σ H xs us Q I r h;obtain⟨x,c,t,cv,b,rfl,rc,ty,e,q⟩:=h;obtain⟨u,w',rfl,rx,rw'⟩:=r.two;have:w'=cv:=by
  cases c with
  |ref a=>cases rc;exact rw'
  |ty a=>cases rc;exact rw'
  |_=>cases rc
 subst this;exact Xh I rx ty e λtk=>⟨.bl b,H,I.tok _,rfl,q⟩
end
def D7 (sc out:Scope)(N N':List Str)(ρ:List (Option Nat)):Bool:=
 decide (sc.kind = .function)&&sc.names.all (λy=>decide (y.2≠.cell))&&sc.names.all (λy=>decide (y.2 = .local->sc.names.lookup y.1=some .local)) &&
 sc.names.all (λy=>decide (y.2 = .free->sc.names.lookup y.1=some .free/\(out.names.lookup y.1=some .cell\/out.names.lookup y.1=some .free))) &&
 decide (ρ.length=N'.length)&&decide N'.Nodup &&
 (ρ.zip N').all (λp=>match p.1 with|none=>true|some i=>decide (N[i]?=some p.2)&&decide (out.names.lookup p.2=some .local\/out.names.lookup p.2=some .cell\/out.names.lookup p.2=some .free)&&sc.names.any (λy=>decide (y=(p.2,NameKind.free))))
structure Wy (sc:Scope)(env:Env)(N N':List Str)(ρ:List (Option Nat)):Prop where
 S:Hz sc env.scope
 sl:Jb sc env N N' ρ
 hl:∀x,(x,NameKind.free)∈sc.names->sc.names.lookup x=some .free
 nd:N'.Nodup
theorem Ql {sc:Scope}{env:Env}{N N':List Str}{ρ:List (Option Nat)}(h:D7 sc env.scope N N' ρ=true):Wy sc env N N' ρ:=by
 unfold D7 at h;simp only[Hc,EG,EB]at h;obtain⟨⟨⟨⟨⟨⟨h1,h2⟩,h3⟩,h4⟩,h5⟩,h6⟩,h7⟩:=h;refine⟨⟨h1,h2,h3,λy hy e=>(h4 y hy e).2⟩,⟨h5,λj i x e1 e2=>?_⟩,λx hx=>(h4 _ hx rfl).1,h6⟩;have hm:(some i,x)∈ρ.zip N':=by
  refine CU (i:=j) ?_;rw[List.getElem?_zip_eq_some];exact⟨e1,e2⟩
 have q:=h7 _ hm;simp only[Hc,EG,List.any_eq_true]at q;obtain⟨⟨q1,q2⟩,y,hy,e⟩:=q;exact⟨q1,q2,e▸hy⟩
theorem Ef {X:Cx}{elt iter tg:Expr}{ifs:List Expr}{scope:Scope}{pos:Pos}(N':List Str)(ρ:List (Option Nat)){wi:TI}{g:TG}{tt:TT}{te:TE}(hc:X.calm=true)(hi:PI X tg iter wi)(h:D7 scope X.env.scope X.N N' ρ=true)
  (C4:∀(cl:List (Str×Addr)) (C:Addr) (s:Shared) (H:Hp) (fp:List Addr) (pins:List (Addr×Obj)),PG (D3 X scope N' cl C s H fp pins) tg g/\GR (D3 X scope N' cl C s H fp pins) ifs tt/\PE (D3 X scope N' cl C s H fp pins) elt te)
  (hs:∀x,foldedSetIterable iter X.env x=pure x:=by intro _;rfl):PE X (.ListComp elt [⟨tg,iter,ifs,0⟩] scope pos) (HE ρ wi g tt te):=
 have F:=Ql h
 Xv N' ρ hc hi F.S F.sl F.hl C4 hs
theorem VS {X:Cx}{elt iter tg:Expr}{ifs:List Expr}{scope:Scope}{pos pos' spos:Pos}{i:Nat}{x:Str}(N':List Str)(ρ:List (Option Nat)){wi:TI}{g:TG}{tt:TT}{te:TE}(hN:X.N.Nodup)(hix:X.N[i]?=some x)(hx:GI X.env.scope x)
  (hc:X.calm=true) (hi:PI X tg iter wi) (h:D7 scope X.env.scope X.N N' ρ=true)
  (C4:∀(cl:List (Str×Addr)) (C:Addr) (s:Shared) (H:Hp) (fp:List Addr) (pins:List (Addr×Obj)),PG (D3 X scope N' cl C s H fp pins) tg g/\GR (D3 X scope N' cl C s H fp pins) ifs tt/\PE (D3 X scope N' cl C s H fp pins) elt te)
  (hsw:swapsWith (.ListComp elt [⟨tg,iter,ifs,0⟩] scope pos) (some (.Name x pos')) spos.line X.env=pure true:=by rfl)
  (hs:∀x,foldedSetIterable iter X.env x=pure x:=by intro _;rfl) (hf:X.fn x=true\/X.env.scope.names.lookup x=some .local:=by first|exact .inl rfl|exact .inr rfl|assumption) :
  PS X (.Assign [.Name x pos'] (.ListComp elt [⟨tg,iter,ifs,0⟩] scope pos) spos) (Hr (HE ρ wi g tt te) (Am i)):=
 have F:=Ql h
 XN N' ρ hN hix hx hc hi F.S F.sl F.hl C4 hsw hs hf
def Mh (K:Zc):Sp:=λvs H Q _=>∃(a:Addr) (ns:List Int),vs=[.ref a]/\A4 K H a (ns.map V.int)/\ns.length<=63/\JR H/\∀H',Q (.bl true) H'
theorem law_walk {l:PySem.W.OpenLaw}{q:Program}{loose:List Str}{XP:(Str->Option Value)->Heap->Prop}{YP:World->Heap->Prop}{d:DefRec}{K:Params->Zc}{x:Str}(k:Nat)(hk:k<=200)(hn:l.most=some 63)(hdf:d.params.defaults=[])
  (hY:∀(w:World) (h:Heap),YP w h->(K w.params).In h)
  (F:∀(w:World) (mg:Str->Option Value) (fa:Addr) (h:Heap),(K w.params).In h->h.Ns mainGlobals mg->mg d.name=some (.ref fa)->
   ∃fd:FuncData,(∀(s:Shared) (u:Value),BindsTo s fd ⟨[u],[]⟩ [(x,u)])/\∀base:Heap,(K w.params).In base->base.Ns mainGlobals mg->AQ l.prog w (K w.params) mg base B3 k fa fd [x] (Mh (K w.params))) :
  PySem.W.WalkO q loose XP YP l.row.toRowW d [] (λf vs=>PySem.call f vs):=
 L2.walk_of (n:=63) (k:=k) (x:=x) (CX:=λ_=>B3) (sp:=λw=>Mh (K w.params)) hn (by decide) hdf
  ⟨rfl,by
    have:callerA.depth+605<recursionLimit:=by decide
    lia,by
     have:callerA.units+3400<cLine:=by decide
     lia,rfl⟩ hY F (λ_ H a ns hl hO hS=>⟨a,ns,rfl,hS,hl,hO,λ_=>rfl⟩) λ_ _ _ _ _ z=>z
def DV (l:List (Str×NameKind)):Scope:={kind:=.function,names:=l,isGenerator:=false,isCoroutine:=false,more:=[]}
theorem Bq:bootBuiltins "len"=some (.builtin "len"):=by decide +kernel
theorem LU:bootBuiltins "all"=some (.builtin "all"):=by decide +kernel
theorem FT:bootBuiltins "isinstance"=some (.builtin "isinstance"):=by decide +kernel
theorem PJ:bootBuiltins "abs"=some (.builtin "abs"):=by decide +kernel
theorem RB:bootBuiltins "max"=some (.builtin "max"):=by decide +kernel
theorem HF:bootBuiltins "int"=some (.type "int"):=by decide +kernel
theorem Lj:bootBuiltins "str"=some (.type "str"):=by decide +kernel
theorem Y1:bootBuiltins "bool"=some (.type "bool"):=by decide +kernel
theorem RX:bootBuiltins "list"=some (.type "list"):=by decide +kernel
theorem Gw:bootBuiltins "tuple"=some (.type "tuple"):=by decide +kernel
theorem Ap {n:Nat}(h:n<=1000000):n<=sizeLine:=by rw[FP];lia
theorem Al {n:Nat}(h:Nat.ble n 1000000=true):n<=sizeLine:=Ap (Nat.le_of_ble_eq_true h)
theorem Cu {n:Nat}(h:n<1000000):n<sizeLine:=by rw[FP];lia
theorem A6 {H:Hp}{p:Addr}(h:H p=none)(o:HO):Ae H (upd H p o):=λb u q=>by rw[Aa (B0 q h)];exact q
theorem Ae.seqT {K:Zc}{H H':Hp}{a:Addr}{xs:List V}(e:Ae H H')(h:Aw K H a xs):Aw K H' a xs:=by
 rcases h with h|h
 .rcases h with h|⟨o,h⟩
  .exact .inl (.inl (e _ _ h))
  .exact .inl (.inr ⟨o,e _ _ h⟩)
 .exact .inr h
theorem dT {p:Prop}[Decidable p](h:decide p=true):p:=Jw h
theorem dF {p:Prop}[Decidable p](h:¬decide p=true):¬p:=λz=>h (Bc z)
def Vb (K:Zc):Sp:=λvs H Q _=>∃(a:Addr) (ns:List Int) (k:Int),vs=[.ref a,.int k]/\A4 K H a (ns.map V.int)/\0<=k/\Q (.int (ns.getD k.toNat 0)) H
theorem GC {ns:List Int}{k:Int}(h0:0<=k)(h:k<(ns.length:Int)):Bu (ns.map V.int) k=some (.int (ns.getD k.toNat 0)):=by
 have hk:k.toNat<ns.length:=by lia
 have ek:k=((k.toNat:Nat):Int):=by lia
 have q:Bu (ns.map V.int) ((k.toNat:Nat):Int)=some (.int (ns.getD k.toNat 0)):=D8 (by rw[Ce,BC hk];simp[Gf,hk]);rw[←ek]at q;exact q
theorem Xo {ns:List Int}{k:Int}(h:¬k<(ns.length:Int)):ns.getD k.toNat 0=0:=by rw[Gf,List.getElem?_eq_none (by lia)];rfl
def isInt:V->Bool
 |.int _=>true
 |_=>false
def Yb:V->Bool
 |.int _=>true
 |.bl _=>true
 |.non=>true
 |.str _=>true
 |_=>false
def Ut:Sp:=λvs H Q _=>∃x,vs=[x]/\Yb x=true/\Q (.bl (isInt x)) H
def TL:Sp:=λvs H Q _=>∃z y:Str,vs=[.str z,.str y]/\z.length<=1000/\∀H',Ae H H'->Q (.bl (decide (∀c∈cds z,c∈cds y))) H'
def C9 (l:List Nat):Prop:=1<=l.length/\l.length<=18/\¬(l.head?=some 48/\1<l.length)/\∀c∈l,48<=c/\c<=57
noncomputable instance (l:List Nat):Decidable (C9 l):=by unfold C9;infer_instance
def Gq (l:List Nat):V:=if C9 l then .int ((NumText.digitsVal l:Nat):Int) else .non
def WY:Sp:=λvs H Q _=>∃z:Str,vs=[.str z]/\z.length<=1000/\∀H',Ae H H'->Q (Gq (cds z)) H'
theorem U8:cds "0123456789"=[48,49,50,51,52,53,54,55,56,57]:=by decide +kernel
theorem OL (c:Nat):c∈cds "0123456789"↔48<=c/\c<=57:=by
 rw[U8];simp;omega
theorem DB {α:Type}{l:List α}{i:Nat}{c:α}(h:l[i]?=some c):l.take (i+1)=l.take i++[c]:=by
 rw[List.take_succ,h];rfl
theorem MK {z:Str}:z="0"↔cds z=[48]:=⟨λh=>by rw[h];decide +kernel,λh=>D2 (by rw[h];decide +kernel)⟩
theorem Hw {z:Str}:z=""↔cds z=[]:=⟨λh=>by rw[h];decide +kernel,λh=>D2 (by rw[h];decide +kernel)⟩
theorem Dp {t u:TS}{D:CY}{σ:St}{H:Hp}(M:St->Hp->Prop)(hu:∀σ' H',M σ' H'->u D σ' H')(ht:(∀σ' H',M σ' H'->u D σ' H')->t {D with nx:=u D} σ H):Dt t u D σ H:=ht hu
theorem Eu {b:Bool}{A B:Prop}{v:Bool}(e:b=v)(h:if v=true then A else B):if b=true then A else B:=by rw[e];exact h
theorem Df (l:List Nat):(AC l).length=l.length:=by rw[←cds_len,Bl]
theorem PK (x y:Str):(x++y).length=x.length+y.length:=Str.length_append x y
section
variable {X:Cx}{pins:List (Addr×Obj)}{σ:St}{H:Hp}{s:Shared}
end
section
variable {X:Cx}
theorem Fg {A:Around}{k:Nat}(hr:Ci k A):A.units+64<cLine:=by have:=hr.un;lia
end
section
variable {X:Cx}
end
def stepS (x:Int)(k:Int):Int:=(x*x+48271*x+k)%2147483647
def Et (x k:Int):Nat->List Int
 |0=>[]
 |n+1=>stepS x k::Et (stepS x k) (k+1) n
theorem Of (x k:Int)(n:Nat):(Et x k n).length=n:=by
 induction n generalizing x k with
 |zero=>rfl
 |succ n ih=>simp[Et,ih]
theorem UL {x k y:Int}{n:Nat}(h:y∈Et x k n):0<=y/\y<2147483647:=by
 induction n generalizing x k with
 |zero=>cases h
 |
  succ n ih=>
  rcases Av.mp h with rfl|h
  .exact⟨BU _ (by decide),C0 _ (by decide)⟩
  .exact ih h
def CQ (x k:Int):Nat->Int
 |0=>x
 |n+1=>CQ (stepS x k) (k+1) n
theorem Ox (x k:Int)(n:Nat):CQ x k (n+1)=stepS (CQ x k n) (k+n):=by
 induction n generalizing x k with
 |zero=>simp[CQ]
 |
  succ n ih=>
  rw[CQ,ih,CQ];congr 1;lia
theorem Rp (x k:Int)(n:Nat):Et x k (n+1)=Et x k n++[CQ x k (n+1)]:=by
 induction n generalizing x k with
 |zero=>simp[Et,CQ]
 |
  succ n ih=>
  rw[Et,ih,Et,Dx];rfl
def CZ (c:Int):Int:=c%2147483647+48271
def E5 (c:Int)(n:Nat):List Int:=(Et (CZ c) 0 (n+1)).drop 1
theorem GB (c:Int)(n:Nat):(E5 c n).length=n:=by unfold E5;rw[BS,Of];lia
theorem IA {c y:Int}{n:Nat}(h:y∈E5 c n):0<=y/\y<2147483647:=UL (Gg h)
def YI:Sp:=λvs H Q _=>∃(c n:Int),vs=[.int c,.int n]/\0<=n/\n<=1000/\∀(r:Addr) (H':Hp),Ae H H'->H' r=some (.lst ((E5 c n.toNat).map V.int))->Q (.ref r) H'
theorem UW {x:Int}(h0:0<=x)(h1:x<2147531918) : -(2 ^ 64:Int)<x/\x<2 ^ 64:=by
 have:(2:Int) ^ 64=18446744073709551616:=by decide
 lia
theorem W8 (c:Int):0<=CZ c/\CZ c<2147531918:=by
 have h0:=BU c (show(2147483647:Int)≠0 by decide);have h1:=C0 c (show(0:Int)<2147483647 by decide);unfold CZ;lia
theorem Wf (c:Int)(n:Nat):0<=CQ (CZ c) 0 n/\CQ (CZ c) 0 n<2147531918:=by
 cases n with
 |zero=>exact W8 c
 |
  succ n=>
  rw[Ox];unfold stepS;have h0:=BU (CQ (CZ c) 0 n*CQ (CZ c) 0 n+48271*CQ (CZ c) 0 n+(0+(n:Int))) (show(2147483647:Int)≠0 by decide);have h1:=C0 (CQ (CZ c) 0 n*CQ (CZ c) 0 n+48271*CQ (CZ c) 0 n+(0+(n:Int))) (show(0:Int)<2147483647 by decide);lia
theorem Z3 {α:Type}(l:List α):(l.drop (HT.sIx l.length 0 (some 1))).take (HT.sIx l.length l.length none-HT.sIx l.length 0 (some 1))=l.drop 1:=by
 rw[show HT.sIx l.length 0 (some (1:Int))=min 1 l.length from HT.sIx_nat _ _ 1,HT.sIx_none];cases l with
 |nil=>rfl
 |
  cons a r=>
  have e:min 1 (a::r).length=1:=by simp
  rw[e];simp
theorem Uz (xs:List Int):Cr (xs.map V.int) (some 1) none=(xs.drop 1).map V.int:=by
 unfold Cr;rw[Z3,Jl]
theorem MI:∀ys:List Str,cds (Txt.join "" ys)=(ys.map cds).flatten:=by
 intro ys;show cds (Builtin.Str.glued "" ys)=_;rw[StrLaws.glued_eq_join];induction ys with
 |nil=>rfl
 |
  cons y r ih=>
  cases r with
  |nil=>simp[Str.join]
  |
   cons z r=>
   show cds (y++""++Str.join "" (z::r))=_;rw[B4,B4,ih];have:cds ("":Str)=[]:=by decide +kernel
   rw[this,D6];rfl
abbrev EH:Str:="abcdefghijklmnopqrstuvwxyz"
theorem OS:cds EH=(List.range 26).map (97 + ·):=by decide +kernel
def DI (x:Int):Nat:=97+(x%26).toNat
theorem QQ (x:Int):Bu (cds EH) (x%26)=some (DI x):=by
 have h0:=BU x (show(26:Int)≠0 by decide);have h1:=C0 x (show(0:Int)<26 by decide);have e:x%26=(((x%26).toNat:Nat):Int):=by lia
 rw[e];refine D8 ?_;rw[OS,Ce,List.getElem?_range (by lia)];rfl
theorem O7:EH.length<=sizeLine:=Ap (by decide +kernel)
def Fv (xs:List Int):List Nat:=(xs.drop 2).map DI
def CA (xs:List Int):Int:=1+xs.getD 1 0%8
def CL (xs:List Int):Int:=xs.getD 1 0/8%CA xs
def GF (xs:List Int)(w:List Nat)(k:Int):List Nat:=w.take (CL xs).toNat++[DI (xs.getD (2+CL xs).toNat 0+k)]++(w.drop (CL xs+1).toNat).take ((CA xs).toNat-(CL xs+1).toNat)
def Hg (xs:List Int)(w:List Nat)(k:Int):List Nat:=w.take (1+(CA xs+3*k)%8).toNat
def BO (xs:List Int)(w:List Nat)(k:Int):List Nat:=if xs.getD 0 0%2=0 then Hg xs w k else GF xs w k
def DK:List (List Nat):=[cds "for",cds "end",cds "size"]
def DH (xs:List Int)(w:List Nat)(k:Int):List Nat:=if BO xs w k∈DK then[122,122]++BO xs w k else BO xs w k
theorem J7 (xs:List Int):1<=CA xs/\CA xs<=8:=by
 have h0:=BU (xs.getD 1 0) (show(8:Int)≠0 by decide);have h1:=C0 (xs.getD 1 0) (show(0:Int)<8 by decide);unfold CA;lia
theorem Ld (xs:List Int):0<=CL xs/\CL xs<CA xs:=by
 have:=J7 xs;exact⟨BU _ (by lia),C0 _ (by lia)⟩
theorem Ss {xs:List Int}(h:xs.length=10):(Fv xs).length=8:=by unfold Fv;rw[Ag,BS,h]
theorem Qr (z:List Nat):Dd (.str (AC z)) [.str "for",.str "end",.str "size"]=decide (z∈DK):=by
 have key:∀y:Str,Fd (.str y) (.str (AC z))=decide (z=cds y):=λy=>by
  show(y==AC z)=_;rw[Ei];simp only[CG,EG];exact⟨λe=>by rw[e,Bl],λe=>by rw[e,ES]⟩
 unfold Dd DK;simp only[Ji,List.any_nil,key,NM];rw[Ei];simp
theorem F6 {α:Type}(l:List α){k:Int}(h:0<=k):CM l none (some k)=l.take k.toNat:=by
 unfold CM;have e:k=((k.toNat:Nat):Int):=by lia
 rw[HT.sIx_none,e,HT.sIx_nat,Jk,Nat.sub_zero];rw[show(((k.toNat:Nat):Int)).toNat=k.toNat by lia];by_cases h:k.toNat<=l.length
 .rw[Jm h]
 .rw[Nat.min_eq_right (by lia),Gh (by lia),Gh (by lia)]
theorem Mg {α:Type}(l:List α){i j:Int}(hi:0<=i)(hj:0<=j)(hl:j<=(l.length:Int))(hij:i<=j):CM l (some i) (some j)=(l.drop i.toNat).take (j.toNat-i.toNat):=by
 unfold CM;have e1:i=((i.toNat:Nat):Int):=by lia
 have e2:j=((j.toNat:Nat):Int):=by lia
 rw[e1,e2,HT.sIx_nat,HT.sIx_nat];rw[show(((i.toNat:Nat):Int)).toNat=i.toNat by lia,show(((j.toNat:Nat):Int)).toNat=j.toNat by lia,Jm (by lia),Jm (by lia)]
theorem NF {α:Type}(l:List α){i:Int}(hi:0<=i):CM l (some i) none=l.drop i.toNat:=by
 unfold CM;have e1:i=((i.toNat:Nat):Int):=by lia
 rw[e1,HT.sIx_nat,HT.sIx_none,show(((i.toNat:Nat):Int)).toNat=i.toNat by lia];by_cases h:i.toNat<=l.length
 .rw[Jm h,Gh (by rw[BS];lia)]
 .rw[Nat.min_eq_right (by lia),Fk,List.take_zero,R4 (by lia)]
theorem WG {xs:List Int}{w:List Nat}(hw:w.length=8)(k:Int):(DH xs w k).length<=10:=by
 have hr:(BO xs w k).length<=8:=by
  unfold BO;split
  .unfold Hg;rw[Bb];lia
  .have:=J7 xs;have:=Ld xs;unfold GF;rw[An,An,Bb,Bb,BS,Bf];lia
 unfold DH;split
 .rw[An];simp;lia
 .omega
def G6 (c far:Int):Int:=if c%3=0 then c/3%7-3 else c/3%(2*far+1)-far
def WV:Sp:=λvs H Q _=>∃(c far:Int),vs=[.int c,.int far]/\0<=far/\far<2 ^ 63/\Q (.int (G6 c far)) H
def Cb (c:Nat)(l:List Nat):List Nat:=l.take (l.idxOf c)
def CS (c:Nat)(l:List Nat):List Nat:=l.drop (l.idxOf c+1)
def DC (c:Nat)(l:List Nat):List V:=if c∈l then[.str (AC (Cb c l)),.str ⟨#[c]⟩,.str (AC (CS c l))] else[.str (AC l),.str "",.str ""]
theorem II {X:Cx}:Gz X "str.partition" (λx xs H Q=>∃z c,x = .str z/\xs=[.str ⟨#[c]⟩]/\z.length<=sizeLine/\∀p,H p=none->Q (.ref p) (upd H p (.tup (DC c (cds z))))):=by
 intro pins s σ H x xs v us Q I rx rv h;obtain⟨z,c,rfl,rfl,hz,q⟩:=h;obtain⟨t,rfl⟩:=rx;obtain⟨u,rfl,t',rfl⟩:=rv.one;have fin:∀(its:List Value) (tk:Nat),AE (DC c (cds z)) its->EP X pins σ Q (.ref s.heap.objs.size) {s with toks:=tk,heap:=s.heap.push {cls:=.type "tuple",data:=.seq its.toArray}}:=λits tk hv=>by
  refine⟨.ref s.heap.objs.size,_,I.laid (t':=tk) (o:=.tup (DC c (cds z))) (λb o e=>Bz _ e) (Aq _) ?_,rfl,q _ (I.hok.fresh (Aq _))⟩;refine⟨?_,its,hv,FW.new _ _⟩;unfold DC;split<;>exact Al rfl
 refine Gn F.slot_str_partition (Il _ _ _) F.entry_str_partition (F.args_str_partition_2 _ _) (meets_str_partition z ⟨#[c]⟩ t t' rfl hz) ?_;rcases StrLaws.occ_head z ⟨#[c]⟩ 1 (Aq _) with⟨e,hn⟩|⟨i,r,e,ha,hn⟩
 .rw[e];have hc:¬c∈cds z:=λhm=>by
   obtain⟨i,hi,hc⟩:=List.mem_iff_getElem.mp hm;exact hn i ((StrLaws.subAt_one z c i).mpr (by rw[BC hi,hc]))
  refine fin _ _ ?_;unfold DC;rw[A9 hc,ES];exact .cons ⟨_,rfl⟩ (.cons ⟨_,rfl⟩ (.cons ⟨_,rfl⟩ .nil))
 .rw[e];have hi:=(StrLaws.subAt_one z c i).mp ha;have ei:=Nh hi λk hk w=>hn k hk ((StrLaws.subAt_one z c k).mpr w);refine fin _ _ ?_;unfold DC Cb CS;rw[Ac (CU hi),ei];have e1:Builtin.Str.strSub z 0 i=AC ((cds z).take i):=D2 (by rw[Bl];exact(StrLaws.strSub_toList z 0 i).trans (by simp));have e2:Builtin.Str.strSub z (i+(⟨#[c]⟩:Str).length) z.length=AC ((cds z).drop (i+1)):=D2 (by
   rw[Bl];refine(StrLaws.strSub_toList z _ _).trans ?_;show((cds z).drop (i+1)).take (z.length-(i+1))=_;rw[Gh (by rw[BS,cds_len];exact Aq _)])
  rw[←e1,←e2];exact .cons ⟨_,rfl⟩ (.cons ⟨_,rfl⟩ (.cons ⟨_,rfl⟩ .nil))
def AW (l:List Nat):Prop:=1<=l.length/\l.length<=8/\(∀c∈l,c∈cds EH)/\l∉DK
noncomputable instance (l:List Nat):Decidable (AW l):=by unfold AW;infer_instance
theorem Iw (c:Nat):c∈cds EH↔97<=c/\c<=122:=by
 rw[OS];simp only[CK,Lz];constructor
 .rintro ⟨k,hk,rfl⟩;lia
 .intro h;exact⟨c-97,by lia,by lia⟩
def De (l:List Nat):Int:=((NumText.digitsVal l:Nat):Int)
def Bv (l:List Nat):Option (List Nat×Int):=
 if AW l then some (l,0) else if C9 l then some ([],De l)
 else if 43∈l then(if C9 (CS 43 l)/\AW (Cb 43 l) then some (Cb 43 l,De (CS 43 l)) else none)
 else if 45∈l then(if C9 (CS 45 l) then(if AW (Cb 45 l)\/(Cb 45 l=[]/\0<De (CS 45 l)) then some (Cb 45 l,- De (CS 45 l)) else none) else none)
 else none
theorem Kt {l:List Nat}{c:Nat}(h:c∈l)(hc:¬(97<=c/\c<=122)):¬AW l:=λz=>hc ((Iw c).mp (z.2.2.1 c h))
theorem K2 {l:List Nat}{c:Nat}(h:c∈l)(hc:¬(48<=c/\c<=57)):¬C9 l:=λz=>hc (z.2.2.2 c h)
def SH:Sp:=λvs H Q _=>∃z:Str,vs=[.str z]/\z.length<=1000/\∀H',Ae H H'->Q (.bl (decide (AW (cds z)))) H'
def Hi (o:Option (List Nat×Int))(H:Hp)(Q:VK):Prop:=match o with
 |none=>∀H',Ae H H'->Q .non H'
 |some s=>∀r H',Ae H H'->H' r=some (.tup [.str (AC s.1),.int s.2])->Q (.ref r) H'
def VQ (f:List Nat->Option (List Nat×Int)):Sp:=λvs H Q _=>∃z:Str,vs=[.str z]/\z.length<=1000/\Hi (f (cds z)) H Q
def PB (c:Nat)(f:List Nat->Option (List Nat×Int))(K:Zc):Sp:=λvs H Q _=>∃(p:Addr) (l:List Nat),vs=[.ref p]/\Aw K H p (DC c l)/\l.length<=1000/\Hi (f l) H Q
theorem P8 (c:Nat)(l:List Nat)(h:l.length<=1000):∃b m e,DC c l=[.str (AC b),.str m,.str (AC e)]/\(c∈l->b=Cb c l/\e=CS c l)/\(c∉l->b=l/\e=[])/\(m=""↔c∉l)/\(AC b).length<=1000/\(AC e).length<=1000:=by
 unfold DC;have k:∀y:List Nat,(AC y).length=y.length:=λy=>by rw[←cds_len,Bl]
 by_cases hc:c∈l
 .rw[Ac hc];refine⟨_,_,_,rfl,λ_=>⟨rfl,rfl⟩,λz=>absurd hc z,⟨λz=>by have:=Hw.mp z;rw[P4]at this;exact absurd this (by simp),λz=>absurd hc z⟩,?_,?_⟩
  .rw[k];unfold Cb;rw[Bb];lia
  .rw[k];unfold CS;rw[BS];lia
 .rw[A9 hc];refine⟨l,"",[],rfl,λz=>absurd z hc,λ_=>⟨rfl,rfl⟩,⟨λ_=>hc,λ_=>rfl⟩,?_,?_⟩
  .rw[k];exact h
  .rw[k];exact BI _
def IS (l:List Nat):Option (List Nat×Int):=if 43∈l then(if C9 (CS 43 l)/\AW (Cb 43 l) then some (Cb 43 l,De (CS 43 l)) else none) else none
def K3 (l:List Nat):Option (List Nat×Int):=if 45∈l then(if C9 (CS 45 l) then(if AW (Cb 45 l)\/(Cb 45 l=[]/\0<De (CS 45 l)) then some (Cb 45 l,- De (CS 45 l)) else none) else none) else none
theorem Po:¬C9 []:=λz=>by have:=z.1;simp at this
theorem IW {l:List Nat}(h:C9 l):Gq l = .int (De l):=by unfold Gq De;rw[Ac h]
theorem IQ {l:List Nat}(h:¬C9 l):Gq l = .non:=by unfold Gq;rw[A9 h]
theorem Hi.over {o:Option (List Nat×Int)}{H H1:Hp}{Q:VK}(q:Hi o H Q)(e:Ae H H1):Hi o H1 Q:=by
 cases o with
 |none=>exact λH' e'=>q H' (e.trans e')
 |some s=>exact λr H' e' h=>q r H' (e.trans e') h
end L2
namespace Rd
open PySem
def EM (y l:List Nat)(n:Nat):Prop := ∀k,k<n->(l.drop k).take y.length≠y
inductive IsSplit (y:List Nat):List Nat->List (List Nat)->Prop
 |one {l:List Nat} (h:EM y l (l.length+1)):IsSplit y l [l]
 |cut {p l:List Nat} {ps:List (List Nat)} (h:EM y (p++(y++l)) p.length) (t:IsSplit y l ps):IsSplit y (p++(y++l)) (p::ps)
theorem KN (p y l:List Nat):((p++(y++l)).drop p.length).take y.length=y:=by
 rw[Ic,FN]
theorem IsSplit.fn {y:List Nat}{l:List Nat}{ps qs:List (List Nat)}(a:IsSplit y l ps)(b:IsSplit y l qs):ps=qs:=by
 induction a generalizing qs with
 |
  @one l h=>
  generalize e:l=l' at b;cases b with
  |one _=>rfl
  |@cut p r ps h' t=>exact absurd (KN p y r) (by rw[←e];exact h p.length (by rw[e,An];lia))
 |
  @cut p l ps h t ih=>
  generalize e:p++(y++l)=l' at b;cases b with
  |one h'=>exact absurd (KN p y l) (by rw[e];exact h' p.length (by rw[←e,An];lia))
  |
   @cut p' r ps' h' t'=>
   have hl:p.length=p'.length:=by
    rcases Nat.lt_trichotomy p.length p'.length with z|z|z
    .exact absurd (KN p y l) (by rw[e];exact h' _ z)
    .exact z
    .exact absurd (KN p' y r) (by rw[←e];exact h _ z)
   obtain⟨rfl,e2⟩:=List.append_inj e hl;have e3:=List.append_cancel_left e2;subst e3;rw[ih t']
theorem Mt (x y:Str):∀(cuts:List Nat) (a f:Nat),StrLaws.ChainG x y x.length a cuts f->(∀k,f<=k->¬StrLaws.At x y x.length k)->a<=x.length->
  IsSplit (L2.cds y) ((L2.cds x).drop a) ((StrLaws.partsFrom x y.length a cuts).map L2.cds)
 |
  [],a,f,h,hn,ha=>by
  have e:f=a:=h;subst e;have e1:L2.cds (Builtin.Str.strSub x f x.length)=(L2.cds x).drop f:=(StrLaws.strSub_toList x f x.length).trans (Gh (by rw[BS];exact Aq _));show IsSplit _ _ [L2.cds (Builtin.Str.strSub x f x.length)];rw[e1];refine .one λk hk z=>hn (f+k) (by lia) ⟨?_,?_⟩
  .have z1:=congrArg List.length z;rw[Bb,BS,BS,L2.cds_len,L2.cds_len]at z1;rw[BS,L2.cds_len]at hk;by_cases h0:y.length=0
   .omega
   .omega
  .rw[StrLaws.subAt_eq,CG];rw[Jn,L2.cds_len]at z;exact z
 |
  c::r,a,f,h,hn,ha=>by
  obtain⟨h1,h2,h3,h4⟩:=h;have h20:=h2.1;have ih:=Mt x y r (c+y.length) f h4 hn h20;have e1:L2.cds (Builtin.Str.strSub x a c)=((L2.cds x).drop a).take (c-a):=StrLaws.strSub_toList x a c;have e2:((L2.cds x).drop c).take y.length=L2.cds y:=by have:=h2.2;rw[StrLaws.subAt_eq,CG]at this;exact this
  have e3:(L2.cds x).drop a=((L2.cds x).drop a).take (c-a)++(L2.cds y++(L2.cds x).drop (c+y.length)):=by
   rw[←e2,←Jn,LH,show(L2.cds x).drop c=((L2.cds x).drop a).drop (c-a) by rw[Jn];congr 1;lia,LH]
  show IsSplit _ _ (L2.cds (Builtin.Str.strSub x a c)::_);rw[e1];have hl:(((L2.cds x).drop a).take (c-a)).length=c-a:=by rw[Bb,BS,L2.cds_len];lia
  have key:=IsSplit.cut (y:=L2.cds y) (p:=((L2.cds x).drop a).take (c-a)) (l:=(L2.cds x).drop (c+y.length)) (ps:=(StrLaws.partsFrom x y.length (c+y.length) r).map L2.cds) (by
   rw[←e3,hl];intro k hk z;rw[Jn,L2.cds_len]at z;refine h3 (a+k) (by lia) (by lia) ⟨by lia,?_⟩;rw[StrLaws.subAt_eq,CG];exact z) ih
  rw[←e3]at key;exact key
end Rd
namespace Rd
open PySem
theorem Qj (x y:Str)(hw:1<=y.length)(h:∀k,¬StrLaws.At x y x.length k):IsSplit (L2.cds y) (L2.cds x) [L2.cds x]:=by
 have h1:=Mt x y [] 0 0 rfl (λk _=>h k) (BI _);rw[Jk]at h1;have e:(StrLaws.partsFrom x y.length 0 []).map L2.cds=[L2.cds x]:=by
  show[L2.cds (Builtin.Str.strSub x 0 x.length)]=_;rw[StrLaws.sub_whole]
 rw[e]at h1;exact h1
theorem kind_le {x y:Str}(h:∀c∈L2.cds y,c<256):Builtin.Str.strKind y=1:=by
 unfold Builtin.Str.strKind;rw[Ac];rw[Array.all_eq_true'];intro c hc;exact Bc (h c (Array.mem_toList_iff.mpr hc))
theorem kind_pos (x:Str):1<=Builtin.Str.strKind x:=by
 unfold Builtin.Str.strKind;split
 .decide
 .split<;>decide
theorem split_is (x y:Str)(hy:1<=y.length)(hk:∀c∈L2.cds y,c<256):IsSplit (L2.cds y) (L2.cds x) ((Txt.split x y).map L2.cds):=by
 obtain⟨f,hG,hn⟩:=StrLaws.occ_tight x y hy;unfold Txt.split;split
 .rename_i hc;rw[R5,EG,EG]at hc;have k1:=kind_le (x:=x) hk;have k2:=kind_pos x;refine Qj x y hy λk z=>?_;have:=z.1;lia
 .split
  .rename_i he;have e0:Builtin.Str.occurrences x y 0 x.length (x.length+1)=[]:=R6.mp he;rw[e0]at hG;have ef:f=0:=hG;subst ef;exact Qj x y hy λk=>hn k (BI _)
  .rw[StrLaws.partsBetween_eq];have:=Mt x y _ 0 f hG hn (BI _);rw[Jk]at this;exact this
theorem split_len (x y:Str):(Builtin.Str.partsBetween x (Builtin.Str.occurrences x y 0 x.length (x.length+1)) y.length).length<=x.length+2:=by
 have h1:=StrLaws.occ_length_le x y 0 x.length (x.length+1);unfold Builtin.Str.partsBetween;rw[Ag,List.length_zip];simp only[AJ,Ag,An,Jj];lia
theorem split_len2 (x y:Str):(Txt.split x y).length<=x.length+2:=by
 have:=split_len x y;unfold Txt.split;split
 .simp
 .split
  .simp
  .exact this
theorem EM.of {c:Nat}{y l:List Nat}{n:Nat}(h:∀k,k<n->l[k]?≠some c):EM (c::y) l n:=λk hk z=>h k hk (by
 have:=congrArg List.head? z;rw[AJ,List.head?_take,A9 (by lia),List.head?_drop]at this;exact this)
theorem EM.free {c:Nat}{y p l:List Nat}(h:c∉p):EM (c::y) (p++l) p.length:=.of λk hk z=>h (by
 rw[Ej hk]at z;exact CU z)
theorem IsSplit.one' {c:Nat}{y p:List Nat}(h:c∉p):IsSplit (c::y) p [p]:=.one (.of λk hk z=>h (CU z))
theorem IsSplit.cut' {c:Nat}{y p l:List Nat}{ps:List (List Nat)}(h:c∉p)(t:IsSplit (c::y) l ps):IsSplit (c::y) (p++(c::y++l)) (p::ps):=.cut (.free h) t
theorem IsSplit.flat {c:Nat}{l:List Nat}{ps:List (List Nat)}(h:IsSplit [c] l ps):ps.flatten=l.filter (· != c):=by
 have key:∀p:List Nat,c∉p->p.filter (· != c)=p:=λp hp=>R7.mpr λa ha=>by
  rw[F1];exact λe=>hp (e▸ha)
 have at1:∀(p l:List Nat) (n:Nat),n<=p.length->EM [c] (p++l) n->∀k,k<n->(p)[k]?≠some c:=λp l n hn h k hk z=>h k hk (by
  have hk':k<p.length:=by lia
  rw[List.drop_append_of_le_length (by lia),Gi hk'];rw[BC hk']at z;rw[Co z];rfl)
 induction h with
 |
  @one l h=>
  have hc:c∉l:=λhm=>by
   obtain⟨k,hk⟩:=List.getElem?_of_mem hm;have hk':=(BQ.mp hk).1;exact at1 l [] l.length (Aq _) (λk hk=>by rw[D6];exact h k (by lia)) k hk' hk
  rw[key l hc];exact D6 _
 |
  @cut p l ps h t ih=>
  have hc:c∉p:=λhm=>by
   obtain⟨k,hk⟩:=List.getElem?_of_mem hm;exact at1 p _ p.length (Aq _) h k (BQ.mp hk).1 hk
  rw[Hd,ih,Gj,key p hc,Gj];simp
end Rd
namespace L2
open PySem
theorem O4:∀{l:List (Str×Tok)},AE ((l.map (·.1)).map V.str) (strValues l)
 |[]=>.nil
 |(z,t)::l=>.cons ⟨t,rfl⟩ O4
theorem JK {X:Cx}:Gz X "str.split" (λx xs H Q=>∃z y:Str,x = .str z/\xs=[.str y]/\1<=y.length/\(∀c∈cds y,c<256)/\z.length<=900000/\∀(p:Addr) (ps:List Str),H p=none->Rd.IsSplit (cds y) (cds z) (ps.map cds)->Q (.ref p) (upd H p (.lst (ps.map V.str)))):=by
 intro pins s σ H x xs v us Q I rx rv h;obtain⟨z,y,rfl,rfl,hy,hk,hz,q⟩:=h;obtain⟨t,rfl⟩:=rx;obtain⟨u,rfl,t',rfl⟩:=rv.one;have e1:sizeLine=16777216:=FP;have h1:=Rd.split_len z y;have h2:=Rd.split_len2 z y;have hy0:(y.length==0)=false:=by rw[EF];lia
 have hs:=Rd.split_is z y hy hk;have fin:∀(l:List (Str×Tok)) (tk:Nat),l.map (·.1)=Txt.split z y->EP X pins σ Q (.ref s.heap.objs.size) {s with toks:=tk,heap:=s.heap.push {cls:=.type "list",data:=.seq (strValues l).toArray}}:=λl tk hl=>by
  refine⟨.ref s.heap.objs.size,_,I.laid (t':=tk) (o:=.lst ((Txt.split z y).map V.str)) (λb o e=>Bz _ e) (Aq _) ?_,rfl,q _ _ (I.hok.fresh (Aq _)) hs⟩;refine⟨by rw[Ag];lia,strValues l,0,?_,Dl _ rfl⟩;rw[←hl];exact O4
 cases h1:(decide (z.length<y.length)||decide (Builtin.Str.strKind z<Builtin.Str.strKind y))
 .cases hf:(Builtin.Str.occurrences z y 0 z.length (z.length+1)).isEmpty
  .refine Gn F.slot_str_split (Il _ _ _) F.entry_str_split (F.args_str_split_2 _ _) (meets_str_split_sep z y t t' h1 hy0 hf (by lia) (by lia)) ?_;show wants _ _ _ {s with toks:=_,heap:=s.heap.push {cls:=.type "list",data:=.seq (strsFrom s.toks (Builtin.Str.partsBetween z (Builtin.Str.occurrences z y 0 z.length (z.length+1)) y.length)).toArray}};rw[strsFrom_eq];exact fin (numbered s.toks _) _ ((numbered_texts _ _).trans ((A9 (Rf h1)).trans (A9 (Rf hf))).symm)
  .exact Gn F.slot_str_split (Il _ _ _) F.entry_str_split (F.args_str_split_2 _ _) (meets_str_split_not_found z y t t' h1 hy0 hf) (fin [(z,t)] s.toks ((A9 (Rf h1)).trans (Ac hf)).symm)
 .exact Gn F.slot_str_split (Il _ _ _) F.entry_str_split (F.args_str_split_2 _ _) (meets_str_split_cannot_occur z y t t' h1) (fin [(z,t)] s.toks (Ac h1).symm)
theorem Y2 {X:Cx}:Gz X "str.endswith" (λx xs H Q=>∃z c,x = .str z/\xs=[.str ⟨#[c]⟩]/\Q (.bl (decide ((cds z).getLast?=some c))) H):=by
 intro pins s σ H x xs v us Q I rx rv h;obtain⟨z,c,rfl,rfl,q⟩:=h;obtain⟨t,rfl⟩:=rx;obtain⟨u,rfl,t',rfl⟩:=rv.one;have e:Txt.endswith z ⟨#[c]⟩=decide ((cds z).getLast?=some c):=by
  unfold Txt.endswith
  rw[StrLaws.subAt_eq];have hl:(cds z).length=z.length:=cds_len z;rw[Ei,Hc,EG,EG,CG,List.getLast?_eq_getElem?];show 0+1<=z.length/\((cds z).drop (z.length-1)).take 1=[c]↔_;rw[hl];constructor
  .intro⟨a,b⟩;have:=congrArg List.head? b;rw[List.head?_take,A9 (by decide),List.head?_drop]at this;exact this
  .intro b;have hb:=(BQ.mp b).1;refine⟨by lia,?_⟩;rw[Gi (by lia)];rw[BC (by lia)]at b;show[_]=_;rw[Co b]
 exact SC.endswith ⟨.bl _,H,I.tok _,by rw[e];rfl,q⟩
def stp (c:Nat)(l:List Nat):List Nat:=((l.dropWhile (· == c)).reverse.dropWhile (· == c)).reverse
theorem Xt {X:Cx}:Gz X "str.strip" (λx xs H Q=>∃(z:Str) (c:Nat),x = .str z/\xs=[.str ⟨#[c]⟩]/\z.length<=sizeLine/\Q (.str (AC (stp c (cds z)))) H):=by
 intro pins s σ H x xs v us Q I rx rv h;obtain⟨z,c,rfl,rfl,hz,q⟩:=h;obtain⟨t,rfl⟩:=rx;obtain⟨u,rfl,t',rfl⟩:=rv.one;have hg:(#[c]:Array Nat).contains=λa=>a==c:=by
  funext a
  rw[Ei];simp
 have dw:∀(l:List Nat),l.drop (l.takeWhile (· == c)).length=l.dropWhile (· == c):=λl=>by
  induction l with
  |nil=>rfl
  |
   cons a l ih=>
   rw[Jo,Ie];split
   .exact ih
   .rfl
 have e:Txt.stripChars z ⟨#[c]⟩=AC (stp c (cds z)):=by
  apply D2;rw[Bl];have key:cds (stripped (λa=>a==c) true true z)=stp c (cds z):=by
   refine(StrLaws.strSub_toList z _ _).trans ?_;unfold stripLo stripHi stp;simp only[Fp];show((cds z).drop ((cds z).takeWhile (· == c)).length).take (z.length-(((cds z).drop ((cds z).takeWhile (· == c)).length).reverse.takeWhile (· == c)).length-((cds z).takeWhile (· == c)).length)=_;rw[dw];generalize hm:(cds z).dropWhile (· == c)=m;rw[←dw m.reverse,List.drop_reverse,Jp];congr 1;have:=congrArg List.length (dw (cds z));rw[hm,BS,cds_len]at this;lia
  unfold Txt.stripChars Txt.stripBy;rw[hg];split
  .rename_i hs;rw[←key];unfold stripSame at hs;rw[Hc,CG,CG]at hs;unfold stripped;rw[hs.2,hs.1,StrLaws.sub_whole]
  .exact key
 exact SC.stripChars (λt' k=>⟨.str _,H,I.tok _,⟨_,by rw[e]⟩,q⟩) hz
end L2
namespace Rd
open PySem
theorem MO {M:Model}{Γ:Ctx}{p:Pos}{t:Sem Fin}{fs:List Frame}{s s':Shared}{e:End}(h:Runs M Γ p t fs s e s'):s.toks<=s'.toks:=by
 induction h with
 |done|raise|yield=>exact Aq _
 |fresh _ ih=>exact BP (Ia _) ih
 |again _ _ ih|rule _ ih | «at» _ ih|load _ _ ih|update _ _ ih|loadIfAlive _ ih|point _ ih|alloc _ ih|ask _ ih|choose _ _ ih|os _ ih|handled _ ih|genState _ _ ih|stack _ ih|thread _ ih|newGen _ ih=>exact ih
 |callSusp _ ih=>exact ih
 |segSuspOut _ _ ih=>exact ih
 |resumeJustStarted _ _ _ ih|resumeThrowFresh _ _ ih|resumeRunning _ _ ih|resumeFinished _ _ ih=>exact ih
 |call _ _ i1 i2|segRet _ _ i1 i2|segGen _ _ i1 i2=>exact BP i1 i2
 |resumeFresh _ _ _ _ i1 i2|resumeSuspended _ _ _ _ i1 i2|segSuspGen _ _ _ _ i1 i2=>exact BP i1 i2
theorem TQ {M:Model}{Γ:Ctx}{p:Pos}{g:Nat}{r:Resume}{s s':Shared}{res:GenResult}(h:Wakes M Γ p g r s res s'):s.toks<=s'.toks:=by
 unfold Wakes at h;split at h
 .exact h.elim
 .split at h
  .obtain⟨e₁,s₁,h1,_,_,rfl⟩:=h;exact(show(s.setGen g GenState.running).toks<=s₁.toks from MO h1)
  .obtain⟨_,rfl⟩:=h;exact Aq _
  .obtain⟨_,rfl⟩:=h;exact Aq _
 .obtain⟨e₁,s₁,h1,_,_,rfl⟩:=h;exact(show(s.setGen g GenState.running).toks<=s₁.toks from MO h1)
 .obtain⟨_,rfl⟩:=h;exact Aq _
 .obtain⟨_,rfl⟩:=h;exact Aq _
theorem Rz {α:Type}{M:Model}{Γ:Ctx}{t:Sem α}{Q:α->Pos->Shared->Prop}{E:Value->Pos->Shared->Prop}(n:Nat)(p:Pos)(s:Shared)(hn:n<=s.toks)(h:Sem.wp M Γ t Q E p s) :
  Sem.wp M Γ t (λa p' s'=>Q a p' s'/\n<=s'.toks) E p s:=by
 revert h;induction t generalizing p s with
 |pure x=>exact λh=>⟨h,hn⟩
 |raise v=>exact id
 |unsupported|finish|yield|fork|await|register=>exact id
 |rule _ k ih | «at» _ k ih|alloc _ k ih|loadIfAlive _ k ih|point _ k ih|ask k ih|os _ _ k ih|handled _ k ih|newGen _ k ih|stack k ih|thread k ih=>exact ih _ _ _ hn
 |fresh k ih=>exact ih _ _ _ (LI hn)
 |load a _ k ih|genState a k ih=>exact fun⟨o,ho,h⟩=>⟨o,ho,ih _ _ _ hn h⟩
 |update a _ f k ih|choose _ _ k ih=>exact fun⟨ha,h⟩=>⟨ha,ih _ _ _ hn h⟩
 |call c h g l k ih=>exact fun⟨r,s',hr,h⟩=>⟨r,s',hr,ih r _ _ (BP hn (MO hr)) h⟩
 |resume g r l k ih=>exact fun⟨res,s',hw,h⟩=>⟨res,s',hw,ih _ _ _ (BP hn (TQ hw)) h⟩
theorem wpAny_toks {α:Type}{M:Model}{A:Around}{t:Sem α}{Q:α->Shared->Prop}{E:Value->Shared->Prop}{s:Shared}{n:Nat}(hn:n<=s.toks)(h:wpAny M A t Q E s):wpAny M A t (λa s'=>Q a s'/\n<=s'.toks) E s:=
 fun Γ p hΓ=>Rz n p s hn (h Γ p hΓ)
end Rd
namespace L2
open PySem PySem.Spec PyProof.Rows
def L5 (X:Cx)(e:Expr)(t:TE):Prop:=
 ∀(pins:List (Addr×Obj)) (s:Shared) (σ:St) (H:Hp) (Q:VK),1<=s.toks->A7 X pins σ H s->t σ H Q->wpAny (model X.prog X.w) X.A (eval e X.env) (EP X pins σ Q) X.xe s
def K1 (X:Cx)(es:List Expr)(t:TA):Prop:=
 ∀(pos:Pos) (pins:List (Addr×Obj)) (s:Shared) (σ:St) (H:Hp) (Q:List V->Hp->Prop),1<=s.toks->A7 X pins σ H s->t σ H Q->wpAny (model X.prog X.w) X.A (spliced (backTo pos (starEach es X.env))) (AP X pins σ Q) X.xe s
section
variable {X:Cx}{a b e o:Expr}{es rest:List Expr}{ta tb te to:TE}{t:TA}{pos:Pos}
theorem Wm (ha:PE X e te)(hr:K1 X es t)(hs:starEach (e::es) X.env=(false,eval e X.env)::starEach es X.env:=by rfl):K1 X (e::es) (HL te t):=by
 intro pos pins s σ H Q hp I h;rw[hs];show wpAny _ _ (spliced ((false,eval e X.env)::backTo pos (starEach es X.env))) _ _ s;refine Calls.spliced_cons (AA (Rd.wpAny_toks hp (ha pins s σ H _ I h)) λu s1 zz=>?_);obtain⟨⟨x,H1,I1,r1,q1⟩,hp1⟩:=zz;refine AA (hr pos pins s1 σ H1 _ hp1 I1 q1) λus s2 zz=>?_;obtain⟨xs,H2,I2,r2,q2⟩:=zz;exact⟨x::xs,H2,I2,.cons r1 r2,q2⟩
theorem UY (ha:L5 X e te)(hs:starEach [e] X.env=(false,eval e X.env)::starEach [] X.env:=by rfl):K1 X [e] (HL te GL):=by
 intro pos pins s σ H Q hp I h;rw[hs];show wpAny _ _ (spliced ((false,eval e X.env)::backTo pos (starEach [] X.env))) _ _ s;refine Calls.spliced_cons (AA (ha pins s σ H _ hp I h) λu s1 zz=>?_);obtain⟨x,H1,I1,r1,q1⟩:=zz;exact Calls.spliced_nil ⟨[x],H1,I1,.cons r1 .nil,q1⟩
theorem Yr {op:CmpOp}{r:R2}{c:Str}{j:Nat}{cp p1:Pos}(ho:BL X (compareOp op) r)(ha:PE X a ta)(hm:behindInMarks op (.Constant (.str c) j cp)=false)(hb:L5 X b tb) :
  PE X (.BoolOp .And [.Compare a [op] [.Constant (.str c) j cp] p1,b] pos) (Np (Fe r ta (tC (.str c))) tb):=by
 intro pins s σ H Q I h;have key:wpAny (model X.prog X.w) X.A (eval (.Compare a [op] [.Constant (.str c) j cp] p1) X.env) (λv s'=>EP X pins σ (λx H1=>∃c,x = .bl c/\if c=true then tb σ H1 Q else Q (.bl false) H1) v s'/\1<=s'.toks) X.xe s:=by
  refine wpAny_Compare1 (AA (ha pins s σ H _ I h) λv s1 zz=>?_) hm;obtain⟨x,H1,I1,r1,q1⟩:=zz;refine Rg ?_;refine Rd.wpAny_toks (s:={s1 with toks:=s1.toks+1}) (NN (BI _)) ?_;exact ho pins _ σ H1 x (.str c) v _ _ (I1.tok _) r1 ⟨_,rfl⟩ q1
 refine BoolOp_and (AA key λv s1 zz=>?_);obtain⟨⟨x,H1,I1,r1,q1⟩,hp⟩:=zz;obtain⟨c,rfl,q1⟩:=q1;cases r1;refine Ij ?_;cases c with
 |true=>exact BoolOp_one (hb pins s1 σ H1 Q hp I1 q1)
 |false=>exact⟨.bl false,H1,I1,rfl,q1⟩
theorem Ui {CX:DS}{k:Nat}{f:Addr}{fd:FuncData}{ps:List Str}{sp:Sp}{x:Str}{ds:List Value}{dvs:List V}{E:XK}{p:Pos}(F:AQ X.prog X.w X.K X.mg X.base CX k f fd ps sp)(hr:Ci k X.A)(hg:Gl X x)(hm:X.mg x=some (.ref f))(hk:PySem.W.keepIn X.K (.ref f)=true)(hb:AV X.K fd ps ds)(hd:AE dvs ds)(hx:G7 CX X E)
  (ha:K1 X (e::es) t) (hdb:(x==("__debug__":Str))=false:=by decide) (he:starEach (e::es) X.env=(false,eval e X.env)::starEach es X.env:=by rfl) (hpl:(backTo pos (starEach es X.env)).any (·.1)=false:=by rfl) :
  L5 X (.Call (.Name x p) (e::es) [] pos) (Os sp dvs E t):=by
 intro pins s σ H Q hp I h;refine Gm (FF I hg hm ?_ hdb);refine LB (h₀:=X.base) I.ok.mod.kin hk (AA (ha pos pins s σ H _ hp I h) λus s1 zz=>?_) he hpl;obtain⟨vs,H1,I1,r,q⟩:=zz;refine⟨I1.kIn,?_⟩;exact Ou F hr hb hd hx I1 r q
theorem Wn (x:Str)(c:Nat)(hc:c<256):cds (Txt.replace x ⟨#[c]⟩ ⟨#[]⟩)=(cds x).filter (· != c):=by
 have h:=Rd.split_is x ⟨#[c]⟩ (Aq _) (λd hd=>by have e:d=c:=(by simpa[cds] using hd);lia);have hcd:cds ⟨#[c]⟩=[c]:=rfl;rw[hcd]at h;have e:cds (Txt.replace x ⟨#[c]⟩ ⟨#[]⟩)=((Txt.split x ⟨#[c]⟩).map cds).flatten:=by
  rw[←MI];unfold Txt.replace Txt.split;cases hf:(Builtin.Str.occurrences x ⟨#[c]⟩ 0 x.length (x.length+1)).isEmpty
  .have e1:(false||((⟨#[c]⟩:Str).length==0&&(⟨#[]⟩:Str).length==0))=false:=rfl;rw[e1];simp only[He,FQ];rw[A9]
   .rfl
   .intro hk;rw[R5,EG,EG]at hk;have hne:Builtin.Str.occurrences x ⟨#[c]⟩ 0 x.length (x.length+1)≠[]:=λz=>by rw[z]at hf;cases hf
    have k1:=Rd.kind_le (x:=x) (y:=⟨#[c]⟩) (λd hd=>by have e:d=c:=(by simpa[cds] using hd);lia);have k2:=Rd.kind_pos x;have hl:x.length<1:=by
     rcases hk with z|z
     .exact z
     .omega
    obtain⟨f,hG,_⟩:=StrLaws.occ_tight x ⟨#[c]⟩ (Aq _);cases hL:Builtin.Str.occurrences x ⟨#[c]⟩ 0 x.length (x.length+1) with
    |nil=>exact hne hL
    |
     cons i r=>
     rw[hL]at hG;have h1:=hG.2.1.1;have:(⟨#[c]⟩:Str).length=1:=rfl;lia
  .simp only[Bool.true_or,Fp];split
   .exact congrArg cds (show x=Txt.join "" [x] from rfl)
   .exact congrArg cds (show x=Txt.join "" [x] from rfl)
 rw[e,h.flat]
def Pp (c:Nat):V->List V->Hp->VK->Prop:=λx xs H Q=>∃z:Str,x = .str z/\z.length<=1000000/\Q (.str (AC ((cds z).filter (· != c)))) H
theorem Ye {c:Nat}{y w':Str}{j1 j2:Nat}{p1 p2 apos:Pos}(hy:y=⟨#[c]⟩)(hw:w'=⟨#[]⟩)(hc:c<256)(ho:PE X o to)
  (hbase:attributeBase o "replace" X.env (eval o X.env)=eval o X.env:=by rfl)
  (hfew:((backTo pos (starEach [.Constant (.str y) j1 p1,.Constant (.str w') j2 p2] X.env)).all (λx=>!x.1)&&(backToKw pos (keywordEach [] X.env)).all (λx=>x.1.isSome)
   && decide (([.Constant (.str y) j1 p1,.Constant (.str w') j2 p2]:List Expr).length+([]:List Keyword).length+(if([]:List Keyword).isEmpty then 0 else 1)<30))=true:=by rfl)
  (hline:(apos.endLine==pos.line)=true:=by rfl) :
  L5 X (.Call (.Attribute o "replace" apos) [.Constant (.str y) j1 p1,.Constant (.str w') j2 p2] [] pos) (Q9 X.K "str" (Pp c) to GL):=by
 intro pins s σ H Q hp I h;refine wpAny_Call_method_late hbase hfew hline rfl (AA (Rd.wpAny_toks hp (ho pins s σ H _ I h)) λv s1 zz=>?_);obtain⟨⟨x,H1,I1,r1,ty,q1⟩,hp1⟩:=zz;obtain⟨h1,h2⟩:=MS I1 r1 ty;refine⟨"str","str.replace",F.plainAttrs_str,F.slot_str_replace,F.type_str_replace,h1,h2,?_⟩;obtain⟨z,rfl,hz,q⟩:=(show Pp c x [] H1 Q from q1)
 obtain⟨t,rfl⟩:=r1;refine Calls.callWith_builtin rfl (Calls.evalArgs_plain ?_);show wpAny _ _ (spliced ((false,eval (.Constant (.str y) j1 p1) X.env)::(false,eval (.Constant (.str w') j2 p2) X.env)::[])) _ _ _;refine Calls.spliced_cons (Rg (Calls.spliced_cons (Rg (Calls.spliced_nil ?_))));subst hy hw;show wpAny _ _ (call (.builtin "str.replace") [.str z t,.str ⟨#[c]⟩ s1.toks,.str ⟨#[]⟩ (s1.toks+1)]) _ _ {s1 with toks:=s1.toks+1+1};refine SC.replaceW (show s1.toks≠0 by lia) (show s1.toks+1≠0 by lia) (show s1.toks≠s1.toks+1 by lia) (by rw[EF];exact λz=>by cases z) (by lia) (BI _) λt' k=>⟨.str _,H1,I1.tok _,⟨t',?_⟩,q⟩
 exact congrArg (λy=>Value.str y t') (D2 (by rw[Bl];exact Wn z c hc))
end
def RV (C:Addr):Sp:=λvs H Q _=>∃(x dx:Addr) (v1 v2 v3 v4 v5 v6 v7:V),vs=[.ref x,v1,v2,v3,v4,v5,v6,v7]/\H x=some (.ins C dx [])/\∀H',(∀b o,H b=some o->b≠x->H' b=some o)->(∃dx,H' x=some (.ins C dx [("names",v1),("lows",v2),("highs",v3),("table",v4),("spots",v5),("term",v6),("path",v7)]))->Q .non H'
theorem W1 {l:List Nat}(h:l∈DK):l.head?≠some 122:=by
 have e1:(cds "for").head?≠some 122:=by decide +kernel
 have e2:(cds "end").head?≠some 122:=by decide +kernel
 have e3:(cds "size").head?≠some 122:=by decide +kernel
 unfold DK at h;rcases Av.mp h with rfl|h
 .exact e1
 rcases Av.mp h with rfl|h
 .exact e2
 rcases Av.mp h with rfl|h
 .exact e3
 .cases h
theorem ND {α:Type}[DecidableEq α]:∀{l k:List α},l.Nodup->(∀x∈l,x∈k)->l.length<=k.length
 |[],_,_,_=>BI _
 |
  a::l,k,hn,hs=>by
  have ha:=hs a AH;have h2:=Gc.mp hn;have:=ND (l:=l) (k:=k.erase a) h2.2 λx hx=>(List.mem_erase_of_ne (show x≠a from λe=>h2.1 (by rw[←e];exact hx))).mpr (hs x (B5 _ hx));rw[List.length_erase_of_mem ha]at this;have:0<k.length:=List.length_pos_of_mem ha;simp only[AJ];lia
theorem GQ {α:Type}(l:List α)(x:α)(m:List α){n:Int}(hn:n = -((m.length:Int)+1)):Bu (l++x::m) n=some x:=by
 unfold Bu E6;have hl:(l++x::m).length=l.length+(m.length+1):=by rw[An];rfl
 rw[hl,A9 (by lia),Ac (by lia)];show(l++x::m)[(n+((l.length+(m.length+1):Nat):Int)).toNat]?=some x;rw[show(n+((l.length+(m.length+1):Nat):Int)).toNat=l.length by lia,EA (Aq _),Fk];rfl
theorem Lr (l m:List V)(hm:0<m.length){n:Int}(hn:n = -(m.length:Int)):Cr (l++m) none (some n)=l:=by
 unfold Cr;have hl:(l++m).length=l.length+m.length:=An;have e1:HT.sIx (l++m).length 0 none=0:=rfl;have e2:HT.sIx (l++m).length (l++m).length (some n)=l.length:=by
  show(if n<0 then(n+((l++m).length:Int)).toNat else min n.toNat (l++m).length)=l.length;rw[hl,Ac (by lia)];lia
 rw[e1,e2,Jk,Nat.sub_zero,List.take_left'];rfl
theorem MQ {tt:TT}{ta tb:TS}{D:CY}{σ:St}{H:Hp}(M:Hp->Prop)(hb:∀H',M H'->tb D σ H')(h:(∀H',M H'->tb D σ H')->IV tt ta tb D σ H):IV tt ta tb D σ H:=h hb
theorem Fc {α:Type}{l:List α}{n:Nat}(h:l.length=n+1):∃p x,l=p++[x]/\p.length=n:=by
 have hne:l≠[]:=λe=>by rw[e]at h;cases h
 exact⟨l.dropLast,l.getLast hne,(NO hne).symm,by rw[LF];lia⟩
theorem GW {H H2:Hp}{x dx C:Addr}(hx:H x=none)(hdx:H dx=none)(k:∀b o,(upd (upd H dx (.own x)) x (.ins C dx [])) b=some o->b≠x->H2 b=some o):Ae H H2:=λb o e=>by
 have n1:=B0 e hx;have n2:=B0 e hdx;exact k b o (by rw[Aa n1,Aa n2];exact e) n1
theorem Oq (ns:List Int)(lo hi:Option Int):Cr (ns.map V.int) lo hi=(CM ns lo hi).map V.int:=by
 unfold Cr CM;rw[Ag,Jq,Jl]
section
variable {X:Cx}{pins:List (Addr×Obj)}{σ:St}{H:Hp}{s:Shared}{h':Heap}
theorem A7.turnedL {t':Nat}{ch:List Addr}(I:A7 X pins σ H s)(k:∀b o,b∉ch->s.heap.get? b=some o->h'.get? b=some o)(hf:∀b∈ch,Ez X pins H b):A7 X pins σ H {s with heap:=h',toks:=t'}:=by
 have nit:∀b u,H b=some u->b∉ch:=λb u e z=>by rw[(hf b z).1]at e;cases e
 have hL:X.env.locals∉ch:=λz=>(hf _ z).2.1 rfl;refine I.step (g':=s.gens) (d':=s.drawn) (ch:=ch) (λb hb=>?_) (λb o _ _ hc e _=>k b o hc e) (λb o _ _ hc e _=>⟨o.slots,k b o hc e⟩) (λ_ _ _ _ n=>n)
  (λb o hc e=>⟨o,k b o hc e⟩) (λ_ _ e=>e) (λ_ _ _ e=>e) (λb ps e=>⟨#[],by rw[e];simp⟩) (λm hm=>?_) (λb u e=>?_) I.bare
 .obtain⟨f0,f1,f2,f3,f4,f5⟩:=hf b hb;exact⟨f3,f1,f4,f5⟩
 .obtain⟨o,es,ep,ho,r⟩:=hm;exact⟨o,es,ep,k _ o hL ho,r⟩
 .refine(I.hok b u e).stay (λc v hc q=>k c v ?_ q) (λ_ q=>q) λ_ _ q=>q;rcases hc with z|z
  .rw[z];exact nit b u e
  .exact nit c _ z
end
end L2
namespace Rd
open PySem
open AutoSeq1 (wpAny_loadPart')
section
variable {prog:Program}{w:World}{A:Around}{E:Value->Shared->Prop}{s:Shared}
theorem S8 {T newId initId:String}{Bn Bi:Builtin}{args:List Value}{kw:List (Str×Value)}{S:Spec}{Q Q₁:Value->Shared->Prop}(ft:TypeCalled T newId initId)
  (hct:checkTypeCall T ⟨args,kw⟩=pure ()) (hcn:checkBuiltinCall newId ⟨.type T::args,kw⟩=pure ())
  (entryN:entryFor table newId=some Bn) (entryI:entryFor table initId=some Bi) (g:Meets (Bn ⟨.type T::args,kw⟩) S)
  (h:S A.in1 (wants Q₁ E) s)
  (hnext:∀obj s₁,Q₁ obj s₁->s₁.TypeIs obj T/\argsOk initId ⟨obj::args,kw⟩/\∃Si,Meets (Bi ⟨obj::args,kw⟩) Si/\Si A.in1 (wants (λr s₂=>r = .none/\Q obj s₂) E) s₁) :
  wpAny (model prog w) A (call (.type T) args kw) Q E s:=by
 obtain⟨c,tl,hmro⟩:=ft.mro;have hmade:=ft.made;have hsub:=ft.sub;refine Fn (codeAny_of_tree ?_);show wpAny _ _ (callAny (.type T) _) _ _ _;refine Bj ⟨Code.quiet_builtin _ (by decide +kernel),codeAny_builtin F.entry_type_call ?_⟩;rw[Around.under_plain (weight_type_call_type T args kw) (units_type_call_type T args kw)];have h1:=ft.notType;have h2:=ft.canCreate
 repeat (any_goals (first|assumption|wp_step))
 refine Gk (Jx ft.plain entryN (wpAny_of_eq hcn (g prog w A.in1 _ s h))) λr s₁ hr=>?_;cases r with
 |error e=>exact hr
 |
  ok fl=>
  cases fl with
  |
   ret obj=>
   obtain⟨hT,hok,Si,gi,hsi⟩:=hnext _ _ hr;have hli:=ft.init.lookup;have hbi:=ft.init.bind obj
   repeat (any_goals (first|assumption|wp_step))
   refine Gk (Jx ft.init.plain entryI (ft.init.check _ _ _ _ _ _ _ _ hT hok (gi prog w A.in1 _ s₁ hsi))) λr₂ s₂ hr₂=>?_;cases r₂ with
   |error e=>exact hr₂
   |
    ok fl₂=>
    cases fl₂ with
    |
     ret r=>
     obtain⟨rfl,hq⟩:=hr₂
     repeat (any_goals (first|assumption|wp_step))
    |_=>exact hr₂.elim
  |_=>exact hr.elim
theorem Y9 {T newId:String}{self:Value}{rest:List Value}{kw:List (Str×Value)}(hl:typeLookup (.type T) "__init__"=pure (some (.builtin "object.__init__")))
  (hm:Bind.madeBy (.type T)=pure (some newId)) (hne:(some newId != some "object.__new__")=true) (hr:rest≠[]) :
  Meets (Builtin.«object.__init__» ⟨self::rest,kw⟩) (λ_ R s=>s.TypeIs self T/\R (.ok (.ret .none)) s):=by
 refine Meets.of_wp λprog w A R s hs=>?_;obtain⟨hT,hq⟩:=hs;cases rest with
 |nil=>exact absurd rfl hr
 |
  cons a rest=>
  repeat (any_goals (first|assumption|wp_step))
  exact⟨_,rfl,hq⟩
theorem Vw (l:Addr)(items:Array Value)(n:Nat)(dct:Option Addr)(sl:Array (Option Value))(t:Tok) :
  Meets (Builtin.«enumerate.__new__» ⟨[.type "enumerate",.ref l],[("start",.int 1 t)]⟩) (λ_ R s=>s.heap.get? l=some {cls:=.type "list",dict:=dct,data:=.seq items n,slots:=sl}/\
   R (.ok (.ret (.ref (s.heap.push {cls:=.type "list_iterator",data:=.fields #[.ref l,.int 0 0]}).objs.size)))
    {s with heap:=(s.heap.push {cls:=.type "list_iterator",data:=.fields #[.ref l,.int 0 0]}).push {cls:=.type "enumerate",data:=.fields #[.none,.bool false,.ref s.heap.objs.size,rawInt 1,.none,.none]}}):=
 .of_wp λprog w A R s h=>by
  obtain⟨hp,g,d,tk,os⟩:=s;obtain⟨hl,h⟩:=h;have hsub:=sub_enumerate;have hL:Heap.IsList (Shared.heap ⟨hp,g,d,tk,os⟩) l items:=⟨_,hl,rfl,n,rfl⟩
  wp_walk using wpAny_loadPart' hl
  refine wpAny_stack_any λst=>Bj ?_;split
  .rename_i c _ _ _ _ _;cases (c==Value.type "enumerate")
   .wp_walk using wpAny_loadPart' hl,LQ hL
    exact⟨_,rfl,h⟩
   .wp_walk using wpAny_loadPart' hl,LQ hL
    exact⟨_,rfl,h⟩
  .wp_walk using wpAny_loadPart' hl,LQ hL
   exact⟨_,rfl,h⟩
theorem YO (a b c:Value):argsOk "object.__init__" ⟨[a,b],[("start",c)]⟩:=by
 unfold argsOk;rw[signature?_of (id:="object.__init__") (n:=['_','_','t','i','n','i','_','_']) (o:=['t','c','e','j','b','o']) (by kernel_rfl) F.owner_object]
 kernel_rfl
theorem call_enum_start {l:Addr}{items:Array Value}{t:Tok}{Q:Value->Shared->Prop}(hL:s.heap.IsList l items)
  (h:∀h',IsEnum h' (s.heap.objs.size+1) s.heap.objs.size 1 .none->h'.IsListIter s.heap.objs.size l 0->h'.objs.size=s.heap.objs.size+2->
   (∀b o,s.heap.get? b=some o->h'.get? b=some o)->Q (.ref (s.heap.objs.size+1)) {s with heap:=h'}) :
  wpAny (model prog w) A (call (.type "enumerate") [.ref l] [("start",.int 1 t)]) Q E s:=by
 obtain⟨⟨c,dct,dt,sl⟩,hl,hc,n,hd⟩:=hL;replace hc:c = .type "list":=hc;replace hd:dt = .seq items n:=hd;subst hc hd;refine S8 (Q₁:=λobj s₁=>s₁.TypeIs obj "enumerate"/\Q obj s₁) F.called_enumerate (by kernel_rfl) (by kernel_rfl) F.entry_enumerate_new F.entry_object_init (Vw l items n dct sl t) ⟨hl,?_⟩ λobj s₁ hq=>⟨hq.1,YO _ _ _,_,Y9 F.called_enumerate.init.lookup F.called_enumerate.made (by decide) (Cq _ _),hq.1,rfl,hq.2⟩
 have hz:(s.heap.push {cls:=.type "list_iterator",data:=.fields #[.ref l,.int 0 0]}).objs.size=s.heap.objs.size+1:=Jh ..;show _/\_;rw[hz];have he:IsEnum ((s.heap.push {cls:=.type "list_iterator",data:=.fields #[.ref l,.int 0 0]}).push
   {cls:=.type "enumerate",data:=.fields #[.none,.bool false,.ref s.heap.objs.size,rawInt 1,.none,.none]}) (s.heap.objs.size+1) s.heap.objs.size 1 .none:=by
  have:=Dl (s.heap.push {cls:=.type "list_iterator",data:=.fields #[.ref l,.int 0 0]})
   (o:={cls:=.type "enumerate",data:=.fields #[.none,.bool false,.ref s.heap.objs.size,rawInt 1,.none,.none]}) rfl
  rw[hz]at this;exact this
 refine⟨⟨_,he,rfl⟩,h _ he ⟨_,Bz _ (Dl _ rfl),rfl,rfl⟩ (by rw[Jh,hz]) λb o x=>Bz _ (Bz _ x)⟩
end
end Rd
namespace Rd
open PySem
open AutoSeq1 (wpAny_loadPart')
section
variable {prog:Program}{w:World}{A:Around}{E:Value->Shared->Prop}{s:Shared}
theorem XW {e it l:Addr}{i:Nat}{c:Int}{items:Array Value}{x old:Value}{Q:Value->Shared->Prop}
  (he:IsEnum s.heap e it c old) (hit:s.heap.IsListIter it l i) (hl:s.heap.IsList l items) (hx:items[i]?=some x) (hne:e≠it)
  (hQ:∀h',IsEnumOut h' e it (c+1) x s.heap.objs.size->h'.IsListIter it l (i+1)->
   h'.get? s.heap.objs.size=some {cls:=.type "tuple",data:=.seq #[.int c s.toks,x]}->h'.objs.size=s.heap.objs.size+1->
   (∀b o,b≠e->b≠it->s.heap.get? b=some o->h'.get? b=some o)->Q (.ref s.heap.objs.size) {s with heap:=h',toks:=s.toks+1}) :
  wpAny (model prog w) A (Builtin.«enumerate.__next__» ⟨[.ref e],[]⟩) (λfin s'=>∃v,fin = .done (.ret v)/\Q v s') E s:=by
 obtain⟨hp,g,d,tk,os⟩:=s;show wpAny _ _ (field (.ref e) 2>>=_) _ _ _;refine Ao (FR he rfl (x:=.ref it) rfl ?_);refine Ao (wpAny_nextOf_list_item hit hl hx λh₁ hit₁ hs₁=>?_);replace hs₁:Heap.SameBut it hp h₁:=hs₁;have he₁:IsEnum h₁ e it c old:=(hs₁.2 e hne).trans he;show wpAny _ _ (field (.ref e) 3>>=_) _ _ ⟨h₁,g,d,tk,os⟩;refine Ao (FR he₁ rfl (x:=rawInt c) rfl ?_);show wpAny _ _ (field (.ref e) 4>>=_) _ _ ⟨h₁,g,d,tk,os⟩;refine Ao (FR he₁ rfl (x:=.none) rfl ?_);show wpAny _ _ (mkInt c>>=_) _ _ ⟨h₁,g,d,tk,os⟩;refine Ao (wpAny_mkInt ?_);show wpAny _ _ (setField (.ref e) 3 (rawInt (c+1))>>=_) _ _ ⟨h₁,g,d,tk+1,os⟩;refine Ao (LR he₁ (by simp) λh₂ he₂ hs₂=>?_);replace hs₂:Heap.SameBut e h₁ h₂:=hs₂;replace he₂:IsEnum h₂ e it (c+1) old:=he₂;show wpAny _ _ (setField (.ref e) 4 .none>>=_) _ _ ⟨h₂,g,d,tk+1,os⟩;refine Ao (LR he₂ (by simp) λh₃ he₃ hs₃=>?_);replace hs₃:Heap.SameBut e h₂ h₃:=hs₃;replace he₃:IsEnum h₃ e it (c+1) old:=he₃;show wpAny _ _ (newTuple [.int c tk,x]>>=_) _ _ ⟨h₃,g,d,tk+1,os⟩;refine Ao (wpAny_newTuple ?_);have he₄:IsEnum (h₃.push {cls:=.type "tuple",data:=.seq #[.int c tk,x]}) e it (c+1) old:=Bz _ he₃;generalize hh₄:h₃.push {cls:=.type "tuple",data:=.seq #[.int c tk,x]}=h₄ at he₄;have hsz:h₃.objs.size=hp.objs.size:=by rw[hs₃.1,hs₂.1,hs₁.1]
 have hel:e<hp.objs.size:=Bo he;have ht₄:h₄.get? hp.objs.size=some {cls:=.type "tuple",data:=.seq #[.int c tk,x]}:=by rw[←hh₄,←hsz];exact Dl _ rfl
 have hz₄:h₄.objs.size=hp.objs.size+1:=by rw[←hh₄,Jh,hsz]
 have hk₄:∀b o,b≠e->b≠it->hp.get? b=some o->h₄.get? b=some o:=λb o hbe hbi hb=>by
  rw[←hh₄];exact Bz _ (hs₃.extBut b o hbe (hs₂.extBut b o hbe (hs₁.extBut b o hbi hb)))
 have hit₄:h₄.IsListIter it l (i+1):=by
  rw[←hh₄];obtain⟨o,ho,r⟩:=(hit₁.extBut hs₂.extBut (Ne.symm hne)).extBut hs₃.extBut (Ne.symm hne);exact⟨o,Bz _ ho,r⟩
 show wpAny _ _ (Builtin.SmallTypes.ownedTupleIsFree (.ref e)>>=_) _ _ ⟨h₄,g,d,tk+1,os⟩;rw[hsz];clear hh₄ he₃ hs₃ he₂ hs₂ he₁ hs₁ hit₁ hsz h₃ h₂ h₁;refine Ao ?_
 .unfold Builtin.SmallTypes.ownedTupleIsFree;refine Ao (FR he₄ rfl (x:=.none) rfl (Bj ?_));simp only[Fp];refine Ao (wpAny_rule ?_);refine Ao (FR he₄ rfl (x:=old) rfl ?_);refine Ao (LR he₄ (by simp) λh₅ he₅ hs₅=>?_);replace hs₅:Heap.SameBut e h₄ h₅:=hs₅;replace he₅:IsEnum h₅ e it (c+1) x:=he₅;show wpAny _ _ (Builtin.SmallTypes.ownedTupleHandOut (.ref e) (.ref hp.objs.size)>>=_) _ _ ⟨h₅,g,d,tk+1,os⟩;refine Ao ?_
  .unfold Builtin.SmallTypes.ownedTupleHandOut;refine Ao (LR he₅ (by simp) λh₆ he₆ hs₆=>?_);replace hs₆:Heap.SameBut e h₅ h₆:=hs₆;replace he₆:IsEnumOut h₆ e it (c+1) x hp.objs.size:=he₆;refine LR he₆ (by simp) λh₇ he₇ hs₇=>?_;replace hs₇:Heap.SameBut e h₆ h₇:=hs₇;replace he₇:IsEnumOut h₇ e it (c+1) x hp.objs.size:=he₇;refine Ao (wpAny_letGo (Bj ⟨_,rfl,hQ h₇ he₇ ?_ ?_ ?_ ?_⟩))
   .exact((hit₄.extBut hs₅.extBut (Ne.symm hne)).extBut hs₆.extBut (Ne.symm hne)).extBut hs₇.extBut (Ne.symm hne)
   .exact hs₇.extBut _ _ (Hb hel) (hs₆.extBut _ _ (Hb hel) (hs₅.extBut _ _ (Hb hel) ht₄))
   .rw[hs₇.1,hs₆.1,hs₅.1,hz₄]
   .exact λb o hbe hbi hb=>hs₇.extBut b o hbe (hs₆.extBut b o hbe (hs₅.extBut b o hbe (hk₄ b o hbe hbi hb)))
theorem enumC_next {e it l:Addr}{i:Nat}{c:Int}{items:Array Value}{x old:Value}{Q:Option Value->Shared->Prop}
  (he:IsEnum s.heap e it c old) (hit:s.heap.IsListIter it l i) (hl:s.heap.IsList l items) (hx:items[i]?=some x) (hne:e≠it)
  (hQ:∀h',IsEnumOut h' e it (c+1) x s.heap.objs.size->h'.IsListIter it l (i+1)->
   h'.get? s.heap.objs.size=some {cls:=.type "tuple",data:=.seq #[.int c s.toks,x]}->h'.objs.size=s.heap.objs.size+1->
   (∀b o,b≠e->b≠it->s.heap.get? b=some o->h'.get? b=some o)->Q (some (.ref s.heap.objs.size)) {s with heap:=h',toks:=s.toks+1}) :
  wpAny (model prog w) A (pyNext (.ref e)) Q E s:=by
 have hT:s.TypeIs (.ref e) "enumerate":=⟨_,he,rfl⟩
 unfold pyNext;exact Ao (LS (wpAny_callSpecial?_slot (name:=Str.ofString "__next__") hT F.slot_enumerate_next
  (wpAny_call_entry F.slot_enumerate_next hT F.entry_enumerate_next
   (XW he hit hl hx hne λh' a b c d k=>Bj (hQ h' a b c d k)) (F.args_enumerate_next_1 _))))
theorem enumC_end {e it l:Addr}{i:Nat}{c:Int}{items:Array Value}{old:Value}{Q:Option Value->Shared->Prop}(hh:A.handled=none)
  (he:IsEnum s.heap e it c old) (hit:s.heap.IsListIter it l i) (hl:s.heap.IsList l items) (hx:items[i]?=none)
  (hQ:∀h',Heap.ExtBut it s.heap h'->Q none {s with heap:=h'}):wpAny (model prog w) A (pyNext (.ref e)) Q E s:=by
 have hT:s.TypeIs (.ref e) "enumerate":=⟨_,he,rfl⟩
 unfold pyNext;refine Ao (LS (wpAny_callSpecial?_slot (name:=Str.ofString "__next__") hT F.slot_enumerate_next
  (wpAny_call_entry F.slot_enumerate_next hT F.entry_enumerate_next ?_ (F.args_enumerate_next_1 _))))
 show wpAny _ _ (field (.ref e) 2>>=_) _ _ _;refine Ao (FR he rfl (x:=.ref it) rfl ?_);refine Ao (wpAny_nextOf_list_end hh hit hl hx λh' x he' hx'=>?_);obtain⟨o,ho,hc⟩:=hx';refine Ao (wpAny_isInstance (T:="StopIteration") (b:=true) ⟨o,ho,hc⟩ isSubtype_stop ?_);exact Bj (hQ _ he')
end
section
open PyProof.Rows
variable {M:Model}{A:Around}{E:Value->Shared->Prop}{s:Shared}{env:Env}
theorem WE {pos:Pos}{id:String}{first:List Value}{args:List (Bool×Sem Value)}{keywords:List (Option Str×Sem Value)}{Q:Value->Shared->Prop}
  (hplain:args.any (·.1)=false) (hkw:keywords.any (·.1.isNone)=false)
  (h:wpAny M A (evalArgs (.type id) true args keywords) (λa s₁=>wpAny M A (call (.type id) (first++a.pos) a.kw) Q E s₁) E s) :
  wpAny M A (callWith pos (.type id) first args keywords) Q E s:=by
 unfold callWith;refine Ao (Gp (CV h (λa s₁ h₁=>Ao (Jv ?_)) λ_ _ x=>x));simp only[hplain,hkw,NM];refine Ao (Bj ?_);exact Ao (CV h₁ (λr s₂ hr=>Ao (Gp (wpAny_point (Bj hr)))) λ_ _ x=>x)
theorem callWith_kwT {pos:Pos}{id:String}{e:Expr}{rest:List Expr}{kws:List Keyword}{Q:Value->Shared->Prop}
  (h:wpAny M A (spliced (backTo pos (starEach (e::rest) env))) (λvs s₁=>wpAny M A (evalAll ((backToKw pos (keywordEach kws env)).map (·.2)))
   (λkvs s₂=>wpAny M A (call (.type id) vs (((backToKw pos (keywordEach kws env)).filterMap (·.1)).zip kvs)) Q E s₂) E s₁) E s)
  (he:backTo pos (starEach (e::rest) env)=(false,eval e env)::backTo pos (starEach rest env):=by rfl)
  (hplain:(backTo pos (starEach (e::rest) env)).any (·.1)=false:=by rfl)
  (hall:(backToKw pos (keywordEach kws env)).all (·.1.isSome)=true:=by rfl)
  (hkw:(backToKw pos (keywordEach kws env)).any (·.1.isNone)=false:=by rfl) :
  wpAny M A (callWith pos (.type id) [] (backTo pos (starEach (e::rest) env)) (backToKw pos (keywordEach kws env))) Q E s:=by
 refine WE hplain hkw ?_;rw[he]at h ⊢;exact evalArgs_kwB hall h
end
end Rd
namespace L2
open PySem PySem.Spec PyProof.Rows
def IJ (K:Zc)(a:Addr):It:=
 ⟨λi H=>∃xs x,A4 K H a xs/\xs[i]?=some x,λi H v H'=>∃x T,(∀xs,A4 K H a xs->xs[i]?=some x)/\H T=none/\v = .ref T/\H'=upd H T (.tup [.int ((i:Int)+1),x]),λi H=>∃xs,A4 K H a xs/\xs.length<=i⟩
theorem S0 {P:Program}{w:World}{K:Zc}{elts:List Expr}{x1:Nat}{pos:Pos}(a e it:Addr)(hei:e≠it):Hk P w K (.Tuple elts x1 pos) (IJ K a) [e,it] e (λi h=>(∃old,IsEnum h e it ((i:Int)+1) old)/\h.IsListIter it a i) where
 mem:=by simp
 obj:=λi h st b hb=>by
  obtain⟨⟨old,he⟩,hit⟩:=st;rcases Av.mp hb with rfl|hb
  .exact⟨_,he,λv z=>by cases z⟩
  .have e:b=it:=by simpa using hb
   subst e;obtain⟨o,e,c,d⟩:=hit;exact⟨o,e,λv z=>by rw[d]at z;cases z⟩
 keep:=λi h h' st k=>by
  obtain⟨⟨old,he⟩,hit⟩:=st;exact⟨⟨old,k e (by simp) _ he⟩,hit.at λo e=>k it (by simp) o e⟩
 item:=by
  intro X hP hw hK hc i pins s σ H E I hf st hg;subst hP hw hK;obtain⟨xs,x,hq,hx⟩:=hg;obtain⟨its,rv,p,hz⟩:=I.list hq;obtain⟨u,hu,ru⟩:=rv.get hx;obtain⟨⟨old,he⟩,hit⟩:=st;refine Rd.enumC_next he hit p.isList (x:=u) (by simpa using hu) hei λh1 ho hit' hT hsz hk=>⟨_,rfl,?_⟩
  refine wpAny_letOwnedTupleGo_enum ho λh2 he2 hs2=>?_;have hTn:H s.heap.objs.size=none:=I.hok.fresh (Aq _);have helt:e<s.heap.objs.size:=Bo he;have hilt:it<s.heap.objs.size:=by obtain⟨_,x,_⟩:=hit;exact Bo x
  have I1:A7 X pins σ (upd H s.heap.objs.size (.tup [.int ((i:Int)+1),x])) {s with heap:=s.heap.push {cls:=.type "tuple",data:=.seq #[.int ((i:Int)+1) s.toks,u]},toks:=s.toks+1}:=I.laid (t':=s.toks+1) (o:=.tup [.int ((i:Int)+1),x]) (λb o e=>Bz _ e) (Aq _) ⟨Al rfl,[.int ((i:Int)+1) s.toks,u],.cons ⟨_,rfl⟩ (.cons ru .nil),FW.new _ _⟩;have I2:A7 X pins σ (upd H s.heap.objs.size (.tup [.int ((i:Int)+1),x])) {s with heap:=h2,toks:=s.toks+1}:=by
   refine A7.turnedL (s:={s with heap:=s.heap.push {cls:=.type "tuple",data:=.seq #[.int ((i:Int)+1) s.toks,u]},toks:=s.toks+1}) (h':=h2) (ch:=[e,it]) (t':=s.toks+1) I1 (λb o hb q=>?_) (λb hb=>?_)
   .have nbe:b≠e:=λz=>hb (by simp[z]);have nbi:b≠it:=λz=>hb (by simp[z]);show h2.get? b=some o;rw[hs2.2 b nbe];rcases Heap.get?_push_cases q with⟨rfl,rfl⟩|q
    .exact hT
    .exact hk b o nbe nbi q
   .obtain⟨f0,f1,f2,f3,f4,f5⟩:=hf b hb;have nb:b≠s.heap.objs.size:=by
     rcases Av.mp hb with rfl|hb
     .exact Ca helt
     .have:b=it:=by simpa using hb
      subst this;exact Ca hilt
    exact⟨by rw[Aa nb];exact f0,f1,f2,f3,f4,f5⟩
  refine⟨.ref s.heap.objs.size,_,I2,rfl,⟨x,_,λys hy=>by rw[I.list_inj hy hq];exact hx,hTn,rfl,rfl⟩,⟨⟨_,by simpa using he2⟩,hit'.at λo y=>(hs2.2 it hei.symm).trans y⟩,λb hb=>?_⟩;obtain⟨f0,f1,f2,f3,f4,f5⟩:=hf b hb;have nb:b≠s.heap.objs.size:=by
   rcases Av.mp hb with rfl|hb
   .exact Ca helt
   .have:b=it:=by simpa using hb
    subst this;exact Ca hilt
  rw[Aa nb];exact f0
 done:=by
  intro X hP hw hK hc i pins s σ H E I hf st hg;subst hP hw hK;obtain⟨xs,hq,hx⟩:=hg;obtain⟨its,rv,p,hz⟩:=I.list hq;obtain⟨⟨old,he⟩,hit⟩:=st;have hl:=rv.length;refine Rd.enumC_end (I.ok.hd hc) he hit p.isList (by simp;lia) λh' eb=>⟨rfl,?_⟩
  exact I.turnedL (ch:=[e,it]) (t':=s.toks) (λb o hb q=>eb b o (λz=>hb (by simp[z])) q) hf
 self:=λ_ _ _ _ _ st h=>by
  obtain⟨⟨old,he⟩,_⟩:=st;exact wpAny_pyIter_enum he h
def Z2 (K:Zc)(ta:TA):TI:=fun σ H R=>ta σ H λvs H1=>∃a:Addr,vs=[.ref a]/\(∃xs,A4 K H1 a xs)/\R (IJ K a) H1
theorem Xx {X:Cx}{a:Expr}{ta:TA}{p pos kp ip:Pos}{elts:List Expr}{x1 j:Nat}{pos2:Pos}(hg:Gl X "enumerate")(hm:X.mg "enumerate"=none)(ha:PA X [a] ta)(hs:starEach [a] X.env=[(false,eval a X.env)]:=by rfl):PI X (.Tuple elts x1 pos2) (.Call (.Name "enumerate" p) [a] [⟨some "start",.Constant (.int 1) j ip,kp⟩] pos) (Z2 X.K ta):=by
 intro pins s σ H R I h;refine Gm (IC I hg hm boot_enumerate ?_);refine Rd.callWith_kwT (AA (ha pos pins s σ H _ I h) λus s1 zz=>?_) (by rw[hs];rfl) (by rw[hs];rfl);obtain⟨vs,H1,I1,r1,q1⟩:=zz;refine PyProof.Rows.kws_cons (wpAny_Constant_int (PyProof.Rows.kws_nil ?_));obtain⟨l,rfl,⟨xs,hq⟩,q⟩:=q1;cases r1 with
 |
  cons r rr=>
  cases rr;cases r;have I2:=I1.tok (s1.toks+1);obtain⟨its,rv,pl,hz⟩:=I2.list hq;refine Rd.call_enum_start pl.isList λh' he hit hsz hk=>?_;refine wpAny_pyIter_enum he ?_;refine⟨_,[s1.heap.objs.size+1,s1.heap.objs.size],_,_,H1,rfl,I2.kept (t':=s1.toks+1) hk,S0 l _ _ (Hb (LA _)),⟨⟨_,he⟩,hit⟩,λb hb=>?_,q⟩;rcases Av.mp hb with rfl|hb
  .exact I2.fpOk (Ia _) (I2.hok.fresh (Ia _))
  .have e:b=s1.heap.objs.size:=by simpa using hb
   subst e;exact I2.fpOk (Aq _) (I2.hok.fresh (Aq _))
theorem YF {K:Zc}{a:Addr}{xs:List V}{g:TG}{tb:TS}{D:CY}{σ:St}{H:Hp}(Pv:Nat->St->Hp->Prop)(h0:Pv 0 σ H)(hl:∀i σ H,i<=xs.length->Pv i σ H->A4 K H a xs)
  (hs:∀i x T σ H,xs[i]?=some x->Pv i σ H->H T=none->g (.ref T) σ (upd H T (.tup [.int ((i:Int)+1),x])) fun σ2 H2=>tb {D with nx:=Pv (i+1),ct:=Pv (i+1),bk:=D.nx} σ2 H2) (hd:∀σ H,Pv xs.length σ H->D.nx σ H) :
  ∃W:Nat->Nat->St->Hp->Prop,(∃m,W 0 m σ H)/\∀i m σ H,W i m σ H->
   ((IJ K a).stop i H/\D.nx σ H)\/((IJ K a).go i H/\∃N:St->Hp->Prop,(∀σ' H',N σ' H'->∃m',m'<m/\W (i+1) m' σ' H')/\∀x H',(IJ K a).yld i H x H'->g x σ H' fun σ2 H2=>tb {D with nx:=N,ct:=N,bk:=D.nx} σ2 H2):=by
 refine⟨λi m σ H=>m=xs.length-i/\i<=xs.length/\Pv i σ H,⟨xs.length,by simp,BI _,h0⟩,?_⟩;rintro i m σ H ⟨rfl,hi,p⟩;have q:=hl i σ H hi p;by_cases hlt:i<xs.length
 .refine .inr ⟨⟨xs,xs[i],q,BC hlt⟩,Pv (i+1),fun σ' H' p'=>⟨xs.length-(i+1),by lia,rfl,hlt,p'⟩,λv H' y=>?_⟩;obtain⟨x,T,hx,hT,rfl,rfl⟩:=y;exact hs i x T σ H (hx xs q) p hT
 .have e:i=xs.length:=by lia
  subst e;exact .inl ⟨⟨xs,q,Aq _⟩,hd σ H p⟩
theorem VU {X:Cx}{pins:List (Addr×Obj)}{σ:St}{H:Hp}{s:Shared}{A:Around}{E:Value->Shared->Prop}{a:Addr}{kvs:List (Bp×V)}{k:Bp}{x:V}{u r:Value}{Q:Value->Shared->Prop}(I:A7 X pins σ H s)(e:H a=some (.dK kvs))(ry:AK (kV k) u)(rx:AK x r)(hz:kvs.length<=1000000)
  (h1:∀v w' s',D9 kvs k=some v->A7 X pins σ H s'->AK v w'->Q w' s')
  (h2:D9 kvs k=none->∀s',A7 X pins σ (upd H a (.dK (FG kvs k x))) s'->Q r s'):wpAny (model X.prog X.w) A (call (.builtin "dict.setdefault") [.ref a,u,r]) Q E s:=by
 obtain⟨z,hd,vs,rel,dd⟩:=Y7 I.hok e;have hl:(FG kvs k x).length<=sizeLine:=by have:=RJ kvs k x;have:=FP;lia
 refine call_meetsIn Za dd.typeIs PySem.F.entry_dict_setdefault (PySem.F.args_dict_setdefault_3 _ _ _) (kt_meets_setdefault (DL X.prog X.w) a (K7 ry) hd r)
  ⟨vs,dd,by rw[←rel.length];exact z,λv hv=>?_,λhn h' dd' hs=>?_⟩
 .have rl:=rel.val k;rw[hv]at rl;cases l:D9 kvs k with
  |none=>rw[l]at rl;exact rl.elim
  |some v0=>rw[l]at rl;exact h1 v0 v _ l (I.tok _) rl
 .have rl:=rel.val k;rw[hn]at rl;have he:∃q,h'.get? a=some q:=by obtain⟨q,_,_,hq,_⟩:=dd';exact⟨q,hq⟩
  cases l:D9 kvs k with
  |some v0=>rw[l]at rl;exact rl.elim
  |none=>exact h2 l _ (V4 I (by rw[e];exact True.intro) hs he (Tv hl hd (rel.put k rx) dd'))
def TB (td ty tx:TE):TE:=fun σ H Q=>td σ H λx H1=>∃a,x = .ref a/\Q5 H1 a/\ty σ H1 λy H2=>tx σ H2 λz H3=>∃kvs k,H3 a=some (.dK kvs)/\y=kV k/\kvs.length<=1000000/\
 (∀v,D9 kvs k=some v->Q v H3)/\(D9 kvs k=none->Q z (upd H3 a (.dK (FG kvs k z))))
theorem Wr {X:Cx}{o e f:Expr}{td ty tx:TE}{apos cpos:Pos}(ho:PE X o td)(he:PE X e ty)(hf:PE X f tx)(m:M2 X o "setdefault" apos e f cpos):PE X (.Call (.Attribute o "setdefault" apos) [e,f] [] cpos) (TB td ty tx):=by
 intro pins s σ H Q I h;refine wpAny_Call_method m.base m.few m.line PySem.F.plainAttrs_dict Za PySem.F.type_dict_setdefault (AA (ho pins s σ H _ I h) λu s1 zz=>?_);obtain⟨x,H1,I1,rx,a,ex,d,q1⟩:=zz;subst ex;obtain rfl:u=Value.ref a:=rx;obtain⟨t1,t2,_⟩:=Z6 I1 d;refine⟨t1,t2,?_⟩;rw[m.trees];refine Calls.callWith_builtin rfl (Calls.evalArgs_plain (Calls.spliced_cons (AA (he pins s1 σ H1 _ I1 q1) λiv s2 ⟨y,H2,I2,ry,q2⟩=>
  Calls.spliced_cons (AA (hf pins s2 σ H2 _ I2 q2) λfv s3 ⟨z,H3,I3,rz,kvs,k,ea,ey,hz,q3,q4⟩=>Calls.spliced_nil ?_))))
 subst ey;exact VU I3 ea ry rz hz (λv w' s4 l I4 rw'=>⟨v,H3,I4,rw',q3 v l⟩) λl s4 I4=>⟨z,_,I4,rz,q4 l⟩
def Nv (P:Program)(w:World)(K:Zc)(a:Addr)(kvs:List (Bp×V)):Prop:=
 (a==sysModules)=false/\∀h:Heap,K.In h->∃vs,KV kvs vs/\h.DictOf (DL P w) a vs
def Ru (P:Program)(w:World)(K:Zc)(td ty:TE):TE:=fun σ H Q=>td σ H λx H1=>ty σ H1 λy H2=>∃a kvs k v,x = .ref a/\Nv P w K a kvs/\y=kV k/\D9 kvs k=some v/\Q v H2
theorem JW {X:Cx}{o i:Expr}{pos:Pos}{td ty:TE}(ho:PE X o td)(hi:PE X i ty)(hs:OX i):PE X (.Subscript o i pos) (Ru X.prog X.w X.K td ty):=by
 intro pins s σ H Q I h;refine SX PySem.F.slot_dict_getitem.lookup hs (AA (ho pins s σ H _ I h) λu s1 zz=>?_);obtain⟨x,H1,I1,rx,q1⟩:=zz;refine AA (hi pins s1 σ H1 _ I1 q1) λiv s2 zz=>?_;obtain⟨y,H2,I2,ry,a,kvs,k,v,ex,g,ey,l,q2⟩:=zz;subst ex ey;obtain rfl:u=Value.ref a:=rx;obtain⟨vs,rel,dd⟩:=g.2 s2.heap I2.kIn;obtain⟨w',hw,rw'⟩:=F9.some_of (v:=v) (o:=valueAt vs k) (by rw[←l];exact rel.val k);exact⟨dd.typeIs,wpAny_getItem_of (K7 ry) dd.mapOf hw ⟨v,H2,I2.tok _,rw',q2⟩⟩
theorem Wa {P:Program}{w:World}{K:Zc}{u:Addr}{ep:Nat}{x0 x1 x2 x3:Str}{y0 y1 y2 y3:Int}{h0 h1 h2 h3:Int}{t0 t1 t2 t3 s0 s1 s2 s3:Tok}
  (q:K.lookup u=some ⟨.type "dict",none,.dict #[⟨h0,.str x0 t0,.int y0 s0⟩,⟨h1,.str x1 t1,.int y1 s1⟩,⟨h2,.str x2 t2,.int y2 s2⟩,⟨h3,.str x3 t3,.int y3 s3⟩] ep,#[]⟩) (e0:h0=hashStr w x0) (e1:h1=hashStr w x1) (e2:h2=hashStr w x2) (e3:h3=hashStr w x3) (sm:(u==sysModules)=false)
  (nd:[x0,x1,x2,x3].Nodup):Nv P w K u [(.inr x0,.int y0),(.inr x1,.int y1),(.inr x2,.int y2),(.inr x3,.int y3)]:=⟨sm,λh X=>by
 subst e0 e1 e2 e3;have is:∀(x:Str) (t:Tok),(DL P w).is (.inr x) (.str x t)=true:=λx t=>K7 (k:=.inr x) ⟨t,rfl⟩;refine⟨[(.inr x0,.int y0 s0),(.inr x1,.int y1 s1),(.inr x2,.int y2 s2),(.inr x3,.int y3 s3)],.cons ⟨rfl,⟨_,rfl⟩⟩ (.cons ⟨rfl,⟨_,rfl⟩⟩ (.cons ⟨rfl,⟨_,rfl⟩⟩ (.cons ⟨rfl,⟨_,rfl⟩⟩ .nil))),_,_,_,X _ _ q,⟨rfl,rfl,rfl⟩,rfl,λe he=>?_,.cons (is _ _) rfl (.cons (is _ _) rfl (.cons (is _ _) rfl (.cons (is _ _) rfl .nil))),?_⟩
 .simp only[List.mem_toArray,Av,Cp,or_false]at he;rcases he with rfl|rfl|rfl|rfl
  .exact⟨.inr x0,is _ _,rfl⟩
  .exact⟨.inr x1,is _ _,rfl⟩
  .exact⟨.inr x2,is _ _,rfl⟩
  .exact⟨.inr x3,is _ _,rfl⟩
 .simp only[BE,List.map_nil,Gc,Av,Cp,or_false,not_or,Sum.inr.injEq,Rh,NP,and_true]at nd ⊢;exact nd⟩
section
variable {X:Cx}
def JH (K:Zc)(neg:Bool):R2:=λx y H Q=>∃p q xs,x = .ref p/\y = .ref q/\A4 K H p xs/\A4 K H q []/\Q (.bl (if neg then !xs.isEmpty else xs.isEmpty)) H
theorem Qt {neg:Bool}(hu:X.A.units+64<cLine):BL X (compareOp (if neg then .NotEq else .Eq)) (JH X.K neg):=by
 intro pins s σ H x y v u Q I rx ry h;obtain⟨p,q,xs,rfl,rfl,hp,hq,q'⟩:=h;cases rx;cases ry;have key:SeqAt.RcAt X.A s (.ref p) (.ref q) xs.isEmpty/\SeqAt.RcNeAt X.A s (.ref p) (.ref q) (!xs.isEmpty):=by
  obtain⟨its,rv,pl,_⟩:=I.list hp;obtain⟨jts,rv',pl',_⟩:=I.list hq;have l1:=rv.length;have l2:0=jts.length:=rv'.length;cases xs with
  |
   nil=>
   have l1:0=its.length:=l1;have hsz:its.toArray.size=jts.toArray.size:=by rw[BX,BX];lia
   have a:=SeqAt.RcAt.lists (A:=X.A) (e:=λ_=>true) pl.isList pl'.isList hsz (by lia) (λj u v=>absurd u (by rw[BX];lia));have b:=SeqAt.RcNeAt.lists (A:=X.A) (e:=λ_=>true) pl.isList pl'.isList hsz (by lia) (λj u v=>absurd u (by rw[BX];lia));have e:its.toArray.size=0:=by rw[BX];lia
   rw[e]at a b;exact⟨a,b⟩
  |
   cons x0 xs=>
   rw[AJ]at l1;have hne:(its.toArray.size != jts.toArray.size)=true:=by
    rw[BX,BX];simp only[F1,ne_eq];lia
   exact⟨SeqAt.RcAt.lists_lengths pl.isList pl'.isList hne (by lia),SeqAt.RcNeAt.lists_lengths pl.isList pl'.isList hne (by lia)⟩
 cases neg with
 |false=>exact key.1 X.prog X.w X.xe _ ⟨.bl _,H,I,rfl,q'⟩
 |true=>exact key.2 X.prog X.w X.xe _ ⟨.bl _,H,I,rfl,q'⟩
theorem Kd (hu:X.A.units+64<cLine):BL X (compareOp .Eq) (JH X.K false):=Qt (neg:=false) hu
theorem Hf (hu:X.A.units+64<cLine):BL X (compareOp .NotEq) (JH X.K true):=Qt (neg:=true) hu
end
end L2
namespace Bd
end Bd
namespace L2
open PySem PySem.Spec PyProof.Rows Bd
section
variable {es:List Expr}{env:Env}{p:Pos}
theorem Ar {c:Const}{n:Nat}:starEach (.Constant c n p::es) env=(false,eval (.Constant c n p) env)::starEach es env:=rfl
theorem FA {x:Str}:starEach (.Name x p::es) env=(false,eval (.Name x p) env)::starEach es env:=rfl
theorem Hh {a b:Expr}{o:Operator}:starEach (.BinOp a o b p::es) env=(false,eval (.BinOp a o b p) env)::starEach es env:=rfl
theorem LZ {f:Expr}{as:List Expr}{ks:List Keyword}:starEach (.Call f as ks p::es) env=(false,eval (.Call f as ks p) env)::starEach es env:=rfl
theorem Gr {a b:Expr}:starEach (.Subscript a b p::es) env=(false,eval (.Subscript a b p) env)::starEach es env:=rfl
theorem HX {as:List Expr}{n:Nat}:starEach (.Tuple as n p::es) env=(false,eval (.Tuple as n p) env)::starEach es env:=rfl
end
@[irreducible] def Fq (X:Cx) (es:List Expr) (t:TA):Prop:=PA X es t
section
variable {X:Cx}{e:Expr}{es:List Expr}{te:TE}{t:TA}{pos:Pos}
theorem C8:Fq X [] GL:=by unfold Fq;exact A1
theorem Ai (ha:PE X e te)(hr:Fq X es t)(hs:starEach (e::es) X.env=(false,eval e X.env)::starEach es X.env):Fq X (e::es) (HL te t):=by unfold Fq at *;exact A0 ha hr hs
theorem Dq (h:Fq X es t):PE X (.List es pos) (M9 t):=by unfold Fq at h;exact Bh h
theorem EJ {x1:Nat}(h:Fq X es t):PE X (.Tuple es x1 pos) (Qm t):=by unfold Fq at h;exact Cf h
end
theorem PD {c:TT}{tb:TS}{D:CY}{σ:St}{H:Hp}(k:Nat)(Pv:Nat->St->Hp->Prop)(h0:Pv 0 σ H)
  (hs:∀i σ H,i<=k->Pv i σ H->c σ H λb H1=>if b=true then i<k/\tb {D with nx:=Pv (i+1),ct:=Pv (i+1),bk:=D.nx} σ H1 else D.nx σ H1)
  (mono:∀σ H Q Q',(∀b H1,Q b H1->Q' b H1)->c σ H Q->c σ H Q'):Ls c tb D σ H:=by
 refine⟨λm σ H=>∃i,i<=k/\m=k-i/\Pv i σ H,⟨_,0,BI _,rfl,h0⟩,?_⟩;rintro m σ H ⟨i,hi,rfl,p⟩;refine mono σ H _ _ (λb H1 q=>?_) (hs i σ H hi p);cases b with
 |true=>exact⟨Pv (i+1),fun σ' H' p'=>⟨k-(i+1),by have:=q.1;lia,i+1,by have:=q.1;lia,rfl,p'⟩,q.2⟩
 |false=>exact q
end L2
namespace Bd
end Bd
namespace L2
open PySem PySem.Spec PyProof.Rows
section
open Bd
theorem Nj {tt:TT}{ta tb:TS}{D:CY}{σ:St}{H:Hp}(M:Hp->Prop)(ha:∀H',M H'->ta D σ H')(h:(∀H',M H'->ta D σ H')->IV tt ta tb D σ H):IV tt ta tb D σ H:=h ha
end
section
open Bd
end
def JM (C:Addr)(fs:List Str):Sp:=λas H Q _=>∃(x dx:Addr) (vs:List V),as = .ref x::vs/\vs.length=fs.length/\H x=some (.ins C dx [])/\∀H',(∀b o,H b=some o->b≠x->H' b=some o)->(∃dx,H' x=some (.ins C dx (fs.zip vs)))->Q .non H'
structure Cs where
 n:Addr
 v:Addr
 c:Addr
 j:Addr
end L2
namespace PySem
open Builtin
open AutoSeq1 (wpAny_loadPart')
end PySem
namespace L2
open PySem PySem.Spec PyProof.Rows
section
variable {X:Cx}
end
section
open Bd
theorem dS {x y:Str}(h:x≠y):decide (V.str x=V.str y)=false:=Bg λe=>h (V.str.inj e)
theorem Yq {K:Zc}{a:Addr}{xs:List V}{ρ:List (Option Nat)}{g:TG}{tt:TT}{te:TE}{σ:St}{H:Hp}{Q:VK}(Pv:Nat->List V->Hp->Prop)(h0:Pv 0 [] H)(hlen:xs.length<=sizeLine)(hl:∀i ys H,i<=xs.length->Pv i ys H->A4 K H a xs/\ys.length<=i)
  (hs:∀i x ys H,xs[i]?=some x->Pv i ys H->g x (C1 ρ σ) H fun σ2 H3=>JY ρ σ σ2/\tt σ2 H3 λok H4=>if ok=true then te σ2 H4 λv H5=>Pv (i+1) (ys++[v]) H5 else Pv (i+1) ys H4)
  (hd:∀ys H,Pv xs.length ys H->∀p,H p=none->Q (.ref p) (upd H p (.lst ys))):GM ρ g tt te σ Q (GN K a) H:=by
 refine⟨λi m ys H=>m=xs.length-i/\i<=xs.length/\Pv i ys H,⟨_,rfl,BI _,h0⟩,?_⟩;rintro i m ys H ⟨rfl,hi,p⟩;obtain⟨hq,hy⟩:=hl i ys H hi p;by_cases hlt:i<xs.length
 .refine .inr ⟨⟨xs,xs[i],hq,by simp[hlt]⟩,by lia,Pv (i+1),λys' H'' p'=>⟨xs.length-(i+1),by lia,rfl,hlt,p'⟩,λx H' y=>?_⟩;obtain⟨e,y2⟩:=y;subst e;exact hs i x ys _ (y2 xs hq) p
 .have e:i=xs.length:=by lia
  subst e;exact .inl ⟨⟨xs,hq,Aq _⟩,by lia,hd ys H p⟩
end
section
open PySem.SeqAt
open PySem.AutoSeq1 (wpAny_loadPart')
open PySem.MeetsSeq PySem.MeetsSeq2 PySem.MeetsSeq3
end
section
variable {prog:Program}{w:World}{A:Around}{E:Value->Shared->Prop}{s:Shared}
end
section
variable {prog:Program}{w:World}{A:Around}{E:Value->Shared->Prop}{s:Shared}
end
end L2
namespace Fo
variable {W L:Type}
section
variable (hdr:Nat->Bool->W->L)(dl:Nat->Int->List (Int×Int)->L)
end
end Fo
namespace Fo
variable {W L:Type}
end Fo
namespace L2
open PySem PySem.Spec PyProof.Rows
def Y8 (t:TE):TE:=fun σ H Q=>t σ H λv H1=>∃i:Int,v = .int i/\i.natAbs.log2<1920/\Q (.str (toString i)) H1
theorem SJ {X:Cx}{e:Expr}{t:TE}{pos:Pos}(h:PE X e t):PE X (.FormattedValue e (-1) none pos) (Y8 t):=by
 intro pins s σ H Q I hq;refine FormattedValue_plain (AA (h pins s σ H _ I hq) λv s1 hx=>?_);obtain⟨x,H1,I1,r1,i,rfl,hi,q⟩:=hx;obtain⟨t1,rfl⟩:=(show ∃t,v=Value.int i t from r1)
 exact formatField_int_small hi ⟨.str _,H1,I1.tok _,⟨_,rfl⟩,q⟩
def OW (acc:Str)(t:TE)(k:Str->TE):TE:=fun σ H Q=>t σ H λv H1=>∃y:Str,v = .str y/\(acc++y).length<=sizeLine/\k (acc++y) σ H1 Q
def Xi (a b:TE):TE:=OW Str.empty a λx=>OW x b λy=>tC (.str y)
theorem VH {X:Cx}{e1 e2:Expr}{a b:TE}{pos:Pos}(h1:PE X e1 a)(h2:PE X e2 b):PE X (.JoinedStr [e1,e2] pos) (Xi a b):=by
 intro pins s σ H Q I hq;refine JoinedStr_many (joinParts_cons (AA (h1 pins s σ H _ I hq) λv s1 hx=>?_));obtain⟨x,H1,I1,r1,y,rfl,hy,q1⟩:=hx;obtain⟨t1,rfl⟩:=(show ∃t,v=Value.str y t from r1)
 refine⟨hy,joinParts_cons (AA (h2 pins s1 σ H1 _ I1 q1) λv2 s2 hx2=>?_)⟩;obtain⟨x2,H2,I2,r2,y2,rfl,hy2,q2⟩:=hx2;obtain⟨t2,rfl⟩:=(show ∃t,v2=Value.str y2 t from r2)
 exact⟨hy2,joinParts_nil ⟨.str _,H2,I2.tok _,⟨_,rfl⟩,q2⟩ hy2⟩
def AN {α:Type}(R:V->α->Prop)(xs:List V)(as:List α):Prop:=xs.length=as.length/\∀(i:Nat) (x:V) (a:α),xs[i]?=some x->as[i]?=some a->R x a
theorem AN.nil {α:Type}{R:V->α->Prop}:AN R [] []:=⟨rfl,λi x a h=>by simp at h⟩
theorem AN.mono {α:Type}{R S:V->α->Prop}{xs:List V}{as:List α}(h:AN R xs as)(m:∀x a,R x a->S x a):AN S xs as:=⟨h.1,λi x a p q=>m _ _ (h.2 i x a p q)⟩
theorem AN.get' {α:Type}{R:V->α->Prop}{xs:List V}{as:List α}{i:Nat}{x:V}(h:AN R xs as)(hx:xs[i]?=some x):∃a,as[i]?=some a/\R x a:=by
 have hi:i<as.length:=by rw[←h.1];exact(BQ.mp hx).1
 exact⟨_,BC hi,h.2 i x _ hx (BC hi)⟩
theorem AN.app {α:Type}{R:V->α->Prop}{xs ys:List V}{as bs:List α}(h:AN R xs as)(g:AN R ys bs):AN R (xs++ys) (as++bs):=by
 refine⟨by rw[An,An,h.1,g.1],λi x a p q=>?_⟩;by_cases l:i<xs.length
 .rw[Ej l]at p;rw[Ej (by rw[←h.1];exact l)]at q;exact h.2 i x a p q
 .rw[EA (by lia)]at p;rw[EA (by have:=h.1;lia)]at q;rw[h.1]at p;exact g.2 _ x a p q
theorem AN.one {α:Type}{R:V->α->Prop}{x:V}{a:α}(h:R x a):AN R [x] [a]:=⟨rfl,λi y b p q=>by
 cases i with
 |zero=>cases p;cases q;exact h
 |succ i=>simp at p⟩
theorem AN.snoc {α:Type}{R:V->α->Prop}{xs:List V}{as:List α}{x:V}{a:α}(h:AN R xs as)(g:R x a):AN R (xs++[x]) (as++[a]):=h.app (.one g)
theorem AN.cons {α:Type}{R:V->α->Prop}{xs:List V}{as:List α}{x:V}{a:α}(g:R x a)(h:AN R xs as):AN R (x::xs) (a::as):=AN.app (.one g) h
def TK (H H':Hp):Prop := ∀(b:Addr) (xs:List V),H b=some (.tup xs)->H' b=some (.tup xs)
theorem TK.trans {H H' H'':Hp}(a:TK H H')(b:TK H' H''):TK H H'':=λx xs h=>b x xs (a x xs h)
theorem Ae.tk {H H':Hp}(e:Ae H H'):TK H H':=λb xs h=>e b _ h
theorem TK.upd {H:Hp}{l:Addr}{xs:List V}{o:HO}(hl:H l=some (.lst xs)):TK H (upd H l o):=λb ys hb=>by
 rw[Aa (Dm hb hl (by intro z;cases z))];exact hb
theorem P3 (z:Str):∀(x:Str) (ys:List Str),cds (Txt.join z (x::ys))=cds x++(ys.map λy=>cds z++cds y).flatten:=by
 intro x ys;show cds (Builtin.Str.glued z (x::ys))=_;rw[StrLaws.glued_eq_join];induction ys generalizing x with
 |nil=>simp[Str.join]
 |
  cons y r ih=>
  show cds (x++z++Str.join z (y::r))=_;rw[B4,B4,ih];simp
theorem MP {i:Int}(h:i<0):Str.ofString (toString i)="-"++Str.ofString (toString (0-i)):=by
 cases i with
 |ofNat n=>exact absurd h (by simp)
 |
  negSucc n=>
  have e:(0-Int.negSucc n)=((n+1:Nat):Int):=by lia
  rw[e];refine D2 ?_;rw[B4];show((Str.ofString ("-"++Nat.repr (n+1))).cps).toList=_;have ap:∀a b:String,cds (Str.ofString (a++b))=cds (Str.ofString a)++cds (Str.ofString b):=λa b=>by
   simp[cds,Str.ofString_eq_toList]
  exact ap "-" (Nat.repr (n+1))
theorem Qp {i:Int}(h0 : -999999999999999999<=i)(h1:i<=999999999999999999):(Str.ofString (toString i)).length<=19:=by
 by_cases c:i<0
 .rw[MP c,←cds_len,B4,An,cds_len,cds_len];have:=R8 (v:=0-i) (by lia) (k:=18) (by decide) (by show 0-i<10 ^ 18;lia);have e:("-":Str).length=1:=by decide +kernel
  lia
 .have:=R8 (v:=i) (by lia) (k:=18) (by decide) (by show i<10 ^ 18;lia);lia
theorem AO (x y:Str):(x++y).length=x.length+y.length:=by rw[←cds_len,B4,An,cds_len,cds_len]
theorem IP {i:Int}(h0 : -999999999999999999<=i)(h1:i<=999999999999999999):i.natAbs.log2<1920:=by
 by_cases z:i.natAbs=0
 .rw[z];decide
 .have:i.natAbs<2 ^ 64:=by lia
  have:=(Nat.log2_lt z).mpr this;lia
theorem UX {ys:List Str}{c:Nat}(h:∀y∈ys,y.length<=c):(ys.map (·.length)).sum<=c*ys.length:=by
 induction ys with
 |nil=>exact BI _
 |
  cons y ys ih=>
  have h1:=ih λz hz=>h z (B5 _ hz);have h2:=h y AH;rw[BE,NQ,AJ,Nat.mul_succ];lia
theorem M3 (z:Str)(ys:List Str):(Txt.join z ys).length<=(ys.map (·.length)).sum+ys.length*z.length:=by
 show(Builtin.Str.glued z ys).length<=_;rw[StrLaws.glued_eq_join];exact StrLaws.join_length_le z ys
def ME (t:TE):Prop := ∀(σ:St) (H:Hp) (Q Q':VK),(∀v H1,Q v H1->Q' v H1)->t σ H Q->t σ H Q'
def MT (t:TT):Prop := ∀σ H Q Q',(∀b H1,Q b H1->Q' b H1)->t σ H Q->t σ H Q'
def MA (t:TA):Prop := ∀σ H Q Q',(∀b H1,Q b H1->Q' b H1)->t σ H Q->t σ H Q'
def MR (r:R2):Prop := ∀(x y:V) (H:Hp) (Q Q':VK),(∀v H1,Q v H1->Q' v H1)->r x y H Q->r x y H Q'
def MB (r:List V->Hp->VK->Prop):Prop := ∀(vs:List V) (H:Hp) (Q Q':VK),(∀v H1,Q v H1->Q' v H1)->r vs H Q->r vs H Q'
theorem ME.var (i:Nat):ME (EL i):=fun σ H Q Q' hq zz=>by obtain⟨v,h,k⟩:=zz;exact⟨v,h,hq _ _ k⟩
theorem ME.c (v:V):ME (tC v):=fun σ H Q Q' hq h=>hq _ _ h
theorem ME.op {r:R2}{a b:TE}(hr:MR r)(ha:ME a)(hb:ME b):ME (Fe r a b):=fun σ H Q Q' hq h=>ha _ _ _ _ (λx H1 k=>hb _ _ _ _ (λy H2 k=>hr _ _ _ _ _ hq k) k) h
theorem ME.lst {t:TA}(h:MA t):ME (M9 t):=fun σ H Q Q' hq k=>h _ _ _ _ (λxs H1 m=>⟨m.1,λp hp=>hq _ _ (m.2 p hp)⟩) k
theorem ME.cb {r:List V->Hp->VK->Prop}{t:TA}(hr:MB r)(h:MA t):ME (KC r t):=fun σ H Q Q' hq k=>h _ _ _ _ (λxs H1 m=>hr _ _ _ _ hq m) k
theorem MA.nil:MA GL:=fun σ H Q Q' hq h=>hq _ _ h
theorem MA.cons {t:TE}{u:TA}(ht:ME t)(hu:MA u):MA (HL t u):=fun σ H Q Q' hq h=>ht _ _ _ _ (λx H1 k=>hu _ _ _ _ (λxs H2 m=>hq _ _ m) k) h
theorem MT.test {t:TE}(h:ME t):MT (Oz t):=fun σ H Q Q' hq k=>h _ _ _ _ (λx H1 ⟨b,e,m⟩=>⟨b,e,hq _ _ m⟩) k
theorem MR.i0 (g:Int->Int->V):MR (Fs g):=λx y H Q Q' hq zz=>by obtain⟨i,j,a,b,d⟩:=zz;exact⟨i,j,a,b,hq _ _ d⟩
theorem MB.len {P R:Hp->Addr->List V->Prop}:MB (λxs H Q=>∃p ys,xs=[V.ref p]/\(P H p ys\/R H p ys)/\Q (V.int (ys.length:Int)) H):=λvs H Q Q' hq zz=>by obtain⟨p,ys,a,b,c⟩:=zz;exact⟨p,ys,a,b,hq _ _ c⟩
theorem Jc {v:V}{i:Nat}{b:TS}{D:CY}{σ:St}{H:Hp}(h:b D (σ.set i (some v)) H):Dt (Hr (tC v) (Am i)) b D σ H:=h
end L2
namespace HT
open PySem PySem.Spec PyProof.Rows L2
section
variable {prog:Program}{w:World}{A:Around}{E:Value->Shared->Prop}{s:Shared}
end
end HT
namespace L2
open PySem PySem.Spec PyProof.Rows
def XZ (C:Addr):Sp:=λvs H Q _=>∃(x dx l:Addr) (v1:V) (xs:List V),vs=[.ref x,v1,.ref l]/\H x=some (.ins C dx [])/\H l=some (.lst xs)/\xs.length<=1000/\∀(H':Hp) (dl:Addr),(∀b o,H b=some o->b≠x->H' b=some o)->(∃dx,H' x=some (.ins C dx [("size",v1),("deeds",.ref dl)]))->H' dl=some (.lst xs)->Q .non H'
set_option genInjectivity true in
inductive Tw where
 |n (i:Int)
 |v (z:Str)
 |c (z:Str) (sp:List (Str×Int))
 |j (z:Str) (l r:Tw)
def nS (i:Int):Str:=Str.ofString (toString i)
def AI (s:Str×Int):Str:=if s.1="" then nS s.2 else if s.2=0 then s.1 else if 0<s.2 then s.1++"+"++nS s.2 else s.1++nS s.2
def Do (s:Str×Int):Str:="["++AI s++"]"
def AY (z:Str)(sp:List (Str×Int)):Str:=z++Txt.join "" (sp.map Do)
def DW (b:Bool)(x:Str):Str:=if b=true then"("++x++")" else x
def hz (z:Str):Nat:=if z="*" then 2 else 1
namespace Tw
def hld:Tw->Nat
 |.j z _ _=>hz z
 |_=>3
def wr:Tw->Str
 |.n i=>nS i
 |.v z=>z
 |.c z sp=>AY z sp
 |.j z l r=>DW (decide (hld l<hz z)) (wr l)++z++DW (decide (hld r<=hz z)) (wr r)
def sz:Tw->Nat
 |.j _ l r=>sz l+sz r
 |_=>1
end Tw
def ET:List Str:=["+","-","*"]
def Ff (s:Str×Int):Prop:=s.1.length<=20/\-999999999999999999<=s.2/\s.2<=999999999999999999
def Tw.Ok:Tw->Prop
 |.n i=>0<=i/\i<=999999999999999999
 |.v z=>z.length<=20
 |.c z sp=>z.length<=20/\sp.length<=3/\∀s∈sp,Ff s
 |.j z l r=>z∈ET/\Tw.Ok l/\Tw.Ok r
theorem Tw.sz_pos:∀t:Tw,1<=t.sz
 |.n _=>Aq _
 |.v _=>Aq _
 |.c _ _=>Aq _
 |.j _ l r=>BP (Tw.sz_pos l) (Jr _ _)
theorem L6 {i:Int}(h0 : -999999999999999999<=i)(h1:i<=999999999999999999):(nS i).length<=19:=Qp h0 h1
theorem Ta:("+":Str).length=1:=by decide +kernel
theorem Hn {s:Str×Int}(h:Ff s):(AI s).length<=40:=by
 obtain⟨a,b,c⟩:=h;have h1:=L6 b c;have h2:=Ta;unfold AI;split
 .omega
 .split
  .omega
  .split
   .rw[AO,AO];lia
   .rw[AO];lia
theorem YW {s:Str×Int}(h:Ff s):(Do s).length<=42:=by
 have h1:=Hn h;have h2:("[":Str).length=1:=by decide +kernel
 have h3:("]":Str).length=1:=by decide +kernel
 unfold Do;rw[AO,AO];lia
theorem Vr:("":Str).length=0:=by decide +kernel
theorem O9 {sp:List (Str×Int)}(hl:sp.length<=3)(h:∀s∈sp,Ff s):((sp.map Do).map (·.length)).sum+(sp.map Do).length*("":Str).length<=126:=by
 have h1:=UX (ys:=sp.map Do) (c:=42) λy hy=>by
  obtain⟨s,hs,rfl⟩:=CK.mp hy;exact YW (h s hs)
 rw[Vr,Nat.mul_zero];rw[Ag]at h1;lia
theorem Kj {z:Str}{sp:List (Str×Int)}(hz:z.length<=20)(hl:sp.length<=3)(h:∀s∈sp,Ff s):(AY z sp).length<=146:=by
 have h1:=M3 "" (sp.map Do);have h2:=O9 hl h;unfold AY;rw[AO];lia
theorem K8 (b:Bool)(x:Str):(DW b x).length<=x.length+2:=by
 have h2:("(":Str).length=1:=by decide +kernel
 have h3:(")":Str).length=1:=by decide +kernel
 unfold DW;split
 .rw[AO,AO];lia
 .omega
theorem PY {z:Str}(h:z∈ET):z.length<=1:=by
 have:∀w∈ET,w.length<=1:=by decide +kernel
 exact this z h
theorem Tw.wr_len:∀{t:Tw},t.Ok->t.wr.length+5<=200*t.sz
 |
  .n i,h=>by
  have:=L6 (i:=i) (by have:=h.1;lia) h.2;show(nS i).length+5<=200*1;lia
 |
  .v z,h=>by
  have h:z.length<=20:=h;show z.length+5<=200*1;lia
 |
  .c z sp,h=>by
  have:=Kj h.1 h.2.1 h.2.2;show(AY z sp).length+5<=200*1;lia
 |
  .j z l r,h=>by
  obtain⟨h0,h1,h2⟩:=h;have a1:=Tw.wr_len h1;have a2:=Tw.wr_len h2;have a0:=PY h0;have b1:=K8 (decide (hld l<hz z)) (wr l);have b2:=K8 (decide (hld r<=hz z)) (wr r);show(DW (decide (hld l<hz z)) (wr l)++z++DW (decide (hld r<=hz z)) (wr r)).length+5<=200*(sz l+sz r);rw[AO,AO];lia
theorem Yi {s:Str×Int}(h1:¬s.1="")(h2:¬s.2=0):AI s=s.1++(if s.2<0 then("-":Str) else"+")++nS (if s.2<0 then -s.2 else s.2):=by
 unfold AI;rw[A9 h1,A9 h2];by_cases c:s.2<0
 .rw[A9 (by lia),Ac c,Ac c];unfold nS;rw[MP c,show(0-s.2) = -s.2 by lia];exact D2 (by rw[B4,B4,B4,B4,Br])
 .rw[Ac (by lia),A9 c,A9 c]
def Ck (H:Hp)(x:V)(s:Str×Int):Prop := ∃t,x = .ref t/\H t=some (.tup [.str s.1,.int s.2])
def F4 (H:Hp)(p:Addr)(sp:List (Str×Int)):Prop := ∃xs,H p=some (.tup xs)/\AN (Ck H) xs sp
theorem Ck.tk {H H':Hp}{x:V}{s:Str×Int}(k:TK H H')(h:Ck H x s):Ck H' x s:=by obtain⟨t,e,h⟩:=h;exact⟨t,e,k _ _ h⟩
theorem F4.tk {H H':Hp}{p:Addr}{sp:List (Str×Int)}(k:TK H H')(h:F4 H p sp):F4 H' p sp:=by obtain⟨xs,e,h⟩:=h;exact⟨xs,k _ _ e,h.mono λ_ _ z=>z.tk k⟩
def Ew (H:Hp):Tw->V->Prop
 |.n i,x=>∃t,x = .ref t/\H t=some (.tup [.str "n",.int i])
 |.v z,x=>∃t,x = .ref t/\H t=some (.tup [.str "v",.str z])
 |.c z sp,x=>∃t p,x = .ref t/\H t=some (.tup [.str "c",.str z,.ref p])/\F4 H p sp
 |.j z l r,x=>∃t a b,x = .ref t/\H t=some (.tup [.str z,a,b])/\Ew H l a/\Ew H r b
theorem Ew.tk {H H':Hp}(k:TK H H'):∀{t:Tw} {x:V},Ew H t x->Ew H' t x
 |.n i,x,h=>by obtain⟨t,e,h⟩:=h;exact⟨t,e,k _ _ h⟩
 |.v z,x,h=>by obtain⟨t,e,h⟩:=h;exact⟨t,e,k _ _ h⟩
 |.c z sp,x,h=>by obtain⟨t,p,e,h,g⟩:=h;exact⟨t,p,e,k _ _ h,g.tk k⟩
 |.j z l r,x,h=>by obtain⟨t,a,b,e,h,g1,g2⟩:=h;exact⟨t,a,b,e,k _ _ h,Ew.tk k g1,Ew.tk k g2⟩
def BM (c:Cs)(H:Hp):Tw->V->Prop
 |.n i,x=>∃t dx,x = .ref t/\H t=some (.ins c.n dx [("n",.int i)])
 |.v z,x=>∃t dx,x = .ref t/\H t=some (.ins c.v dx [("name",.str z)])
 |.c z sp,x=>∃t dx p,x = .ref t/\H t=some (.ins c.c dx [("table",.str z),("spots",.ref p)])/\F4 H p sp
 |.j z l r,x=>∃t dx a b,x = .ref t/\H t=some (.ins c.j dx [("sign",.str z),("left",a),("right",b)])/\BM c H l a/\BM c H r b
theorem BM.over {c:Cs}{H H':Hp}(e:Ae H H'):∀{t:Tw} {x:V},BM c H t x->BM c H' t x
 |.n i,x,h=>by obtain⟨t,dx,r,h⟩:=h;exact⟨t,dx,r,e _ _ h⟩
 |.v z,x,h=>by obtain⟨t,dx,r,h⟩:=h;exact⟨t,dx,r,e _ _ h⟩
 |.c z sp,x,h=>by obtain⟨t,dx,p,r,h,g⟩:=h;exact⟨t,dx,p,r,e _ _ h,g.tk (Ae.tk e)⟩
 |.j z l r,x,h=>by obtain⟨t,dx,a,b,r,h,g1,g2⟩:=h;exact⟨t,dx,a,b,r,e _ _ h,BM.over e g1,BM.over e g2⟩
def DP (H:Hp)(x:V)(t:Tw):Prop := ∃p y,x = .ref p/\H p=some (.tup [.str t.wr,.int (t.hld:Int),y])/\Ew H t y
theorem DP.tk {H H':Hp}{x:V}{t:Tw}(k:TK H H')(h:DP H x t):DP H' x t:=by obtain⟨p,y,e,h,g⟩:=h;exact⟨p,y,e,k _ _ h,g.tk k⟩
def YB:Sp:=λvs H Q _=>∃(x:V) (s:Str×Int),vs=[x]/\Ck H x s/\Ff s/\Q (.str (AI s)) H
def SE:Sp:=λvs H Q _=>∃(z:Str) (x y:V) (l r:Tw),vs=[.str z,x,y]/\z∈ET/\DP H x l/\DP H y r/\l.Ok/\r.Ok/\l.sz+r.sz<=100/\∀(v:V) (H':Hp),Ae H H'->DP H' v (.j z l r)->Q v H'
structure FB (H:Hp)(xs:List V)(ts:List Tw)(N:Nat):Prop where
 at':AN (DP H) xs ts
 ok:∀t∈ts,t.Ok
 sum:(ts.map Tw.sz).sum<=N
theorem FB.len {H:Hp}{xs:List V}{ts:List Tw}{N:Nat}(h:FB H xs ts N):xs.length<=N:=by
 rw[h.at'.1];have:∀l:List Tw,l.length<=(l.map Tw.sz).sum:=λl=>by
  induction l with
  |nil=>exact Aq _
  |cons t l ih=>have:=t.sz_pos;rw[BE,NQ,AJ];lia
 exact BP (this ts) h.sum
theorem FB.push {H:Hp}{xs:List V}{ts:List Tw}{N:Nat}{x:V}{t:Tw}(h:FB H xs ts N)(hx:DP H x t)(ht:t.Ok){M:Nat}(hM:N+t.sz<=M):FB H (xs++[x]) (ts++[t]) M:=⟨h.at'.snoc hx,λu hu=>by
 rcases By.mp hu with z|z
 .exact h.ok u z
 .rw[Bt.mp z];exact ht,by
 have:=h.sum;rw[AR,List.sum_append];show _+(t.sz+0)<=M;lia⟩
theorem FB.pop {H:Hp}{xs:List V}{ts:List Tw}{N:Nat}(h:FB H xs ts N)(hl:0<xs.length):∃ys x us t M,xs=ys++[x]/\ts=us++[t]/\FB H ys us M/\DP H x t/\t.Ok/\M+t.sz<=N:=by
 obtain⟨n,hn⟩:∃n,xs.length=n+1:=⟨xs.length-1,by lia⟩
 obtain⟨ys,x,rfl,yl⟩:=Fc hn;obtain⟨us,t,rfl,ul⟩:=Fc (h.at'.1.symm.trans hn);have hs:=h.sum;rw[AR,List.sum_append]at hs;have hs:(us.map Tw.sz).sum+(t.sz+0)<=N:=hs;refine⟨ys,x,us,t,(us.map Tw.sz).sum,rfl,rfl,⟨⟨by lia,λi x' t' a b=>?_⟩,λu hu=>h.ok u (Eh _ hu),Aq _⟩,?_,h.ok t (by simp),by lia⟩
 .exact h.at'.2 i x' t' (by rw[Ej (BQ.mp a).1];exact a) (by rw[Ej (BQ.mp b).1];exact b)
 .exact h.at'.2 ys.length x t (by rw[EA (Aq _),Fk];rfl) (by rw[yl,←ul,EA (Aq _),Fk];rfl)
theorem Cj {ys:List V}{x:V}:(ys++[x])[(ys++[x]).length-1]?=some x/\(ys++[x]).dropLast=ys:=by
 refine⟨?_,R9⟩;rw[An,Bf,Nat.add_sub_cancel,EA (Aq _),Fk];rfl
theorem P7 (c:Int){far:Int}(h:far=999999999999999999) : -999999999999999999<=G6 c far/\G6 c far<=999999999999999999:=by
 subst h;unfold G6;split
 .have:=BU (c/3) (show(7:Int)≠0 by decide);have:=C0 (c/3) (show(0:Int)<7 by decide);lia
 .have:=BU (c/3) (show(2*999999999999999999+1:Int)≠0 by decide);have:=C0 (c/3) (show(0:Int)<2*999999999999999999+1 by decide);lia
theorem XO {z:Str}(h:z∈ET):z≠"n"/\z≠"v"/\z≠"c":=by
 have:∀w∈ET,w≠"n"/\w≠"v"/\w≠"c":=by decide +kernel
 exact this z h
theorem PV {i:Int}(h0:0<=i)(h1:i<3):∃c:Nat,Bu (cds (Str.ofString "+-*")) i=some c/\(⟨#[c]⟩:Str)∈ET:=by
 have:i=0\/i=1\/i=2:=by lia
 rcases this with rfl|rfl|rfl
 .exact⟨43,by decide +kernel,by decide +kernel⟩
 .exact⟨45,by decide +kernel,by decide +kernel⟩
 .exact⟨42,by decide +kernel,by decide +kernel⟩
theorem On {xs:List Int}{w:List Nat}(he:xs.getD 0 0%2=0)(k:Int):(BO xs w k).head?=w.head?:=by
 unfold BO Hg;rw[Ac he];have h0:=BU (CA xs+3*k) (show(8:Int)≠0 by decide);obtain⟨m,hm⟩:∃m,(1+(CA xs+3*k)%8).toNat=m+1:=⟨((CA xs+3*k)%8).toNat,by lia⟩
 rw[hm];cases w with
 |nil=>rfl
 |cons _ _=>rfl
theorem Qv {xs:List Int}{w:List Nat}(wl:w.length=8)(he:xs.getD 0 0%2=0)(k:Int):(BO xs w k).length=(1+(CA xs+3*k)%8).toNat:=by
 unfold BO Hg;rw[Ac he,Bb,wl];have h0:=BU (CA xs+3*k) (show(8:Int)≠0 by decide);have h1:=C0 (CA xs+3*k) (show(0:Int)<8 by decide);lia
theorem Xl {xs:List Int}{w:List Nat}(he:¬xs.getD 0 0%2=0)(j k:Int):(BO xs w j).length=(BO xs w k).length:=by
 unfold BO GF;rw[A9 he,A9 he];simp only[An,Bf]
theorem Ph {xs:List Int}{w:List Nat}(wl:w.length=8)(he:¬xs.getD 0 0%2=0)(k:Int):(BO xs w k)[(CL xs).toNat]?=some (DI (xs.getD (2+CL xs).toNat 0+k)):=by
 unfold BO GF;have hl:=wl;obtain⟨a0,a1⟩:=Ld xs;obtain⟨_,l1⟩:=J7 xs;rw[A9 he,Br,EA (by rw[Bb];lia),Bb,hl];rw[show(CL xs).toNat-min (CL xs).toNat 8=0 by lia];rfl
theorem QU {xs:List Int}{w:List Nat}(wl:w.length=8){j k:Nat}(hj:j<8)(hk:k<8)(h:j≠k):BO xs w (j:Int)≠BO xs w (k:Int):=λe=>by
 by_cases he:xs.getD 0 0%2=0
 .have:=congrArg List.length e;rw[Qv wl he,Qv wl he]at this;lia
 .have:=congrArg (λl:List Nat=>l[(CL xs).toNat]?) e;rw[Ph wl he,Ph wl he]at this;have:=Co this;unfold DI at this;lia
theorem Qc {xs:List Int}{w:List Nat}(wl:w.length=8){j k:Int}(hr:BO xs w j∈DK):[122,122]++BO xs w j≠BO xs w k:=λe=>by
 by_cases he:xs.getD 0 0%2=0
 .have:=congrArg List.head? e;rw[On he]at this;have h2:=On (w:=w) he j;rw[←this]at h2;exact W1 hr h2
 .have:=congrArg List.length e;rw[An,Xl he j k]at this;simp at this
theorem TH {xs:List Int}{w:List Nat}(wl:w.length=8){j k:Nat}(hj:j<8)(hk:k<8)(h:j≠k):DH xs w (j:Int)≠DH xs w (k:Int):=λe=>by
 unfold DH at e;by_cases c1:BO xs w (j:Int)∈DK<;>by_cases c2:BO xs w (k:Int)∈DK
 .rw[Ac c1,Ac c2]at e;exact QU wl hj hk h (List.append_cancel_left e)
 .rw[Ac c1,A9 c2]at e;exact Qc wl c1 e
 .rw[A9 c1,Ac c2]at e;exact Qc wl c2 e.symm
 .rw[A9 c1,A9 c2]at e;exact QU wl hj hk h e
theorem Wc {xs:List Int}{w:List Nat}(wl:w.length=8):((List.range 8).map λk:Nat=>AC (DH xs w (k:Int))).Nodup:=by
 rw[List.nodup_iff_pairwise_ne,List.pairwise_map];refine(List.pairwise_lt_range (n:=8)).imp_of_mem fun{i j} hi hj h=>?_;have hi:=Lz.mp hi;have hj:=Lz.mp hj;intro e;have:=congrArg cds e;rw[Bl,Bl]at this;exact TH wl (by lia) (by lia) (by lia) this
end L2
namespace Rd
open PySem L2
set_option genInjectivity true in
inductive Tk where
 |s (c:Nat)
 |t (w:Tw)
set_option genInjectivity true in
inductive Ex where
 |lf (t:Tw)
 |br (e:Ex)
 |jn (c:Nat) (l r:Ex)
def st (c:Nat):Nat:=if c=40 then 0 else if c=42 then 2 else 1
def sg (c:Nat):Str:=⟨#[c]⟩
namespace Ex
def tk:Ex->List Tk
 |lf t=>[.t t]
 |br e=>.s 40::(e.tk++[.s 41])
 |jn c l r=>l.tk ++ .s c::r.tk
def hd:Ex->Nat
 |lf _=>3
 |br _=>3
 |jn c _ _=>st c
def sh:Ex->Tw
 |lf t=>t
 |br e=>e.sh
 |jn c l r=>.j (sg c) l.sh r.sh
def Ok:Ex->Prop
 |lf _=>True
 |br e=>e.Ok
 |jn c l r=>(c=43\/c=45\/c=42)/\l.Ok/\r.Ok/\st c<=l.hd/\st c<r.hd
theorem hd_pos:∀{e:Ex},e.Ok->1<=e.hd
 |lf _,_=>by show 1<=3;decide
 |br _,_=>by show 1<=3;decide
 |
  jn c l r,h=>by
  show 1<=st c;rcases h.1 with rfl|rfl|rfl<;>decide
end Ex
def jw (k:Nat):List Nat->List Tw->List Tw×List Nat
 |[],T=>(T,[])
 |c::S,r::l::T=>if k<=st c then jw k S (.j (sg c) l r::T) else(r::l::T,c::S)
 |c::S,T=>(T,c::S)
theorem jw_no {k c:Nat}{S:List Nat}{T:List Tw}(h:st c<k):jw k (c::S) T=(T,c::S):=by
 match T with
 |[]=>rfl
 |[_]=>rfl
 |r::l::T=>show(if k<=st c then _ else _)=_;exact A9 (by lia)
theorem jw_yes {k c:Nat}{S:List Nat}{l r:Tw}{T:List Tw}(h:k<=st c):jw k (c::S) (r::l::T)=jw k S (.j (sg c) l r::T):=by
 show(if k<=st c then _ else _)=_;exact Ac h
structure Sta where
 T:List Tw
 S:List Nat
 due:Bool
def step (x:Sta):Tk->Option Sta
 |.t w=>if x.due then some ⟨w::x.T,x.S,false⟩ else none
 |
  .s c=>if c=40 then(if x.due then some ⟨x.T,40::x.S,true⟩ else none)
  else if x.due then none
  else if c=41 then match (jw 1 x.S x.T).2 with
   |[]=>none
   |_::S=>some ⟨(jw 1 x.S x.T).1,S,false⟩
  else some ⟨(jw (st c) x.S x.T).1,c::(jw (st c) x.S x.T).2,true⟩
def run:List Tk->Sta->Option Sta
 |[],x=>some x
 |
  k::ks,x=>match step x k with
  |some y=>run ks y
  |none=>none
theorem run_app {a b:List Tk}{x y:Sta}(h:run a x=some y):run (a++b) x=run b y:=by
 induction a generalizing x with
 |nil=>cases h;rfl
 |
  cons k ks ih=>
  rw[Dx,run];rw[run]at h;cases hs:step x k with
  |none=>rw[hs]at h;cases h
  |some z=>rw[hs]at h;exact ih h
def Mu (S:List Nat)(k:Nat):Prop := ∀c S',S=c::S'->st c<k
theorem T6 {S:List Nat}{k:Nat}{T:List Tw}(h:Mu S k):jw k S T=(T,S):=by
 cases S with
 |nil=>rfl
 |cons c S=>exact jw_no (h c S rfl)
theorem Lg:∀{e:Ex} {T:List Tw} {S:List Nat},e.Ok->Mu S e.hd->∃T' S',run e.tk ⟨T,S,true⟩=some ⟨T',S',false⟩/\∀k,k<=e.hd->jw k S' T'=jw k S (e.sh::T)
 |.lf t,T,S,_,_=>⟨t::T,S,rfl,λ_ _=>rfl⟩
 |
  .br e,T,S,ok,hl=>by
  obtain⟨T',S',h1,h2⟩:=Lg (e:=e) (T:=T) (S:=40::S) ok (λc S' h=>by cases h;have:=Ex.hd_pos (e:=e) ok;show 0<e.hd;lia);refine⟨e.sh::T,S,?_,λ_ _=>rfl⟩;have j:jw 1 S' T'=(e.sh::T,40::S):=by
   rw[h2 1 (Ex.hd_pos ok)];exact jw_no (by decide)
  show run (e.tk++[.s 41]) ⟨T,40::S,true⟩=_;rw[run_app h1,run,step,A9 (by decide)];simp only[He,FQ,Fp];rw[j];rfl
 |
  .jn c l r,T,S,ok,hl=>by
  obtain⟨hc,okl,okr,k1,k2⟩:=ok;have hl:Mu S (st c):=hl;obtain⟨T1,S1,h1,h2⟩:=Lg (e:=l) (T:=T) (S:=S) okl (λc' S' h=>by have:=hl c' S' h;lia);obtain⟨T2,S2,g1,g2⟩:=Lg (e:=r) (T:=l.sh::T) (S:=c::S) okr (λc' S' h=>by cases h;exact k2);have j:jw (st c) S1 T1=(l.sh::T,S):=by rw[h2 _ k1];exact T6 hl
  have n1:c≠40:=by lia
  have n2:c≠41:=by lia
  refine⟨T2,S2,?_,λk hk=>?_⟩
  .show run (l.tk ++ .s c::r.tk) ⟨T,S,true⟩=_;rw[run_app h1,run,step,A9 n1];simp only[He,FQ];rw[A9 n2,j];exact g1
  .have hk:k<=st c:=hk;rw[g2 k (by lia),jw_yes hk];rfl
theorem Ul {e:Ex}(ok:e.Ok):∃T' S',run e.tk ⟨[],[],true⟩=some ⟨T',S',false⟩/\jw 1 S' T'=([e.sh],[]):=by
 obtain⟨T',S',h1,h2⟩:=Lg (e:=e) (T:=[]) (S:=[]) ok (λc S' h=>by cases h);exact⟨T',S',h1,h2 1 (Ex.hd_pos ok)⟩
end Rd
namespace Rd
open PySem L2
def sg5:List Nat:=[43,45,42,40,41]
def ins (b:Bool)(c:Nat):Bool:=decide (c=91)||(b&&decide (c≠93))
def scan:Bool->List Nat->Nat
 |_,[]=>0
 |b,c::l=>if b=true\/c∉sg5 then 1+scan (ins b c) l else 0
def pass:Bool->List Nat->Option Bool
 |b,[]=>some b
 |b,c::l=>if b=true\/c∉sg5 then pass (ins b c) l else none
theorem Mp {b c:Bool}{x y:List Nat}(h:pass b x=some c):pass b (x++y)=pass c y:=by
 induction x generalizing b with
 |nil=>cases h;rfl
 |
  cons a x ih=>
  rw[Dx,pass];rw[pass]at h;split
  .rename_i hc;rw[Ac hc]at h;exact ih h
  .rename_i hc;rw[A9 hc]at h;cases h
theorem T7 {b c:Bool}{x y:List Nat}(h:pass b x=some c):scan b (x++y)=x.length+scan c y:=by
 induction x generalizing b with
 |nil=>cases h;exact(Js _).symm
 |
  cons a x ih=>
  rw[Dx,scan];rw[pass]at h;split
  .rename_i hc;rw[Ac hc]at h;rw[ih h,AJ];lia
  .rename_i hc;rw[A9 hc]at h;cases h
theorem Pl:∀(b:Bool) (l:List Nat),scan b l<=l.length
 |_,[]=>Aq _
 |
  b,c::l=>by
  rw[scan];split
  .have:=Pl (ins b c) l;rw[AJ];lia
  .exact BI _
def pend:List Nat->Nat
 |[]=>0
 |c::l=>if c∈sg5 then 1 else scan false (c::l)
theorem pend_pos {l:List Nat}(h:l≠[]):1<=pend l/\pend l<=l.length:=by
 cases l with
 |nil=>exact absurd rfl h
 |
  cons c l=>
  rw[pend];split
  .exact⟨Aq _,NN (BI _)⟩
  .rename_i hc;refine⟨?_,Pl _ _⟩;rw[scan,Ac (.inr hc)];lia
def Qw (l:List Nat):Prop := ∀c r,l=c::r->c∈sg5
theorem TM {l:List Nat}(h:Qw l):scan false l=0:=by
 cases l with
 |nil=>rfl
 |
  cons c l=>
  rw[scan,A9];intro z;rcases z with z|z
  .cases z
  .exact z (h c l rfl)
structure GX (w:List Nat):Prop where
 pass:pass false w=some false
 head:∃c r,w=c::r/\c∉sg5
theorem GX.pend {w l:List Nat}(h:GX w)(hs:Qw l):Rd.pend (w++l)=w.length:=by
 obtain⟨c,r,e,hc⟩:=h.head;have h1:=T7 (y:=l) h.pass;rw[TM hs,Nat.add_zero]at h1;rw[←h1,e,Dx,Rd.pend,A9 hc]
theorem XT {w:List Nat}(h:∀c∈w,(48<=c/\c<=57)\/(97<=c/\c<=122)):Rd.pass false w=some false:=by
 induction w with
 |nil=>rfl
 |
  cons c w ih=>
  have hc:=h c AH;have n5:c∉sg5:=λz=>by
   unfold sg5 at z;simp only[Av,Cp,or_false]at z;lia
  rw[Rd.pass,Ac (.inr n5)];have e:ins false c=false:=by
   unfold ins;rw[Bool.false_and,NM];exact Bg (by lia)
  rw[e];exact ih λd hd=>h d (B5 _ hd)
theorem QS {w:List Nat}(h:93∉w):Rd.pass true w=some true:=by
 induction w with
 |nil=>rfl
 |
  cons c w ih=>
  rw[Rd.pass,Ac (.inl rfl)];have e:ins true c=true:=by
   unfold ins;rw[Bool.true_and,R5];exact .inr (Bc λz=>h (z▸AH))
  rw[e];exact ih λz=>h (B5 _ z)
theorem Pc {w:List Nat}(h:∀c∈w,(48<=c/\c<=57)\/(97<=c/\c<=122))(hl:1<=w.length):GX w:=by
 refine⟨XT h,?_⟩;cases w with
 |nil=>exact absurd hl (by decide)
 |
  cons c w=>
  refine⟨c,w,rfl,λz=>?_⟩;have hc:=h c AH;unfold sg5 at z;simp only[Av,Cp,or_false]at z;lia
theorem Ol {w:List Nat}(h:AW w):GX w:=Pc (λc hc=>.inr ((Iw c).mp (h.2.2.1 c hc))) h.1
theorem SZ {w:List Nat}(h:C9 w):GX w:=Pc (λc hc=>.inl (h.2.2.2 c hc)) h.1
theorem Tf:∀m:Nat,0<m->((Nat.toDigits 10 m).map Char.toNat).head?≠some 48:=by
 intro m;induction m using Nat.strongRecOn with
 |
  _ m ih=>
  intro hm;by_cases h:m<10
  .rw[Nat.toDigits_of_lt_base h];have:∀d:Nat,d<10->0<d->(Nat.digitChar d).toNat≠48:=by decide
   exact λz=>this m h hm (Co z)
  .have hm2:m%10<10:=Nat.mod_lt m (by decide);have t:Nat.toDigits 10 (m/10)++Nat.toDigits 10 (m%10)=Nat.toDigits 10 (10*(m/10)+m%10):=Nat.toDigits_append_toDigits (by decide) (by lia) hm2;rw[Nat.div_add_mod]at t;rw[←t,AR];have ih1:=ih (m/10) (by lia) (by lia);cases hd:(Nat.toDigits 10 (m/10)).map Char.toNat with
   |
    nil=>
    have h:=toDigits_len_ge 10 (m/10);rw[Jt.mp hd]at h;exact absurd h (by decide)
   |cons c r=>rw[hd]at ih1;exact ih1
theorem DE {i:Int}(h0:0<=i)(h1:i<=999999999999999999):C9 (cds (nS i))/\De (cds (nS i))=i:=by
 have hl:=R8 (v:=i) h0 (k:=18) (by decide) (by show i<10 ^ 18;lia);obtain⟨m,rfl⟩:=Int.eq_ofNat_of_zero_le h0;have e:cds (nS ((m:Nat):Int))=(Nat.toDigits 10 m).map Char.toNat:=PySem.W.KIN.signs_num m;have hlen:(cds (nS ((m:Nat):Int))).length<=18:=by rw[cds_len];exact hl
 refine⟨⟨?_,hlen,?_,?_⟩,?_⟩
 .rw[e,Ag];exact toDigits_len_ge 10 m
 .rw[e];intro⟨a,b⟩;by_cases hm:0<m
  .exact Tf m hm a
  .have:m=0:=by lia
   subst this;exact absurd b (by decide)
 .intro c hc;rw[e]at hc;obtain⟨ch,hch,e2⟩:=CK.mp hc;have r:=PyProof.Rows.digit_range (Nat.isDigit_of_mem_toDigits (by decide) (by decide) hch);rw[←e2];exact r
 .unfold De;rw[e,PySem.W.KIN.val_back]
def SpN (s:Str×Int):Prop:=(s.1=""\/AW (cds s.1))/\Ff s
theorem FE {c:Nat}{x y:List Nat}(h:c∉x):Cb c (x++c::y)=x/\CS c (x++c::y)=y:=by
 have e:(x++c::y).idxOf c=x.length:=by
  refine Nh (by rw[EA (Aq _),Fk];rfl) λk hk z=>h (by rw[Ej hk]at z;exact CU z)
 unfold Cb CS;rw[e];refine⟨FN,?_⟩;rw[←Jn,Ic];rfl
theorem DR {w:List Nat}(h:AW w){c:Nat}(hc:¬(97<=c/\c<=122)):c∉w:=λz=>hc ((Iw c).mp (h.2.2.1 c z))
theorem Er {w:List Nat}(h:C9 w){c:Nat}(hc:¬(48<=c/\c<=57)):c∉w:=λz=>hc (h.2.2.2 c z)
theorem N0 {i:Int}(h:i<0):cds (nS i)=45::cds (nS (0-i)):=by
 unfold nS;rw[MP h,B4];rfl
theorem OV {w:List Nat}(h:C9 w):¬AW w:=λz=>by
 cases w with
 |nil=>exact absurd h.1 (by decide)
 |
  cons a r=>
  have h1:=(Iw a).mp (z.2.2.1 a AH);have h2:=h.2.2.2 a AH;lia
theorem HY {s:Str×Int}(h:SpN s):Bv (cds (AI s))=some (cds s.1,s.2):=by
 obtain⟨hn,_,b0,b1⟩:=h;unfold AI;by_cases e0:s.1=""
 .rw[Ac e0];have c0:cds s.1=[]:=by rw[e0];rfl
  rw[c0];by_cases hs:s.2<0
  .rw[N0 hs];obtain⟨g,d⟩:=DE (i:=0-s.2) (by lia) (by lia);generalize cds (nS (0-s.2))=w at g d;have m45:(45:Nat)∈45::w:=AH;have n43:(43:Nat)∉45::w:=λz=>by
    rcases Av.mp z with z|z
    .cases z
    .exact Er g (by lia) z
   have ba:=FE (c:=45) (x:=[]) (y:=w) (by simp);unfold Bv;rw[A9 (Kt m45 (by lia)),A9 (K2 m45 (by lia)),A9 n43,Ac m45];rw[FM]at ba;rw[ba.1,ba.2,Ac g,Ac (.inr ⟨rfl,by lia⟩),d];congr 2;lia
  .obtain⟨g,d⟩:=DE (i:=s.2) (by lia) (by lia);unfold Bv;rw[A9 (OV g),Ac g,d]
 .have hn:AW (cds s.1):=hn.resolve_left e0;rw[A9 e0];by_cases e1:s.2=0
  .rw[Ac e1];unfold Bv;rw[Ac hn,e1]
  .rw[A9 e1];by_cases e2:0<s.2
   .rw[Ac e2,B4,B4];obtain⟨g,d⟩:=DE (i:=s.2) (by lia) (by lia);have ec:cds ("+":Str)=[43]:=by decide +kernel
    rw[ec,Br];show Bv (cds s.1++43::cds (nS s.2))=_;have ba:=FE (c:=43) (x:=cds s.1) (y:=cds (nS s.2)) (DR hn (by lia));have m:(43:Nat)∈cds s.1++43::cds (nS s.2):=Cz _ AH;unfold Bv;rw[A9 (Kt m (by lia)),A9 (K2 m (by lia)),Ac m,ba.1,ba.2,Ac ⟨g,hn⟩,d]
   .rw[A9 e2,B4,N0 (by lia)];obtain⟨g,d⟩:=DE (i:=0-s.2) (by lia) (by lia);have ba:=FE (c:=45) (x:=cds s.1) (y:=cds (nS (0-s.2))) (DR hn (by lia));have m:(45:Nat)∈cds s.1++45::cds (nS (0-s.2)):=Cz _ AH;have n43:(43:Nat)∉cds s.1++45::cds (nS (0-s.2)):=λz=>by
     rcases By.mp z with z|z
     .exact DR hn (by lia) z
     .rcases Av.mp z with z|z
      .cases z
      .exact Er g (by lia) z
    unfold Bv;rw[A9 (Kt m (by lia)),A9 (K2 m (by lia)),A9 n43,Ac m,ba.1,ba.2,Ac g,Ac (.inl hn),d];congr 2;lia
theorem G1 {s:Str×Int}(h:SpN s){c:Nat}(hc:¬(97<=c/\c<=122)/\¬(48<=c/\c<=57)/\c≠43/\c≠45):c∉cds (AI s):=by
 obtain⟨hn,_,b0,b1⟩:=h;have kn:c∉cds (nS s.2):=by
  by_cases hs:s.2<0
  .rw[N0 hs];obtain⟨g,d⟩:=DE (i:=0-s.2) (by lia) (by lia);intro z;rcases Av.mp z with z|z
   .exact hc.2.2.2 z
   .exact Er g hc.2.1 z
  .obtain⟨g,d⟩:=DE (i:=s.2) (by lia) (by lia);exact Er g hc.2.1
 have ks:c∉cds s.1:=by
  rcases hn with e|e
  .rw[e];show c∉[];simp
  .exact DR e hc.1
 unfold AI;split
 .exact kn
 .split
  .exact ks
  .split
   .rw[B4,B4];have ec:cds ("+":Str)=[43]:=by decide +kernel
    rw[ec];intro z;rcases By.mp z with z|z
    .rcases By.mp z with z|z
     .exact ks z
     .exact hc.2.2.1 (Bt.mp z)
    .exact kn z
   .rw[B4];intro z;rcases By.mp z with z|z
    .exact ks z
    .exact kn z
def C4:List (List Nat)->List Nat
 |[]=>[]
 |[a]=>a
 |a::b::l=>a++([93,91]++C4 (b::l))
theorem OP:∀{sp:List (Str×Int)},sp≠[]->((sp.map Do).map cds).flatten=91::(C4 (sp.map λs=>cds (AI s))++[93])
 |[],h=>absurd rfl h
 |
  [s],_=>by
  show cds (Do s)++[]=91::(cds (AI s)++[93]);rw[D6];unfold Do;rw[B4,B4];rfl
 |
  s::s2::sp,_=>by
  have ih:=OP (sp:=s2::sp) (Cq _ _);show cds (Do s)++(((s2::sp).map Do).map cds).flatten=91::((cds (AI s)++([93,91]++C4 ((s2::sp).map λs=>cds (AI s))))++[93]);rw[ih];unfold Do;rw[B4,B4];show[91]++cds (AI s)++[93]++_=_;simp
theorem Pa:∀{l:List (List Nat)},l≠[]->(∀a∈l,93∉a)->IsSplit [93,91] (C4 l) l
 |[],h,_=>absurd rfl h
 |[a],_,h=>.one' (h a AH)
 |a::b::l,_,h=>.cut' (h a AH) (Pa (Cq _ _) λc hc=>h c (B5 _ hc))
theorem cel_cds {z:Str}{sp:List (Str×Int)}(hs:sp≠[]):cds (AY z sp)=cds z++91::(C4 (sp.map λs=>cds (AI s))++[93]):=by
 unfold AY;rw[B4,MI,OP hs]
theorem Yy {z:Str}{sp:List (Str×Int)}(hz:AW (cds z))(hs:sp≠[])(h:∀s∈sp,SpN s):GX (cds (AY z sp)):=by
 have hw:=Ol hz;obtain⟨c,r,e,hc⟩:=hw.head;refine⟨?_,c,r++91::(C4 (sp.map λs=>cds (AI s))++[93]),by rw[cel_cds hs,e];rfl,hc⟩;have key:∀{l:List (List Nat)},(∀a∈l,93∉a)->Rd.pass true (C4 l)=some true:=fun{l} hl=>by
  induction l with
  |nil=>rfl
  |
   cons a l ih=>
   cases l with
   |nil=>exact QS (hl a AH)
   |
    cons b l=>
    show Rd.pass true (a++([93,91]++C4 (b::l)))=_;rw[Mp (QS (hl a AH))];exact ih λc hc=>hl c (B5 _ hc)
 rw[cel_cds hs,Mp hw.pass];show Rd.pass true (C4 (sp.map λs=>cds (AI s))++[93])=some false;rw[Mp (key λa ha=>?_)]
 .rfl
 .obtain⟨s,hs',rfl⟩:=CK.mp ha;exact G1 (h s hs') (by lia)
end Rd
namespace Rd
open PySem L2
def Tk.txt:Tk->Str
 |.s c=>⟨#[c]⟩
 |.t (.n i)=>nS i
 |.t (.v z)=>z
 |.t (.c z sp)=>AY z sp
 |.t (.j z _ _)=>z
def Tk.Ok:Tk->Prop
 |.s c=>c∈sg5
 |.t (.n i)=>0<=i/\i<=999999999999999999
 |.t (.v z)=>AW (cds z)
 |.t (.c z sp)=>AW (cds z)/\sp≠[]/\sp.length<=3/\∀s∈sp,SpN s
 |.t (.j _ _ _)=>False
def PtAt (c:Cs)(H:Hp)(v:V):Tk->Prop
 |.s a=>v = .str ⟨#[a]⟩
 |.t w=>BM c H w v
theorem PtAt.over {c:Cs}{H H':Hp}(e:Ae H H'){v:V}{k:Tk}(h:PtAt c H v k):PtAt c H' v k:=by
 cases k with
 |s a=>exact h
 |t w=>exact BM.over e h
theorem Tk.whole {w:Tw}(h:(Tk.t w).Ok):GX (cds (Tk.t w).txt):=by
 cases w with
 |n i=>exact SZ (DE h.1 h.2).1
 |v z=>exact Ol h
 |c z sp=>exact Yy h.1 h.2.1 h.2.2.2
 |j _ _ _=>exact h.elim
def Dz:List Tk->Prop
 |.t _ :: .t w::l=>False
 |_::l=>Dz l
 |[]=>True
def BD (ks:List Tk):List Nat:=(ks.map λk=>cds k.txt).flatten
theorem not_sign {z:Str}{c:Nat}{r:List Nat}(e:cds z=c::r)(hc:c∉sg5):(!(Builtin.Str.occurrences (Str.ofString "+-*()") z 0 (Str.ofString "+-*()").length 1).isEmpty)=false:=by
 rw[NR];intro h;obtain⟨i,h1,h2⟩:=(StrLaws.found_iff _ _).mp h;rw[StrLaws.subAt_eq,CG]at h2;have e2:(Str.ofString "+-*()").cps.toList=sg5:=by decide +kernel
 have e3:z.cps.toList=c::r:=e;rw[e2,e3]at h2;have h3:c∈(sg5.drop i).take z.length:=by rw[h2];exact AH
 exact hc (Gg (EZ h3))
theorem is_sign {c:Nat}(hc:c∈sg5):(!(Builtin.Str.occurrences (Str.ofString "+-*()") ⟨#[c]⟩ 0 (Str.ofString "+-*()").length 1).isEmpty)=true:=by
 rw[Lh];have e2:cds (Str.ofString "+-*()")=sg5:=by decide +kernel
 rw[e2];exact Bc hc
def spPend:Sp:=λvs H Q _=>∃(z:Str) (i:Nat),vs=[.str z,.int (i:Int)]/\i<(cds z).length/\z.length<=100000/\Q (.int ((i+pend ((cds z).drop i):Nat):Int)) H
def nb (S:List Nat):Nat:=(S.filter (· != 40)).length
theorem nb_cons {a:Nat}{S:List Nat}(h:a≠40):nb (a::S)=nb S+1:=by
 unfold nb;rw[Fl,Ac (by simpa using h)];rfl
theorem Tp {S:List Nat}:nb (40::S)=nb S:=rfl
theorem jw_nb (k:Nat)(hk:1<=k):∀{S:List Nat} {T:List Tw},nb S<T.length->nb (jw k S T).2<(jw k S T).1.length/\T.length+nb (jw k S T).2=(jw k S T).1.length+nb S
 |[],T,h=>⟨by cases T<;>exact h,by cases T<;>rfl⟩
 |
  a::S,T,h=>by
  by_cases c:k<=st a
  .have n40:a≠40:=λz=>by subst z;exact absurd c (by show ¬k<=0;lia)
   rw[nb_cons n40]at h ⊢
   match T,h with
   |
    r::l::T,h=>
    rw[jw_yes c];have:=jw_nb k hk (S:=S) (T:=.j (sg a) l r::T) (by rw[AJ];rw[AJ,AJ]at h;lia);rw[AJ]at this;rw[AJ,AJ];lia
   |[_],h=>exact absurd h (by rw[Bf];lia)
   |[],h=>exact absurd h (by rw[Jj];lia)
  .rw[jw_no (by lia)];exact⟨h,rfl⟩
def B2 (l r:Addr)(H H':Hp):Prop := ∀b o,H b=some o->b≠l->b≠r->H' b=some o
def spJoinW (c:Cs):Sp:=λvs H Q _=>∃(l r:Addr) (ts ss:List V) (T:List Tw) (S:List Nat) (k:Nat),vs=[.ref l,.ref r,.int (k:Int)]/\l≠r/\1<=k/\H l=some (.lst ts)/\H r=some (.lst ss)/\AN (λv t=>BM c H t v) ts T.reverse/\ss=S.reverse.map (λa=>V.str (sg a))/\(∀a∈S,a∈sg5/\a≠41)/\nb S<T.length/\T.length<=1000/\
 ∀(ts' ss':List V) (H':Hp),B2 l r H H'->H' l=some (.lst ts')->H' r=some (.lst ss')->AN (λv t=>BM c H' t v) ts' (jw k S T).1.reverse->ss'=(jw k S T).2.reverse.map (λa=>V.str (sg a))->Q .non H'
theorem WU {α:Type}(l:List α)(c:α):CM (l++[c]) none (some (-1))=l:=by
 unfold CM;have e:HT.sIx (l++[c]).length (l++[c]).length (some (-1))=l.length:=by
  unfold HT.sIx;rw[An,Bf];dsimp only;split<;>lia
 rw[HT.sIx_none,e,Jk,Nat.sub_zero,FN]
theorem QV {k:Tk}{l:List Tk}(ok:k.Ok)(okl:∀x∈l,x.Ok)(ad:Dz (k::l)):pend (cds k.txt++BD l)=(cds k.txt).length/\1<=(cds k.txt).length:=by
 cases k with
 |
  s c=>
  refine⟨?_,Aq _⟩;show pend (c::BD l)=1;rw[pend,Ac (show c∈sg5 from ok)]
 |
  t w=>
  have hw:=Tk.whole ok;obtain⟨c,r,e,_⟩:=hw.head;refine⟨hw.pend λd r' e'=>?_,by rw[e,AJ];lia⟩;cases l with
  |nil=>cases e'
  |
   cons k' l=>
   cases k' with
   |
    s c'=>
    have e2:c'::BD l=d::r':=e';injection e2 with e3 _;rw[←e3];exact okl (.s c') AH
   |t w'=>exact ad.elim
theorem MH {k:Tk}{l:List Tk}(ad:Dz (k::l)):Dz l:=by
 cases k with
 |s c=>exact ad
 |
  t w=>
  cases l with
  |nil=>exact True.intro
  |
   cons k' l=>
   cases k' with
   |s c'=>exact ad
   |t w'=>exact ad.elim
theorem F3 (k:Tk)(l:List Tk):BD (k::l)=cds k.txt++BD l:=rfl
def NL (H H':Hp):Prop := ∀b o,H b=some o->(∀xs,o≠.lst xs)->H' b=some o
theorem NL.of {H H':Hp}(e:Ae H H'):NL H H':=λb o h _=>e b o h
theorem NL.trans {H H1 H2:Hp}(a:NL H H1)(b:NL H1 H2):NL H H2:=λc o h n=>b c o (a c o h n) n
theorem NL.upd {H:Hp}{l:Addr}{xs ys:List V}(h:H l=some (.lst xs)):NL H (upd H l (.lst ys)):=λb o e n=>by
 rw[Aa (λz=>by rw[z,h]at e;exact n xs (Co e).symm)];exact e
theorem NL.tk {H H':Hp}(e:NL H H'):TK H H':=λp xs h=>e _ _ h (λ_ z=>nomatch z)
theorem tb_nl {c:Cs}{H H':Hp}(e:NL H H'):∀{t:Tw} {x:V},BM c H t x->BM c H' t x
 |.n i,x,h=>by obtain⟨t,dx,r,h⟩:=h;exact⟨t,dx,r,e _ _ h (λ_ z=>nomatch z)⟩
 |.v z,x,h=>by obtain⟨t,dx,r,h⟩:=h;exact⟨t,dx,r,e _ _ h (λ_ z=>nomatch z)⟩
 |.c z sp,x,h=>by obtain⟨t,dx,p,r,h,g⟩:=h;exact⟨t,dx,p,r,e _ _ h (λ_ z=>nomatch z),g.tk e.tk⟩
 |.j z l r,x,h=>by obtain⟨t,dx,a,b,r,h,g1,g2⟩:=h;exact⟨t,dx,a,b,r,e _ _ h (λ_ z=>nomatch z),tb_nl e g1,tb_nl e g2⟩
theorem PtAt.nl {c:Cs}{H H':Hp}(e:NL H H'){v:V}{k:Tk}(h:PtAt c H v k):PtAt c H' v k:=by
 cases k with
 |s a=>exact h
 |t w=>exact tb_nl e h
def strV:List (Bp×V):=[(.inr "(",.int 0),(.inr "+",.int 1),(.inr "-",.int 1),(.inr "*",.int 2)]
theorem st_val {a:Nat}(h:a∈sg5/\a≠41):D9 strV (.inr (sg a))=some (.int (st a:Int)):=by
 obtain⟨h5,n⟩:=h;unfold sg5 at h5;simp only[Av,Cp,or_false]at h5;rcases h5 with rfl|rfl|rfl|rfl|rfl
 .decide +kernel
 .decide +kernel
 .decide +kernel
 .decide +kernel
 .exact absurd rfl n
theorem all2_pop {β:Type}{R:V->β->Prop}{xs:List V}{ys:List β}{y:β}(h:AN R xs (ys++[y])):∃xs' x,xs=xs'++[x]/\AN R xs' ys/\R x y:=by
 have hl:=h.1;rw[An,Bf]at hl;obtain⟨us,x,rfl,ul⟩:=Fc hl;refine⟨us,x,rfl,⟨ul,λi a b ha hb=>?_⟩,?_⟩
 .exact h.2 i a b (by rw[Ej (BQ.mp ha).1];exact ha) (by rw[Ej (BQ.mp hb).1];exact hb)
 .exact h.2 us.length x y (by rw[EA (Aq _),Fk];rfl) (by rw[ul,EA (Aq _),Fk];rfl)
theorem MF (k:Nat):∀{S:List Nat} {T:List Tw},∀c∈(jw k S T).2,c∈S
 |[],T,c,h=>by cases T<;>exact h
 |
  a::S,T,c,h=>by
  match T with
  |[]=>exact h
  |[_]=>exact h
  |
   r::l::T=>
   by_cases hk:k<=st a
   .rw[jw_yes hk]at h;exact B5 _ (MF k c h)
   .rw[jw_no (by lia)]at h;exact h
theorem PU (k:Nat)(hk:1<=k):∀{S:List Nat} {T:List Tw} {d:Nat} {S':List Nat},nb S<T.length->(jw k S T).2=d::S'->st d<k
 |[],T,d,S',_,h=>by cases T<;>cases h
 |
  a::S,T,d,S',hn,h=>by
  by_cases c:k<=st a
  .have n40:a≠40:=λz=>by subst z;exact absurd c (by show ¬k<=0;lia)
   rw[nb_cons n40]at hn
   match T,hn with
   |
    r::l::T,hn=>
    rw[jw_yes c]at h;exact PU k hk (by rw[AJ];rw[AJ,AJ]at hn;lia) h
   |[_],hn=>exact absurd hn (by rw[Bf];lia)
   |[],hn=>exact absurd hn (by rw[Jj];lia)
  .rw[jw_no (by lia)]at h;have h:a::S=d::S':=h;injection h with e _;rw[←e];lia
theorem Uj {d:Nat}(h:st d<1):d=40:=Ig λn=>by
 unfold st at h;rw[A9 n]at h;split at h<;>lia
structure Wt (x:Sta):Prop where
 sg:∀c∈x.S,c∈sg5/\c≠41
 nb:nb x.S+(if x.due then 0 else 1)=x.T.length
theorem Wt.step {x y:Sta}{k:Tk}(w:Wt x)(ok:k.Ok)(h:Rd.step x k=some y):Wt y:=by
 obtain⟨T,S,due⟩:=x;have wn:=w.nb;cases k with
 |
  t t=>
  cases due with
  |false=>cases h
  |
   true=>
   have h:some (⟨t::T,S,false⟩:Sta)=some y:=h;cases h;exact⟨w.sg,by have:Rd.nb S+0=T.length:=wn;show Rd.nb S+1=T.length+1;lia⟩
 |
  s c=>
  have ok:c∈sg5:=ok;rw[Rd.step]at h;by_cases c40:c=40
  .subst c40;rw[Ac rfl]at h;cases due with
   |false=>cases h
   |
    true=>
    have h:some (⟨T,40::S,true⟩:Sta)=some y:=h;cases h;refine⟨λd hd=>?_,wn⟩;rcases Av.mp hd with rfl|z
    .exact⟨by decide,by decide⟩
    .exact w.sg d z
  .rw[A9 c40]at h;cases due with
   |true=>cases h
   |
    false=>
    have wn:Rd.nb S+1=T.length:=wn;rw[A9 (show ¬(Sta.due ⟨T,S,false⟩=true) from C6)]at h;by_cases c41:c=41
    .rw[Ac c41]at h;have j:=jw_nb 1 (Aq _) (S:=S) (T:=T) (by lia);cases hs:(jw 1 S T).2 with
     |nil=>simp only[hs]at h;cases h
     |
      cons d S'=>
      simp only[hs]at h;cases h;rw[hs]at j;refine⟨λe he=>w.sg e (MF 1 e (by rw[hs];exact B5 _ he)),?_⟩;have e:=Uj (PU 1 (Aq _) (by lia) hs);subst e;rw[Tp]at j;show Rd.nb S'+1=(jw 1 S T).1.length;lia
    .rw[A9 c41]at h;cases h;have j:=jw_nb (st c) (by unfold st;rw[A9 c40];split<;>decide) (S:=S) (T:=T) (by lia);refine⟨λe he=>?_,?_⟩
     .rcases Av.mp he with rfl|z
      .exact⟨ok,c41⟩
      .exact w.sg e (MF _ e z)
     .show Rd.nb (c::(jw (st c) S T).2)+0=(jw (st c) S T).1.length;rw[nb_cons c40];lia
theorem jw_len (k:Nat):∀{S:List Nat} {T:List Tw},(jw k S T).1.length<=T.length
 |[],T=>by cases T<;>exact Aq _
 |
  a::S,T=>by
  match T with
  |[]=>exact Aq _
  |[_]=>exact Aq _
  |
   r::l::T=>
   by_cases hk:k<=st a
   .rw[jw_yes hk];have:=jw_len k (S:=S) (T:=.j (sg a) l r::T);rw[AJ]at this ⊢;rw[AJ];lia
   .rw[jw_no (by lia)];exact Aq _
theorem jw_len2 (k:Nat):∀{S:List Nat} {T:List Tw},(jw k S T).2.length<=S.length
 |[],T=>by cases T<;>exact Aq _
 |
  a::S,T=>by
  match T with
  |[]=>exact Aq _
  |[_]=>exact Aq _
  |
   r::l::T=>
   by_cases hk:k<=st a
   .rw[jw_yes hk,AJ];have:=jw_len2 k (S:=S) (T:=.j (sg a) l r::T);lia
   .rw[jw_no (by lia)];exact Aq _
def bare (l:List Nat):List Nat:=stp 32 (if 59∈l then Cb 59 l else l)
def spBare:Sp:=λvs H Q _=>∃z:Str,vs=[.str z]/\z.length<=100000/\∀H',Ae H H'->Q (.str (AC (bare (cds z)))) H'
def spWords:Sp:=λvs H Q _=>∃z:Str,vs=[.str z]/\z.length<=100000/\∀(l:Addr) (H':Hp) (ps:List Str),Ae H H'->IsSplit [32] (cds z) (ps.map cds)->H' l=some (.lst ((ps.filter λy:Str=>decide (y≠Str.ofString "")).map V.str))->Q (.ref l) H'
theorem split_many {y l:List Nat}{ps:List (List Nat)}(hy:1<=y.length)(h:IsSplit y l ps):ps.length<=l.length+1:=by
 induction h with
 |one _=>rw[Bf];lia
 |cut _ _ ih=>rw[AJ,An,An];lia
def M5 (C:Addr)(H:Hp)(d:Addr)(nm:List Str):Prop := ∃(dx:Addr) (fs:List (Str×V)) (n:Addr),H d=some (.ins C dx fs)/\fs.lookup (Str.ofString "names")=some (V.ref n)/\H n=some (.lst (nm.map V.str))
def knw (nm:List Str)(s:Str×Int):Bool:=decide (s.1=Str.ofString "")||decide (s.1∈nm)
def spKnown (C:Addr):Sp:=λvs H Q _=>∃(d p:Addr) (nm:List Str) (sp:List (Str×Int)),vs=[.ref d,.ref p]/\M5 C H d nm/\F4 H p sp/\sp.length<=1000/\∀H',Ae H H'->Q (.bl (sp.all (knw nm))) H'
end Rd
namespace Pw
variable {T S:Type}
inductive Rr (T S:Type) where
 |opn (t:T):Rr T S
 |row (s:S):Rr T S
 |fin:Rr T S
abbrev Rw (T S:Type):=List (Nat×Rr T S)
end Pw
namespace L2
open PySem PySem.Spec PyProof.Rows
structure As where
 nm:Str
 lo:Str×Int
 hi:Str×Int
def As.Ok (t:As):Prop:=t.nm.length<=20/\Ff t.lo/\Ff t.hi
structure Dw where
 loops:List As
 tbl:Str
 sp:List (Str×Int)
 tm:Tw
 path:List Int
def Dw.txt (D:Dw):Str:=AY D.tbl D.sp++" = "++D.tm.wr
def HR (t:As):Str:="for "++t.nm++" "++AI t.lo++" "++AI t.hi
def Kh:Pw.Rr As Str->Str
 |.opn t=>HR t
 |.row s=>s
 |.fin=>"end"
theorem Q4 {t:As}(h:t.Ok):(HR t).length<=200:=by
 obtain⟨h1,h2,h3⟩:=h;have h2:=Hn h2;have h3:=Hn h3;have e:("for ":Str).length=4:=by decide +kernel
 have e2:(" ":Str).length=1:=by decide +kernel
 unfold HR;rw[AO,AO,AO,AO,AO];lia
def Ea (H:Hp)(x:V)(t:As):Prop := ∃(p:Addr) (a b:V),x = .ref p/\H p=some (.tup [.str t.nm,a,b])/\Ck H a t.lo/\Ck H b t.hi
theorem Ea.tk {H H':Hp}{x:V}{t:As}(k:TK H H')(h:Ea H x t):Ea H' x t:=by obtain⟨p,a,b,e,h,g1,g2⟩:=h;exact⟨p,a,b,e,k _ _ h,g1.tk k,g2.tk k⟩
def G2 (H:Hp)(o:Addr)(ts:List As):Prop := ∃xs,H o=some (.lst xs)/\AN (Ea H) xs ts
theorem G2.over {H H':Hp}{o:Addr}{ts:List As}(e:Ae H H')(h:G2 H o ts):G2 H' o ts:=by obtain⟨xs,h,g⟩:=h;exact⟨xs,e _ _ h,g.mono λ_ _ z=>z.tk (Ae.tk e)⟩
def JB (H:Hp)(o:Addr)(x:V)(D:Dw):Prop := ∃(p ps pt:Addr) (sh:V),x = .ref p/\H p=some (.tup [.ref o,.str D.tbl,.ref ps,sh,.ref pt,.str D.txt])/\G2 H o D.loops/\F4 H ps D.sp/\Ew H D.tm sh/\H pt=some (.tup (D.path.map V.int))
def DZ (H:Hp)(x:V)(D:Dw):Prop := ∃o,JB H o x D
theorem DZ.over {H H':Hp}{x:V}{D:Dw}(e:Ae H H')(h:DZ H x D):DZ H' x D:=by obtain⟨o,p,ps,pt,sh,r,h0,h1,h2,h3,h4⟩:=h;exact⟨o,p,ps,pt,sh,r,e _ _ h0,h1.over e,h2.tk (Ae.tk e),h3.tk (Ae.tk e),e _ _ h4⟩
def ER (C:Addr)(c:Cs)(H:Hp)(x:V)(D:Dw):Prop := ∃(p dx nm lo hi ps pt:Addr) (ob:V) (ls hs:List V),x = .ref p/\H p=some (.ins C dx [("names",.ref nm),("lows",.ref lo),("highs",.ref hi),("table",.str D.tbl),("spots",.ref ps),("term",ob),("path",.ref pt)])/\H nm=some (.tup (D.loops.map λt=>V.str t.nm))/\H lo=some (.tup ls)/\AN (λv t=>Ck H v (As.lo t)) ls D.loops/\H hi=some (.tup hs)/\AN (λv t=>Ck H v (As.hi t)) hs D.loops/\F4 H ps D.sp/\BM c H D.tm ob/\H pt=some (.tup (D.path.map V.int))
theorem ER.over {C:Addr}{c:Cs}{H H':Hp}{x:V}{D:Dw}(e:Ae H H')(h:ER C c H x D):ER C c H' x D:=by
 obtain⟨p,dx,nm,lo,hi,ps,pt,ob,ls,hs,rfl,h0,h1,h2,h3,h4,h5,h6,h7,h8⟩:=h;exact⟨p,dx,nm,lo,hi,ps,pt,ob,ls,hs,rfl,e _ _ h0,e _ _ h1,e _ _ h2,h3.mono λ_ _ z=>z.tk (Ae.tk e),e _ _ h4,h5.mono λ_ _ z=>z.tk (Ae.tk e),h6.tk (Ae.tk e),h7.over e,e _ _ h8⟩
def XD (C:Addr)(c:Cs)(H:Hp)(l:Addr)(Ds:List Dw):Prop := ∃xs,H l=some (.lst xs)/\AN (ER C c H) xs Ds
def Yg (CP C:Addr)(c:Cs)(H:Hp)(v:V)(n:Int)(Ds:List Dw):Prop := ∃(x dx dl:Addr),v = .ref x/\H x=some (.ins CP dx [("size",.int n),("deeds",.ref dl)])/\XD C c H dl Ds
def wo2 (H:Hp)(a b:Addr):Hp:=λx=>if x=a\/x=b then none else H x
theorem Cn {H:Hp}{a b:Addr}:Ae (wo2 H a b) H:=λx o h=>by
 unfold wo2 at h;split at h
 .cases h
 .exact h
theorem Mf {H H':Hp}{a b:Addr}(e:Ae H H'):Ae (wo2 H a b) (wo2 H' a b):=λx o h=>by
 unfold wo2 at h ⊢;split at h
 .cases h
 .rename_i c;rw[A9 c];exact e x o h
theorem Mj {H:Hp}{a b:Addr}{o:HO}:wo2 (upd H a o) a b=wo2 H a b:=by
 funext x
 unfold wo2;by_cases c:x=a\/x=b
 .rw[Ac c,Ac c]
 .rw[A9 c,A9 c,Aa λz=>c (.inl z)]
theorem MU {H:Hp}{a b:Addr}{o:HO}:wo2 (upd H b o) a b=wo2 H a b:=by
 funext x
 unfold wo2;by_cases c:x=a\/x=b
 .rw[Ac c,Ac c]
 .rw[A9 c,A9 c,Aa λz=>c (.inr z)]
theorem Hy {H:Hp}{a b x:Addr}{o:HO}(h:H x=some o)(h1:x≠a)(h2:x≠b):wo2 H a b x=some o:=by
 unfold wo2;rw[A9 (λz=>z.elim h1 h2)];exact h
theorem Qk (z:Str)(l:List Str):Dd (.str z) (l.map V.str)=decide (z∈l):=by
 unfold Dd;induction l with
 |nil=>rfl
 |
  cons y l ih=>
  rw[BE,Ji,ih];have e:Fd (.str y) (.str z)=decide (z=y):=by
   show(y==z)=_;rw[Ei];simp only[CG,EG];exact⟨λe=>e.symm,λe=>e.symm⟩
  rw[e,Ei];simp
def IL (H:Hp)(x:V)(p:Nat×Pw.Rr As Str):Prop := ∃t,x = .ref t/\H t=some (.tup [.int (p.1:Int),.str (Kh p.2)])
theorem IL.tk {H H':Hp}{x:V}{p:Nat×Pw.Rr As Str}(k:TK H H')(h:IL H x p):IL H' x p:=by obtain⟨t,e,h⟩:=h;exact⟨t,e,k _ _ h⟩
structure Cc (H0 H:Hp)(rl dl o pt:Addr)(la:V)(ts:List As)(path:List Int)(R:Pw.Rw As Str)(Ds:List Dw)(tl:As):Prop where
 same:Ae H0 H
 op:G2 (wo2 H rl dl) o ts
 pa:wo2 H rl dl pt=some (.lst (path.map V.int))
 la:Ea H la tl
 rows:∃xs,H rl=some (.lst xs)/\AN (IL H) xs R
 deeds:∃ys,H dl=some (.lst ys)/\AN (DZ (wo2 H rl dl)) ys Ds
 rne:rl≠dl
 h0r:H0 rl=none
 h0d:H0 dl=none
theorem Cc.over {H0 H H':Hp}{rl dl o pt:Addr}{la:V}{ts:List As}{path:List Int}{R:Pw.Rw As Str}{Ds:List Dw}{tl:As}(h:Cc H0 H rl dl o pt la ts path R Ds tl)(e:Ae H H'):Cc H0 H' rl dl o pt la ts path R Ds tl:=by
 obtain⟨xs,hx,ax⟩:=h.rows;obtain⟨ys,hy,ay⟩:=h.deeds;exact⟨h.same.trans e,h.op.over (Mf e),Mf e _ _ h.pa,h.la.tk (Ae.tk e),⟨xs,e _ _ hx,ax.mono λ_ _ z=>z.tk (Ae.tk e)⟩,⟨ys,e _ _ hy,ay.mono λ_ _ z=>z.over (Mf e)⟩,h.rne,h.h0r,h.h0d⟩
theorem Cc.row {H0 H:Hp}{rl dl o pt:Addr}{la:V}{ts:List As}{path:List Int}{R:Pw.Rw As Str}{Ds:List Dw}{tl:As}(h:Cc H0 H rl dl o pt la ts path R Ds tl){t:Addr}{xs:List V}{p:Nat×Pw.Rr As Str}(hx:H rl=some (.lst xs))(ht:H t=some (.tup [.int (p.1:Int),.str (Kh p.2)])):Cc H0 (upd H rl (.lst (xs++[.ref t]))) rl dl o pt la ts path (R++[p]) Ds tl:=by
 obtain⟨xs',hx',ax⟩:=h.rows;obtain⟨ys,hy,ay⟩:=h.deeds;rw[hx]at hx';cases hx';have tk:TK H (upd H rl (.lst (xs++[.ref t]))):=TK.upd hx;exact⟨λb o hb=>by rw[Aa (B0 hb h.h0r)];exact h.same _ _ hb,by rw[Mj];exact h.op,by rw[Mj];exact h.pa,h.la.tk tk,⟨_,A3,(ax.mono λ_ _ z=>z.tk tk).snoc ⟨t,rfl,tk _ _ ht⟩⟩,⟨ys,by rw[Aa h.rne.symm];exact hy,by rw[Mj];exact ay⟩,h.rne,h.h0r,h.h0d⟩
theorem Cc.deed {H0 H:Hp}{rl dl o pt:Addr}{la:V}{ts:List As}{path:List Int}{R:Pw.Rw As Str}{Ds:List Dw}{tl:As}(h:Cc H0 H rl dl o pt la ts path R Ds tl){x:V}{ys:List V}{D:Dw}(hy:H dl=some (.lst ys))(hD:DZ (wo2 H rl dl) x D):Cc H0 (upd H dl (.lst (ys++[x]))) rl dl o pt la ts path R (Ds++[D]) tl:=by
 obtain⟨xs,hx,ax⟩:=h.rows;obtain⟨ys',hy',ay⟩:=h.deeds;rw[hy]at hy';cases hy';have tk:TK H (upd H dl (.lst (ys++[x]))):=TK.upd hy;exact⟨λb o hb=>by rw[Aa (B0 hb h.h0d)];exact h.same _ _ hb,by rw[MU];exact h.op,by rw[MU];exact h.pa,h.la.tk tk,⟨xs,by rw[Aa h.rne];exact hx,ax.mono λ_ _ z=>z.tk tk⟩,⟨_,A3,by rw[MU];exact ay.snoc hD⟩,h.rne,h.h0r,h.h0d⟩
theorem Cc.newO {H0 H:Hp}{rl dl o pt:Addr}{la:V}{ts:List As}{path:List Int}{R:Pw.Rw As Str}{Ds:List Dw}{tl:As}(h:Cc H0 H rl dl o pt la ts path R Ds tl){p:Addr}{vs:List V}{ts':List As}(hp:H p=none)(hv:AN (Ea H) vs ts'):Cc H0 (upd H p (.lst vs)) rl dl p pt la ts' path R Ds tl:=by
 have e:=A6 hp (.lst vs);have n:=h.over e;obtain⟨xs,hx,_⟩:=h.rows;obtain⟨ys,hy,_⟩:=h.deeds;have n1:=(B0 hx hp).symm;have n2:=(B0 hy hp).symm;refine⟨n.same,⟨vs,Hy A3 n1 n2,hv.mono λv t z=>?_⟩,n.pa,n.la,n.rows,n.deeds,n.rne,n.h0r,n.h0d⟩;obtain⟨q,a,b,rfl,h0,⟨qa,rfl,ha⟩,⟨qb,rfl,hb⟩⟩:=z;have g:∀{c:Addr} {zs:List V},H c=some (.tup zs)->wo2 (upd H p (.lst vs)) rl dl c=some (.tup zs):=fun{c zs} hc=>Hy (e _ _ hc) (Dm hc hx (by intro z;cases z)) (Dm hc hy (by intro z;cases z));exact⟨q,.ref qa,.ref qb,rfl,g h0,⟨qa,rfl,g ha⟩,⟨qb,rfl,g hb⟩⟩
theorem Cc.newP {H0 H:Hp}{rl dl o pt:Addr}{la:V}{ts:List As}{path path':List Int}{R:Pw.Rw As Str}{Ds:List Dw}{tl:As}(h:Cc H0 H rl dl o pt la ts path R Ds tl){p:Addr}(hp:H p=none):Cc H0 (upd H p (.lst (path'.map V.int))) rl dl o p la ts path' R Ds tl:=by
 have n:=h.over (A6 hp (.lst (path'.map V.int)));obtain⟨xs,hx,_⟩:=h.rows;obtain⟨ys,hy,_⟩:=h.deeds;exact⟨n.same,n.op,Hy A3 (B0 hx hp).symm (B0 hy hp).symm,n.la,n.rows,n.deeds,n.rne,n.h0r,n.h0d⟩
theorem JB.wo2' {H:Hp}{rl dl o:Addr}{x:V}{D:Dw}{xs ys:List V}{ts:List As}(h:JB H o x D)(hx:H rl=some (.lst xs))(hy:H dl=some (.lst ys))(op:G2 (L2.wo2 H rl dl) o ts)(eL:D.loops=ts):DZ (L2.wo2 H rl dl) x D:=by
 obtain⟨p,ps,pt,sh,rfl,h0,_,h2,h3,h4⟩:=h;have tk:TK H (L2.wo2 H rl dl):=λb zs hb=>Hy hb (Dm hb hx (by intro z;cases z)) (Dm hb hy (by intro z;cases z));exact⟨o,p,ps,pt,sh,rfl,tk _ _ h0,by rw[eL];exact op,h2.tk tk,h3.tk tk,tk _ _ h4⟩
theorem Cc.start {H:Hp}{o pt rl dl q1 q2 la:Addr}(h1:H o=none)(h2:(upd H o (.lst [])) pt=none)(h3:(upd (upd H o (.lst [])) pt (.lst [.int 0])) rl=none)
  (h4:(upd (upd (upd H o (.lst [])) pt (.lst [.int 0])) rl (.lst [])) dl=none)
  (h5:(upd (upd (upd (upd H o (.lst [])) pt (.lst [.int 0])) rl (.lst [])) dl (.lst [])) q1=none)
  (h6:(upd (upd (upd (upd (upd H o (.lst [])) pt (.lst [.int 0])) rl (.lst [])) dl (.lst [])) q1 (.tup [.str (Str.ofString ""),.int 0])) q2=none)
  (h7:(upd (upd (upd (upd (upd (upd H o (.lst [])) pt (.lst [.int 0])) rl (.lst [])) dl (.lst [])) q1 (.tup [.str (Str.ofString ""),.int 0])) q2 (.tup [.str (Str.ofString ""),.int 0])) la=none) :
  Cc H (upd (upd (upd (upd (upd (upd (upd H o (.lst [])) pt (.lst [.int 0])) rl (.lst [])) dl (.lst [])) q1 (.tup [.str (Str.ofString ""),.int 0])) q2 (.tup [.str (Str.ofString ""),.int 0])) la (.tup [.str (Str.ofString ""),.ref q1,.ref q2])) rl dl o pt (.ref la) [] [0] [] [] ⟨"",("",0),("",0)⟩:=by
 have s1:=A6 h1 (.lst []);have s2:=A6 h2 (.lst [.int 0]);have s3:=A6 h3 (.lst []);have s4:=A6 h4 (.lst []);have s5:=A6 h5 (.tup [.str (Str.ofString ""),.int 0]);have s6:=A6 h6 (.tup [.str (Str.ofString ""),.int 0]);have s7:=A6 h7 (.tup [.str (Str.ofString ""),.ref q1,.ref q2]);have a1:(upd H o (.lst [])) o=some (.lst []):=A3;have b1:=s2 _ _ a1;have b2:(upd (upd H o (.lst [])) pt (.lst [.int 0])) pt=some (.lst [.int 0]):=A3;have c3:(upd (upd (upd H o (.lst [])) pt (.lst [.int 0])) rl (.lst [])) rl=some (.lst []):=A3;have nOr:o≠rl:=B0 b1 h3;have nPr:pt≠rl:=B0 b2 h3;have nOd:o≠dl:=B0 (s3 _ _ b1) h4;have nPd:pt≠dl:=B0 (s3 _ _ b2) h4;have nrd:rl≠dl:=B0 c3 h4;have t:=((s4.trans s5).trans s6).trans s7;have t5:=(s5.trans s6).trans s7;refine⟨((s1.trans s2).trans s3).trans t,⟨[],Hy (t _ _ (s3 _ _ b1)) nOr nOd,.nil⟩,Hy (t _ _ (s3 _ _ b2)) nPr nPd,⟨la,.ref q1,.ref q2,rfl,A3,⟨q1,rfl,s7 _ _ (s6 _ _ A3)⟩,⟨q2,rfl,s7 _ _ A3⟩⟩,⟨[],t _ _ c3,.nil⟩,⟨[],t5 _ _ A3,.nil⟩,nrd,(s1.trans s2).free h3,((s1.trans s2).trans s3).free h4⟩
section
variable {X:Cx}
def V3:V->V->Hp->VK->Prop:=λo i H Q=>∃p xs v,o = .ref p/\i = .int (-1)/\H p=some (.lst (xs++[v]))/\Q v H
theorem Qq:Q3 X V3:=by
 intro pins s σ H o i ov iv Q I ro ri h;obtain⟨p,xs,z,rfl,rfl,hp,q⟩:=h;cases ro;obtain⟨t,rfl⟩:=ri;obtain⟨its,r,pl,hz⟩:=I.list (A4.of hp);obtain⟨j,h1,h2,h3,h4,h5⟩:=KY (JL xs z);obtain⟨w,ew,rw'⟩:=r.get h2;have hl:=r.length;have hn:=GE;have fin:EP X pins σ Q w s:=⟨z,H,I,rw',q⟩
 have hj:((-1:Int)+(its.toArray.size:Int)).toNat=j:=by
  rw[O1 (by lia) h4]at h1;rw[BX,←hl];exact Co h1
 exact wpAny_getItem_list_neg pl.isList (by lia) (by rw[BX]<;>lia) (by lia) (by rw[hj];simpa using ew) fin
end
theorem US (n:Nat):E6 (n+1) (-1)=some n:=by
 unfold E6;rw[A9 (by decide),Ac (by lia)];congr 1;lia
end L2
namespace Rd
open PySem L2
structure Dr where
 sz:Option Int
 dd:List Dw
 lp:List As
 pa:List Int
 la:Int
structure Da where
 d:Addr
 dx:Addr
 dl:Addr
 tl:Addr
 nl:Addr
 ll:Addr
 hl:Addr
 pl:Addr
def Da.own (A:Da)(b:Addr):Prop:=b=A.d\/b=A.dl\/b=A.tl\/b=A.nl\/b=A.ll\/b=A.hl\/b=A.pl
def Hu:Option Int->V
 |none=>.non
 |some n=>.int n
def Da.fs (A:Da)(v:V):List (Str×V):=[("size",v),("deeds",.ref A.dl),("tables",.ref A.tl),("names",.ref A.nl),("lows",.ref A.ll),("highs",.ref A.hl),("path",.ref A.pl)]
def Ob:HO->Prop
 |.tup _=>True
 |.ins _ _ fs=>fs.lookup (Str.ofString "size")=none
 |_=>False
def Kp (H H':Hp):Prop := ∀b o,H b=some o->Ob o->H' b=some o
theorem Kp.trans {H H1 H2:Hp}(a:Kp H H1)(b:Kp H1 H2):Kp H H2:=λc o h n=>b c o (a c o h n) n
theorem Kp.lst {H:Hp}{l:Addr}{xs ys:List V}(h:H l=some (.lst xs)):Kp H (upd H l (.lst ys)):=λb o e n=>by
 rw[Aa (λz=>by rw[z,h]at e;cases e;exact n)];exact e
theorem Kp.tk {H H':Hp}(e:Kp H H'):TK H H':=λp xs h=>e _ _ h True.intro
theorem tb_kp {c:Cs}{H H':Hp}(e:Kp H H'):∀{t:Tw} {x:V},BM c H t x->BM c H' t x
 |.n i,x,h=>let ⟨t,dx,r,h⟩:=h;⟨t,dx,r,e _ _ h (by show List.lookup _ _=none;rfl)⟩
 |.v z,x,h=>let ⟨t,dx,r,h⟩:=h;⟨t,dx,r,e _ _ h (by show List.lookup _ _=none;rfl)⟩
 |.c z sp,x,h=>let ⟨t,dx,p,r,h,g⟩:=h;⟨t,dx,p,r,e _ _ h (by show List.lookup _ _=none;rfl),g.tk e.tk⟩
 |.j z l r,x,h=>let ⟨t,dx,a,b,r,h,g1,g2⟩:=h;⟨t,dx,a,b,r,e _ _ h (by show List.lookup _ _=none;rfl),tb_kp e g1,tb_kp e g2⟩
theorem PtAt.kp {c:Cs}{H H':Hp}(e:Kp H H'){v:V}{k:Tk}(h:PtAt c H v k):PtAt c H' v k:=by
 cases k with
 |s a=>exact h
 |t w=>exact tb_kp e h
theorem Iv {C:Addr}{c:Cs}{H H':Hp}{x:V}{D:Dw}(e:Kp H H')(h:ER C c H x D):ER C c H' x D:=by
 obtain⟨p,dx,nm,lo,hi,ps,pt,ob,ls,hs,rfl,h0,h1,h2,h3,h4,h5,h6,h7,h8⟩:=h;exact⟨p,dx,nm,lo,hi,ps,pt,ob,ls,hs,rfl,e _ _ h0 (by show List.lookup _ _=none;rfl),e _ _ h1 True.intro,e _ _ h2 True.intro,h3.mono λ_ _ z=>z.tk e.tk,e _ _ h4 True.intro,h5.mono λ_ _ z=>z.tk e.tk,h6.tk e.tk,tb_kp e h7,e _ _ h8 True.intro⟩
def tbK (tb:List (Str×Nat)):List (Bp×V):=tb.map λp=>(.inr p.1,.int (p.2:Int))
structure C5 (CD C:Addr)(c:Cs)(f:Str->Nat)(H:Hp)(A:Da)(D:Dr):Prop where
 o:H A.d=some (.ins CD A.dx (A.fs (Hu D.sz)))
 dd:∃xs,H A.dl=some (.lst xs)/\AN (ER C c H) xs D.dd
 tb:∃tb,H A.tl=some (.dK (tbK tb))/\(∀p∈tb,p.2=f p.1)/\tb.length<=2000*D.dd.length
 nm:H A.nl=some (.lst (D.lp.map λt=>V.str t.nm))
 lo:∃xs,H A.ll=some (.lst xs)/\AN (λv t=>Ck H v (As.lo t)) xs D.lp
 hi:∃xs,H A.hl=some (.lst xs)/\AN (λv t=>Ck H v (As.hi t)) xs D.lp
 pa:H A.pl=some (.lst ((D.pa++[D.la]).map V.int))
 nd:[A.dl,A.nl,A.ll,A.hl,A.pl].Nodup
 pl:D.pa.length=D.lp.length
def Out (A:Da)(H H':Hp):Prop := ∀b o,H b=some o->¬A.own b->H' b=some o
theorem Out.refl (A:Da)(H:Hp):Out A H H:=λ_ _ h _=>h
theorem Out.of {A:Da}{H H':Hp}(e:Ae H H'):Out A H H':=λb o h _=>e b o h
theorem Out.trans {A:Da}{H H1 H2:Hp}(a:Out A H H1)(b:Out A H1 H2):Out A H H2:=λc o h n=>b c o (a c o h n) n
theorem Out.put {A:Da}{H:Hp}{l:Addr}{u:HO}(h:A.own l):Out A H (upd H l u):=λb o e n=>by
 rw[Aa (show b≠l from λz=>n (by rw[z];exact h))];exact e
theorem C5.over {CD C:Addr}{c:Cs}{f:Str->Nat}{H H':Hp}{A:Da}{D:Dr}(e:Ae H H')(h:C5 CD C c f H A D):C5 CD C c f H' A D:=by
 obtain⟨xs,d1,d2⟩:=h.dd;obtain⟨tb,t1,t2⟩:=h.tb;obtain⟨ls,l1,l2⟩:=h.lo;obtain⟨hs,h1,h2⟩:=h.hi;exact⟨e _ _ h.o,⟨xs,e _ _ d1,d2.mono λ_ _ z=>z.over e⟩,⟨tb,e _ _ t1,t2⟩,e _ _ h.nm,⟨ls,e _ _ l1,l2.mono λ_ _ z=>z.tk (Ae.tk e)⟩,⟨hs,e _ _ h1,h2.mono λ_ _ z=>z.tk (Ae.tk e)⟩,e _ _ h.pa,h.nd,h.pl⟩
theorem C5.not_own {CD C:Addr}{c:Cs}{f:Str->Nat}{H:Hp}{A:Da}{D:Dr}(h:C5 CD C c f H A D){b:Addr}{o:HO}(e:H b=some o)(ob:Ob o):¬A.own b:=by
 obtain⟨xs,d1,d2⟩:=h.dd;obtain⟨tb,t1,t2⟩:=h.tb;obtain⟨ls,l1,l2⟩:=h.lo;obtain⟨hs,h1,h2⟩:=h.hi;have key:∀{a:Addr} {u:HO},H a=some u->¬Ob u->b≠a:=fun{a u} ea nu z=>by
  rw[z,ea]at e;exact nu (Co e▸ob)
 rintro (z|z|z|z|z|z|z)
 .exact key h.o (λz=>by have z:List.lookup _ _=none:=z;exact absurd z (by show ¬some _=none;exact λy=>nomatch y)) z
 .exact key d1 (λz=>z) z
 .exact key t1 (λz=>z) z
 .exact key h.nm (λz=>z) z
 .exact key l1 (λz=>z) z
 .exact key h1 (λz=>z) z
 .exact key h.pa (λz=>z) z
theorem C5.kp {CD C:Addr}{c:Cs}{f:Str->Nat}{H H':Hp}{A:Da}{D:Dr}(h:C5 CD C c f H A D)(e:Out A H H'):Kp H H':=λb o hb ob=>e b o hb (h.not_own hb ob)
def C5.drn {CD C:Addr}{c:Cs}{f:Str->Nat}{H:Hp}{A:Da}{D:Dr}(h:C5 CD C c f H A D):M5 CD H A.d (D.lp.map (·.nm)):=⟨A.dx,_,A.nl,h.o,rfl,by rw[FO];exact h.nm⟩
def D0:Dr:=⟨none,[],[],[],0⟩
def spDrI (CD C:Addr)(c:Cs):Sp:=λvs H Q _=>∃(x dx:Addr),vs=[.ref x]/\H x=some (.ins CD dx [])/\∀(H':Hp) (A:Da),A.d=x->(∀b o,H b=some o->b≠x->H' b=some o)->(∀b,A.own b->b≠x->H b=none)->(∀f,C5 CD C c f H' A D0)->Q .non H'
def NG (nm:List Str):Tk->Prop
 |.t (.v z)=>z∈nm
 |.t (.c _ sp)=>sp.all (knw nm)=true
 |_=>True
def Ly (f:Str->Nat):Tk->Prop
 |.t (.c z sp)=>f z=sp.length
 |_=>True
theorem flat_strs (nm:List Str):(nm.map V.str).all Eo=true:=by
 rw[EB];intro x hx;obtain⟨z,_,rfl⟩:=CK.mp hx;rfl
theorem in_strs (nm:List Str)(z:Str):Dd (.str z) (nm.map V.str)=decide (z∈nm):=by
 induction nm with
 |nil=>rfl
 |
  cons a l ih=>
  have e:Dd (.str z) ((a::l).map V.str)=(decide (a=z)||Dd (.str z) (l.map V.str)):=rfl;rw[e,ih,←Bool.decide_or];exact decide_eq_decide.mpr (by rw[Av];exact⟨λh=>h.elim (λh=>.inl h.symm) .inr,λh=>h.elim (λh=>.inl h.symm) .inr⟩)
theorem put2 {H:Hp}{l x:Addr}{u v w:HO}(hl:H l=none)(hx:H x=some u):l≠x/\(upd (upd H l v) x w) l=some v/\∀b o,H b=some o->b≠x->(upd (upd H l v) x w) b=some o:=by
 have n:l≠x:=λe=>by rw[e,hx]at hl;cases hl
 refine⟨n,by rw[Aa n];exact A3,λb o e nb=>?_⟩;rw[Aa nb,Aa (B0 e hl)];exact e
def opens (D:Dr)(t:As):Dr:=⟨D.sz,D.dd,D.lp++[t],D.pa++[D.la],0⟩
def does (D:Dr)(tb:Str)(sp:List (Str×Int))(t:Tw):Dr:=⟨D.sz,D.dd++[⟨D.lp,tb,sp,t,D.pa++[D.la]⟩],D.lp,D.pa,D.la+1⟩
theorem GU {z:Str}{sp:List (Str×Int)}(ok:(Tk.t (.c z sp)).Ok){c:Nat}(hc:¬(97<=c/\c<=122)/\¬(48<=c/\c<=57)/\c≠43/\c≠45/\c≠91/\c≠93:=by lia):c∉cds (AY z sp):=by
 obtain⟨hz,hne,_,hsp⟩:=ok;have key:∀{l:List (List Nat)},(∀a∈l,c∉a)->c∉C4 l:=fun{l} hl=>by
  induction l with
  |nil=>intro z;cases z
  |
   cons a l ih=>
   cases l with
   |nil=>exact hl a AH
   |
    cons b l=>
    intro z;have z:c∈a++([93,91]++C4 (b::l)):=z;rcases By.mp z with z|z
    .exact hl a AH z
    .rcases By.mp z with z|z
     .simp only[Av,Cp,or_false]at z;lia
     .exact ih (λx hx=>hl x (B5 _ hx)) z
 rw[cel_cds hne];intro z;rcases By.mp z with z|z
 .exact DR hz hc.1 z
 .rcases Av.mp z with z|z
  .omega
  .rcases By.mp z with z|z
   .refine key (λa ha=>?_) z;obtain⟨s,hs,rfl⟩:=CK.mp ha;exact G1 (hsp s hs) ⟨hc.1,hc.2.1,hc.2.2.1,hc.2.2.2.1⟩
   .have:=Bt.mp z;lia
theorem map_cds_inj:∀{a b:List Str},a.map cds=b.map cds->a=b
 |[],[],_=>rfl
 |[],_::_,h=>nomatch h
 |_::_,[],h=>nomatch h
 |
  x::a,y::b,h=>by
  rw[BE,BE]at h;injection h with h1 h2;rw[D2 h1,map_cds_inj h2]
theorem WZ (c:Nat)(l:List Nat):(stp c l).length<=l.length:=by
 unfold stp;rw[Ih];have h1:=(List.dropWhile_sublist (· == c) (l:=(l.dropWhile (· == c)).reverse)).length_le;have h2:=(List.dropWhile_sublist (· == c) (l:=l)).length_le;rw[Ih]at h1;lia
theorem bare_len (l:List Nat):(bare l).length<=l.length:=by
 unfold bare;have h:=WZ 32 (if 59∈l then Cb 59 l else l);split at h
 .unfold Cb at h ⊢;rename_i hc;rw[Ac hc];rw[Bb]at h;lia
 .rename_i hc;rw[A9 hc];exact h
theorem split_part {y l:List Nat}{ps:List (List Nat)}(h:IsSplit y l ps):∀p∈ps,p.length<=l.length:=by
 induction h with
 |one _=>intro p hp;rw[Bt.mp hp];lia
 |
  cut _ _ ih=>
  intro p hp;rw[An,An];rcases Av.mp hp with rfl|hp
  .omega
  .have:=ih p hp;lia
theorem set_last (xs:List V)(v w:V):(xs++[v]).set xs.length w=xs++[w]:=by
 rw[List.set_append_right _ _ (Aq _),Fk];rfl
theorem ix_end (xs:List V)(v:V):E6 (xs++[v]).length (-1)=some xs.length:=by
 rw[An];exact US _
section
variable {CD C:Addr}{c:Cs}{f:Str->Nat}{H H':Hp}{A:Da}{D:Dr}
theorem C5.ne (h:C5 CD C c f H A D):A.nl≠A.d/\A.ll≠A.d/\A.hl≠A.d/\A.pl≠A.d/\A.dl≠A.d/\A.tl≠A.d/\A.nl≠A.tl/\A.ll≠A.tl/\A.hl≠A.tl/\A.pl≠A.tl/\A.dl≠A.tl:=by
 obtain⟨xs,d1,d2⟩:=h.dd;obtain⟨tb,t1,t2⟩:=h.tb;obtain⟨ls,l1,l2⟩:=h.lo;obtain⟨hs,h1,h2⟩:=h.hi;exact⟨Dm h.nm h.o (by intro z;cases z),Dm l1 h.o (by intro z;cases z),Dm h1 h.o (by intro z;cases z),Dm h.pa h.o (by intro z;cases z),Dm d1 h.o (by intro z;cases z),Dm t1 h.o (by intro z;cases z),Dm h.nm t1 (by intro z;cases z),Dm l1 t1 (by intro z;cases z),Dm h1 t1 (by intro z;cases z),Dm h.pa t1 (by intro z;cases z),Dm d1 t1 (by intro z;cases z)⟩
theorem C5.nds (h:C5 CD C c f H A D):(A.dl≠A.nl/\A.dl≠A.ll/\A.dl≠A.hl/\A.dl≠A.pl)/\(A.nl≠A.ll/\A.nl≠A.hl/\A.nl≠A.pl)/\(A.ll≠A.hl/\A.ll≠A.pl)/\A.hl≠A.pl:=by
 have:=h.nd;simp only[Gc,Av,Cp,or_false,not_or,NP,Rh,and_true]at this;exact this
theorem C5.size (h:C5 CD C c f H A D)(n:Int):Out A H (upd H A.d (.ins CD A.dx (Ah "size" (.int n) (A.fs (Hu D.sz)))))/\C5 CD C c f (upd H A.d (.ins CD A.dx (Ah "size" (.int n) (A.fs (Hu D.sz))))) A ⟨some n,D.dd,D.lp,D.pa,D.la⟩:=by
 have out:Out A H (upd H A.d (.ins CD A.dx (Ah "size" (.int n) (A.fs (Hu D.sz))))):=Out.put (.inl rfl);have kp:=h.kp out;obtain⟨n1,n2,n3,n4,n5,n6,_⟩:=h.ne;obtain⟨xs,d1,d2⟩:=h.dd;obtain⟨tb,t1,t2⟩:=h.tb;obtain⟨ls,l1,l2⟩:=h.lo;obtain⟨hs,h1,h2⟩:=h.hi;exact⟨out,A3,⟨xs,by rw[Aa n5];exact d1,d2.mono λ_ _ z=>Iv kp z⟩,⟨tb,by rw[Aa n6];exact t1,t2⟩,by rw[Aa n1];exact h.nm,⟨ls,by rw[Aa n2];exact l1,l2.mono λ_ _ z=>z.tk kp.tk⟩,⟨hs,by rw[Aa n3];exact h1,h2.mono λ_ _ z=>z.tk kp.tk⟩,by rw[Aa n4];exact h.pa,h.nd,h.pl⟩
def four (H:Hp)(A:Da)(a b c d:List V):Hp:=upd (upd (upd (upd H A.nl (.lst a)) A.ll (.lst b)) A.hl (.lst c)) A.pl (.lst d)
theorem C5.four (h:C5 CD C c f H A D){lp:List As}{pa:List Int}{la:Int}{ls hs:List V}(hl:AN (λv t=>Ck H v (As.lo t)) ls lp)(hh:AN (λv t=>Ck H v (As.hi t)) hs lp)(pl:pa.length=lp.length) :
  Out A H (Rd.four H A (lp.map λt=>V.str t.nm) ls hs ((pa++[la]).map V.int))/\C5 CD C c f (Rd.four H A (lp.map λt=>V.str t.nm) ls hs ((pa++[la]).map V.int)) A ⟨D.sz,D.dd,lp,pa,la⟩:=by
 have out:Out A H (Rd.four H A (lp.map λt=>V.str t.nm) ls hs ((pa++[la]).map V.int)):=(((Out.put (.inr (.inr (.inr (.inl rfl))))).trans (Out.put (.inr (.inr (.inr (.inr (.inl rfl))))))).trans (Out.put (.inr (.inr (.inr (.inr (.inr (.inl rfl)))))))).trans (Out.put (.inr (.inr (.inr (.inr (.inr (.inr rfl)))))));have kp:=h.kp out;obtain⟨n1,n2,n3,n4,n5,n6,m1,m2,m3,m4,m5⟩:=h.ne;obtain⟨⟨a1,a2,a3,a4⟩,⟨b1,b2,b3⟩,⟨c1,c2⟩,e1⟩:=h.nds;obtain⟨xs,d1,d2⟩:=h.dd;obtain⟨tb,t1,t2⟩:=h.tb;refine⟨out,?_,⟨xs,?_,d2.mono λ_ _ z=>Iv kp z⟩,⟨tb,?_,t2⟩,?_,⟨ls,?_,hl.mono λ_ _ z=>z.tk kp.tk⟩,⟨hs,?_,hh.mono λ_ _ z=>z.tk kp.tk⟩,A3,h.nd,pl⟩
 .unfold Rd.four;rw[Aa (Ne.symm n4),Aa (Ne.symm n3),Aa (Ne.symm n2),Aa (Ne.symm n1)];exact h.o
 .unfold Rd.four;rw[Aa a4,Aa a3,Aa a2,Aa a1];exact d1
 .unfold Rd.four;rw[Aa (Ne.symm m4),Aa (Ne.symm m3),Aa (Ne.symm m2),Aa (Ne.symm m1)];exact t1
 .unfold Rd.four;rw[Aa b3,Aa b2,Aa b1];exact A3
 .unfold Rd.four;rw[Aa c2,Aa c1];exact A3
 .unfold Rd.four;rw[Aa e1];exact A3
theorem C5.deed {H0:Hp}(h:C5 CD C c f H0 A D){tb:List (Str×Nat)}{xs:List V}{x:V}{W:Dw}(o:H A.d=some (.ins CD A.dx (A.fs (Hu D.sz))))(nm:H A.nl=some (.lst (D.lp.map λt=>V.str t.nm))){ls hs:List V}(l1:H A.ll=some (.lst ls))(l2:AN (λv t=>Ck H v (As.lo t)) ls D.lp)(h1:H A.hl=some (.lst hs))(h2:AN (λv t=>Ck H v (As.hi t)) hs D.lp)(pa:H A.pl=some (.lst (D.pa.map V.int++[.int D.la])))
  (hd:H A.dl=some (.lst xs)) (pd:AN (ER C c H) xs D.dd) (hx:ER C c H x W) (ht:H A.tl=some (.dK (tbK tb))) (hf:∀p∈tb,p.2=f p.1) (hl:tb.length<=2000*(D.dd.length+1)) :
  Out A H (upd (upd H A.dl (.lst (xs++[x]))) A.pl (.lst (D.pa.map V.int++[.int (D.la+1)])))/\C5 CD C c f (upd (upd H A.dl (.lst (xs++[x]))) A.pl (.lst (D.pa.map V.int++[.int (D.la+1)]))) A ⟨D.sz,D.dd++[W],D.lp,D.pa,D.la+1⟩:=by
 have out:Out A H (upd (upd H A.dl (.lst (xs++[x]))) A.pl (.lst (D.pa.map V.int++[.int (D.la+1)]))):=(Out.put (.inr (.inl rfl))).trans (Out.put (.inr (.inr (.inr (.inr (.inr (.inr rfl)))))));obtain⟨n1,n2,n3,n4,n5,n6,m1,m2,m3,m4,m5⟩:=h.ne;obtain⟨⟨a1,a2,a3,a4⟩,⟨b1,b2,b3⟩,⟨c1,c2⟩,e1⟩:=h.nds;have kp:Kp H (upd (upd H A.dl (.lst (xs++[x]))) A.pl (.lst (D.pa.map V.int++[.int (D.la+1)]))):=(Kp.lst hd).trans (Kp.lst ((Aa (Ne.symm a4)).trans pa));refine⟨out,?_,⟨xs++[x],?_,(pd.mono λ_ _ z=>Iv kp z).snoc (Iv kp hx)⟩,⟨tb,?_,hf,by rw[An];exact hl⟩,?_,⟨ls,?_,l2.mono λ_ _ z=>z.tk kp.tk⟩,⟨hs,?_,h2.mono λ_ _ z=>z.tk kp.tk⟩,?_,h.nd,h.pl⟩
 .rw[Aa (Ne.symm n4),Aa (Ne.symm n5)];exact o
 .rw[Aa a4];exact A3
 .rw[Aa (Ne.symm m4),Aa (Ne.symm m5)];exact ht
 .rw[Aa b3,Aa (Ne.symm a1)];exact nm
 .rw[Aa c2,Aa (Ne.symm a2)];exact l1
 .rw[Aa e1,Aa (Ne.symm a3)];exact h1
 .rw[A3];show _=some (HO.lst ((D.pa++[D.la+1]).map V.int));rw[AR];rfl
theorem C5.tabs (h:C5 CD C c f H A D)(e:∀b o,H b=some o->b≠A.tl->H' b=some o):Kp H H'/\Out A H H'/\H' A.d=some (.ins CD A.dx (A.fs (Hu D.sz)))/\(∃xs,H' A.dl=some (.lst xs)/\AN (ER C c H') xs D.dd)/\H' A.nl=some (.lst (D.lp.map λt=>V.str t.nm))/\(∃xs,H' A.ll=some (.lst xs)/\AN (λv t=>Ck H' v (As.lo t)) xs D.lp)/\(∃xs,H' A.hl=some (.lst xs)/\AN (λv t=>Ck H' v (As.hi t)) xs D.lp)/\H' A.pl=some (.lst ((D.pa++[D.la]).map V.int)):=by
 have out:Out A H H':=λb o hb n=>e b o hb (λz=>n (.inr (.inr (.inl z))));have kp:=h.kp out;obtain⟨n1,n2,n3,n4,n5,n6,m1,m2,m3,m4,m5⟩:=h.ne;obtain⟨xs,d1,d2⟩:=h.dd;obtain⟨ls,l1,l2⟩:=h.lo;obtain⟨hs,h1,h2⟩:=h.hi;exact⟨kp,out,e _ _ h.o (Ne.symm n6),⟨xs,e _ _ d1 m5,d2.mono λ_ _ z=>Iv kp z⟩,e _ _ h.nm m1,⟨ls,e _ _ l1 m2,l2.mono λ_ _ z=>z.tk kp.tk⟩,⟨hs,e _ _ h1 m3,h2.mono λ_ _ z=>z.tk kp.tk⟩,e _ _ h.pa m4⟩
end
set_option genInjectivity true in
inductive Rk where
 |sz (n:Int)
 |opn (t:As)
 |fin
 |ded (tb:Str) (sp:List (Str×Int)) (ks:List Tk) (t:Tw)
def Fz (f:Str->Nat)(D D':Dr):Rk->Prop
 |.sz n=>D.sz=none/\2<=n/\n<=999999999999999999/\D'=⟨some n,D.dd,D.lp,D.pa,D.la⟩
 |.opn t=>D.sz≠none/\D.lp.length<3/\AW (cds t.nm)/\t.nm∉D.lp.map (·.nm)/\SpN t.lo/\SpN t.hi/\knw (D.lp.map (·.nm)) t.lo=true/\knw (D.lp.map (·.nm)) t.hi=true/\D'=opens D t
 |.fin=>D.sz≠none/\∃(lp:List As) (t:As) (pa:List Int) (m:Int),D.lp=lp++[t]/\D.pa=pa++[m]/\D.la≠0/\D'=⟨D.sz,D.dd,lp,pa,m+1⟩
 |.ded tb sp ks t=>D.sz≠none/\D.dd.length<6/\(Tk.t (.c tb sp)).Ok/\(∀k∈ks,k.Ok)/\Dz ks/\ks.length<=999/\(∃T S,run ks ⟨[],[],true⟩=some ⟨T,S,false⟩/\jw 1 S T=([t],[]))/\(∀k∈Tk.t (.c tb sp)::ks,NG (D.lp.map (·.nm)) k)/\(∀k∈Tk.t (.c tb sp)::ks,Ly f k)/\D'=does D tb sp t
def C3 (tb:Str)(sp:List (Str×Int))(ks:List Tk):List Nat:=cds (AY tb sp)++61::BD ks
def Em (l:List Nat)(ws:List Str):Prop := ∃ps:List Str,IsSplit [32] l (ps.map cds)/\ps.filter (λy:Str=>decide (y≠Str.ofString ""))=ws
def Fx (l:List Nat):Rk->Prop
 |.sz n=>Em l ["size",nS n]
 |.opn t=>Em l ["for",t.nm,AI t.lo,AI t.hi]
 |.fin=>Em l ["end"]
 |.ded tb sp ks _=>(∃w ws,Em l (w::ws)/\w≠"for"/\w≠"end"/\w≠"size")/\l.filter (·≠32)=C3 tb sp ks
inductive Rds (f:Str->Nat):List Str->Dr->Dr->Prop
 |nil {D}:Rds f [] D D
 |no {z zs D E}:bare (cds z)=[]->Rds f zs D E->Rds f (z::zs) D E
 |row {z zs D D' E r}:bare (cds z)≠[]->Fx (bare (cds z)) r->Fz f D D' r->Rds f zs D' E->Rds f (z::zs) D E
theorem Rds.six {f:Str->Nat}{zs:List Str}{D E:Dr}(h:Rds f zs D E):D.dd.length<=6->E.dd.length<=6:=by
 induction h with
 |nil=>exact id
 |no _ _ ih=>exact ih
 |
  @row z zs D D' E r _ _ hs _ ih=>
  intro h6;refine ih ?_;cases r with
  |sz n=>obtain⟨_,_,_,rfl⟩:=hs;exact h6
  |opn t=>obtain⟨_,_,_,_,_,_,_,_,rfl⟩:=hs;exact h6
  |fin=>obtain⟨_,_,_,_,_,_,_,_,rfl⟩:=hs;exact h6
  |
   ded tb sp ks t=>
   obtain⟨_,h,_,_,_,_,_,_,_,rfl⟩:=hs;show(D.dd++[_]).length<=6;rw[An,Bf];lia
end Rd
namespace Rd
open PySem L2
def tf (ns:List Str)(z:Str):Nat:=(ns.idxOf z+1)/2
structure Lk (nms ns:List Str)(k:Tk):Prop where
 ok:k.Ok
 kn:NG nms k
 tb:Ly (tf ns) k
def Ex.txt:Ex->Str
 |.lf t=>(Tk.t t).txt
 |.br e=>"("++e.txt++")"
 |.jn c l r=>l.txt++sg c++r.txt
theorem L9 (a b:List Tk):BD (a++b)=BD a++BD b:=by
 unfold BD;rw[AR,List.flatten_append]
theorem GJ (k:Tk):BD [k]=cds k.txt:=by rw[F3];exact D6 _
theorem Ex.txt_tk:∀e:Ex,cds e.txt=BD e.tk
 |.lf t=>(GJ _).symm
 |
  .br e=>by
  show cds ("("++e.txt++")")=BD (.s 40::(e.tk++[.s 41]));rw[B4,B4,Ex.txt_tk e,F3,L9,GJ];have e1:cds ("(":Str)=[40]:=by decide +kernel
  have e2:cds (")":Str)=[41]:=by decide +kernel
  rw[e1,e2,Br];rfl
 |
  .jn c l r=>by
  show cds (l.txt++sg c++r.txt)=BD (l.tk ++ .s c::r.tk);rw[B4,B4,Ex.txt_tk l,Ex.txt_tk r,L9,F3,Br];rfl
def Ex.lv:Ex->Nat
 |.lf _=>1
 |.br e=>e.lv
 |.jn _ l r=>l.lv+r.lv
structure FC (nms ns:List Str)(e:Ex):Prop where
 ok:e.Ok
 lk:∀k∈e.tk,Lk nms ns k
 ln:e.tk.length+5<=8*e.lv
theorem Z7 {c:Nat}{b:List Tk}(k:Tk)(h:Dz b):Dz (k :: .s c::b):=by
 cases k<;>exact h
theorem MW {c:Nat}{b:List Tk}(hb:Dz b):∀{a:List Tk},Dz a->Dz (a ++ .s c::b)
 |[],_=>hb
 |[k],_=>Z7 k hb
 |
  k::k2::a,h=>by
  have ih:=MW (c:=c) hb (MH h);cases k with
  |s d=>exact ih
  |
   t w=>
   cases k2 with
   |s d=>exact ih
   |t w2=>exact h.elim
theorem Ex.adj:∀e:Ex,Dz e.tk
 |.lf t=>True.intro
 |.br e=>MW (b:=[]) (show Dz [] from True.intro) (Ex.adj e)
 |.jn c l r=>MW (Ex.adj r) (Ex.adj l)
theorem Tk.len {k:Tk}(ok:k.Ok):(cds k.txt).length<=150:=by
 cases k with
 |s c=>show 1<=150;decide
 |
  t w=>
  cases w with
  |n i=>have:=(DE ok.1 ok.2).1.2.1;exact BP this (by decide)
  |v z=>exact BP ok.2.1 (by decide)
  |
   c z sp=>
   have h1:=ok.1.2.1;rw[cds_len]at h1;have:=Kj (z:=z) (sp:=sp) (by lia) ok.2.2.1 λs hs=>(ok.2.2.2 s hs).2;rw[cds_len];exact BP this (by decide)
  |j _ _ _=>exact ok.elim
theorem Qz:∀{ks:List Tk},(∀k∈ks,k.Ok)->(BD ks).length<=150*ks.length
 |[],_=>Aq _
 |
  k::ks,h=>by
  have h1:=Tk.len (h k AH);have h2:=Qz (ks:=ks) λx hx=>h x (B5 _ hx);rw[F3,An,AJ];lia
theorem FC.len {nms ns:List Str}{e:Ex}(h:FC nms ns e):e.txt.length<=1200*e.lv:=by
 have:=Qz (ks:=e.tk) λk hk=>(h.lk k hk).ok;rw[←Ex.txt_tk,cds_len]at this;have:=h.ln;lia
def KnAt (H:Hp)(l:Addr)(nms:List Str):Prop:=H l=some (.lst ((("":Str)::nms).map V.str))/\nms.length<=3/\∀z∈nms,AW (cds z)
def EO (H:Hp)(l:Addr)(ns:List Str):Prop:=H l=some (.lst (ns.map V.str))/\ns.length=8/\ns.Nodup/\∀z∈ns,AW (cds z)
theorem KnAt.over {H H':Hp}{l:Addr}{nms:List Str}(e:Ae H H')(h:KnAt H l nms):KnAt H' l nms:=⟨e _ _ h.1,h.2⟩
theorem EO.over {H H':Hp}{l:Addr}{ns:List Str}(e:Ae H H')(h:EO H l ns):EO H' l ns:=⟨e _ _ h.1,h.2⟩
theorem strs_at {zs:List Str}{i:Int}(h0:0<=i)(h1:i<(zs.length:Int)):∃z:Str,Bu (zs.map V.str) i=some (.str z)/\zs[i.toNat]?=some z:=by
 obtain⟨k,rfl⟩:∃k:Nat,i=(k:Int):=⟨i.toNat,by lia⟩
 have hk:k<zs.length:=by lia
 exact⟨zs[k],D8 (by rw[Ce,BC hk];rfl),by rw[FL];exact BC hk⟩
theorem idx_nodup {ns:List Str}{j:Nat}{z:Str}(nd:ns.Nodup)(h:ns[j]?=some z):ns.idxOf z=j:=by
 obtain⟨hj,e⟩:=BQ.mp h;rw[←e];exact List.Nodup.idxOf_getElem nd j hj
theorem spn_of {nms:List Str}{z:Str}{n:Int}(h:∀z∈nms,AW (cds z))(hz:z∈("":Str)::nms)(n0 : -999999999999999999<=n)(n1:n<=999999999999999999):SpN (z,n)/\knw nms (z,n)=true:=by
 rcases Av.mp hz with rfl|hz
 .exact⟨⟨.inl rfl,(by show(Str.ofString "").length<=20;decide +kernel),n0,n1⟩,rfl⟩
 .have hk:=h z hz;refine⟨⟨.inr hk,?_,n0,n1⟩,?_⟩
  .have:=hk.2.1;rw[cds_len]at this;exact BP this (by decide)
  .unfold knw;rw[Bc hz,NS]
theorem mem_behind {nms:List Str}{z:Str}{i:Int}(h:1<=i)(e:(("":Str)::nms)[i.toNat]?=some z):z∈nms:=by
 obtain⟨k,rfl⟩:∃k:Nat,i=((k+1:Nat):Int):=⟨i.toNat-1,by lia⟩
 rw[FL,List.getElem?_cons_succ]at e;exact CU e
theorem Pg (x:Int):97<=DI x/\DI x<=122:=by
 unfold DI;have h0:=BU x (show(26:Int)≠0 by decide);have h1:=C0 x (show(0:Int)<26 by decide);lia
theorem nameW_abc (xs:List Int):∀c∈Fv xs,97<=c/\c<=122:=λc hc=>by
 unfold Fv at hc;obtain⟨x,_,rfl⟩:=CK.mp hc;exact Pg x
theorem U1 {xs:List Int}{w:List Nat}(wl:w.length=8)(wb:∀c∈w,97<=c/\c<=122)(k:Int):1<=(BO xs w k).length/\(BO xs w k).length<=8/\∀c∈BO xs w k,97<=c/\c<=122:=by
 obtain⟨lb0,lb1⟩:=J7 xs;obtain⟨ab0,ab1⟩:=Ld xs;unfold BO;split
 .unfold Hg;have b0:=BU (CA xs+3*k) (show(8:Int)≠0 by decide);have b1:=C0 (CA xs+3*k) (show(0:Int)<8 by decide);rw[Bb,wl];exact⟨by lia,by lia,λc hc=>wb c (EZ hc)⟩
 .unfold GF;rw[An,An,Bf,Bb,Bb,BS,wl];refine⟨by lia,by lia,λc hc=>?_⟩;rcases By.mp hc with hc|hc
  .rcases By.mp hc with hc|hc
   .exact wb c (EZ hc)
   .rw[Bt.mp hc];exact Pg _
  .exact wb c (Gg (EZ hc))
theorem nameC_ok {xs:List Int}{w:List Nat}(wl:w.length=8)(wb:∀c∈w,97<=c/\c<=122)(k:Int):AW (DH xs w k):=by
 obtain⟨h1,h2,h3⟩:=U1 (xs:=xs) wl wb k;unfold DH;split
 .rename_i h;have:∀r∈DK,AW ([122,122]++r):=by decide +kernel
  exact this _ h
 .rename_i h;exact⟨h1,h2,λc hc=>(Iw c).mpr (h3 c hc),h⟩
def spNames23:Sp:=λvs H Q _=>∃(c:Int),vs=[.int c,.int 8]/\∀(l:Addr) (H':Hp) (ns:List Str),Ae H H'->EO H' l ns->Q (.ref l) H'
def spSpot23:Sp:=λvs H Q _=>∃(x y:Int) (kl:Addr) (nms:List Str),vs=[.int x,.int y,.ref kl]/\0<=x/\x<2147483647/\0<=y/\y<2147483647/\KnAt H kl nms/\∀(r:V) (H':Hp) (s:Str×Int),Ae H H'->Ck H' r s->SpN s->knw nms s=true->Q r H'
def spCell23:Sp:=λvs H Q _=>∃(rx kl nl:Addr) (xs:List Int) (nms ns:List Str),vs=[.ref rx,.ref kl,.ref nl]/\H rx=some (.lst (xs.map V.int))/\xs.length=5/\(∀x∈xs,0<=x/\x<2147483647)/\KnAt H kl nms/\EO H nl ns/\∀(r p:Addr) (H':Hp) (z:Str) (sp:List (Str×Int)),Ae H H'->H' r=some (.tup [.str z,.ref p,.str (AY z sp)])->F4 H' p sp->Lk nms ns (.t (.c z sp))->Q (.ref r) H'
def spLeaf23:Sp:=λvs H Q _=>∃(c:Int) (kl nl:Addr) (nms ns:List Str),vs=[.int c,.ref kl,.ref nl]/\KnAt H kl nms/\EO H nl ns/\∀(x:V) (H':Hp) (t:Tw),Ae H H'->(∃p y,x = .ref p/\H' p=some (.tup [.str (Tk.t t).txt,.int 3,y])/\Ew H' t y)->Lk nms ns (.t t)->Q x H'
def Ub (n:Nat)(l l':List Nat):Prop:=l'=l\/∃k,n<=k/\k<=l.length/\l'=l.take k++32::l.drop k
section
variable {H H':Hp}{nms ns:List Str}{xs:List V}{es:List Ex}{N:Nat}
end
theorem Vh {nms ns:List Str}{ch:Nat}{l r l' r':Ex}(hc:ch=43\/ch=45\/ch=42)(okl:FC nms ns l)(okr:FC nms ns r)(hl:(l'=l/\st ch<=l.hd)\/l' = .br l)(hr:(r'=r/\st ch<r.hd)\/r' = .br r):FC nms ns (.jn ch l' r')/\(Ex.jn ch l' r').lv=l.lv+r.lv:=by
 have s3:st ch<3:=by rcases hc with rfl|rfl|rfl<;>decide
 have sgk:∀c,c∈sg5->Lk nms ns (.s c):=λc hc=>⟨hc,True.intro,True.intro⟩
 have brk:∀{e:Ex},FC nms ns e->(∀k∈(Ex.br e).tk,Lk nms ns k):=fun{e} h k hk=>by
  have hk:k∈Tk.s 40::(e.tk++[.s 41]):=hk;rcases Av.mp hk with rfl|hk
  .exact sgk 40 (by decide)
  .rcases By.mp hk with hk|hk
   .exact h.lk k hk
   .rw[Bt.mp hk];exact sgk 41 (by decide)
 have brl:∀e:Ex,(Ex.br e).tk.length=e.tk.length+2:=λe=>by
  show(Tk.s 40::(e.tk++[.s 41])).length=_;rw[AJ,An];rfl
 have key:∀{e e':Ex},FC nms ns e->(e'=e\/e' = .br e)->e'.Ok/\(∀k∈e'.tk,Lk nms ns k)/\e'.tk.length<=e.tk.length+2/\e'.lv=e.lv:=fun{e e'} h he=>by
  rcases he with rfl|rfl
  .exact⟨h.ok,h.lk,Jr _ _,rfl⟩
  .exact⟨h.ok,brk h,Nat.le_of_eq (brl e),rfl⟩
 obtain⟨a1,a2,a3,a4⟩:=key okl (hl.imp And.left id);obtain⟨b1,b2,b3,b4⟩:=key okr (hr.imp And.left id);have hL:st ch<=l'.hd:=by rcases hl with⟨rfl,h⟩|rfl;exact h;exact Ha s3
 have hR:st ch<r'.hd:=by rcases hr with⟨rfl,h⟩|rfl;exact h;exact s3
 have lvE:(Ex.jn ch l' r').lv=l.lv+r.lv:=by show l'.lv+r'.lv=_;rw[a4,b4]
 refine⟨⟨⟨hc,a1,b1,hL,hR⟩,λk hk=>?_,?_⟩,lvE⟩
 .have hk:k∈l'.tk ++ .s ch::r'.tk:=hk;rcases By.mp hk with hk|hk
  .exact a2 k hk
  .rcases Av.mp hk with rfl|hk
   .exact sgk ch (by rcases hc with rfl|rfl|rfl<;>decide)
   .exact b2 k hk
 .have h1:=okl.ln;have h2:=okr.ln;rw[lvE];show(l'.tk ++ .s ch::r'.tk).length+5<=_;rw[An,AJ];lia
theorem Mz:∀{rows:List Str},rows≠[]->(∀z∈rows,10∉cds z)->IsSplit [10] (cds (Txt.join "\n" rows)) (rows.map cds)
 |[],h,_=>absurd rfl h
 |
  [z],_,h=>by
  rw[P3];show IsSplit [10] (cds z++[]) [cds z];rw[D6];exact .one' (h z AH)
 |
  z::z2::rows,_,h=>by
  have ih:=Mz (rows:=z2::rows) (Cq _ _) λy hy=>h y (B5 _ hy);rw[P3]at ih ⊢;have e:cds ("\n":Str)=[10]:=by decide +kernel
  rw[BE,Hd,e,Br];exact .cut' (h z AH) (by rw[e]at ih;exact ih)
theorem Oh:∀l:List Nat,∃ps:List (List Nat),IsSplit [32] l (l.takeWhile (· != 32)::ps)
 |[]=>⟨[],.one' (λh=>nomatch h)⟩
 |
  c::l=>by
  obtain⟨ps,h⟩:=Oh l;by_cases hc:c=32
  .subst hc;exact⟨_,.cut' (p:=[]) (λh=>nomatch h) h⟩
  .rw[Jo,Ac (F1.mpr hc)];generalize hp:l.takeWhile (· != 32)::ps=qs at h;have n32:32∉l.takeWhile (· != 32):=λz=>by
    have:=EB.mp (List.all_takeWhile (p:=(· != 32)) (l:=l)) 32 z;exact absurd rfl (F1.mp this)
   cases h with
   |
    one _=>
    injection hp with e1 e2;subst e2;rw[e1]at n32 ⊢;exact⟨[],.one' (λz=>(Av.mp z).elim (λy=>hc y.symm) n32)⟩
   |
    cut hf ht=>
    injection hp with e1 e2;subst e2;rw[e1]at n32 ⊢;exact⟨_,.cut' (p:=c::_) (λz=>(Av.mp z).elim (λy=>hc y.symm) n32) ht⟩
theorem TV {l:List Nat}{c:Nat}{r:List Nat}(e:l=c::r)(hc:c≠32):∃ws,Em l (AC (l.takeWhile (· != 32))::ws):=by
 obtain⟨ps,h⟩:=Oh l;have e1:l.takeWhile (· != 32)≠[]:=by rw[e,Jo,Ac (F1.mpr hc)];exact Cq _ _
 refine⟨(ps.map AC).filter (λy:Str=>decide (y≠Str.ofString "")),(AC (l.takeWhile (· != 32)))::ps.map AC,?_,?_⟩
 .have:((AC (l.takeWhile (· != 32)))::ps.map AC).map cds=l.takeWhile (· != 32)::ps:=by
   rw[BE,FO,Bl];congr 1;exact(R3 λx _=>Bl x).trans (List.map_id _)
  rw[this];exact h
 .have hne:AC (l.takeWhile (· != 32))≠Str.ofString "":=λz=>e1 (by have z:=congrArg cds z;rw[Bl]at z;exact z);rw[Fl,Ac (Bc hne)]
theorem UV (l:List Nat):(l.dropWhile (· == 32)).filter (· != 32)=l.filter (· != 32):=by
 induction l with
 |nil=>rfl
 |
  cons c l ih=>
  rw[Ie];split
  .rename_i h;rw[ih,Fl,A9];simpa using h
  .rfl
theorem XH {c:Nat}{x r:List Nat}(hc:c≠32)(hx:32∉x)(hn:r.filter (· != 32)≠[]):∃r',stp 32 (c::x++r)=c::x++r'/\r'.filter (· != 32)=r.filter (· != 32):=by
 have h1:(c::x++r).dropWhile (· == 32)=c::x++r:=by
  rw[Dx,Ie,A9];simpa using hc
 have h2:(c::x++r).reverse.dropWhile (· == 32)=r.reverse.dropWhile (· == 32)++(c::x).reverse:=by
  rw[LJ];have key:∀{a b:List Nat},a.filter (· != 32)≠[]->(a++b).dropWhile (· == 32)=a.dropWhile (· == 32)++b:=fun{a b} h=>by
   induction a with
   |nil=>exact absurd rfl h
   |
    cons d a ih=>
    rw[Dx,Ie,Ie];split
    .rename_i hd;refine ih ?_;rw[Fl,A9 (by simpa using hd)]at h;exact h
    .rfl
  refine key ?_;rw[Ra];simpa using hn
 refine⟨(r.reverse.dropWhile (· == 32)).reverse,?_,?_⟩
 .unfold stp;rw[h1,h2,LJ,Jp]
 .rw[Ra,UV,Ra,Jp]
theorem Sz (l:List Nat):l.filter (λc=>decide (c≠32))=l.filter (· != 32):=by
 congr 1
 funext c
 by_cases h:c=32
 .rw[h];rfl
 .rw[Bc h];exact(F1.mpr h).symm
theorem PX {l:List Nat}(h:32∉l):l.filter (· != 32)=l:=R7.mpr λc hc=>F1.mpr λz=>h (z▸hc)
theorem OF {l:List Nat}(h:59∉l):bare l=stp 32 l:=by unfold bare;rw[A9 h]
def IH (tb:Str)(sp:List (Str×Int))(ks:List Tk)(l:List Nat):Prop := ∃r,l=cds tb++r/\r.filter (· != 32)=91::(C4 (sp.map λs=>cds (AI s))++[93])++61::BD ks/\10∉r/\59∉r
theorem Qx {tb:Str}{sp:List (Str×Int)}{ks:List Tk}{l:List Nat}(ok:(Tk.t (.c tb sp)).Ok)(h:IH tb sp ks l)(t:Tw):bare l≠[]/\Fx (bare l) (.ded tb sp ks t)/\10∉l:=by
 obtain⟨r,rfl,hf,h10,h59⟩:=h;have hz:=ok.1;have n59:59∉cds tb++r:=λz=>(By.mp z).elim (DR hz (by lia)) h59;have n10:10∉cds tb++r:=λz=>(By.mp z).elim (DR hz (by lia)) h10;have n32:32∉cds tb:=DR hz (by lia);obtain⟨c,x,ex⟩:∃c x,cds tb=c::x:=by
  cases e:cds tb with
  |nil=>have:=hz.1;rw[e]at this;exact absurd this (by decide)
  |cons c x=>exact⟨c,x,rfl⟩
 have hc:c≠32:=λz=>n32 (by rw[ex,z];exact AH);have hx:32∉x:=λz=>n32 (by rw[ex];exact B5 _ z);obtain⟨r',e1,e2⟩:=XH (r:=r) hc hx (by rw[hf];exact Cq _ _);rw[←ex]at e1;have hb:bare (cds tb++r)=cds tb++r':=(OF n59).trans e1;rw[hb];refine⟨by rw[ex];exact Cq _ _,⟨?_,?_⟩,n10⟩
 .obtain⟨ws,hw⟩:=TV (l:=cds tb++r') (by rw[ex];rfl) hc;have key:∀{a b:List Nat},32∉a->(a++b).takeWhile (· != 32)=a++b.takeWhile (· != 32):=fun{a b} h=>by
   induction a with
   |nil=>rfl
   |
    cons d a ih=>
    rw[Dx,Jo,Ac (F1.mpr (show d≠32 from λz=>h (by rw[z];exact AH))),ih λz=>h (B5 _ z)];rfl
  rw[key n32]at hw;have hres:cds tb++r'.takeWhile (· != 32)∉DK:=by
   cases r' with
   |nil=>rw[hf]at e2;exact absurd e2 (by intro z;cases z)
   |
    cons d r''=>
    by_cases hd:d=32
    .rw[Jo,A9 (by simpa using hd),D6];exact hz.2.2.2
    .rw[Fl,Ac (F1.mpr hd),hf]at e2;injection e2 with e3 _;intro z;have m91:(91:Nat)∈cds tb++(d::r'').takeWhile (· != 32):=by
      rw[Jo,Ac (F1.mpr hd),e3];exact Cz _ AH
     generalize cds tb++(d::r'').takeWhile (· != 32)=u at z m91;unfold DK at z;simp only[Av,Cp,or_false]at z;rcases z with rfl|rfl|rfl
     .exact absurd m91 (by decide +kernel)
     .exact absurd m91 (by decide +kernel)
     .exact absurd m91 (by decide +kernel)
  have nr:∀u:Str,cds u∈DK->AC (cds tb++r'.takeWhile (· != 32))≠u:=λu hu z=>by
   have z:=congrArg cds z;rw[Bl]at z;exact hres (z▸hu)
  exact⟨_,ws,hw,nr "for" (by decide +kernel),nr "end" (by decide +kernel),nr "size" (by decide +kernel)⟩
 .rw[Sz,Gj,PX n32,e2,hf];unfold C3;rw[cel_cds ok.2.1,Br]
theorem W0 {l:List Nat}{c d:Nat}{r s:List Nat}(e1:l=c::r)(e2:l=s++[d])(hc:c≠32)(hd:d≠32):stp 32 l=l:=by
 unfold stp;have h1:l.dropWhile (· == 32)=l:=by rw[e1,Ie,A9 (by simpa using hc)]
 have h2:l.reverse.dropWhile (· == 32)=l.reverse:=by rw[e2,LJ,List.reverse_singleton,List.singleton_append,Ie,A9 (by simpa using hd)]
 rw[h1,h2,Jp]
theorem Ud {l:List Nat}(h:l≠[])(n:32∉l):∃s d,l=s++[d]/\d≠32:=by
 refine⟨l.dropLast,l.getLast h,(NO h).symm,λz=>n ?_⟩;rw[←z];exact List.getLast_mem h
def wj:List (List Nat)->List Nat
 |[]=>[]
 |[a]=>a
 |a::b::l=>a++([32]++wj (b::l))
theorem LV:∀{ws:List (List Nat)},ws≠[]->(∀w∈ws,32∉w)->IsSplit [32] (wj ws) ws
 |[],h,_=>absurd rfl h
 |[a],_,h=>.one' (h a AH)
 |a::b::l,_,h=>.cut' (h a AH) (LV (Cq _ _) λw hw=>h w (B5 _ hw))
theorem J8 {c:Nat}(hc:c≠32):∀{ws:List (List Nat)},(∀w∈ws,c∉w)->c∉wj ws
 |[],_=>λz=>nomatch z
 |[a],h=>h a AH
 |
  a::b::l,h=>λz=>by
  have z:c∈a++([32]++wj (b::l)):=z;rcases By.mp z with z|z
  .exact h a AH z
  .rcases By.mp z with z|z
   .exact hc (Bt.mp z)
   .exact J8 hc (ws:=b::l) (λw hw=>h w (B5 _ hw)) z
theorem Ow:∀{ws:List (List Nat)},ws≠[]->(∀w∈ws,32∉w/\w≠[])->∃s d,wj ws=s++[d]/\d≠32
 |[],h,_=>absurd rfl h
 |[a],_,h=>Ud (h a AH).2 (h a AH).1
 |
  a::b::l,_,h=>by
  obtain⟨s,d,e,hd⟩:=Ow (ws:=b::l) (Cq _ _) λw hw=>h w (B5 _ hw);refine⟨a++([32]++s),d,?_,hd⟩;show a++([32]++wj (b::l))=_;rw[e];simp
theorem VR:∀{ws:List (List Nat)},ws≠[]->(∀w∈ws,32∉w/\w≠[])->∃c r,wj ws=c::r/\c≠32
 |[],h,_=>absurd rfl h
 |
  a::l,_,h=>by
  obtain⟨h1,h2⟩:=h a AH;cases a with
  |nil=>exact absurd rfl h2
  |
   cons c a=>
   refine⟨c,?_⟩;cases l with
   |nil=>exact⟨a,rfl,λz=>h1 (z▸AH)⟩
   |cons b l=>exact⟨_,rfl,λz=>h1 (z▸AH)⟩
theorem NI {ws:List Str}(hn:ws≠[])(h:∀w∈ws,cds w≠[]/\32∉cds w/\59∉cds w/\10∉cds w):bare (wj (ws.map cds))≠[]/\Em (bare (wj (ws.map cds))) ws/\10∉wj (ws.map cds):=by
 have hm:ws.map cds≠[]:=λz=>hn (Jt.mp z);have h2:∀w∈ws.map cds,32∉w/\w≠[]:=λw hw=>by
  obtain⟨z,hz,rfl⟩:=CK.mp hw;exact⟨(h z hz).2.1,(h z hz).1⟩
 have n59:59∉wj (ws.map cds):=J8 (by decide) λw hw=>by
  obtain⟨z,hz,rfl⟩:=CK.mp hw;exact(h z hz).2.2.1
 have n10:10∉wj (ws.map cds):=J8 (by decide) λw hw=>by
  obtain⟨z,hz,rfl⟩:=CK.mp hw;exact(h z hz).2.2.2
 obtain⟨c,r,e1,hc⟩:=VR hm h2;obtain⟨s,d,e2,hd⟩:=Ow hm h2;have hb:bare (wj (ws.map cds))=wj (ws.map cds):=(OF n59).trans (W0 e1 e2 hc hd);rw[hb];refine⟨by rw[e1];exact Cq _ _,⟨ws,LV hm λw hw=>(h2 w hw).1,?_⟩,n10⟩;exact R7.mpr λz hz=>Bc λy=>(h z hz).1 (by rw[y];rfl)
theorem Ym {s:Str×Int}(h:SpN s):cds (AI s)≠[]:=λz=>by
 have:=HY h;rw[z]at this;have e:Bv []=none:=by decide +kernel
 rw[e]at this;cases this
theorem Li {s:Str×Int}(h:SpN s):cds (AI s)≠[]/\32∉cds (AI s)/\59∉cds (AI s)/\10∉cds (AI s):=⟨Ym h,G1 h (by lia),G1 h (by lia),G1 h (by lia)⟩
theorem QO {z:Str}(h:AW (cds z)):cds z≠[]/\32∉cds z/\59∉cds z/\10∉cds z:=⟨λe=>by have:=h.1;rw[e]at this;exact absurd this (by decide),DR h (by lia),DR h (by lia),DR h (by lia)⟩
theorem YN {t:As}(hn:AW (cds t.nm))(hl:SpN t.lo)(hh:SpN t.hi){l:List Nat}(e:l=wj ((["for",t.nm,AI t.lo,AI t.hi]:List Str).map cds)):bare l≠[]/\Fx (bare l) (.opn t)/\10∉l:=by
 subst e;refine NI (Cq _ _) λw hw=>?_;simp only[Av,Cp,or_false]at hw;rcases hw with rfl|rfl|rfl|rfl
 .decide +kernel
 .exact QO hn
 .exact Li hl
 .exact Li hh
theorem P0:bare (cds "end")≠[]/\Fx (bare (cds "end")) .fin/\10∉cds "end":=NI (ws:=["end"]) (Cq _ _) λw hw=>by
 rw[Bt.mp hw];decide +kernel
theorem UB {n:Int}(h0:0<=n)(h1:n<=999999999999999999){l:List Nat}(e:l=wj ((["size",nS n]:List Str).map cds)):bare l≠[]/\Fx (bare l) (.sz n)/\10∉l:=by
 subst e;obtain⟨g,_⟩:=DE h0 h1;refine NI (Cq _ _) λw hw=>?_;simp only[Av,Cp,or_false]at hw;rcases hw with rfl|rfl
 .decide +kernel
 .exact⟨λe=>by have:=g.1;rw[e]at this;exact absurd this (by decide),Er g (by lia),Er g (by lia),Er g (by lia)⟩
theorem Vq {k:Tk}(ok:k.Ok){c:Nat}(hc:c=10\/c=32\/c=59):c∉cds k.txt:=by
 cases k with
 |
  s d=>
  intro z;have z:c∈[d]:=z;have ok:d∈sg5:=ok;rw[←Bt.mp z]at ok;unfold sg5 at ok;simp only[Av,Cp,or_false]at ok;lia
 |
  t w=>
  cases w with
  |n i=>exact Er (DE ok.1 ok.2).1 (by lia)
  |v z=>exact DR ok (by lia)
  |c z sp=>exact GU ok (by lia)
  |j _ _ _=>exact ok.elim
theorem Mc {c:Nat}(hc:c=10\/c=32\/c=59):∀{ks:List Tk},(∀k∈ks,k.Ok)->c∉BD ks
 |[],_=>λz=>nomatch z
 |
  k::ks,h=>λz=>by
  rw[F3]at z;rcases By.mp z with z|z
  .exact Vq (h k AH) hc z
  .exact Mc hc (ks:=ks) (λx hx=>h x (B5 _ hx)) z
theorem OA {tb:Str}{sp:List (Str×Int)}{ks:List Tk}(ok:(Tk.t (.c tb sp)).Ok)(h:∀k∈ks,k.Ok):IH tb sp ks (C3 tb sp ks):=by
 have fr:∀{c:Nat},(c=10\/c=32\/c=59)->c∉91::(C4 (sp.map λs=>cds (AI s))++[93])++61::BD ks:=fun{c} hc z=>by
  rcases By.mp z with z|z
  .have h1:=GU ok (c:=c) (by lia);rw[cel_cds ok.2.1]at h1;exact h1 (Cz _ z)
  .rcases Av.mp z with z|z
   .omega
   .exact Mc hc h z
 refine⟨91::(C4 (sp.map λs=>cds (AI s))++[93])++61::BD ks,?_,PX (fr (.inr (.inl rfl))),fr (.inl rfl),fr (.inr (.inr rfl))⟩;unfold C3;rw[cel_cds ok.2.1,Br]
theorem KH {tb:Str}{sp:List (Str×Int)}{ks:List Tk}{l l':List Nat}(h:IH tb sp ks l)(b:Ub (cds tb).length l l'):IH tb sp ks l':=by
 rcases b with rfl|⟨k,h1,h2,rfl⟩
 .exact h
 .obtain⟨r,rfl,hf,n10,n59⟩:=h;refine⟨r.take (k-(cds tb).length)++32::r.drop (k-(cds tb).length),?_,?_,?_,?_⟩
  .rw[List.take_append,List.drop_append,Gh h1,List.drop_of_length_le h1,Br];rfl
  .rw[Gj,Fl,A9 (by decide),←Gj,LH];exact hf
  .intro z;rcases By.mp z with z|z
   .exact n10 (EZ z)
   .rcases Av.mp z with z|z
    .cases z
    .exact n10 (Gg z)
  .intro z;rcases By.mp z with z|z
   .exact n59 (EZ z)
   .rcases Av.mp z with z|z
    .cases z
    .exact n59 (Gg z)
theorem spn9:SpN ("",0)/\SpN ("",9):=⟨⟨.inl rfl,by decide +kernel,by decide,by decide⟩,⟨.inl rfl,by decide +kernel,by decide,by decide⟩⟩
end Rd
namespace Rd
open PySem L2
def Twk (nms ns:List Str):Tw->Prop
 |.j z l r=>z∈ET/\Twk nms ns l/\Twk nms ns r
 |.n i=>Lk nms ns (.t (.n i))
 |.v z=>Lk nms ns (.t (.v z))
 |.c z sp=>Lk nms ns (.t (.c z sp))
theorem Lk.tok {nms ns:List Str}{t:Tw}(h:Lk nms ns (.t t)):Tw.Ok t:=by
 have ok:=h.ok;cases t with
 |n i=>exact ok
 |v z=>have:=ok.2.1;rw[cds_len]at this;exact BP this (by decide)
 |c z sp=>exact⟨by have:=ok.1.2.1;rw[cds_len]at this;exact BP this (by decide),ok.2.2.1,λs hs=>(ok.2.2.2 s hs).2⟩
 |j z l r=>exact ok.elim
theorem Twk.ok {nms ns:List Str}:∀{t:Tw},Twk nms ns t->Tw.Ok t
 |.n i,h=>Lk.tok (t:=.n i) h
 |.v z,h=>Lk.tok (t:=.v z) h
 |.c z sp,h=>Lk.tok (t:=.c z sp) h
 |.j z l r,h=>⟨h.1,Twk.ok h.2.1,Twk.ok h.2.2⟩
theorem Lk.twk {nms ns:List Str}{t:Tw}(h:Lk nms ns (.t t)):Twk nms ns t:=by
 cases t with
 |j z l r=>exact h.ok.elim
 |n i=>exact h
 |v z=>exact h
 |c z sp=>exact h
def DX (z:Str):Nat:=if z="*" then 42 else if z="-" then 45 else 43
def DN (b:Bool)(e:Ex):Ex:=if b=true then .br e else e
def BZ:Tw->Ex
 |.j z l r=>.jn (DX z) (DN (decide (l.hld<hz z)) (BZ l)) (DN (decide (r.hld<=hz z)) (BZ r))
 |.n i=>.lf (.n i)
 |.v z=>.lf (.v z)
 |.c z sp=>.lf (.c z sp)
theorem Tg {z:Str}(h:z∈ET):sg (DX z)=z/\st (DX z)=hz z/\(DX z=43\/DX z=45\/DX z=42):=by
 have:∀w∈ET,sg (DX w)=w/\st (DX w)=hz w/\(DX w=43\/DX w=45\/DX w=42):=by decide +kernel
 exact this z h
theorem KF (b:Bool)(e:Ex):(DN b e).txt=DW b e.txt/\(DN b e).sh=e.sh:=by
 cases b<;>exact⟨rfl,rfl⟩
theorem Ml {nms ns:List Str}{t:Tw}(h:Lk nms ns (.t t)):FC nms ns (.lf t):=⟨True.intro,λk hk=>by rw[Bt.mp hk];exact h,by show 1+5<=8*1;decide⟩
theorem G5 {nms ns:List Str}:∀{t:Tw},Twk nms ns t->FC nms ns (BZ t)/\(BZ t).lv=t.sz/\(BZ t).txt=t.wr/\(BZ t).sh=t/\(BZ t).hd=t.hld
 |.n i,h=>⟨Ml h,rfl,rfl,rfl,rfl⟩
 |.v z,h=>⟨Ml h,rfl,rfl,rfl,rfl⟩
 |.c z sp,h=>⟨Ml h,rfl,rfl,rfl,rfl⟩
 |
  .j z l r,h=>by
  obtain⟨hz3,hl,hr⟩:=h;obtain⟨s1,s2,s3⟩:=Tg hz3;obtain⟨a1,a2,a3,a4,a5⟩:=G5 hl;obtain⟨b1,b2,b3,b4,b5⟩:=G5 hr;have k1:∀{b:Bool} {e:Ex},DN b e=e/\b=false\/DN b e = .br e:=fun{b e}=>by
   cases b
   .exact .inl ⟨rfl,rfl⟩
   .exact .inr rfl
  obtain⟨j1,j2⟩:=Vh (nms:=nms) (ns:=ns) (ch:=DX z) (l':=DN (decide (l.hld<hz z)) (BZ l)) (r':=DN (decide (r.hld<=hz z)) (BZ r)) s3 a1 b1
   (k1.imp (λh=>⟨h.1,by have:=of_decide_eq_false h.2;lia⟩) id) (k1.imp (λh=>⟨h.1,by have:=of_decide_eq_false h.2;lia⟩) id)
  refine⟨j1,?_,?_,?_,s2⟩
  .exact j2.trans (by rw[a2,b2];rfl)
  .show(DN _ (BZ l)).txt++sg (DX z)++(DN _ (BZ r)).txt=_;rw[(KF _ _).1,(KF _ _).1,s1,a3,b3];rfl
  .show Tw.j (sg (DX z)) (DN _ (BZ l)).sh (DN _ (BZ r)).sh=_;rw[(KF _ _).2,(KF _ _).2,s1,a4,b4]
theorem leaf_tp {nms ns:List Str}{H:Hp}{x:V}{t:Tw}(lk:Lk nms ns (.t t))(h:∃p y,x = .ref p/\H p=some (.tup [.str (Tk.t t).txt,.int 3,y])/\Ew H t y):DP H x t/\t.sz=1:=by
 cases t with
 |j z l r=>exact lk.ok.elim
 |n i=>exact⟨h,rfl⟩
 |v z=>exact⟨h,rfl⟩
 |c z sp=>exact⟨h,rfl⟩
structure StK (H:Hp)(nms ns:List Str)(xs:List V)(ts:List Tw)(N:Nat):Prop where
 at':AN (DP H) xs ts
 ok:∀t∈ts,Twk nms ns t
 sum:(ts.map Tw.sz).sum<=N
section
variable {H H':Hp}{nms ns:List Str}{xs:List V}{ts:List Tw}{N:Nat}
theorem StK.tk (k:TK H H')(h:StK H nms ns xs ts N):StK H' nms ns xs ts N:=⟨h.at'.mono λ_ _ z=>z.tk k,h.ok,h.sum⟩
theorem StK.old (h:StK H nms ns xs ts N):FB H xs ts N:=⟨h.at',λt ht=>(h.ok t ht).ok,h.sum⟩
theorem StK.len (h:StK H nms ns xs ts N):xs.length<=N:=h.old.len
theorem StK.push {x:V}{t:Tw}(h:StK H nms ns xs ts N)(hx:DP H x t)(ht:Twk nms ns t){M:Nat}(hM:N+t.sz<=M):StK H nms ns (xs++[x]) (ts++[t]) M:=by
 refine⟨h.at'.snoc hx,λu hu=>?_,(h.old.push hx ht.ok hM).sum⟩;rcases By.mp hu with z|z
 .exact h.ok u z
 .rw[Bt.mp z];exact ht
theorem StK.pop (h:StK H nms ns xs ts N)(hl:0<xs.length):∃ys x us t M,xs=ys++[x]/\ts=us++[t]/\StK H nms ns ys us M/\DP H x t/\Twk nms ns t/\M+t.sz<=N:=by
 obtain⟨ys,x,us,t,M,rfl,rfl,s,hx,_,hM⟩:=h.old.pop hl;exact⟨ys,x,us,t,M,rfl,rfl,⟨s.at',λu hu=>h.ok u (Eh _ hu),s.sum⟩,hx,h.ok t (by simp),hM⟩
end
def spTerm28:Sp:=λvs H Q _=>∃(c:Int) (kl nl:Addr) (nms ns:List Str),vs=[.int c,.ref kl,.ref nl]/\KnAt H kl nms/\EO H nl ns/\∀(x:V) (H':Hp) (t:Tw),Ae H H'->DP H' x t->Twk nms ns t->t.sz<=5->Q x H'
structure KM (nms:List Str)(t:As):Prop where
 nm:AW (cds t.nm)
 nw:t.nm∉nms
 lo:SpN t.lo
 hi:SpN t.hi
 kl:knw nms t.lo=true
 kh:knw nms t.hi=true
theorem KM.ok {nms:List Str}{t:As}(h:KM nms t):t.Ok:=⟨by have:=h.nm.2.1;rw[cds_len]at this;exact BP this (by decide),h.lo.2,h.hi.2⟩
def lnm (ts:List As):List Str:=ts.map As.nm
def Nt (ts:List As):Prop:=ts.length<=3/\∀t∈ts,AW (cds t.nm)/\SpN t.lo/\SpN t.hi
def spLoop28:Sp:=λvs H Q _=>∃(c:Int) (nl o:Addr) (la:V) (ns:List Str) (ts:List As) (tl:As),vs=[.int c,.ref nl,.ref o,la]/\EO H nl ns/\G2 H o ts/\ts.length<=2/\Nt ts/\Ea H la tl/\SpN tl.lo/\SpN tl.hi/\∀(r:V) (H':Hp) (t:As),Ae H H'->Ea H' r t->KM (lnm ts) t->Q r H'
structure Dk (ns:List Str)(D:Dw):Prop where
 c:Lk (lnm D.loops) ns (.t (.c D.tbl D.sp))
 t:Twk (lnm D.loops) ns D.tm
 s:D.tm.sz<=5
def spDeed28:Sp:=λvs H Q _=>∃(c:Int) (o pt nl:Addr) (ns:List Str) (ts:List As) (path:List Int),vs=[.int c,.ref o,.ref pt,.ref nl]/\EO H nl ns/\G2 H o ts/\Nt ts/\H pt=some (.lst (path.map V.int))/\path.length=ts.length+1/\∀(r:V) (H':Hp) (D:Dw),Ae H H'->JB H' o r D->Dk ns D->D.loops=ts->D.path=path->Q r H'
theorem mr_eqE (K:Zc)(n:Bool):MR (JH K n):=λx y H Q Q' hq zz=>by obtain⟨p,q,xs,a,b,c,d,e⟩:=zz;exact⟨p,q,xs,a,b,c,d,hq _ _ e⟩
def rkS:Rk->Str
 |.sz n=>"size "++nS n
 |.opn t=>HR t
 |.fin=>"end"
 |.ded tb sp _ t=>AY tb sp++" = "++t.wr
inductive Stps (f:Str->Nat):Dr->List Rk->Dr->Prop
 |nil {D}:Stps f D [] D
 |cons {D D' E k ks}:Fz f D D' k->Stps f D' ks E->Stps f D (k::ks) E
theorem Stps.snoc {f:Str->Nat}{D E F:Dr}{ks:List Rk}{k:Rk}(h:Stps f D ks E)(s:Fz f E F k):Stps f D (ks++[k]) F:=by
 induction h with
 |nil=>exact .cons s .nil
 |cons a _ ih=>exact .cons a (ih s)
def Dk.rk (D:Dw):Rk:=.ded D.tbl D.sp (BZ D.tm).tk D.tm
theorem Dk.stp {ns:List Str}{D:Dw}(h:Dk ns D){n:Int}{Ds:List Dw}{pa:List Int}{la:Int}(d6:Ds.length<6)(hp:D.path=pa++[la]):Fz (tf ns) ⟨some n,Ds,D.loops,pa,la⟩ ⟨some n,Ds++[D],D.loops,pa,la+1⟩ (Dk.rk D):=by
 obtain⟨e1,e2,e3,e4,e5⟩:=G5 h.t;have lk:∀k∈Tk.t (.c D.tbl D.sp)::(BZ D.tm).tk,Lk (lnm D.loops) ns k:=λk hk=>by
  rcases Av.mp hk with rfl|hk
  .exact h.c
  .exact e1.lk k hk
 obtain⟨T,S,r1,r2⟩:=Ul e1.ok;rw[e4]at r2;refine⟨(λz=>nomatch z),d6,h.c.ok,λk hk=>(e1.lk k hk).ok,Ex.adj _,?_,⟨T,S,r1,r2⟩,λk hk=>(lk k hk).kn,λk hk=>(lk k hk).tb,?_⟩
 .have:=e1.ln;have:=h.s;lia
 .show _=Dr.mk _ (Ds++[_]) _ _ _;rw[←hp]
theorem JJ {ns nms:List Str}{t:Tw}(h:Twk nms ns t):cds t.wr=BD (BZ t).tk:=by
 obtain⟨e1,e2,e3,e4,e5⟩:=G5 h;rw[←e3];exact Ex.txt_tk _
def Rok (ns:List Str):Rk->Prop
 |.sz n=>2<=n/\n<=999999999999999999
 |.opn t=>AW (cds t.nm)/\SpN t.lo/\SpN t.hi
 |.fin=>True
 |.ded tb sp ks t=>∃nms,Lk nms ns (.t (.c tb sp))/\Twk nms ns t/\ks=(BZ t).tk/\t.sz<=5
theorem Dk.rok {ns:List Str}{D:Dw}(h:Dk ns D):Rok ns (Dk.rk D):=⟨lnm D.loops,h.c,h.t,rfl,h.s⟩
structure Rn (ns:List Str)(R:Pw.Rw As Str)(ts:List As)(path:List Int)(Ds:List Dw)(ks:List Rk)(pa:List Int)(la:Int):Prop where
 tx:R.map (λp=>Kh p.2)=ks.map rkS
 pe:path=pa++[la]
 st:∀n:Int,Stps (tf ns) ⟨some n,[],[],[],0⟩ ks ⟨some n,Ds,ts,pa,la⟩
 ok:∀k∈ks,Rok ns k
 p0:(∀x∈pa,0<=x)/\0<=la
 l6:Ds.length<=5\/0<la
 nm:Nt ts
 pl:pa.length=ts.length
 dn:0<la->Ds≠[]
 dk:∀D∈Ds,Dk ns D/\D.loops.length<=3/\D.path.length<=10
theorem Rn.start (ns:List Str):Rn ns [] [] [0] [] [] [] 0:=⟨rfl,rfl,λ_=>.nil,(λ_ h=>nomatch h),⟨(λ_ h=>nomatch h),Int.le_refl _⟩,.inl (by decide),⟨BI _,(λ_ h=>nomatch h)⟩,rfl,(λh=>absurd h (by decide)),(λ_ h=>nomatch h)⟩
section
variable {ns:List Str}{R:Pw.Rw As Str}{ts:List As}{path:List Int}{Ds:List Dw}{ks:List Rk}{pa:List Int}{la:Int}
theorem FX {α:Type}{P:α->Prop}{l:List α}{a:α}(h:∀x∈l,P x)(ha:P a):∀x∈l++[a],P x:=λx hx=>by
 rcases By.mp hx with hx|hx
 .exact h x hx
 .rw[Bt.mp hx];exact ha
theorem Rn.opn (h:Rn ns R ts path Ds ks pa la){t:As}(hl:ts.length<3)(ht:KM (lnm ts) t)(d5:Ds.length<=5)(d:Nat):Rn ns (R++[(d,.opn t)]) (ts++[t]) (path++[0]) Ds (ks++[.opn t]) (pa++[la]) 0:=by
 refine⟨by rw[AR,AR,h.tx];rfl,by rw[h.pe],λn=>(h.st n).snoc ⟨(λz=>nomatch z),hl,ht.nm,ht.nw,ht.lo,ht.hi,ht.kl,ht.kh,rfl⟩,FX h.ok ⟨ht.nm,ht.lo,ht.hi⟩,⟨FX h.p0.1 h.p0.2,Int.le_refl _⟩,.inl d5,⟨by rw[An,Bf];lia,FX h.nm.2 ⟨ht.nm,ht.lo,ht.hi⟩⟩,by rw[An,An,h.pl];rfl,(λh=>absurd h (by decide)),h.dk⟩
theorem Rn.ded (h:Rn ns R ts path Ds ks pa la){D:Dw}(hD:Dk ns D)(hl:D.loops=ts)(hp:D.path=path)(d5:Ds.length<=5)(d:Nat):Rn ns (R++[(d,.row D.txt)]) ts (pa++[la+1]) (Ds++[D]) (ks++[Dk.rk D]) pa (la+1):=by
 have h2:=h.p0.2;subst hl;refine⟨by rw[AR,AR,h.tx];rfl,rfl,λn=>(h.st n).snoc (hD.stp (by lia) (by rw[hp,h.pe])),FX h.ok hD.rok,⟨h.p0.1,by lia⟩,.inr (by lia),h.nm,h.pl,(λ_=>by simp),FX h.dk ⟨hD,h.nm.1,?_⟩⟩;rw[hp,h.pe,An,h.pl];have:=h.nm.1;show _+1<=10;lia
theorem Rn.fin {t:As}{m:Int}(h:Rn ns R (ts++[t]) path Ds ks (pa++[m]) la)(l0:la≠0)(d:Nat):Rn ns (R++[(d,.fin)]) ts (pa++[m+1]) Ds (ks++[.fin]) pa (m+1):=by
 have h2:=h.p0.2;have hm:0<=m:=h.p0.1 m (by simp);refine⟨by rw[AR,AR,h.tx];rfl,rfl,λn=>(h.st n).snoc ⟨(λz=>nomatch z),ts,t,pa,m,rfl,rfl,l0,rfl⟩,FX h.ok True.intro,⟨λx hx=>h.p0.1 x (Eh _ hx),by lia⟩,?_,⟨?_,λx hx=>h.nm.2 x (Eh _ hx)⟩,?_,(λ_=>h.dn (by lia)),h.dk⟩
 .exact .inr (by lia)
 .have:=h.nm.1;rw[An]at this;lia
 .have:=h.pl;rw[An,An]at this;exact Nat.add_right_cancel this
theorem Rn.len (h:Rn ns R ts path Ds ks pa la):path.length=ts.length+1:=by
 rw[h.pe,An,h.pl];rfl
end
end Rd
namespace EX
open PySem PySem.Spec PyProof.Rows
def Cm (h:Heap)(e:Addr)(C:Value)(d:Option Addr)(tb:Value):Prop := ∃oe vs,h.get? e=some oe/\oe.cls=C/\oe.dict=d/\oe.data = .fields vs/\vs[1]?=some tb
def FU (h:Heap)(T:Addr)(fl:Value):Prop := ∃oT ts,h.get? T=some oT/\oT.data = .fields ts/\ts[3]?=some fl
def Es (fs ch:List Addr)(h h':Heap):Prop := ∀b o,h.get? b=some o->b∉ch->(b∉fs->h'.get? b=some o)/\∃sl,h'.get? b=some {o with slots:=sl}
theorem Es.mono {fs fs' ch ch':List Addr}{h h1:Heap}(a:Es fs ch h h1)(f:∀b∈fs,b∈fs')(c:∀b∈ch,b∈ch'):Es fs' ch' h h1:=λx o e hc=>
 let ⟨p,q⟩:=a x o e λz=>hc (c x z)
 ⟨λhf=>p λz=>hf (f x z),q⟩
section
variable {M:Model}{A:Around}{E:Value->Shared->Prop}{s:Shared}
theorem OB {base h:Heap}{l:List Env}{b:Addr}{o:Obj}{vs:Array Value}(hl:h.FunFrames base l)(ho:h.get? b=some o)(hd:o.data = .fields vs):b∉l.filterMap (·.frame):=λhm=>by
 obtain⟨_,o',ho',hn⟩:=hl.mem hm;rw[ho]at ho';cases ho';exact hn vs hd
theorem P6 {base:Heap}{env:Env}{outer:List Env}{L e:Addr}{C:Value}{d:Option Addr}{head tb:Value}{hadNext:Bool}{Q:Unit->Shared->Prop}
  (hfr:A.frames=some (env::outer)) (hl:s.heap.FunFrames base (env::outer)) (hf:env.frame=some L) (hx:Cm s.heap e C d tb)
  (h:∀h' T,s.heap.objs.size<=T->Es ((env::outer).filterMap (·.frame)) [e] s.heap h'->Cm h' e C d (.ref T)->FU h' T (rawInt L)->T≠e->Q () {s with heap:=h'}) :
  wpAny M A (do let a ←frameOf env;let pl ←entryPlaceOf L hadNext;let b ←EntryCells.newEntry head a .none (rawInt L) .none pl;setField (.ref e) 1 b) Q E s:=by
 obtain⟨oe,vs,he,hc,hdc,hd,h1⟩:=hx;have hsz:1<vs.size:=(LK.mp h1).1;have hne:=OB hl he hd;refine Ao (wpAny_frameOf_fun hfr hl hf λh₁ hs₁=>?_);refine Ao (wpAny_entryPlaceOf λpl hpl=>?_);unfold EntryCells.newEntry newFields;refine Ao (wpAny_newObj_type ?_ (hpl.sizeOk5 _ _ _ _ _));have he₁:h₁.get? e=some oe:=(hs₁.2.1 e hne).trans he;generalize hob:({cls:=.type "traceback",dict:=none,data:=.fields ([head,.ref L,.none,rawInt L,.none]++(if pl.isEmpty then List.replicate 6 Value.none else pl)).toArray}:Obj)=ob;have hobd:ob.data = .fields ([head,.ref L,.none,rawInt L,.none]++(if pl.isEmpty then List.replicate 6 Value.none else pl)).toArray:=by rw[←hob]
 have he₂:=Bz (h:=h₁) ob he₁;have nf:ob.isFreed=false:=Obj.isFreed_of_fields hobd;refine wpAny_setField he₂ hd hsz ?_;have hTe:h₁.objs.size≠e:=Hb (Bo he₁);have hd₃:=Obj.data_mapFields hd (·.setIfInBounds 1 (Value.ref h₁.objs.size));refine h _ h₁.objs.size (by rw[hs₁.1];exact Aq _) (λb o hb hc=>?_) ?_ ?_ hTe
 .have hbe:b≠e:=λz=>hc (by rw[z];exact Bt.mpr rfl);rw[Gd _ _ (Ne.symm hbe)];refine⟨λhn=>Bz _ ((hs₁.2.1 b hn).trans hb),?_⟩;obtain⟨sl,q⟩:=hs₁.2.2 b o hb;exact⟨sl,Bz _ q⟩
 .exact⟨_,_,LD _ he₂ (Obj.isFreed_of_fields hd₃),by rw[Obj.cls_mapFields];exact hc,by obtain⟨c0,d0,dt,sl⟩:=oe;cases dt<;>exact hdc,hd₃,by simp[hsz]⟩
 .refine⟨ob,_,?_,hobd,by simp⟩;rw[Gd _ _ (Ne.symm hTe)];exact Dl h₁ nf
theorem OY {base:Heap}{env:Env}{outer:List Env}{L e:Addr}{C:Value}{d:Option Addr}{Q:Unit->Shared->Prop}
  (hfr:A.frames=some (env::outer)) (hl:s.heap.FunFrames base (env::outer)) (hf:env.frame=some L) (hx:Cm s.heap e C d .none)
  (h:∀h' T,s.heap.objs.size<=T->Es ((env::outer).filterMap (·.frame)) [e] s.heap h'->Cm h' e C d (.ref T)->FU h' T (rawInt L)->T≠e->Q () {s with heap:=h'}) :
  wpAny M A (noteFrame (.ref e) env) Q E s:=by
 obtain⟨oe,vs,he,hc,hdc,hd,h1⟩:=id hx;unfold noteFrame;simp only[hf];refine Ao (FR he hd h1 ?_);rw[A9 (by decide)];exact P6 hfr hl hf hx h
theorem V8 {base:Heap}{env:Env}{outer:List Env}{L e T0:Addr}{C:Value}{d:Option Addr}{Q:Unit->Shared->Prop}
  (hfr:A.frames=some (env::outer)) (hl:s.heap.FunFrames base (env::outer)) (hf:env.frame=some L) (hx:Cm s.heap e C d (.ref T0)) (ht:FU s.heap T0 .none) (hne:T0≠e)
  (h:∀h' T,s.heap.objs.size<=T->Es ((env::outer).filterMap (·.frame)) [e,T0] s.heap h'->Cm h' e C d (.ref T)->FU h' T (rawInt L)->T≠e->Q () {s with heap:=h'}) :
  wpAny M A (noteFrame (.ref e) env) Q E s:=by
 obtain⟨oe,vs,he,hc,hdc,hd,h1⟩:=id hx;obtain⟨oT,ts,hT,hdT,h3⟩:=ht;unfold noteFrame;simp only[hf];refine Ao (FR he hd h1 ?_);rw[Ac (show(Value.ref T0 != Value.none)=true from by simp)];refine Ao (FR hT hdT h3 ?_);rw[A9 (show ¬((Value.none==rawInt L)=true) from by simp[rawInt])];refine Ao (wpAny_setField hT hdT (LK.mp h3).1 ?_);have other:∀b,b≠T0->(s.heap.update T0 (Obj.mapFields (·.setIfInBounds 3 Value.none))).get? b=s.heap.get? b:=λb hb=>Gd _ _ (Ne.symm hb);have hTf:=OB hl hT hdT;refine P6 (s:={s with heap:=s.heap.update T0 (Obj.mapFields (·.setIfInBounds 3 Value.none))}) hfr (hl.of_keeps λb o hb hnf=>⟨o,(other b λq=>by rw[q,hT]at hb;cases hb;exact hnf ts hdT).trans hb,rfl⟩) hf ⟨oe,vs,(other e (Ne.symm hne)).trans he,hc,hdc,hd,h1⟩ λh' T hT0 hb hx' ht' hTe=>?_;have hTn:s.heap.objs.size<=T:=by simpa[Heap.size_update] using hT0
 refine h h' T hTn (λb o q hc=>?_) hx' ht' hTe;have hbe:b∉[e]:=λz=>hc (Av.mpr (.inl (Bt.mp z)));have hbT:b≠T0:=λz=>hc (by rw[z];exact B5 _ AH);exact hb b o ((other b hbT).trans q) hbe
theorem JD {e T:Addr}{C:Value}{d:Option Addr}{fl:Value}{Q:Unit->Shared->Prop}(hx:Cm s.heap e C d (.ref T))(ht:FU s.heap T fl)(hne:T≠e)
  (h:∀h',Es [] [T] s.heap h'->Cm h' e C d (.ref T)->FU h' T .none->Q () {s with heap:=h'}):wpAny M A (setFlight (.ref e) none) Q E s:=by
 obtain⟨oe,vs,he,hc,hdc,hd,h1⟩:=id hx;obtain⟨oT,ts,hT,hdT,h3⟩:=ht;have hsz:3<ts.size:=(LK.mp h3).1;have other:∀b,b≠T->(s.heap.update T (Obj.mapFields (·.setIfInBounds 3 Value.none))).get? b=s.heap.get? b:=λb hb=>Gd _ _ (Ne.symm hb);refine wpAny_setFlight_none he hd h1 hT hdT hsz (h _ (λb o q hc=>?_) ⟨oe,vs,(other e (Ne.symm hne)).trans he,hc,hdc,hd,h1⟩ ⟨_,_,LD _ hT (Obj.isFreed_of_fields (Obj.data_mapFields hdT _)),Obj.data_mapFields hdT _,by simp[hsz]⟩);have hbT:b≠T:=λz=>hc (by rw[z];exact AH);exact⟨λ_=>(other b hbT).trans q,o.slots,(other b hbT).trans q⟩
theorem YV {e:Addr}{C:Value}{d:Option Addr}{Q:Unit->Shared->Prop}(hx:Cm s.heap e C d .none)(h:Q () s):wpAny M A (setFlight (.ref e) none) Q E s:=by
 obtain⟨oe,vs,he,hc,hdc,hd,h1⟩:=id hx;unfold setFlight;refine Ao (FR he hd h1 ?_);rw[A9 (by decide)];exact Bj h
end
end EX
namespace EX
open PySem PySem.Spec PyProof.Rows
def J3 (h:Heap)(C:Addr)(bm:List Value):Prop := ∃nm q N bs hdct sn sub ab col dd k0 k1 k2 k3 k5 newId,h.get? C=some (excClassObj nm q C N bs bm hdct sn sub ab col dd k0 k1 k2 k3 k5 newId)
section
variable {M:Model}{A:Around}{E:Value->Shared->Prop}{s:Shared}{env:Env}
theorem VO {x:Sem Value}{Q:Flow->Shared->Prop}(hh:A.handled=none)
  (h:wpAny M A x (λv s₁=>∃e d C bm,v = .ref e/\J3 s₁.heap C bm/\bm.contains (.type "BaseException")=true/\Cm s₁.heap e (.ref C) d .none/\E (.ref e) s₁) E s) :
  wpAny M A (raiseStmt env (some x) none) Q E s:=by
 unfold raiseStmt;refine Ao (CV h (λv s₁ h₁=>?_) λ_ _ x=>x);obtain⟨e,d,C,bm,rfl,⟨nm,q,N,bs,hdct,sn,sub,ab,col,dd,k0,k1,k2,k3,k5,newId,hC⟩,hbase,hx,hE⟩:=h₁;have hcB:(Value.ref C::bm).contains (.type "BaseException")=true:=by rw[List.contains_cons,hbase,NS]
 obtain⟨⟨c0,d0,dt,sl⟩,vs,he,hc,hdc,hd,h1⟩:=id hx;obtain rfl:c0 = .ref C:=hc;obtain rfl:dt = .fields vs:=hd;obtain⟨hp,g,dr,tk,os⟩:=s₁
 repeat (first|with_reducible refine Im he ?_|with_reducible refine Im hC ?_|(with_reducible refine O2 hC ?_;rw[hcB])|(refine Ao (YV hx ?_))|wp_step)
 exact wpAny_raiseNew_none hh hE
theorem RH {e:Expr}{pos:Pos}{Q:Flow->Shared->Prop}(hh:A.handled=none)
  (h:wpAny M A (eval e env) (λv s₁=>∃a d C bm,v = .ref a/\J3 s₁.heap C bm/\bm.contains (.type "BaseException")=true/\Cm s₁.heap a (.ref C) d .none/\E (.ref a) s₁) E s) :
  wpAny M A (exec (.Raise (some e) none pos) env) Q E s:=by
 rw[arm_exec_Raise];simp only[evalOpt,Option.map];refine Ao (Jv (VO hh (Ao (CV h (λv s₁ h₁=>Ao (Jv (Bj h₁))) λ_ _ x=>x))))
theorem TR {h:Heap}{g:Array GenState}{dr:Drawn}{t:Nat}{os:OsState}{e C D:Addr}{bm bd:List Value}{d:Option Addr}{tb:Value}{Q:Bool->Shared->Prop}
  (kC:J3 h C bm) (kD:J3 h D bd) (hD:bd.contains (.type "BaseException")=true) (hx:Cm h e (.ref C) d tb)
  (hq:Q ((Value.ref C::bm).contains (.ref D)) ⟨h,g,dr,t,os⟩):wpAny M A (excMatches (.ref e) (.ref D)) Q E ⟨h,g,dr,t,os⟩:=by
 obtain⟨nm,q,N,bs,hdct,sn,sub,ab,col,dd,k0,k1,k2,k3,k5,newId,hC⟩:=kC;obtain⟨nm',q',N',bs',hdct',sn',sub',ab',col',dd',k0',k1',k2',k3',k5',newId',hDc⟩:=kD;obtain⟨oe,vs,he,hcls,hdc,hd,h1⟩:=hx;have hcB:(Value.ref D::bd).contains (.type "BaseException")=true:=by rw[List.contains_cons,hD,NS]
 have f:=tc_notTuple;unfold excMatches;generalize hb:(Value.ref C::bm).contains (.ref D)=b at hq
 repeat (any_goals (first|assumption|(with_reducible refine Im he ?_;rw[hcls])|with_reducible refine Im hDc ?_|(with_reducible refine O2 hDc ?_;rw[hcB])|(with_reducible refine O2 hC ?_;rw[hb])|wp_step))
 cases b<;>(wp_walk;exact hq)
end
end EX
namespace EX
open PySem PySem.Spec PySem.Calls PyProof.Rows
def Sd (x:Addr)(R:Result->Shared->Prop)(r:Result)(s':Shared):Prop:=match r with
 |.ok (.ret v)=>v = .none/\R (.ok (.ret (.ref x))) s'
 |.ok _=>False
 |.error e=>R (.error e) s'
abbrev GV (C t:Addr):Obj:={cls:=.ref C,data:=.fields #[.ref t,.none,.none,.none,.bool false,.none]}
abbrev HG (vs:List Value):Obj:={cls:=.type "tuple",data:=.seq vs.toArray}
section
variable {prog:Program}{w:World}{A:Around}{h:Heap}{g:Array GenState}{d:Drawn}{t:Nat}{os:OsState}{R:Result->Shared->Prop}
variable {nm q:Str}{C N:Addr}{bs bm bmB:List Value}{hdct:Bool}{sn:List Str}{sub:List Value}{ab:Bool}{col:Option Bool}{dd:Option Addr}{k0 k1 k2 k3 k5:Option Value}{B newId initId:String}
end
end EX
namespace EX
open PySem PySem.Spec PySem.Calls PyProof.Rows PySem.W PySem.Builtin PySem.Builtin.ObjectAttr
section
variable {prog:Program}{w:World}{A:Around}{E:Value->Shared->Prop}{s:Shared}{K:Frag}{x C:Addr}{ox:Obj}{od:Option Obj}{name:Str}{expr:Bool}
theorem Oo:builtinKind "BaseException.__getattribute__"=some .slot:=by decide +kernel
theorem QK:splitId "BaseException.__getattribute__"=some ("BaseException","__getattribute__"):=by decide +kernel
abbrev bmVE:List Value:=[.type "ValueError",.type "Exception",.type "BaseException",.type "object"]
def Nq:List Value->List Value
 |.ref _::r=>Nq r
 |l=>l
theorem OZ (self:Value):∀{l:List Value},Nq l=bmVE->refuseLoop self "__setattr__" l=pure ()
 |[],e=>by cases e
 |.ref c::r,e=>by rw[refuseLoop_ref];exact OZ self (l:=r) e
 |.type n::r,e=>by rw[show Value.type n::r=bmVE from e];exact F.store_ValueError.passes self
 |.none::r,e=>by cases e
 |.bool _::r,e=>by cases e
 |.int _ _::r,e=>by cases e
 |.float _ _::r,e=>by cases e
 |.str _ _::r,e=>by cases e
 |.bytes _ _::r,e=>by cases e
 |.builtin _::r,e=>by cases e
def mroTail (K:Frag)(C:Addr):Bool:=(clsIn K C).any λcd=>Nq cd.mro==bmVE
def ClsT (h:Heap)(C N:Addr)(bm:List Value):Prop := ∃nm q bs hdct sn sub ab col dd k0 k1 k2 k3 k5,h.get? C=some (excClassObj nm q C N bs bm hdct sn sub ab col dd k0 k1 k2 k3 k5 "ValueError.__new__")/\OwnTail h bmVE bm
theorem ClsT.at {h:Heap}{C N:Addr}{bm:List Value}(x:ClsT h C N bm):J3 h C bm:=by
 obtain⟨nm,q,bs,hdct,sn,sub,ab,col,dd,k0,k1,k2,k3,k5,e,_⟩:=x;exact⟨nm,q,N,bs,hdct,sn,sub,ab,col,dd,k0,k1,k2,k3,k5,_,e⟩
structure XC (K:Frag)(C:Addr):Prop where
 ga:findIn K (.ref C) "__getattribute__"=some (some (.builtin "BaseException.__getattribute__"))
 gh:findIn K (.ref C) "__getattr__"=some none
 be:mroIn K C (.type "BaseException")=some true
 sa:findIn K (.ref C) "__setattr__"=some (some (.builtin "object.__setattr__"))
 hd:hasDictIn K C=true
 mt:mroTail K C=true
 ob:mroIn K C (.type "object")=some true
 ct:∃N bm,∀h,K.In h->ClsT h C N bm
theorem WQ {v:Value}{Q:Value->Shared->Prop}(X:K.In s.heap)(I:InstAt s.heap x ox C od)(c:XC K C)
  (hf:findObj K C od name=some (.value v)) (hh:handedIn v=true) (h:Q v {s with toks:=s.toks+1}):wpAny (model prog w) A (getAttr (.ref x) name expr) Q E s:=by
 obtain⟨hp,g,d,t,os⟩:=s;have L0:=I.type (M:=model prog w);have L1:=looks_findIn (M:=model prog w) X c.ga;have L2:=looks_findIn (M:=model prog w) X c.gh;have L3:=looks_find (M:=model prog w) X I hf;have hx2:(Value.builtin "BaseException.__getattribute__"==Value.builtin "object.__getattribute__")=false:=by decide +kernel
 have hx1:(onTheHeap (Value.ref C)&&Value.builtin "BaseException.__getattribute__"==Value.builtin "object.__getattribute__")=false:=by rw[hx2];rfl
 have hx0:(expr&&onTheHeap (Value.builtin "BaseException.__getattribute__"))=false:=by cases expr<;>rfl
 unfold getAttr getAttrBy;refine Ao (wpAny_mkText (Gp (Ao (L0.at (Ao (L1.at ?_))))));dsimp only;rw[hx1];simp only[He,FQ];unfold getAttrByItsOwn hookBefore;rw[Ac (show onTheHeap (Value.ref C)=true from rfl)];refine Ao (L2.at ?_);refine Ao (LS ?_);refine Gp ?_;unfold callGetattribute;rw[hx0];simp only[He,FQ];unfold boundAndCalled;rw[F.attr_ValueError.ga.bind];refine Ao (Bj ?_);have sub:Looks (model prog w) hp (isInstance (.ref x) (.type "BaseException")) true:=L0.andThen (looks_mroIn X c.be);refine Fn (Jx F.attr_ValueError.ga.plain F.entry_bexc_ga (@check_slot (model prog w) _ _ ⟨hp,g,d,t+1,os⟩ "BaseException.__getattribute__" "BaseException" "__getattribute__" (.ref x) [.str name t] [] _ Oo QK sub (F.args_bexc_ga (.ref x) (.str name t)) ?_));unfold Builtin.«object.__getattribute__»;refine Ao (Bj ?_);refine Ao (Bj ?_);refine Ao (L0.at (Ao (L3.at ?_)));refine Bj ?_;show wpAny _ _ (handedOut v) _ _ _;rw[handedOut_of hh];exact Bj h
theorem Wp {v:Value}{Q:Unit->Shared->Prop}(X:K.In s.heap)(hx:s.heap.get? x=some ox)(hcl:ox.cls = .ref C)(hno:notCls ox=true)(hdn:ox.dict=none)(c:XC K C)(ha:findIn K (.ref C) name=some none)
  (hq:∀h' tk',(∀b o,b≠x->s.heap.get? b=some o->h'.get? b=some o)->h'.get? x=some {cls:=ox.cls,dict:=some s.heap.objs.size,data:=ox.data,slots:=ox.slots}->h'.Ns1 s.heap.objs.size (λy=>if y=name then some v else none)->
   Q () {s with heap:=h',toks:=tk'}):wpAny (model prog w) A (setAttr (.ref x) name v) Q E s:=by
 obtain⟨h,g,d,t,os⟩:=s;have I:InstAt h x ox C none:=⟨hx,hcl,hno,by rw[hdn];exact True.intro⟩
 have SF:=F.store_ValueError;have L0:=I.type (M:=model prog w);have L1:=looks_findIn (M:=model prog w) X c.sa;have L2:=looks_findIn (M:=model prog w) X ha;obtain⟨cd,hc,ho⟩:=any_some c.mt;obtain⟨cd',hc',hd'⟩:=any_some c.hd;obtain rfl:cd=cd':=Co (hc.symm.trans hc');have hm:Looks (model prog w) h (mroOf (.ref C)) cd.mro:=(looks_clsIn X hc).andThen .now;have sub:Looks (model prog w) h (isInstance (.ref x) (.type "object")) true:=L0.andThen (looks_mroIn X c.ob);unfold setAttr callSpecial? specialOf;refine Ao (wpAny_mkText (Ao (Ao (Ao (L0.at (L1.at ?_))))));refine Gp ?_;rw[SF.slot.bind];refine Ao (Bj (Ao ?_));refine Fn (Jx SF.slot.plain SF.entry (@check_slot (model prog w) _ _ ⟨h,g,d,t+1,os⟩ "object.__setattr__" "object" "__setattr__" (.ref x) [.str name t,v] [] _ SF.kind SF.split sub (SF.args (.ref x) (.str name t) v) ?_));show wpAny _ _ (Builtin.«object.__setattr__» ⟨[.ref x,.str name t,v],[]⟩) _ _ _;rw[osa_eq,refuse_eq];refine Ao (Ao (L0.at (Ao (hm.at ?_))));rw[OZ _ (CG.mp ho)];refine Bj (Ao (L0.at (Ao (L2.at (Ao (Bj ?_))))));dsimp only;obtain⟨oc,odi,oda,osl⟩:=ox;obtain rfl:oc = .ref C:=hcl;obtain rfl:odi=none:=hdn;have hx:h.get? x=some ⟨.ref C,none,oda,osl⟩:=hx;unfold storeInOwnDict;refine Ao (Bj ?_);rw[A9 (by simp)];refine Ao ?_;unfold ownDictForStores instanceDict;refine Ao (wpAny_loadPart hx ?_);dsimp only;refine Ao ((looks_clsIn X hc).at ?_);rw[hd'];simp only[Bool.not_true,He,FQ];rw[A9 (by simp[typeHasDict])];have hx₁:(h.push {cls:=.type "dict",data:=.dict #[]}).get? x=some ⟨.ref C,none,oda,osl⟩:=Bz _ hx;have hxs:x≠h.objs.size:=Ca (Bo hx);have fin:wpAny (model prog w) A.in1 (storeInDict h.objs.size (.str name t) name v) (λfin s'=>match fin with
   |Fin.done (Flow.ret _)=>Q () s'
   |_=>False) (λe s'=>E e s') ⟨(h.push {cls:=.type "dict",data:=.dict #[]}).update x λo=>{cls:=o.cls,dict:=some h.objs.size,data:=o.data,slots:=o.slots},g,d,t+1,os⟩:=by
  have hgd:((h.push {cls:=.type "dict",data:=.dict #[]}).update x λo=>{cls:=o.cls,dict:=some h.objs.size,data:=o.data,slots:=o.slots}).get? h.objs.size=some {cls:=.type "dict",data:=.dict #[]}:=
   (Heap.get?_update_ne _ _ _ _ hxs.symm).trans (Heap.get?_push_at rfl rfl)
  have hnd:((h.push {cls:=.type "dict",data:=.dict #[]}).update x λo=>{cls:=o.cls,dict:=some h.objs.size,data:=o.data,slots:=o.slots}).Ns h.objs.size (λ_=>none):=
   ⟨_,#[],_,hgd,rfl,λe he=>absurd he (by simp),λ_=>rfl⟩
  unfold storeInDict newKeyGuard;refine Ao (Bj (Ao (wpAny_nsSet1 (Heap.Ns1.of_empty hnd) λh' hn' hs=>?_)));obtain⟨oD,esD,epD,hoD,hdD,hcD⟩:=hn'.count (Within.cons name v Within.nil);refine Ao (wpAny_lookBehind hoD (by rw[hdD];exact pastItsLine_dict (BP hcD (by rw[AJ,Jj,FP];lia))) ?_);refine Bj (hq h' _ (λb ob hbx hb=>(hs.2 b (Ca (Bo hb))).trans ((Heap.get?_update_ne _ _ _ _ hbx).trans (Bz _ hb))) ?_ hn');refine(hs.2 x hxs).trans (LD _ hx₁ ?_);have hfr:=(Heap.get?_some_iff.mp hx).2;cases oda<;>first|rfl|exact hfr
 have fin2:=CV fin (Q':=λfin s'=>match fin with
   |
    Fin.done f=>(match (Except.ok f:Result) with
    |Except.ok (Flow.ret v)=>wpAny (model prog w) A (pure (some v)) (λa s'=>wpAny (model prog w) A (match a with|some val=>pure PUnit.unit|x=>unsupported "internal:no-__setattr__") Q E s') E s'
    |Except.ok a=>False
    |Except.error e=>E e s')
   |
    Fin.again c'=>c'.quiet=true/\codeAny (model prog w) A c' (λr s'=>match r with
    |Except.ok (Flow.ret v)=>wpAny (model prog w) A (pure (some v)) (λa s'=>wpAny (model prog w) A (match a with|some val=>pure PUnit.unit|x=>unsupported "internal:no-__setattr__") Q E s') E s'
    |Except.ok a=>False
    |Except.error e=>E e s') s') (λfin s' z=>by
  rcases fin with(_|_|_|_)|_<;>first|exact Bj (Bj z)|exact z.elim) λ_ _ z=>z
 have hno':∀c,oda≠.cls c:=λc z=>by rw[z]at hno;cases hno
 split
 .exact absurd rfl (hno' _)
 .refine Ao (wpAny_alloc' ?_);refine Ao (wpAny_update' hx₁ ?_);refine Bj ?_;exact fin2
theorem Vo {v:Value}{vs:Array Value}{R:Result->Shared->Prop}(X:K.In s.heap)(hx:s.heap.get? x=some ox)(hcl:ox.cls = .ref C)(hd:ox.data = .fields vs){t0:Addr}(h0:vs[0]?=some (.ref t0))(c:XC K C)
  (hq:∀h',(∀b o,b≠x->s.heap.get? b=some o->h'.get? b=some o)->h'.get? x=some {cls:=ox.cls,dict:=ox.dict,data:=.fields (vs.setIfInBounds 0 (.ref s.heap.objs.size)),slots:=ox.slots}->R (.ok (.ret .none)) {s with heap:=h'}) :
  codeAny (model prog w) A (.call (.builtin "ValueError.__init__") ⟨[.ref x,v],[]⟩) R s:=by
 obtain⟨h,g,d,t,os⟩:=s;obtain⟨oc,odi,oda,osl⟩:=ox;obtain rfl:oc = .ref C:=hcl;obtain rfl:oda = .fields vs:=hd;have hx:h.get? x=some ⟨.ref C,odi,.fields vs,osl⟩:=hx;have L0:Looks (model prog w) h (typeOf (.ref x)) (.ref C):=(Looks.ld hx).andThen .now;obtain⟨N,bm,ct⟩:=c.ct;obtain⟨nm,q,bs,hdct,sn,sub,ab,col,dd,k0,k1,k2,k3,k5,hC,T⟩:=ct h X;refine Jx F.excBase_ValueError.init.plain F.excBase_ValueError.initEntry (wpAny_check_init_subT F.excBase_ValueError T hC hx rfl ?_);have hz:0<vs.size:=(LK.mp h0).1
 wp_walk
 rw[h0];refine Bj ?_;dsimp only;have hx1:(h.push {cls:=Value.type "tuple",data:=Data.seq #[v]}).get? x=some ⟨.ref C,odi,.fields vs,osl⟩:=Bz _ hx;refine Ao (wpAny_setField hx1 rfl hz ?_);refine wpAny_letGo (Bj ?_);refine hq _ (λb o hb e=>?_) ?_
 .rw[Gd _ _ (Ne.symm hb)];exact Bz _ e
 .rw[LD _ hx1 rfl];rfl
end
end EX
namespace EX
open PySem PySem.Spec PySem.Calls PyProof.Rows PySem.W PySem.Builtin PySem.Builtin.ObjectAttr
section
variable {prog:Program}{w:World}{A:Around}{E:Value->Shared->Prop}{s:Shared}{K:Frag}{x C:Addr}{ox:Obj}{od:Option Obj}
theorem Uq {Q:Option Value->Shared->Prop}(X:K.In s.heap)(I:InstAt s.heap x ox C od)(c:XC K C)(ha:findIn K (.ref C) "__class__"=some (some (.builtin "object.__class__")))
  (hn:specialIn K (.builtin "object.__class__") "__get__"=some (some (.builtin "getset_descriptor.__get__"))) (htk:takesIn K (.builtin "object.__class__")=some true)
  (h:Q (some (.ref C)) {s with toks:=s.toks+1}):wpAny (model prog w) A (getAttr? (.ref x) "__class__") Q E s:=by
 have hf:findObj K C od "__class__"=some (.bind (.builtin "getset_descriptor.__get__") (.builtin "object.__class__")):=by
  obtain⟨cd,hc,_⟩:=any_some c.hd;unfold findObj;rw[hc,ha];simp only[Option.bind_some,hn,htk]
 obtain⟨hp,g,d,t,os⟩:=s;have L0:=I.type (M:=model prog w);have L1:=looks_findIn (M:=model prog w) X c.ga;have L2:=looks_findIn (M:=model prog w) X c.gh;have L3:=looks_find (M:=model prog w) X I hf;have hx2:(Value.builtin "BaseException.__getattribute__"==Value.builtin "object.__getattribute__")=false:=by decide +kernel
 have hx1:(onTheHeap (Value.ref C)&&Value.builtin "BaseException.__getattribute__"==Value.builtin "object.__getattribute__")=false:=by rw[hx2];rfl
 have hx0:(false&&onTheHeap (Value.builtin "BaseException.__getattribute__"))=false:=rfl;unfold getAttr? getAttrBy? getAttrBy;refine Ao (wpAny_mkText (Ao (LS (Gp (Ao (L0.at (Ao (L1.at ?_))))))));dsimp only;rw[hx1];simp only[He,FQ];unfold getAttrByItsOwn hookBefore;rw[Ac (show onTheHeap (Value.ref C)=true from rfl)];refine Ao (L2.at ?_);refine Ao (LS ?_);refine Gp ?_;unfold callGetattribute;rw[hx0];simp only[He,FQ];unfold boundAndCalled;rw[F.attr_ValueError.ga.bind];refine Ao (Bj ?_);have sub:Looks (model prog w) hp (isInstance (.ref x) (.type "BaseException")) true:=L0.andThen (looks_mroIn X c.be);refine Fn (Jx F.attr_ValueError.ga.plain F.entry_bexc_ga (@check_slot (model prog w) _ _ ⟨hp,g,d,t+1,os⟩ "BaseException.__getattribute__" "BaseException" "__getattribute__" (.ref x) [.str "__class__" t] [] _ Oo QK sub (F.args_bexc_ga (.ref x) (.str "__class__" t)) ?_));unfold Builtin.«object.__getattribute__»;refine Ao (Bj ?_);refine Ao (Bj ?_);refine Ao (L0.at (Ao (L3.at ?_)));show wpAny _ _ (bindTo _ _ _ _) _ _ _;show wpAny _ _ (holding [Value.builtin "object.__class__"] (call (.builtin "getset_descriptor.__get__") [.builtin "object.__class__",.ref x,.ref C])>>=ret) _ _ _;refine Ao (Gp (Fn (class_get (s:=⟨hp,g,d,t+1,os⟩) (ox:=ox) (od:=od) X I c.ob ?_)));refine Bj ?_;refine handed_on rfl ?_;exact Bj h
end
end EX
namespace EX
open PySem PySem.Spec PyProof.Rows
theorem Cm.one {h:Heap}{a:Addr}{C C':Addr}{d d':Option Addr}{t t':Value}(x:Cm h a (.ref C) d t)(y:Cm h a (.ref C') d' t'):C'=C/\d'=d:=by
 obtain⟨oe,vs,h0,h1,h2,_⟩:=x;obtain⟨oe',vs',g0,g1,g2,_⟩:=y;rw[h0]at g0;cases g0;exact⟨NT (g1.symm.trans h1),g2.symm.trans h2⟩
theorem Es.then {fs ch:List Addr}{h h1 h2:Heap}{T:Addr}(a:Es fs ch h h1)(hT:h.objs.size<=T)(b:Es [] [T] h1 h2):Es fs ch h h2:=λx o e hc=>by
 obtain⟨p,sl,q⟩:=a x o e hc;have nT:x∉[T]:=λz=>absurd (Bo e) (by rw[Bt.mp z];exact Nat.not_lt.mpr hT);exact⟨λhf=>(b x o (p hf) nT).1 (by simp),(b x _ q nT).2⟩
theorem Cm.there {h:Heap}{a:Addr}{C:Value}{d:Option Addr}{t:Value}(x:Cm h a C d t):∃u,h.get? a=some u:=by obtain⟨oe,_,e,_⟩:=x;exact⟨oe,e⟩
end EX
namespace L2
open PySem PySem.Spec PyProof.Rows EX
def Ga (h:Heap)(a:Addr)(C:Value)(d:Option Addr):Prop := ∃oe vs t0,h.get? a=some oe/\oe.cls=C/\oe.dict=d/\oe.data = .fields vs/\vs[0]?=some (.ref t0)/\vs[1]?=some .none
theorem Ga.at {h:Heap}{a:Addr}{C:Value}{d:Option Addr}(x:Ga h a C d):Cm h a C d .none:=by obtain⟨oe,vs,_,h0,h1,h2,h3,_,h5⟩:=x;exact⟨oe,vs,h0,h1,h2,h3,h5⟩
def DA (a C:Addr)(d:Option Addr):HO:=.ext λh=>Ga h a (.ref C) d
def Dv (a C:Addr)(d:Option Addr):HO:=.ext λh=>∃tb,Cm h a (.ref C) d tb
section
variable {P:Program}{w:World}{H:Hp}{h:Heap}{a C:Addr}{d:Option Addr}
theorem Nc (x:Ga h a (.ref C) d):BN P w H h a (DA a C d):=by
 obtain⟨oe,vs,t0,h0,h1⟩:=x;exact⟨⟨oe,vs,t0,h0,h1⟩,⟨oe,h0⟩,λg1 g2 ⟨oe',vs',t0',z0,z⟩ k=>⟨oe',vs',t0',k _ z0,z⟩⟩
theorem Lo {tb:Value}(x:Cm h a (.ref C) d tb):BN P w H h a (Dv a C d):=by
 obtain⟨oe,vs,h0,h1⟩:=x;exact⟨⟨tb,oe,vs,h0,h1⟩,⟨oe,h0⟩,λg1 g2 ⟨tb',oe',vs',z0,z⟩ k=>⟨tb',oe',vs',k _ z0,z⟩⟩
theorem HW (x:BA P w H h)(e:H a=some (DA a C d)):Ga h a (.ref C) d:=(show BN P w H h a (DA a C d) from x a _ e).1
theorem N8 (x:BA P w H h)(e:H a=some (Dv a C d)):∃tb,Cm h a (.ref C) d tb:=(show BN P w H h a (Dv a C d) from x a _ e).1
end
theorem Mq {H:Hp}{a:Addr}{o:HO}(h:H a=some o):upd H a o=H:=by
 funext b
 unfold upd;split
 .rename_i e;rw[e,h]
 .rfl
def HV (P:Program)(w:World):DS:=λouter H s E e s'=>∃(a C:Addr) (d:Option Addr) (T:Addr) (H':Hp),e = .ref a/\s'.os=s.os/\AllBare s'.gens/\Un (DM outer) [] H H' s.heap s'.heap/\BA P w H' s'.heap/\H' a=some (Dv a C d)/\
 Cm s'.heap a (.ref C) d (.ref T)/\FU s'.heap T .none/\T≠a/\H' T=none/\s.heap.objs.size<=T/\E (.ref a) none H'
section
variable {X:Cx}{pins:List (Addr×Obj)}{σ:St}{H:Hp}{s:Shared}{a C:Addr}{d:Option Addr}
def MJ (X:Cx)(pins:List (Addr×Obj))(H:Hp)(T:Addr):Prop:=H T=none/\X.s₀.heap.objs.size<=T/\T≠X.env.locals/\(∀x c,X.env.cells.lookup x=some c->c≠T)/\∀p∈X.pn++pins,p.1≠T
theorem A7.tok_new (I:A7 X pins σ H s){T:Addr}(hT:s.heap.objs.size<=T):MJ X pins H T:=
 ⟨I.hok.fresh hT,BP I.sz hT,Hb (CB I.lt hT),λx c e z=>by
  obtain⟨v,o,ho,_⟩:=I.cell x c e;exact absurd (Bo ho) (by rw[z];exact Nat.not_lt.mpr hT),λp hp z=>by
  have:=(I.pin p hp).1;exact absurd (Bo this) (by rw[z];exact Nat.not_lt.mpr hT)⟩
theorem A7.fly {ch:List Addr}{h':Heap}{o:HO}{φ:Heap->Prop}(I:A7 X pins σ H s)(hb:Es (DM X.stack) (a::ch) s.heap h')(ha:H a=some (.ext φ))(new:BN X.prog X.w (upd H a o) h' a o)(ho:∃u,h'.get? a=some u)
  (hch:∀b∈ch,MJ X pins H b):A7 X pins σ (upd H a o) {s with heap:=h'}:=by
 have nea:∀b,H b=none->b≠a:=λb n z=>by rw[z,ha]at n;cases n
 have nof:∀b u,H b=some u->(∀ψ,u≠.ext ψ)->b≠a:=λb u e n z=>by rw[z,ha]at e;cases e;exact n φ rfl
 refine I.call' (s':={s with heap:=h'}) (ch:=ch) rfl ⟨λb ob q n hf hc=>?_,λb ob q n hf hc=>?_,λb ob q n hc=>?_,λb ob q hc=>?_,λb xs q=>?_,λb ob u q=>?_,λb ps q=>⟨#[],?_⟩⟩ (λb u e=>?_) I.bare λb hm=>?_
 .exact(hb b ob q λz=>(Av.mp z).elim (nea b n) hc).1 hf
 .exact(hb b ob q λz=>(Av.mp z).elim (nea b n) hc).2
 .rw[Aa (nea b n)];exact n
 .by_cases z:b=a
  .rw[z];exact ho
  .obtain⟨_,sl,q'⟩:=hb b ob q λy=>(Av.mp y).elim z hc;exact⟨_,q'⟩
 .rw[Aa (nof b _ q fun ψ y=>by cases y)];exact q
 .rw[Aa (nof b _ q fun ψ y=>by cases y)];exact q
 .rw[Aa (nof b _ q fun ψ y=>by cases y),q];simp
 .by_cases z:b=a
  .subst z;rw[A3]at e;cases e;exact new
  .rw[Aa z]at e;have kp:∀c v,H c≠none->c≠a->s.heap.get? c=some v->h'.get? c=some v:=λc v n1 n2 q=>
    (hb c v q λy=>(Av.mp y).elim n2 λm=>n1 (hch c m).1).1 λm=>n1 (I.stkFree c m)
   refine(I.hok b u e).stay (λc v hc q=>?_) (λc q=>?_) λc xs q=>?_
   .rcases hc with rfl|hc
    .exact kp c v (by rw[e];simp) z q
    .exact kp c v (by rw[hc];simp) (nof c _ hc fun ψ y=>by cases y) q
   .rw[Aa (nof c _ q fun ψ y=>by cases y)];exact q
   .rw[Aa (nof c _ q fun ψ y=>by cases y)];exact q
 .obtain⟨_,h2,h3,h4,h5⟩:=hch b hm;exact⟨.inr h2,h3,h4,h5⟩
end
section
variable {X:Cx}
def N1 (X:Cx)(Ek:St->XK):Prop := ∀(pins:List (Addr×Obj)) (σ:St) (H:Hp) (s:Shared) (a C:Addr) (d:Option Addr),A7 X pins σ H s->H a=some (DA a C d)->Ek σ (.ref a) none (upd H a (Dv a C d))->X.xe (.ref a) s
def Mw (X:Cx)(Ek:St->XK):Prop := ∀(pins:List (Addr×Obj)) (σ:St) (H:Hp) (s:Shared) (e:Value) (s':Shared),A7 X pins σ H s->HV X.prog X.w X.stack H s (Ek σ) e s'->X.xe e s'
variable {P:Program}{w:World}{K:Zc}{mg:Str->Option Value}{base:Heap}{N:List Str}{qual:Str}{scope:Scope}{f:Addr}{cd:Value}{A:Around}{outer:List Env}{s₀:Shared}{H₀:Hp}{E:XK}
theorem P1:N1 (FY (HV P w) P w K mg base N qual scope f cd A outer s₀ H₀ E) (λ_=>E):=by
 intro pins σ H s a C d I ha hE;have x:=HW I.hok ha;show wpAny _ _ (leaving _ (.ref a)) _ _ s;unfold leaving;refine Ao (OY (base:=base) (L:=s₀.heap.objs.size) I.ok.frames I.stack rfl x.at λh1 T hT b1 x1 t1 ne=>?_);refine JD (s:={s with heap:=h1}) x1 t1 ne λh2 b2 x2 t2=>?_;have J:=I.fly (o:=Dv a C d) (ch:=[]) (h':=h2) (b1.then hT b2) ha (Lo x2) x2.there (λb z=>absurd z (by simp));exact⟨a,C,d,T,_,rfl,J.os,J.bare,J.base,J.hok,A3,x2,t2,ne,by rw[Aa ne];exact I.hok.fresh hT,BP I.sz hT,hE⟩
end
section
variable {P:Program}{w:World}{K:Zc}{mg:Str->Option Value}{base:Heap}
theorem AZ.okX {x qual:Str}{st:Stmt}{f:Addr}{fd:FuncData}{N ps:List Str}{k:Nat}{sp:Sp}(F:AZ K x qual st f fd)(S:B1 N ps (AF st))(len:∀vs H Q E,sp vs H Q E->vs.length=ps.length)
  (hbody:∀(cdv:Value) (A:Around) (outer:List Env) (s:Shared) (H:Hp) (vs:List V) (Q:VK) (E:XK),Ci k (A.deeper (envOfC qual (AF st) s.heap.objs.size f cdv))->sp vs H Q E->
   ∃t,Dy (FY (HV P w) P w K mg base N qual (AF st) f cdv A outer s H E) (Gy st) t/\t {nx:=λ_ H'=>Q .non H',rt:=Q} (start N vs) H):AQ P w K mg base (HV P w) (k+1) f fd ps sp:=by
 obtain⟨oc,od,kV,doc,pm,an,cdv,ct,osl,rfl,lk,hcd⟩:=F.ex;exact OC lk hcd S len λA outer s H vs Q E hr hsp=>hbody cdv A outer s H vs Q E hr hsp
end
section
variable {X:Cx}{Ek:St->XK}{e:Expr}{te:TE}{pos:Pos}
def V6 (K:Zc)(Ek:St->XK)(te:TE):TS:=λ_ σ H=>te σ H λv H1=>∃a C d,v = .ref a/\H1 a=some (DA a C d)/\XC K C/\Ek σ (.ref a) none (upd H1 a (Dv a C d))
theorem Pr (hc:X.calm=true)(hr:N1 X Ek)(he:PE X e te):PS X (.Raise (some e) none pos) (V6 X.K Ek te):=by
 intro pins s σ H D I h;refine RH (I.ok.hd hc) (AA (he pins s σ H _ I h) λu s1 q=>?_);obtain⟨v,H1,I1,r,a,C,d,rfl,ha,xc,q⟩:=q;obtain rfl:u = .ref a:=r;obtain⟨N,bm,ct⟩:=xc.ct;have c1:=ct _ I1.kIn;obtain⟨_,_,_,_,_,_,_,_,_,_,_,_,_,_,_,T⟩:=id c1;exact⟨a,d,C,bm,rfl,c1.at,T.hasType (by decide),(HW I1.hok ha).at,hr pins σ H1 s1 a C d I1 ha q⟩
end
end L2
namespace EX
open PySem PySem.Spec PyProof.Rows
theorem ClsT.base {h:Heap}{C N:Addr}{bm:List Value}(x:ClsT h C N bm):bm.contains (.type "BaseException")=true:=by
 obtain⟨_,_,_,_,_,_,_,_,_,_,_,_,_,_,_,T⟩:=x;exact T.hasType (by decide)
end EX
namespace L2
open PySem PySem.Spec PyProof.Rows EX
abbrev Cx.tried (X:Cx)(pn:List (Addr×Obj))(xe:Value->Shared->Prop):Cx:={X with pn:=pn,xe:=xe}
abbrev Cx.held (X:Cx)(a:Addr):Cx:={X with A:=X.A.mark (some (.ref a)),calm:=false,xe:=λ_ _=>False}
section
variable {X:Cx}{pins pins':List (Addr×Obj)}{σ:St}{H:Hp}{s:Shared}{a:Addr}{xe:Value->Shared->Prop}{pn:List (Addr×Obj)}
theorem Cx.Ok.tried (ok:X.Ok):(X.tried pn xe).Ok:=⟨ok.mod,ok.kind,ok.glob,ok.blt,ok.above,ok.inj,ok.has,ok.cab,ok.hd,ok.frames,ok.stk,ok.exf,ok.bs,ok.bsz,ok.noex,ok.exfs,ok.funs,ok.frf⟩
theorem Cx.Ok.untried (ok:(X.tried pn xe).Ok):X.Ok:=⟨ok.mod,ok.kind,ok.glob,ok.blt,ok.above,ok.inj,ok.has,ok.cab,ok.hd,ok.frames,ok.stk,ok.exf,ok.bs,ok.bsz,ok.noex,ok.exfs,ok.funs,ok.frf⟩
theorem Cx.Ok.held (ok:X.Ok):(X.held a).Ok:=⟨ok.mod,ok.kind,ok.glob,ok.blt,ok.above,ok.inj,ok.has,ok.cab,(λz=>nomatch z),ok.frames,ok.stk,ok.exf,ok.bs,ok.bsz,ok.noex,ok.exfs,ok.funs,ok.frf⟩
theorem A7.tried (I:A7 X pins σ H s):A7 (X.tried (X.pn++pins) xe) [] σ H s:=⟨I.ok.tried,I.os,I.bare,I.base,I.loc,I.cell,I.free,I.freeC,λp hp=>I.pin p (by simpa using hp),I.hok,I.len⟩
theorem A7.untried (I:A7 (X.tried (X.pn++pins) xe) pins' σ H s):A7 X pins σ H s:=⟨I.ok.untried,I.os,I.bare,I.base,I.loc,I.cell,I.free,I.freeC,λp hp=>I.pin p (Eh _ hp),I.hok,I.len⟩
theorem A7.held (I:A7 X pins σ H s):A7 (X.held a) pins σ H s:=⟨I.ok.held,I.os,I.bare,I.base,I.loc,I.cell,I.free,I.freeC,I.pin,I.hok,I.len⟩
theorem A7.unheld (ok:X.Ok)(I:A7 (X.held a) pins σ H s):A7 X pins σ H s:=⟨ok,I.os,I.bare,I.base,I.loc,I.cell,I.free,I.freeC,I.pin,I.hok,I.len⟩
theorem SP.untried {D:CY}{f:Flow}{s':Shared}(h:SP (X.tried (X.pn++pins) xe) pins' D f s'):SP X pins D f s':=by
 cases f with
 |next=>obtain⟨σ',H',I,q⟩:=h;exact⟨σ',H',I.untried,q⟩
 |brk=>obtain⟨σ',H',I,q⟩:=h;exact⟨σ',H',I.untried,q⟩
 |cont=>obtain⟨σ',H',I,q⟩:=h;exact⟨σ',H',I.untried,q⟩
 |ret u=>obtain⟨v,σ',H',I,r,q⟩:=h;exact⟨v,σ',H',I.untried,r,q⟩
end
def PH (X:Cx)(hs:List ExceptHandler)(th:Addr->Addr->Option Addr->TS):Prop:=
 ∀(pins:List (Addr×Obj)) (s:Shared) (σ:St) (H:Hp) (D:CY) (a C:Addr) (d:Option Addr) (T:Addr),A7 X pins σ H s->H a=some (Dv a C d)->Cm s.heap a (.ref C) d (.ref T)->FU s.heap T .none->T≠a->MJ X pins H T->
  th a C d D σ H->wpAny (model X.prog X.w) X.A (handleBy (.ref a) X.env hs) (SP X pins D) X.xe s
section
variable {X:Cx}{x n:Str}{np pos:Pos}{Dc:Addr}{b₀:Stmt}{suite:List Stmt}{rest:List ExceptHandler}{ts:Addr->TS}{th:Addr->Addr->Option Addr->TS}
end
def S3 (tb:(St->XK)->TS)(th:Addr->Addr->Option Addr->TS):TS:=λD σ H=>tb (fun σ' v _ H'=>∃a C d,v = .ref a/\H' a=some (Dv a C d)/\th a C d D σ' H') D σ H
theorem Qy {X:Cx}{body:List Stmt}{h₀:ExceptHandler}{hs:List ExceptHandler}{pos:Pos}{tb:(St->XK)->TS}{th:Addr->Addr->Option Addr->TS}
  (hb:∀pn xe Ek,Mw (X.tried pn xe) Ek->N1 (X.tried pn xe) Ek->Dy (X.tried pn xe) body (tb Ek)) (hh:PH X (h₀::hs) th) (hst:X.stack=X.env::X.outer:=by rfl) (hfr:X.env.frame=some X.env.locals:=by rfl) :
  PS X (.Try body (h₀::hs) [] [] pos) (S3 tb th):=by
 intro pins s σ H D I h;rw[arm_exec_Try];refine Ao (Jv (wpAny_tryStmt_except ?_));refine CV (hb (X.pn++pins) (λe s₁=>wpAny (model X.prog X.w) X.A (noteFrame e X.env) (λ_ s₂=>wpAny (model X.prog X.w) X.A (setFlight e none) (λ_ s₃=>wpAny (model X.prog X.w) X.A (handleBy e X.env (h₀::hs)) (SP X pins D) X.xe s₃) X.xe s₂) X.xe s₁)
  (fun σ' v _ H'=>∃a C d,v = .ref a/\H' a=some (Dv a C d)/\th a C d D σ' H') ?_ ?_ [] s σ H D I.tried h) (λf s1 q=>?_) (λ_ _ z=>z)
 .intro pins' σ' H1 s1 e s' I1 hc;obtain⟨a,C,d,T0,H',rfl,os,bare,un,hok,ha,x0,t0,ne0,hT0,sT0,a',C',d',ea,ha',hth⟩:=hc;obtain rfl:a=a':=NT ea;have J1:A7 X pins σ' H1 s1:=I1.untried;have J:=J1.call' (ch:=[]) os un hok bare (λb z=>absurd z (by simp));obtain⟨tb',y⟩:=N8 J.hok ha';obtain⟨rfl,rfl⟩:=Cm.one x0 y;have tk:=J1.tok_new sT0;refine V8 (base:=X.base) (L:=X.env.locals) (env:=X.env) (outer:=X.outer) (by rw[←hst];exact J.ok.frames) (by rw[←hst];exact J.stack) hfr x0 t0 ne0 λh1 T hT b1 x1 t1 ne=>?_;refine JD (s:={s' with heap:=h1}) x1 t1 ne λh2 b2 x2 t2=>?_;rw[←hst]at b1;have J2:=J.fly (o:=Dv a C' d') (ch:=[T0]) (h':=h2) (b1.then hT b2) ha (Lo x2) x2.there (λb z=>by rw[Bt.mp z];exact⟨hT0,tk.2⟩);rw[Mq ha]at J2;exact hh pins _ σ' H' D a C' d' T J2 ha x2 t2 ne (J.tok_new hT) hth
 .intro pins' σ' H1 s1 a C d I1 ha hE;obtain⟨a',C',d',ea,ha',hth⟩:=hE;obtain rfl:a=a':=NT ea;have J:A7 X pins σ' H1 s1:=I1.untried;have x:=HW J.hok ha;refine OY (base:=X.base) (L:=X.env.locals) (env:=X.env) (outer:=X.outer) (by rw[←hst];exact J.ok.frames) (by rw[←hst];exact J.stack) hfr x.at λh1 T hT b1 x1 t1 ne=>?_;refine JD (s:={s1 with heap:=h1}) x1 t1 ne λh2 b2 x2 t2=>?_;rw[←hst]at b1;have J2:=J.fly (o:=Dv a C d) (ch:=[]) (h':=h2) (b1.then hT b2) ha (Lo x2) x2.there (λb z=>absurd z (by simp));obtain⟨tb',y⟩:=N8 J2.hok ha';obtain⟨rfl,rfl⟩:=Cm.one x2 y;have tk:=J.tok_new hT;exact hh pins _ σ' _ D a C' d' T J2 ha' x2 t2 ne ⟨by rw[Aa ne];exact tk.1,tk.2⟩ hth
 .have q:=q.untried;cases f with
  |next=>exact LP q
  |_=>exact q
section
variable {X:Cx}{k:Nat}{f C:Addr}{fd:FuncData}{ps:List Str}{sp:Sp}{dvs:List V}{ds:List Value}{Ek:St->XK}{x:Str}{p pos:Pos}{e:Expr}{es:List Expr}{t:TA}
def WC (sp:Sp)(dvs:List V)(Ek:St->XK)(t:TA):TE:=fun σ H Q=>t σ H λvs H1=>sp (vs++dvs) H1 Q (Ek σ)
theorem MC (F:AQ X.prog X.w X.K X.mg X.base (HV X.prog X.w) k f fd ps sp)(hr:Ci k X.A)(hg:Gl X x)(hm:X.mg x=some (.ref f))(hk:PySem.W.keepIn X.K (.ref f)=true)(hb:AV X.K fd ps ds)(hd:AE dvs ds)(hx:Mw X Ek)
  (ha:PA X (e::es) t) (hdb:(x==("__debug__":Str))=false:=by decide) (he:starEach (e::es) X.env=(false,eval e X.env)::starEach es X.env:=by rfl) (hpl:(backTo pos (starEach es X.env)).any (·.1)=false:=by rfl) :
  PE X (.Call (.Name x p) (e::es) [] pos) (WC sp dvs Ek t):=by
 intro pins s σ H Q I h;refine Gm (FF I hg hm ?_ hdb);refine LB (h₀:=X.base) I.ok.mod.kin hk (AA (ha pos pins s σ H _ I h) λus s1 zz=>?_) he hpl;obtain⟨vs,H1,I1,r,q⟩:=zz;refine⟨I1.kIn,?_⟩;have r2:AE (vs++dvs) (us++ds):=r.append hd;have hl:(us++ds).length=ps.length:=by rw[←r2.length];exact F.len _ _ _ _ q
 refine Fn (Gk (F.run X.A X.stack s1 H1 ⟨us,[]⟩ (us++ds) (vs++dvs) Q (Ek σ) hr I1.env0 (hb s1 us I1.kIn hl) r2 q) λr s' hq=>?_);cases r with
 |error e=>exact hx pins σ H1 s1 e s' I1 hq
 |
  ok fl=>
  cases fl with
  |ret u=>exact I1.after hq
  |next=>exact False.elim hq
  |brk=>exact False.elim hq
  |cont=>exact False.elim hq
end
end L2
namespace EX
open PySem PySem.Spec PySem.Calls PyProof.Rows PySem.W
section
variable {prog:Program}{w:World}{A:Around}{h:Heap}{g:Array GenState}{d:Drawn}{t:Nat}{os:OsState}{R:Result->Shared->Prop}{C N:Addr}{bm:List Value}
theorem Rm {E:Value->Shared->Prop}{rest:List Value}{f:Addr}{Q:PySem.Fin->Shared->Prop}(ct:ClsT h C N bm)(hL:Looks (model prog w) h (typeLookup (.ref C) "__init__") (some (.ref f)))
  (hB:∀self,Looks (model prog w) h (bindSpecial (.ref f) self) (.ref f,[self]))
  (hq:wpAny (model prog w) A (call (.ref f) (.ref (h.objs.size+1)::rest)) (λv s'=>v = .none/\Q (.done (.ret (.ref (h.objs.size+1)))) s') E ⟨(h.push (HG rest)).push (GV C h.objs.size),g,d,t,os⟩) (hrest:rest.length<=sizeLine) :
  wpAny (model prog w) A (Builtin.«type.__call__» ⟨.ref C::rest,[]⟩) Q E ⟨h,g,d,t,os⟩:=by
 obtain⟨nm,q,bs,hdct,sn,sub,ab,col,dd,k0,k1,k2,k3,k5,hC,T⟩:=ct
 repeat (first|with_reducible refine Im hC ?_|with_reducible refine wpAny_madeBy_exc hC ?_|wp_step)
 refine codeAny_call_builtin_code (Code.quiet_builtin _ F.excBase_ValueError.quiet) (wpAny_check_new_subT F.excBase_ValueError T hC ?_);refine codeAny_exc_new_subT F.excBase_ValueError T hC ?_ hrest;show wpAny _ _ _ _ _ _;have k:∀b o,h.get? b=some o->((h.push (HG rest)).push (GV C h.objs.size)).get? b=some o:=λb o e=>Bz _ (Bz _ e);have hC₁:=k _ _ hC;have hget:((h.push (HG rest)).push (GV C h.objs.size)).get? (h.objs.size+1)=some (GV C h.objs.size):=by heap_get
 have hcC:(Value.ref C::bm).contains (.ref C)=true:=by simp
 unfold isInstance
 repeat (first|with_reducible refine Im hget ?_|(with_reducible refine O2 hC₁ ?_;rw[hcC])|wp_step)
 show wpAny _ _ (typeLookup (.ref C) _) _ _ _;refine(hL.keeps k).at ?_;refine Gp (Ao (((hB _).keeps k).at ?_));refine Ao (CV hq (λv s' hv=>?_) λ_ _ z=>z);obtain⟨rfl,hv⟩:=hv
 wp_walk
 exact hv
theorem Ri {rest:List Value}{f:Addr}(ct:ClsT h C N bm)(hL:Looks (model prog w) h (typeLookup (.ref C) "__init__") (some (.ref f)))(hB:∀self,Looks (model prog w) h (bindSpecial (.ref f) self) (.ref f,[self]))
  (hq:codeAny (model prog w) (A.under (.builtin "type.__call__" ⟨.ref C::rest,[]⟩)) (.call (.ref f) ⟨.ref (h.objs.size+1)::rest,[]⟩) (Sd (h.objs.size+1) R) ⟨(h.push (HG rest)).push (GV C h.objs.size),g,d,t,os⟩) (hrest:rest.length<=sizeLine) :
  codeAny (model prog w) A (.call (.ref C) ⟨rest,[]⟩) R ⟨h,g,d,t,os⟩:=by
 have f1:=tc_lookup;have f2:=tc_bind (.ref C);obtain⟨nm,q,bs,hdct,sn,sub,ab,col,dd,k0,k1,k2,k3,k5,hC,T⟩:=id ct;have hT:(⟨h,g,d,t,os⟩:Shared).TypeIs (.ref C) "type":=⟨_,hC,rfl⟩
 refine codeAny_of_tree ?_;show wpAny _ _ (callAny (.ref C) _) _ _ _
 repeat (any_goals (first|assumption|with_reducible refine Im hC ?_|wp_step))
 refine⟨rfl,?_⟩;refine codeAny_call_builtin_at (Code.quiet_builtin _ (by decide +kernel)) entry_typeCall (wpAny_check_type_call_sub hC (Rm ct hL hB (Fn (Gk hq λr s' z=>?_)) hrest));rcases r with e|(v|_|_|_)<;>first|exact z|exact z.elim
end
end EX
namespace L2
open PySem PySem.Spec PyProof.Rows
section
open EX
section
variable {X:Cx}{pins:List (Addr×Obj)}{σ:St}{H:Hp}{s:Shared}{M:Model}{A:Around}{E:Value->Shared->Prop}
theorem YZ {i:Nat}{n:Str}{v:V}{Q:Unit->Shared->Prop}(I:A7 X pins σ H s)(hN:X.N.Nodup)(hi:X.N[i]?=some n)(hl:X.env.scope.names.lookup n=some .local)(hv:σ[i]?=some (some v))
  (h:∀s',A7 X pins (σ.set i none) H s'->Q () s'):wpAny M A (unbindName X.env n) Q E s:=by
 obtain⟨m,hn,hloc⟩:=id I.loc;have hcls:(X.env.scope.kind == .class||(X.env.scope.kind == .module&&X.env.locals != X.env.globals))=false:=by rw[I.ok.kind];rfl
 have cne:=I.cne;obtain⟨u,r,q⟩:=hloc i n v hi hv (.inl hl);have hk:X.env.kindOf n=some .local:=hl;rcases q with⟨_,hm⟩|⟨hk2|hk2,_⟩;rotate_left
 .rw[hk]at hk2;cases hk2
 .rw[hk]at hk2;cases hk2
 obtain⟨oL,_,_,hoL,_⟩:=id hn;refine wpAny_unbindName_local hk hn hm hcls λh' u' hn' hs=>h _ ⟨I.ok,I.os,I.bare,⟨λb o e n hb hx=>?_,λb o e n hb hx=>?_,I.base.free,λb o e hx=>?_,I.base.tups,I.base.frzs,I.base.tbls⟩,⟨_,hn',λj y v' e1 e2 e3=>?_⟩,λy c e=>?_,I.free,I.freeC,λp hp=>?_,λb ob e=>?_,by simpa using I.len⟩
 .exact(hs.2 b (Ca (CB (Bo e) I.ok.above))).trans (I.base.keep b o e n hb hx)
 .obtain⟨sl,e1⟩:=I.base.slot b o e n hb hx;exact⟨sl,(hs.2 b (Ca (CB (Bo e) I.ok.above))).trans e1⟩
 .obtain⟨o',e1⟩:=I.base.there b o e hx;exact⟨o',(hs.2 b (Ca (CB (Bo e) I.ok.above))).trans e1⟩
 .have hiσ:i<σ.length:=by rw[I.len];exact(BQ.mp hi).1
  by_cases hj:j=i
  .subst hj;rw[NK hiσ]at e2;cases e2
  .rw[QY (Ne.symm hj)]at e2;obtain⟨u',r',q⟩:=hloc j y v' e1 e2 e3;refine⟨u',r',?_⟩;rcases q with⟨k,e⟩|⟨k,c,e,z⟩
   .refine .inl ⟨k,?_⟩;have:y≠n:=λe=>hj (MV hN e1 (e▸hi));simp[this,e]
   .exact .inr ⟨k,c,e,z.sameBut hs (cne y c e)⟩
 .obtain⟨w',z⟩:=I.cell y c e;exact⟨w',z.sameBut hs (cne y c e)⟩
 .obtain⟨e,n,ne,nf,d⟩:=I.pin p hp;exact⟨(hs.2 p.1 ne).trans e,n,ne,nf,d⟩
 .refine(I.hok b ob e).stay (λc w' hc q=>(hs.2 c ?_).trans q) (λ_ q=>q) λ_ _ q=>q;rintro rfl;rcases hc with rfl|hc
  .rw[I.free]at e;cases e
  .rw[I.free]at hc;cases hc
end
def Pk (i:Nat)(D:CY):CY:={nx:=fun σ H=>D.nx (σ.set i none) H,rt:=D.rt,bk:=fun σ H=>D.bk (σ.set i none) H,ct:=fun σ H=>D.ct (σ.set i none) H}
def Yk (K:Zc)(i:Nat)(Dc:Addr)(ts:Addr->TS)(th:Addr->Addr->Option Addr->TS):Addr->Addr->Option Addr->TS:=λa C d D σ H=>
 ∃N bm b,(∀h,K.In h->ClsT h C N bm)/\(Value.ref C::bm).contains (.ref Dc)=b/\if b=true then ts a (Pk i D) (σ.set i (some (.ref a))) H else th a C d D σ H
section
variable {X:Cx}{x n:Str}{np pos:Pos}{Dc:Addr}{b₀:Stmt}{suite:List Stmt}{rest:List ExceptHandler}{ts:Addr->TS}{th:Addr->Addr->Option Addr->TS}{i:Nat}
theorem VL {pins:List (Addr×Obj)}{D:CY}{f:Flow}{s:Shared}{a:Addr}(ok:X.Ok)(hN:X.N.Nodup)(hi:X.N[i]?=some n)(hl:X.env.scope.names.lookup n=some .local)(q:SP (X.held a) pins (Pk i D) f s) :
  wpAny (model X.prog X.w) X.A (do bindName X.env n .none;unbindBehindTheSuite X.env n pos) (λ_ s₅=>SP X pins D f s₅) X.xe s:=by
 have go:∀{σ:St} {H:Hp} {Q:Unit->Shared->Prop},A7 (X.held a) pins σ H s->(∀s',A7 X pins (σ.set i none) H s'->Q () s')->wpAny (model X.prog X.w) X.A (do bindName X.env n .none;unbindBehindTheSuite X.env n pos) Q X.xe s:=by
  intro σ H Q I hq;have I:=I.unheld ok;have hiσ:i<σ.length:=by rw[I.len];exact(BQ.mp hi).1
  refine Ao (wpAny_bindName (Hq (v:=.non) I hN hi (.inl hl) rfl (λs5 I5=>?_) (.inr hl)));unfold unbindBehindTheSuite;refine wpAny_onRaise (YZ (v:=.non) I5 hN hi hl (NK hiσ) λs6 I6=>hq s6 ?_);rw[List.set_set]at I6;exact I6
 cases f with
 |next=>obtain⟨σ',H',I,q⟩:=q;exact go I λs' I'=>⟨_,_,I',q⟩
 |brk=>obtain⟨σ',H',I,q⟩:=q;exact go I λs' I'=>⟨_,_,I',q⟩
 |cont=>obtain⟨σ',H',I,q⟩:=q;exact go I λs' I'=>⟨_,_,I',q⟩
 |ret u=>obtain⟨v,σ',H',I,r,q⟩:=q;exact go I λs' I'=>⟨v,_,_,I',r,q⟩
theorem Qh (hN:X.N.Nodup)(hi:X.N[i]?=some n)(hl:X.env.scope.names.lookup n=some .local)(hg:Gl X x)(hm:X.mg x=some (.ref Dc))(xd:XC X.K Dc)(hs:∀a,Dy (X.held a) (b₀::suite) (ts a))(hr:PH X rest th)(hdb:(x==("__debug__":Str))=false:=by decide) :
  PH X (.ExceptHandler (some (.Name x np)) (some n) (b₀::suite) pos::rest) (Yk X.K i Dc ts th):=by
 intro pins s σ H D a C d T I ha hx ht hne hT h;obtain⟨N,bm,b,ct,hb,h⟩:=h;obtain⟨N',bd,cd⟩:=xd.ct;have I':A7 (X.held a) pins σ H s:=I.held;refine wpAny_handleBy_cons (codeAny_handlers_test (FF I' hg hm ?_ hdb)) (by intro q;cases q);obtain⟨hp,g,dr,t,os⟩:=s;refine TR (ct hp I.kIn).at (cd hp I.kIn).at (cd hp I.kIn).base hx ?_;rw[hb];cases b with
 |
  false=>
  rw[A9 (by simp)]at h;exact hr pins _ σ H D a C d T I ha hx ht hne hT h
 |
  true=>
  rw[Ac rfl]at h;refine codeAny_handlers_suite_as (JD hx ht hne λh2 b2 x2 t2=>?_);have J:=I.fly (o:=Dv a C d) (ch:=[T]) (h':=h2) (b2.mono (λb z=>by cases z) λb z=>B5 _ z) ha (Lo x2) x2.there (λb z=>by rw[Bt.mp z];exact hT);rw[Mq ha]at J;refine Hq (X:=X.held a) (v:=.ref a) J.held hN hi (.inl hl) rfl (λs3 I3=>?_) (.inr hl);exact CV (hs a pins _ _ H _ I3 h) (λf s4 q=>VL I.ok hN hi hl q) λ_ _ z=>z.elim
end
section
variable {X:Cx}{k:Nat}{f C:Addr}{fd:FuncData}{ps:List Str}{sp:Sp}{CX:DS}{E:XK}{x:Str}{p pos:Pos}{e:Expr}{es:List Expr}{t:TA}
structure Pj (K:Zc)(C f:Addr):Prop where
 xc:XC K C
 init:PySem.W.findIn K (.ref C) "__init__"=some (some (.ref f))
 fn:PySem.W.isFn K (.ref f)=true
 kp:PySem.W.keepIn K (.ref C)=true
structure Yd (K:Zc)(C:Addr):Prop where
 xc:XC K C
 init:PySem.W.findIn K (.ref C) "__init__"=some (some (.builtin "ValueError.__init__"))
 kp:PySem.W.keepIn K (.ref C)=true
def T5 (C:Addr)(sp:Sp)(E:XK)(t:TA):TE:=fun σ H Q=>t σ H λvs H1=>vs.length<=1000/\∀a,H1 a=none->sp (.ref a::vs) (upd H1 a (DA a C none)) (λv H2=>v = .non/\Q (.ref a) H2) E
theorem Pt (M:Pj X.K C f)(F:AQ X.prog X.w X.K X.mg X.base CX k f fd ps sp)(hr:Ci (k+1) X.A)(hg:Gl X x)(hm:X.mg x=some (.ref C))(hb:AV X.K fd ps [])(hx:G7 CX X E)
  (ha:PA X (e::es) t) (hdb:(x==("__debug__":Str))=false:=by decide) (he:starEach (e::es) X.env=(false,eval e X.env)::starEach es X.env:=by rfl) (hpl:(backTo pos (starEach es X.env)).any (·.1)=false:=by rfl) :
  PE X (.Call (.Name x p) (e::es) [] pos) (T5 C sp E t):=by
 intro pins s σ H Q I h;refine Gm (FF I hg hm ?_ hdb);refine LB (h₀:=X.base) I.ok.mod.kin M.kp (AA (ha pos pins s σ H _ I h) λus s1 zz=>?_) he hpl;obtain⟨vs,H1,I1,r,l10,q⟩:=zz;refine⟨I1.kIn,?_⟩;obtain⟨hp,g,d,tk,os⟩:=s1;have hq:=q (hp.objs.size+1) (I1.hok.fresh (Ia _));have nx:Ga ((hp.push (HG us)).push (GV C hp.objs.size)) (hp.objs.size+1) (.ref C) none:=⟨_,_,_,by heap_get,rfl,rfl,rfl,rfl,rfl⟩
 have I2:=I1.laid (h':=(hp.push (HG us)).push (GV C hp.objs.size)) (t':=tk) (o:=DA (hp.objs.size+1) C none) (λb o e=>Bz _ (Bz _ e)) (Ia _) (Nc nx);have r2:AE (V.ref (hp.objs.size+1)::vs) (Value.ref (hp.objs.size+1)::us):=.cons rfl r;have hl:(Value.ref (hp.objs.size+1)::us).length=ps.length:=by rw[←r2.length];exact F.len _ _ _ _ hq
 have hb':=hb _ (Value.ref (hp.objs.size+1)::us) I2.kIn (by rw[D6];exact hl);rw[D6]at hb';obtain⟨N,bm,ct⟩:=M.xc.ct;refine Fn (Ri (ct hp I1.kIn) (PySem.W.looks_findIn I1.kIn M.init) (λself=>PySem.W.bind_fn I1.kIn self (CG.mp M.fn)) (Gk (F.run _ X.stack _ _ ⟨Value.ref (hp.objs.size+1)::us,[]⟩ (Value.ref (hp.objs.size+1)::us) _ _ E (hr.make C us []) (I2.env0.make C us []) hb' r2 hq) λr s' hq'=>?_) (by show us.length<=sizeLine;rw[←r.length,FP];lia));cases r with
 |error e=>exact hx pins σ _ _ e s' I2 hq'
 |
  ok fl=>
  cases fl with
  |
   ret u=>
   obtain⟨v,H',I3,rv,ev,q3⟩:=I2.after hq';subst ev;exact⟨rv,⟨V.ref (hp.objs.size+1),H',I3,rfl,q3⟩⟩
  |next=>exact False.elim hq'
  |brk=>exact False.elim hq'
  |cont=>exact False.elim hq'
end
end
section
open EX
structure XI (K:Zc)(C:Addr):Prop where
 xc:XC K C
 ca:PySem.W.findIn K (.ref C) "__class__"=some (some (.builtin "object.__class__"))
 cg:PySem.W.specialIn K (.builtin "object.__class__") "__get__"=some (some (.builtin "getset_descriptor.__get__"))
 ck:PySem.W.takesIn K (.builtin "object.__class__")=some true
theorem SQ {K:Zc}{x C:Addr}{ox:Obj}{od:Option Obj}(c:XI K C):PySem.W.KitX K (.ref x) (.ref C) (λh=>PySem.W.InstAt h x ox C od) where
 ty:=λ_ _ _ I=>I.type
 it:=λ_ _ X _=>by
  obtain⟨cdD,hcD,_⟩:=QZ c.xc.hd;unfold PySem.W.clsIn at hcD;split at hcD
  .rename_i c' d' cd' sl' ho;intro A' Q' E' s' k q;unfold isType loadHead;exact Ao (wpAny_loadPart (k _ _ (X _ _ ho)) (Bj q))
  .cases hcD
 ne:=λh tp dd its n sl X htp=>by
  obtain⟨cdD,hcD,_⟩:=QZ c.xc.hd;refine NR.mpr λq=>?_;have e:C=tp:=NT (CG.mp q);subst e;unfold PySem.W.clsIn at hcD;split at hcD
  .rename_i c' d' cd' sl' ho;have z:=(X _ _ ho).symm.trans htp;cases z
  .cases hcD
 ca:=λX I k=>Uq X I c.xc c.ca c.cg c.ck k
def G3 (H:Hp)(a C:Addr)(d:Option Addr):Prop:=(H a=some (DA a C d)\/H a=some (Dv a C d))/\(d=none\/∃dx fs,d=some dx/\H dx=some (.xd fs))
theorem G3.at {P:Program}{w:World}{H:Hp}{h:Heap}{a C:Addr}{d:Option Addr}(x:G3 H a C d)(ok:BA P w H h):∃tb,Cm h a (.ref C) d tb:=by
 rcases x.1 with e|e
 .exact⟨_,(HW ok e).at⟩
 .exact N8 ok e
theorem G3.inst {P:Program}{w:World}{H:Hp}{h:Heap}{a C:Addr}{d:Option Addr}(x:G3 H a C d)(ok:BA P w H h):∃ox od,PySem.W.InstAt h a ox C od:=by
 obtain⟨tb,oe,vs,h0,h1,h2,h3,_⟩:=x.at ok;have no:PySem.W.notCls oe=true:=by unfold PySem.W.notCls;rw[h3]
 rcases x.2 with e|⟨dx,fs,e,hd⟩
 .exact⟨oe,none,h0,h1,no,by rw[h2,e];exact True.intro⟩
 .obtain⟨mA,⟨o,_,_,ho,_⟩,_⟩:=(show BN P w H h dx (.xd fs) from ok dx _ hd)
  exact⟨oe,some o,h0,h1,no,by rw[h2,e];exact ho⟩
section
variable {X:Cx}{e o:Expr}{ta tv:TE}{f x:Str}{pos pos' p apos:Pos}
theorem RW:DU X (.builtin "isinstance") (λxs H Q=>∃a C d c cv b,xs=[.ref a,c]/\Mv c=some cv/\G3 H a C d/\XI X.K C/\PySem.W.kitOne X.K (.ref C) cv=some b/\Q (.bl b) H):=by
 intro pins s σ H xs us Q I r h;obtain⟨a,C,d,c,cv,b,rfl,hc,hx,xi,ek,q⟩:=h;obtain⟨u1,r1,rfl,ra,rr⟩:∃u1 r1,us=u1::r1/\AK (.ref a) u1/\AE [c] r1:=by cases r with|cons a b=>exact⟨_,_,rfl,a,b⟩
 obtain⟨u2,rfl,rc⟩:=Ep rr;obtain rfl:u1 = .ref a:=ra;have ec:u2=cv:=by
  cases c<;>first|(cases hc;done)|skip
  all_goals (simp only[Mv,Option.some.injEq]at hc;rw[←hc];exact rc)
 subst ec;obtain⟨ox,od,J⟩:=hx.inst I.hok;exact EV (SQ xi) I.kIn J ek (λz=>nomatch z) λtk=>⟨.bl b,H,I.tok _,rfl,q⟩
def Yo (K:Zc)(ta:TE)(f:Str):TE:=fun σ H Q=>ta σ H λx H1=>∃a C dx fs v,x = .ref a/\G3 H1 a C (some dx)/\H1 dx=some (.xd fs)/\XC K C/\BV K C f/\fs.lookup f=some v/\Q v H1
theorem Yh (he:PE X e ta)(hb:attributeBase e f X.env (eval e X.env)=eval e X.env):PE X (.Attribute e f pos) (Yo X.K ta f):=by
 intro pins s σ H Q I h;refine QM hb (AA (he pins s σ H _ I h) λu s1 zz=>?_);obtain⟨x,H1,I1,rx,a,C,dx,fs,v,ex,hx,hd,c,n,l,q⟩:=zz;subst ex;obtain rfl:u=Value.ref a:=rx;obtain⟨tb,oe,vs,h0,h1,h2,h3,_⟩:=hx.at I1.hok;obtain⟨mA,ns,rl⟩:=(show BN X.prog X.w H1 s1.heap dx (.xd fs) from I1.hok dx _ hd)
 obtain⟨od,ho,hl⟩:=O3 ns;have J:PySem.W.InstAt s1.heap a oe C (some od):=⟨h0,h1,by unfold PySem.W.notCls;rw[h3],by rw[h2];exact ho⟩
 obtain⟨u,hu,ru⟩:=F9.some_of (v:=v) (o:=mA f) (by rw[←l];exact rl f);exact WQ I1.kIn J c (PySem.W.findObj_own c.hd n rfl (by rw[hl,hu])) (Q1 ru) ⟨v,H1,I1.tok _,ru,q⟩
def YY (K:Zc)(ta tv:TE)(f:Str):TS:=λD σ H=>tv σ H λy H1=>ta σ H1 λx H2=>∃a C,x = .ref a/\H2 a=some (DA a C none)/\XC K C/\BV K C f/\
 ∀dx,H2 dx=none->dx≠a->D.nx σ (upd (upd H2 dx (.xd [(f,y)])) a (DA a C (some dx)))
theorem Yz (ha:PE X o ta)(hv:PE X e tv)(hs:swapsWith e (some (.Attribute o f pos')) pos.line X.env=pure false):PS X (.Assign [.Attribute o f pos'] e pos) (YY X.K ta tv f):=by
 intro pins s σ H D I h;refine Zb (AA (hv pins s σ H _ I h) λu s1 zz=>?_) hs;obtain⟨y,H1,I1,ry,q⟩:=zz;refine AA (ha pins s1 σ H1 _ I1 q) λov s2 zz=>?_;obtain⟨x,H2,I2,rx,a,C,ex,hx,c,n,q2⟩:=zz;subst ex;obtain rfl:ov=Value.ref a:=rx;obtain⟨oe,vs,t0,h0,h1,h2,h3,h4,h5⟩:=HW I2.hok hx;refine Wp I2.kIn h0 h1 (by unfold PySem.W.notCls;rw[h3]) h2 c n λh' tk' kp hx' ns=>?_;have fr:H2 s2.heap.objs.size=none:=I2.hok.fresh (Aq _);have ne:s2.heap.objs.size≠a:=Hb (Bo h0);have q3:=q2 s2.heap.objs.size fr ne;have nw:Ga h' a (.ref C) (some s2.heap.objs.size):=⟨_,vs,t0,hx',h1,rfl,h3,h4,h5⟩
 refine⟨σ,_,?_,q3⟩;have nof:∀b v,H2 b=some v->(∀ψ,v≠.ext ψ)->b≠a:=λb v e n z=>by rw[z,hx]at e;cases e;exact n _ rfl
 have nod:∀b v,H2 b=some v->b≠s2.heap.objs.size:=λb v e z=>by rw[z,fr]at e;cases e
 have nob:∀b v,s2.heap.get? b=some v->b≠s2.heap.objs.size:=λb v e=>Ca (Bo e);have none_a:∀b,H2 b=none->b≠a:=λb e z=>by rw[z,hx]at e;cases e
 refine I2.un (t':=tk') ⟨λb ob q n _ _=>kp b ob (none_a b n) q,λb ob q n _ _=>⟨ob.slots,kp b ob (none_a b n) q⟩,λb ob q n _=>?_,λb ob q _=>?_,λb xs q=>?_,λb ob v q=>?_,λb ps q=>⟨#[],?_⟩⟩ λb v e=>?_
 .rw[Aa (none_a b n),Aa (nob b _ q)];exact n
 .by_cases z:b=a
  .rw[z];exact⟨_,hx'⟩
  .exact⟨ob,kp b ob z q⟩
 .rw[Aa (nof b _ q fun ψ z=>by cases z),Aa (nod b _ q)];exact q
 .rw[Aa (nof b _ q fun ψ z=>by cases z),Aa (nod b _ q)];exact q
 .rw[Aa (nof b _ q fun ψ z=>by cases z),Aa (nod b _ q),q];simp
 .by_cases z:b=a
  .subst z;rw[A3]at e;cases e;exact Nc nw
  .rw[Aa z]at e;by_cases z2:b=s2.heap.objs.size
   .subst z2;rw[A3]at e;cases e;refine⟨_,ns,λg=>?_⟩;by_cases hg:g=f
    .subst hg;rw[Ac rfl];simp only[List.lookup,beq_self_eq_true];exact ry
    .rw[A9 hg];have hb:(g==f)=false:=EF.mpr hg;simp only[List.lookup,hb];trivial
   .rw[Aa z2]at e;refine(I2.hok b v e).stay (λc o hc q=>kp c o ?_ q) (λc q=>?_) λc xs q=>?_
    .rcases hc with rfl|hc
     .exact z
     .exact nof c _ hc fun ψ y=>by cases y
    .rw[Aa (nof c _ q fun ψ y=>by cases y),Aa (nod c _ q)];exact q
    .rw[Aa (nof c _ q fun ψ y=>by cases y),Aa (nod c _ q)];exact q
def Uh (K:Zc)(t:TA):TE:=fun σ H Q=>t σ H λvs H1=>∃a C d v,vs=[.ref a,v]/\H1 a=some (DA a C d)/\XC K C/\Q .non H1
structure XB (K:Zc)(D:Addr):Prop where
 ga:PySem.W.specialIn K (.ref D) "__getattribute__"=some (some (.builtin "type.__getattribute__"))
 rd:PySem.W.readsIn K D (.type "type")=true
 fc:PySem.W.findCls K (.ref D) (.type "type") "__init__"=some (.val (.builtin "ValueError.__init__"))
theorem WK {D:Addr}{es:List Expr}{t:TA}{pl:Sem Bool}(hg:Gl X x)(hm:X.mg x=some (.ref D))(c:XB X.K D)(ha:PA X (e::es) t)(hdb:(x==("__debug__":Str))=false:=by decide)
  (hst:starEach (e::es) X.env=(false,eval e X.env)::starEach es X.env:=by rfl) (hpl:(backTo pos (starEach es X.env)).any (·.1)=false:=by rfl)
  (ht:eval (.Call (.Attribute (.Name x p) "__init__" apos) (e::es) [] pos) X.env=(do
   let ov ←eval (.Name x p) X.env
   standAt apos.atName
   let (f,first) ←holding [ov] (getMethod ov "__init__" pl)
   callWith pos f first (backTo pos (starEach (e::es) X.env)) (backToKw pos (keywordEach [] X.env))):=by rfl) :
  PE X (.Call (.Attribute (.Name x p) "__init__" apos) (e::es) [] pos) (Uh X.K t):=by
 intro pins s σ H Q I h;refine PySem.W.methodCall_KW (pl:=pl) (FF I hg hm ?_ hdb) ht;refine PySem.W.method_cls I.kIn c.ga ?_;refine PySem.W.cls_value I.kIn c.rd c.fc rfl ?_;have I0:A7 X pins σ H {s with toks:=s.toks+1}:=I.tok _;refine Z9 (AA (ha pos pins _ σ H _ I0 h) λus s1 zz=>?_) hst hpl;obtain⟨vs,H1,I1,r1,a,C,d,v,ev,hx,xc,q1⟩:=zz;subst ev;obtain⟨u1,r1',rfl,ra,rr⟩:∃u1 r1',us=u1::r1'/\AK (.ref a) u1/\AE [v] r1':=by cases r1 with|cons a b=>exact⟨_,_,rfl,a,b⟩
 obtain⟨u2,rfl,rv⟩:=Ep rr;obtain rfl:u1 = .ref a:=ra;obtain⟨oe,vs,t0,h0,h1,h2,h3,h4,h5⟩:=HW I1.hok hx;refine Fn (Vo I1.kIn h0 h1 h3 h4 xc λh' kp hx'=>?_);have nw:Ga h' a (.ref C) d:=⟨_,_,_,hx',h1,h2,rfl,by
  have hz:0<vs.size:=(LK.mp h4).1;simp[hz];rfl,by
  rw[Array.getElem?_setIfInBounds_ne (by decide)];exact h5⟩
 have J:=I1.write (x:=a) (e:=a) (o:=DA a C d) (h':=h') (t':=s1.toks) (by rw[hx];exact True.intro) (.inl rfl) kp ⟨_,hx'⟩ (Nc nw);rw[Mq hx]at J;exact⟨.non,H1,J,rfl,q1⟩
end
end
section
open EX
section
variable {P:Program}{w:World}{K:Zc}{mg:Str->Option Value}{base:Heap}
end
section
variable {X:Cx}{k:Nat}{f:Addr}{fd:FuncData}{ps:List Str}{sp:Sp}{x:Str}{p pos:Pos}{e:Expr}{es:List Expr}{t:TA}
end
end
section
open EX
def JX (K:Zc)(C:Addr)(own:List Addr):Bool:=match K.lookup C with
 |
  some ⟨.type "type",_,.cls cd,sl⟩=>(match cd.mro,sl.toList with
  |.ref C'::bm,[_,_,_,_,some (.builtin n),_]=>C'==C&&n=="ValueError.__new__"&&!cd.hasDel&&bm==own.map Value.ref++bmVE&&PySem.W.tailIn K bmVE bm
  |_,_=>false)
 |_=>false
theorem HN {K:Zc}{C:Addr}{own:List Addr}(q:JX K C own=true):∃N,∀h,K.In h->ClsT h C N (own.map Value.ref++bmVE):=by
 unfold JX at q;split at q
 .rename_i dd cd sl ho;split at q
  .rename_i C' bm k0 k1 k2 k3 n k5 hm hs;simp only[Hc,CG,Bool.not_eq_true']at q;obtain⟨⟨⟨⟨rfl,rfl⟩,hdel⟩,hb⟩,ht⟩:=q;obtain⟨nm,bs,mro,ns,qn,hd,sn,sub,ab,col,del⟩:=cd;dsimp only at hm hdel;subst hm hdel;have hsl:sl = #[k0,k1,k2,k3,some (.builtin "ValueError.__new__"),k5]:=by
    obtain⟨l⟩:=sl;simp only at hs;rw[hs]
   subst hsl;rw[←hb];exact⟨ns,λh X=>⟨nm,qn,bs,hd,sn,sub,ab,col,dd,k0,k1,k2,k3,k5,X _ _ ho,PySem.W.tail_of_in X ht⟩⟩
  .cases q
 .cases q
def T8:Addr->Addr->Option Addr->TS:=λ_ _ _ _ _ _=>False
theorem OD {X:Cx}:PH X [] T8:=λ_ _ _ _ _ _ _ _ _ _ _ _ _ _ _ h=>h.elim
theorem Oi {C:Addr}{own:List Addr}{D:Addr}:(Value.ref C::(own.map Value.ref++bmVE)).contains (.ref D)=decide (D=C\/D∈own):=by
 rw[Ei,List.contains_iff_mem,decide_eq_true_iff];simp[bmVE]
end
end L2
namespace Rd
open PySem PySem.Spec L2 EX
theorem tx_nt:(Str.empty++("no program's text, by row ":Str)).length<=30:=by decide +kernel
theorem ln_nt {x y:Str}{n:Nat}(hx:x.length<=30)(hy:y.length<=n)(hn:n<=15000013):(x++y).length<=sizeLine:=by
 rw[AO,FP];lia
theorem same_put {H H1:Hp}{a:Addr}{o:HO}(e:Ae H H1)(h:H a=none):Ae H (upd H1 a o):=λb ob hb=>by
 rw[Aa (B0 hb h)];exact e b ob hb
def spNTi (C:Addr):Sp:=λvs H Q _=>∃(a:Addr) (n:Int),vs=[.ref a,.int n]/\H a=some (DA a C none)/\0<=n/\n<=1000000/\∀dx,H dx=none->dx≠a->Q .non (upd (upd H dx (.xd [("line",.int n)])) a (DA a C (some dx)))
def Whl (D:Dr):Prop:=D.sz≠none/\D.dd≠[]/\D.lp=[]
def spProg28 (K:Zc):Sp:=λvs H Q _=>∃(cl nl:Addr) (cs:List Int) (ns:List Str),vs=[.ref cl,.ref nl]/\A4 K H cl (cs.map V.int)/\cs.length<=63/\EO H nl ns/\∀(t rl dl:Addr) (H':Hp) (xs ys:List V) (R:Pw.Rw As Str) (Ds:List Dw) (ks:List Rk) (la:Int),Ae H H'->H' t=some (.tup [.ref rl,.ref dl])->H' rl=some (.lst xs)->AN (IL H') xs R->H' dl=some (.lst ys)->AN (DZ H') ys Ds->Rn ns R [] [la] Ds ks [] la->Ds≠[]->R.length<=70->Q (.ref t) H'
def rkW:Rk->List Str
 |.sz n=>["size",nS n]
 |.opn t=>["for",t.nm,AI t.lo,AI t.hi]
 |.fin=>["end"]
 |.ded tb sp _ t=>[AY tb sp,"=",t.wr]
theorem Kv (k:Rk):cds (rkS k)=wj ((rkW k).map cds):=by
 have b:cds (" ":Str)=[32]:=by decide +kernel
 cases k with
 |
  sz n=>
  show cds ("size "++nS n)=cds "size"++([32]++cds (nS n));rw[B4,←Br];congr 1
 |
  opn t=>
  show cds ("for "++t.nm++" "++AI t.lo++" "++AI t.hi)=cds "for"++([32]++(cds t.nm++([32]++(cds (AI t.lo)++([32]++cds (AI t.hi))))));have e:cds ("for ":Str)=cds "for"++[32]:=by decide +kernel
  rw[B4,B4,B4,B4,B4,b,e];simp only[Br]
 |fin=>rfl
 |
  ded tb sp ks t=>
  show cds (AY tb sp++" = "++t.wr)=cds (AY tb sp)++([32]++(cds "="++([32]++cds t.wr)));have e:cds (" = ":Str)=[32]++(cds "="++[32]):=by decide +kernel
  rw[B4,B4,e];simp only[Br]
theorem LW {nms ns:List Str}{t:Tw}(h:Twk nms ns t){c:Nat}(hc:c=10\/c=32\/c=59):c∉cds t.wr:=by
 rw[JJ h];exact Mc hc λk hk=>((G5 h).1.lk k hk).ok
theorem Rv {nms ns:List Str}{t:Tw}(h:Twk nms ns t):cds t.wr≠[]:=by
 rw[JJ h];obtain⟨e1,_⟩:=G5 h;intro z;cases hk:(BZ t).tk with
 |
  nil=>
  have:∀e:Ex,e.tk≠[]:=λe=>by
   cases e with
   |lf t=>exact Cq _ _
   |br e=>exact Cq _ _
   |jn c l r=>show l.tk++_≠[];simp
  exact this _ hk
 |
  cons k l=>
  rw[hk,F3]at z;have h1:=(Rb.mp z).1;have ok:=(e1.lk k (by rw[hk];exact AH)).ok;cases k with
  |s c=>cases h1
  |
   t w=>
   obtain⟨c,r,e,_⟩:=(Tk.whole ok).head;rw[e]at h1;cases h1
theorem Rx {ns:List Str}{k:Rk}(h:Rok ns k):∀w∈rkW k,cds w≠[]/\32∉cds w/\59∉cds w/\10∉cds w:=by
 intro w hw;cases k with
 |
  sz n=>
  obtain⟨g,_⟩:=DE (i:=n) (by have:=h.1;lia) h.2;simp only[rkW,Av,Cp,or_false]at hw;rcases hw with rfl|rfl
  .decide +kernel
  .exact⟨λe=>by have:=g.1;rw[e]at this;exact absurd this (by decide),Er g (by lia),Er g (by lia),Er g (by lia)⟩
 |
  opn t=>
  simp only[rkW,Av,Cp,or_false]at hw;rcases hw with rfl|rfl|rfl|rfl
  .decide +kernel
  .exact QO h.1
  .exact Li h.2.1
  .exact Li h.2.2
 |
  fin=>
  simp only[rkW,Av,Cp,or_false]at hw;subst hw;decide +kernel
 |
  ded tb sp ks t=>
  obtain⟨nms,lk,tk,_,_⟩:=h;simp only[rkW,Av,Cp,or_false]at hw;rcases hw with rfl|rfl|rfl
  .refine⟨λe=>?_,GU lk.ok,GU lk.ok,GU lk.ok⟩;have:=lk.ok.1.1;rw[cel_cds lk.ok.2.1]at e;have e:=(Rb.mp e).1;rw[e]at this;exact absurd this (by decide)
  .decide +kernel
  .exact⟨Rv tk,LW tk (.inr (.inl rfl)),LW tk (.inr (.inr rfl)),LW tk (.inl rfl)⟩
theorem Ug (k:Rk):rkW k≠[]:=by cases k<;>exact Cq _ _
theorem rk_split {ns:List Str}{k:Rk}(h:Rok ns k):IsSplit [32] (cds (rkS k)) ((rkW k).map cds):=by
 rw[Kv];refine LV (λz=>Ug k (Jt.mp z)) λw hw=>?_;obtain⟨z,hz,rfl⟩:=CK.mp hw;exact(Rx h z hz).2.1
theorem SL {ns nms:List Str}{tb:Str}{sp:List (Str×Int)}{t:Tw}(lk:Lk nms ns (.t (.c tb sp)))(tk:Twk nms ns t):IH tb sp (BZ t).tk (cds (AY tb sp++" = "++t.wr)):=by
 have e:cds (" = ":Str)=[32,61,32]:=by decide +kernel
 have d0:=OA (ks:=(BZ t).tk) lk.ok λk hk=>((G5 tk).1.lk k hk).ok;have e0:cds (AY tb sp++" = "++t.wr)=(C3 tb sp (BZ t).tk).take (cds (AY tb sp)).length++32::(61::32::BD (BZ t).tk):=by
  rw[B4,B4,e,JJ tk];unfold C3;rw[FN,Br];rfl
 have cl:=congrArg List.length (cel_cds (z:=tb) lk.ok.2.1);rw[An]at cl;have b1:=KH d0 (l':=(C3 tb sp (BZ t).tk).take (cds (AY tb sp)).length++32::(C3 tb sp (BZ t).tk).drop (cds (AY tb sp)).length) (.inr ⟨_,by lia,by unfold C3;rw[An];lia,rfl⟩);have e1:(C3 tb sp (BZ t).tk).take (cds (AY tb sp)).length++32::(C3 tb sp (BZ t).tk).drop (cds (AY tb sp)).length=cds (AY tb sp)++[32,61]++BD (BZ t).tk:=by
  unfold C3;rw[FN,Ic,Br];rfl
 rw[e1]at b1;refine KH b1 (.inr ⟨(cds (AY tb sp)++[32,61]).length,by rw[An];lia,by rw[An (as:=cds (AY tb sp)++[32,61])];exact Jr _ _,?_⟩);rw[FN,Ic,B4,B4,e,JJ tk];simp only[Br,Dx,FM]
theorem FZ {ns:List Str}{k:Rk}(h:Rok ns k):bare (cds (rkS k))≠[]/\Fx (bare (cds (rkS k))) k/\10∉cds (rkS k):=by
 cases k with
 |sz n=>exact UB (by have:=h.1;lia) h.2 (Kv (.sz n))
 |opn t=>exact YN h.1 h.2.1 h.2.2 (Kv (.opn t))
 |fin=>exact P0
 |
  ded tb sp ks t=>
  obtain⟨nms,lk,tk,rfl,_⟩:=h;exact Qx lk.ok (SL lk tk) t
theorem rk_len {ns:List Str}{k:Rk}(h:Rok ns k):(rkS k).length<=7000:=by
 cases k with
 |
  sz n=>
  obtain⟨g,_⟩:=DE (i:=n) (by have:=h.1;lia) h.2;have e:("size ":Str).length=5:=by decide +kernel
  have:=g.2.1;rw[cds_len]at this;show("size "++nS n).length<=7000;rw[AO];lia
 |
  opn t=>
  have hn:=h.1.2.1;rw[cds_len]at hn;have:=Q4 (t:=t) ⟨by lia,h.2.1.2,h.2.2.2⟩;show(HR t).length<=7000;lia
 |fin=>show("end":Str).length<=7000;decide +kernel
 |
  ded tb sp ks t=>
  obtain⟨nms,lk,tk,rfl,hs⟩:=h;have e:(" = ":Str).length=3:=by decide +kernel
  have h1:=Tk.len lk.ok;obtain⟨e1,e2,e3,_⟩:=G5 tk;have h2:=e1.len;rw[e3,e2]at h2;have h1:(AY tb sp).length<=150:=by rw[←cds_len];exact h1
  show(AY tb sp++" = "++t.wr).length<=7000;rw[AO,AO];lia
theorem stps_rds {f:Str->Nat}{ns:List Str}{D E:Dr}{ks:List Rk}(h:Stps f D ks E):(∀k∈ks,Rok ns k)->Rds f (ks.map rkS) D E:=by
 induction h with
 |nil=>exact λ_=>.nil
 |cons s _ ih=>exact λok=>.row (FZ (ok _ AH)).1 (FZ (ok _ AH)).2.1 s (ih λk hk=>ok k (B5 _ hk))
theorem sum_le {n:Nat}:∀{l:List Str},(∀y∈l,y.length<=n)->(l.map (·.length)).sum<=n*l.length
 |[],_=>Aq _
 |
  y::l,h=>by
  have h1:=h y AH;have h2:=sum_le (l:=l) λz hz=>h z (B5 _ hz);rw[BE,NQ,AJ,Nat.mul_succ];lia
def isD:Rk->Bool
 |.ded _ _ _ _=>true
 |_=>false
theorem OG {c:Nat}:∀{ws:List (List Nat)} {w:List Nat},w∈ws->c∈w->c∈wj ws
 |[a],w,hw,hc=>by rw[Bt.mp hw]at hc;exact hc
 |
  a::b::l,w,hw,hc=>by
  show c∈a++([32]++wj (b::l));rcases Av.mp hw with rfl|hw
  .exact Eh _ hc
  .exact Cz _ (Cz _ (OG (ws:=b::l) hw hc))
theorem rk_eq {ns:List Str}{k:Rk}(h:Rok ns k):61∈cds (rkS k)↔isD k=true:=by
 rw[Kv];cases k with
 |
  sz n=>
  obtain⟨g,_⟩:=DE (i:=n) (by have:=h.1;lia) h.2;refine⟨λz=>absurd z (J8 (by decide) λw hw=>?_),λz=>nomatch z⟩;obtain⟨y,hy,rfl⟩:=CK.mp hw;simp only[rkW,Av,Cp,or_false]at hy;rcases hy with rfl|rfl
  .decide +kernel
  .exact Er g (by lia)
 |
  opn t=>
  refine⟨λz=>absurd z (J8 (by decide) λw hw=>?_),λz=>nomatch z⟩;obtain⟨y,hy,rfl⟩:=CK.mp hw;simp only[rkW,Av,Cp,or_false]at hy;rcases hy with rfl|rfl|rfl|rfl
  .decide +kernel
  .exact DR h.1 (by lia)
  .exact G1 h.2.1 (by lia)
  .exact G1 h.2.2 (by lia)
 |fin=>exact⟨λz=>absurd z (by decide +kernel),λz=>nomatch z⟩
 |ded tb sp ks t=>exact⟨λ_=>rfl,λ_=>OG (w:=cds "=") (B5 _ AH) (by decide +kernel)⟩
theorem stps_dd {f:Str->Nat}{D E:Dr}{ks:List Rk}(h:Stps f D ks E):E.dd.length=D.dd.length+(ks.filter isD).length:=by
 induction h with
 |nil=>rfl
 |
  @cons D D' E k ks s _ ih=>
  rw[ih];cases k with
  |sz n=>obtain⟨_,_,_,rfl⟩:=s;rfl
  |opn t=>obtain⟨_,_,_,_,_,_,_,_,rfl⟩:=s;rfl
  |fin=>obtain⟨_,_,_,_,_,_,_,_,rfl⟩:=s;rfl
  |
   ded tb sp es t=>
   obtain⟨_,_,_,_,_,_,_,_,_,rfl⟩:=s;show(D.dd++[_]).length+_=_+((Rk.ded tb sp es t)::ks.filter isD).length;rw[An,Bf,AJ];lia
theorem stps_sz {f:Str->Nat}{n:Int}{E:Dr}{ks:List Rk}(h0:2<=n)(h1:n<=999999999999999999)(h:Stps f ⟨some n,[],[],[],0⟩ ks E):Stps f D0 (.sz n::ks) E:=.cons ⟨rfl,h0,h1,rfl⟩ h
theorem stps_sm {f:Str->Nat}{D E:Dr}{ks:List Rk}(h:Stps f D ks E):D.sz≠none->E.sz≠none:=by
 induction h with
 |nil=>exact id
 |
  @cons D D' E k ks s _ ih=>
  intro hn;refine ih ?_;cases k with
  |sz n=>obtain⟨_,_,_,rfl⟩:=s;exact λz=>nomatch z
  |opn t=>obtain⟨_,_,_,_,_,_,_,_,rfl⟩:=s;exact hn
  |fin=>obtain⟨_,_,_,_,_,_,_,_,rfl⟩:=s;exact hn
  |ded tb sp es t=>obtain⟨_,_,_,_,_,_,_,_,_,rfl⟩:=s;exact hn
def spOpened:Sp:=λvs H Q _=>∃(f:Str->Nat) (l:Addr) (ks:List Rk) (D:Dr) (ns:List Str),vs=[.ref l]/\H l=some (.lst ((ks.map rkS).map V.str))/\Stps f D0 ks D/\(∀k∈ks,Rok ns k)/\ks.length<=100/\∀(r:Addr) (H':Hp),Ae H H'->H' r=some (.lst ((lnm D.lp).map V.str))->Q (.ref r) H'
end Rd
namespace Rd
open PySem L2
def spl2:List Nat->List (List Nat)
 |[]=>[[]]
 |[c]=>[[c]]
 |
  c::d::l=>if c=93/\d=91 then[]::spl2 l else match spl2 (d::l) with
  |p::ps=>(c::p)::ps
  |[]=>[[c]]
theorem Ov {c:Nat}{l:List Nat}{n:Nat}(h:EM [93,91] l n)(h0:(c::l).take 2≠[93,91]):EM [93,91] (c::l) (n+1):=λk hk=>by
 cases k with
 |zero=>exact h0
 |succ k=>exact h k (by lia)
theorem spl2_is:∀l:List Nat,IsSplit [93,91] l (spl2 l)
 |
  []=>.one λk hk=>by
  rw[List.drop_nil];exact λz=>nomatch z
 |
  [c]=>.one λk hk=>by
  have:([c].drop k).length<=1:=by rw[BS];exact Nat.sub_le _ _
  intro z;have z:=congrArg List.length z;rw[Bb]at z;have:min 2 ([c].drop k).length=2:=z;lia
 |
  c::d::l=>by
  rw[spl2];by_cases h:c=93/\d=91
  .rw[Ac h,h.1,h.2];exact IsSplit.cut (p:=[]) (λk hk=>absurd hk (Rc _)) (spl2_is l)
  .rw[A9 h];have ih:=spl2_is (d::l);have h0:(c::d::l).take 2≠[93,91]:=λz=>by
    have z:[c,d]=[93,91]:=z;injection z with z1 z2;injection z2 with z2 _;exact h ⟨z1,z2⟩
   generalize hs:spl2 (d::l)=ps at ih;generalize hl:d::l=m at ih h0;cases ih with
   |one hn=>exact .one (Ov hn h0)
   |@cut p r ps hn t=>exact IsSplit.cut (p:=c::p) (Ov hn h0) t
def spotsF:List (List Nat)->Option (List (Str×Int))
 |[]=>some []
 |
  p::ps=>match Bv p,spotsF ps with
  |some s,some l=>some ((AC s.1,s.2)::l)
  |_,_=>none
def nmP (l:List Nat):List Nat:=if 91∈l then Cb 91 l else l
def afP (l:List Nat):List Nat:=if 91∈l then CS 91 l else[]
def cellF (l:List Nat):Option (Str×List (Str×Int)):=
 if AW (nmP l)/\(afP l).getLast?=some 93/\(spl2 (afP l).dropLast).length<=3 then(spotsF (spl2 (afP l).dropLast)).map λsp=>(AC (nmP l),sp) else none
def partF (l:List Nat):Option Tk:=
 if l.headD 0∈sg5 then some (.s (l.headD 0)) else if AW l then some (.t (.v (AC l))) else if C9 l then some (.t (.n (De l))) else(cellF l).map λp=>.t (.c p.1 p.2)
def two:Option Tk->Option (List Tk)->Option (List Tk)
 |some k,some ks=>some (k::ks)
 |_,_=>none
def partsF:Nat->List Nat->Option (List Tk)
 |_,[]=>some []
 |0,_::_=>none
 |n+1,c::l=>two (partF ((c::l).take (pend (c::l)))) (partsF n ((c::l).drop (pend (c::l))))
def oneF:List Tw×List Nat->Option Tw
 |([t],[])=>some t
 |_=>none
def termF (ks:List Tk):Option Tw:=match run ks ⟨[],[],true⟩ with
 |some ⟨T,S,false⟩=>oneF (jw 1 S T)
 |_=>none
def OptQ {α:Type}(o:Option α)(R:Hp->V->α->Prop)(H:Hp)(Q:VK):Prop:=match o with
 |none=>∀H',Ae H H'->Q .non H'
 |some y=>∀x H',Ae H H'->R H' x y->Q x H'
def spCellF (c:Cs):Sp:=λvs H Q _=>∃z:Str,vs=[.str z]/\z.length<=1000/\OptQ (cellF (cds z)) (λH' x p=>BM c H' (.c p.1 p.2) x) H Q
def spPartF (c:Cs):Sp:=λvs H Q _=>∃(z:Str) (d:Nat) (r:List Nat),vs=[.str z]/\z.length<=1000/\cds z=d::r/\(d∈sg5->r=[])/\OptQ (partF (cds z)) (λH' x k=>PtAt c H' x k) H Q
def RT (c:Cs)(H':Hp)(v:V)(ks:List Tk):Prop := ∃(l:Addr) (xs:List V),v = .ref l/\H' l=some (.lst xs)/\AN (PtAt c H') xs ks
def spPartsF (c:Cs):Sp:=λvs H Q _=>∃z:Str,vs=[.str z]/\z.length<=1000/\OptQ (partsF (cds z).length (cds z)) (RT c) H Q
def Wh {α:Type}(o:Option α)(R:Hp->V->α->Prop)(H':Hp)(v:V):Prop:=match o with
 |none=>v = .non
 |some y=>R H' v y
theorem OptQ.of {α:Type}{o:Option α}{R:Hp->V->α->Prop}{H:Hp}{Q:VK}(h:∀v H',Ae H H'->Wh o R H' v->Q v H'):OptQ o R H Q:=by
 cases o with
 |none=>exact λH' e=>h _ H' e rfl
 |some y=>exact λx H' e hx=>h x H' e hx
def Tk.Sg:Tk->Prop
 |.s c=>c∈sg5
 |.t (.j _ _ _)=>False
 |.t (.c _ sp)=>sp.length<=3
 |_=>True
theorem QW:∀{ps:List (List Nat)} {sp:List (Str×Int)},spotsF ps=some sp->sp.length=ps.length
 |[],_,h=>by cases h;rfl
 |
  p::ps,sp,h=>by
  rw[spotsF]at h;cases h1:Bv p with
  |none=>rw[h1]at h;cases h
  |
   some s=>
   cases h2:spotsF ps with
   |none=>rw[h1,h2]at h;cases h
   |
    some l=>
    rw[h1,h2]at h;cases h;rw[AJ,AJ,QW h2]
theorem cellF_len {l:List Nat}{p:Str×List (Str×Int)}(h:cellF l=some p):p.2.length<=3:=by
 unfold cellF at h;split at h
 .rename_i hc;cases hs:spotsF (spl2 (afP l).dropLast) with
  |none=>rw[hs]at h;cases h
  |
   some sp=>
   rw[hs]at h;cases h;show sp.length<=3;rw[QW hs];exact hc.2.2
 .cases h
def spTermF (c:Cs):Sp:=λvs H Q _=>∃(l:Addr) (xs:List V) (ks:List Tk),vs=[.ref l]/\H l=some (.lst xs)/\AN (PtAt c H) xs ks/\xs.length<=1000/\(∀k∈ks,k.Sg)/\OptQ (termF ks) (λH' x t=>BM c H' t x) H Q
theorem OQ:∀{sp:List (Str×Int)},(∀s∈sp,SpN s)->spotsF (sp.map λs=>cds (AI s))=some sp
 |[],_=>rfl
 |
  s::sp,h=>by
  rw[BE,spotsF,HY (h s AH),OQ λx hx=>h x (B5 _ hx)];show some ((AC (cds s.1),s.2)::sp)=some (s::sp);rw[ES]
theorem Mn {z:Str}{sp:List (Str×Int)}(ok:(Tk.t (.c z sp)).Ok):cellF (cds (AY z sp))=some (z,sp):=by
 obtain⟨hz,hne,hl3,hsp⟩:=ok;have hcel:=cel_cds (z:=z) hne;have nz:91∉cds z:=DR hz (by lia);have m:91∈cds (AY z sp):=by rw[hcel];exact Cz _ AH
 have e1:nmP (cds (AY z sp))=cds z:=by unfold nmP;rw[Ac m,hcel,(FE nz).1]
 have e2:afP (cds (AY z sp))=C4 (sp.map λs=>cds (AI s))++[93]:=by unfold afP;rw[Ac m,hcel,(FE nz).2]
 have e3:spl2 (C4 (sp.map λs=>cds (AI s)))=sp.map λs=>cds (AI s):=(spl2_is _).fn (Pa (by simpa using hne) λx hx=>by
  obtain⟨s,hs,rfl⟩:=CK.mp hx;exact G1 (hsp s hs) (by lia))
 unfold cellF;rw[e1,e2,R9,e3,Ac ⟨hz,List.getLast?_concat,by rw[Ag];exact hl3⟩,OQ hsp,ES];rfl
theorem Xf {k:Tk}(ok:k.Ok):partF (cds k.txt)=some k:=by
 cases k with
 |s c=>exact Ac (show c∈sg5 from ok)
 |
  t w=>
  obtain⟨c,r,ec,hc⟩:=(Tk.whole ok).head;have hh:¬(cds (Tk.t w).txt).headD 0∈sg5:=by rw[ec];exact hc
  unfold partF;rw[A9 hh];cases w with
  |j _ _ _=>exact ok.elim
  |
   v z=>
   show(if AW (cds z) then some (Tk.t (.v (AC (cds z)))) else _)=_;rw[Ac (show AW (cds z) from ok),ES]
  |
   n i=>
   obtain⟨g,d⟩:=DE ok.1 ok.2;show(if AW (cds (nS i)) then _ else if C9 (cds (nS i)) then some (Tk.t (.n (De (cds (nS i))))) else _)=_;rw[A9 (OV g),Ac g,d]
  |
   c z sp=>
   have m91:(91:Nat)∈cds (AY z sp):=by rw[cel_cds ok.2.1];exact Cz _ AH
   show(if AW (cds (AY z sp)) then _ else if C9 (cds (AY z sp)) then _ else(cellF (cds (AY z sp))).map _)=_;rw[A9 (Kt m91 (by lia)),A9 (K2 m91 (by lia)),Mn ok];rfl
theorem Ma:∀{ks:List Tk} {n:Nat},(∀k∈ks,k.Ok)->Dz ks->ks.length<=n->partsF n (BD ks)=some ks
 |[],n,_,_,_=>by cases n<;>rfl
 |k::ks,0,_,_,h=>absurd h (Nat.not_succ_le_zero _)
 |
  k::ks,n+1,ok,ad,h=>by
  have okk:=ok k AH;obtain⟨hp,hp1⟩:=QV okk (l:=ks) (λx hx=>ok x (B5 _ hx)) ad;have ih:=Ma (ks:=ks) (n:=n) (λx hx=>ok x (B5 _ hx)) (MH ad) (Nat.le_of_succ_le_succ h);rw[F3];cases hc:cds k.txt with
  |nil=>rw[hc]at hp1;exact absurd hp1 (by decide)
  |
   cons c r=>
   rw[hc]at hp;have e1:(c::r++BD ks).take (pend (c::r++BD ks))=cds k.txt:=by rw[hp,FN,hc]
   have e2:(c::r++BD ks).drop (pend (c::r++BD ks))=BD ks:=by rw[hp,Ic]
   rw[Dx]at e1 e2 ⊢;rw[partsF,e1,e2,Xf okk,ih];rfl
theorem M7:∀{ks:List Tk},(∀k∈ks,k.Ok)->Dz ks->ks.length<=(BD ks).length
 |[],_,_=>Aq _
 |
  k::ks,ok,ad=>by
  obtain⟨_,hp1⟩:=QV (ok k AH) (l:=ks) (λx hx=>ok x (B5 _ hx)) ad;have:=M7 (ks:=ks) (λx hx=>ok x (B5 _ hx)) (MH ad);rw[F3,An,AJ];lia
theorem partF_sg {l:List Nat}{k:Tk}(h:partF l=some k):k.Sg:=by
 unfold partF at h;split at h
 .rename_i hc;cases h;exact hc
 .split at h
  .cases h;exact True.intro
  .split at h
   .cases h;exact True.intro
   .cases hc:cellF l with
    |none=>rw[hc]at h;cases h
    |some p=>rw[hc]at h;cases h;exact cellF_len hc
theorem partsF_sg:∀{n:Nat} {l:List Nat} {ks:List Tk},partsF n l=some ks->∀k∈ks,k.Sg
 |
  n,[],ks,h=>by
  have:ks=[]:=by cases n<;>cases h<;>rfl
  rw[this];exact λk hk=>nomatch hk
 |0,_::_,ks,h=>nomatch h
 |
  n+1,c::l,ks,h=>by
  rw[partsF]at h;cases h1:partF ((c::l).take (pend (c::l))) with
  |none=>rw[h1]at h;cases h
  |
   some k=>
   cases h2:partsF n ((c::l).drop (pend (c::l))) with
   |none=>rw[h1,h2]at h;cases h
   |
    some ls=>
    rw[h1,h2]at h;cases h;intro x hx;rcases Av.mp hx with rfl|hx
    .exact partF_sg h1
    .exact partsF_sg h2 x hx
theorem Va {ks:List Tk}{x z:Sta}{i:Nat}{k:Tk}(h:run (ks.take i) x=some z)(hk:ks[i]?=some k)(hs:step z k=none):run ks x=none:=by
 have hi:=(BQ.mp hk).1;have e:ks=ks.take i++(k::ks.drop (i+1)):=by
  have h2:=Gi hi;rw[BC hi]at hk;rw[Co hk]at h2;rw[←h2,LH]
 rw[e,run_app h,run,hs]
theorem termF_bad {ks:List Tk}{z:Sta}{i:Nat}{k:Tk}(h:run (ks.take i) ⟨[],[],true⟩=some z)(hk:ks[i]?=some k)(hs:step z k=none):termF ks=none:=by
 unfold termF;rw[Va h hk hs]
theorem Wt.stepS {x y:Sta}{k:Tk}(w:Wt x)(ok:k.Sg)(h:Rd.step x k=some y):Wt y:=by
 cases k with
 |s c=>exact w.step (k:=.s c) ok h
 |
  t t=>
  obtain⟨T,S,due⟩:=x;cases due with
  |false=>cases h
  |
   true=>
   have h:some (⟨t::T,S,false⟩:Sta)=some y:=h;cases h;exact⟨w.sg,by have:Rd.nb S+0=T.length:=w.nb;show Rd.nb S+1=T.length+1;lia⟩
def SpoO (H:Hp)(v:V)(p:List Nat):Prop:=match Bv p with
 |none=>v = .non
 |some s=>Ck H v (AC s.1,s.2)
theorem SpoO.over {H H':Hp}(e:Ae H H'){v:V}{p:List Nat}(h:SpoO H v p):SpoO H' v p:=by
 unfold SpoO at h ⊢;cases hp:Bv p with
 |none=>rw[hp]at h;exact h
 |some s=>rw[hp]at h;exact Ck.tk (Ae.tk e) h
theorem spo_some {H:Hp}{v:V}{p:List Nat}(h:SpoO H v p):(Bv p).isSome=!decide (v = .non):=by
 unfold SpoO at h;cases hp:Bv p with
 |none=>rw[hp]at h;rw[h];rfl
 |
  some s=>
  rw[hp]at h;obtain⟨t,rfl,_⟩:=h;rfl
theorem spots_all:∀{ps:List (List Nat)} {sp:List (Str×Int)},spotsF ps=some sp->(ps.map λp=>(Bv p).isSome).all id=true
 |[],_,_=>rfl
 |
  p::ps,sp,h=>by
  rw[spotsF]at h;cases h1:Bv p with
  |none=>rw[h1]at h;cases h
  |
   some s=>
   cases h2:spotsF ps with
   |none=>rw[h1,h2]at h;cases h
   |
    some l=>
    rw[BE,EW,h1,spots_all h2];rfl
theorem spots_all_none:∀{ps:List (List Nat)},spotsF ps=none->(ps.map λp=>(Bv p).isSome).all id=false
 |[],h=>nomatch h
 |
  p::ps,h=>by
  rw[spotsF]at h;rw[BE,EW];cases h1:Bv p with
  |none=>rfl
  |
   some s=>
   cases h2:spotsF ps with
   |none=>rw[spots_all_none h2];rfl
   |some l=>rw[h1,h2]at h;cases h
theorem spots_at {H:Hp}:∀{ps:List (List Nat)} {sp:List (Str×Int)} {ys:List V},spotsF ps=some sp->AN (SpoO H) ys ps->AN (Ck H) ys sp
 |
  [],sp,ys,h,pa=>by
  cases h;exact⟨pa.1,λ_ _ _ _ x=>nomatch x⟩
 |p::ps,sp,[],h,pa=>nomatch pa.1
 |
  p::ps,sp,y::ys,h,pa=>by
  rw[spotsF]at h;cases h1:Bv p with
  |none=>rw[h1]at h;cases h
  |
   some s=>
   cases h2:spotsF ps with
   |none=>rw[h1,h2]at h;cases h
   |
    some l=>
    rw[h1,h2]at h;cases h;have h0:SpoO H y p:=pa.2 0 y p rfl rfl;unfold SpoO at h0;rw[h1]at h0;have ih:=spots_at h2 (ys:=ys) ⟨Nat.succ.inj pa.1,λi a b ha hb=>pa.2 (i+1) a b ha hb⟩;refine⟨congrArg Nat.succ ih.1,λi a b ha hb=>?_⟩;cases i with
    |zero=>cases ha;cases hb;exact h0
    |succ i=>exact ih.2 i a b ha hb
theorem cut_lastI {I:List Nat}(h:I.getLast?=some 93):CM I none (some (-1))=I.dropLast:=by
 obtain⟨l,rfl⟩:∃l,I=l++[93]:=by
  obtain⟨l,e⟩:=List.getLast?_eq_some_iff.mp h;exact⟨l,e⟩
 rw[WU,R9]
def pre (a:List Tk)(o:Option (List Tk)):Option (List Tk):=o.map (a ++ ·)
theorem pre_nil (o:Option (List Tk)):pre [] o=o:=by cases o<;>rfl
theorem pre_none {a:List Tk}{o:Option (List Tk)}:pre a (two none o)=none:=rfl
theorem pre_some {a:List Tk}{k:Tk}{o:Option (List Tk)}:pre a (two (some k) o)=pre (a++[k]) o:=by
 cases o with
 |none=>rfl
 |
  some l=>
  show some (a++k::l)=some ((a++[k])++l);rw[Br];rfl
theorem pre_some_nil {a:List Tk}:pre a (some [])=some a:=by
 show some (a++[])=some a;rw[D6]
theorem partsF_nil (n:Nat):partsF n []=some []:=by cases n<;>rfl
theorem partsF_cons {n:Nat}{l:List Nat}(h:l≠[]):partsF (n+1) l=two (partF (l.take (pend l))) (partsF n (l.drop (pend l))):=by
 cases l with
 |nil=>exact absurd rfl h
 |cons c l=>rfl
theorem part_head {l:List Nat}(h:l≠[]):∃d r,l.take (pend l)=d::r/\(d∈sg5->r=[]):=by
 cases l with
 |nil=>exact absurd rfl h
 |
  cons c l=>
  by_cases hc:c∈sg5
  .refine⟨c,[],?_,λ_=>rfl⟩;rw[pend,Ac hc];rfl
  .have hp:=(pend_pos (l:=c::l) (Cq _ _)).1;obtain⟨m,hm⟩:∃m,pend (c::l)=m+1:=⟨pend (c::l)-1,by lia⟩
   exact⟨c,l.take m,by rw[hm];rfl,λz=>absurd z hc⟩
theorem PtAt.someS {c:Cs}{H:Hp}{v:V}{k:Tk}(h:PtAt c H v k)(ok:k.Sg):v≠.non:=by
 intro e;subst e;cases k with
 |s a=>cases h
 |
  t w=>
  cases w with
  |n i=>obtain⟨_,_,e,_⟩:=h;cases e
  |v z=>obtain⟨_,_,e,_⟩:=h;cases e
  |c z sp=>obtain⟨_,_,_,e,_⟩:=h;cases e
  |j _ _ _=>exact ok
def tknB (nm:List Str):Tk->Bool
 |.t (.v z)=>decide (z∈nm)
 |.t (.c _ sp)=>sp.all (knw nm)
 |_=>true
def spNamesF (CD:Addr)(c:Cs):Sp:=λvs H Q _=>∃(d l:Addr) (nm:List Str) (xs:List V) (ks:List Tk),vs=[.ref d,.ref l]/\M5 CD H d nm/\H l=some (.lst xs)/\AN (PtAt c H) xs ks/\(∀k∈ks,k.Sg)/\∀H',Ae H H'->Q (.bl (ks.all (tknB nm))) H'
def tabF:List (Str×Nat)->List Tk->Option (List (Str×Nat))
 |tb,[]=>some tb
 |
  tb,.t (.c z sp)::ks=>match tb.lookup z with
  |some m=>if m=sp.length then tabF tb ks else none
  |none=>tabF (tb++[(z,sp.length)]) ks
 |tb,_::ks=>tabF tb ks
def spTabF (CD:Addr)(c:Cs):Sp:=λvs H Q _=>∃(d l dx t:Addr) (fs:List (Str×V)) (xs:List V) (ks:List Tk) (tb:List (Str×Nat)),vs=[.ref d,.ref l]/\H d=some (.ins CD dx fs)/\fs.lookup (Str.ofString "tables")=some (.ref t)/\H t=some (.dK (tbK tb))/\tb.length+ks.length<=100000/\H l=some (.lst xs)/\AN (PtAt c H) xs ks/\(∀k∈ks,k.Sg)/\
 (tabF tb ks=none->∀H':Hp,(∀b o,H b=some o->b≠t->H' b=some o)->Q (.bl false) H')/\∀(H':Hp) (tb':List (Str×Nat)),tabF tb ks=some tb'->(∀b o,H b=some o->b≠t->H' b=some o)->H' t=some (.dK (tbK tb'))->Q (.bl true) H'
theorem tb_look:∀{tb:List (Str×Nat)} {z:Str},D9 (tbK tb) (.inr z)=(tb.lookup z).map λm:Nat=>V.int (m:Int)
 |[],z=>rfl
 |
  (y,m)::tb,z=>by
  have ih:=tb_look (tb:=tb) (z:=z);unfold D9 tbK at ih ⊢;rw[BE,LG,E1];by_cases h:y=z
  .have h1:decide (((.inr y:Bp),V.int (m:Int)).1=(.inr z:Bp))=true:=Bc (by rw[h]);have h2:(z==y)=true:=CG.mpr h.symm;rw[h1,h2];rfl
  .have h1:decide (((.inr y:Bp),V.int (m:Int)).1=(.inr z:Bp))=false:=Bg λe=>h (Sum.inr.inj e);have h2:(z==y)=false:=EF.mpr λe=>h e.symm;rw[h1,h2];exact ih
theorem tb_new {tb:List (Str×Nat)}{z:Str}(n:Nat)(e:D9 (tbK tb) (.inr z)=none):FG (tbK tb) (.inr z) (.int (n:Int))=tbK (tb++[(z,n)]):=by
 have hn:(tbK tb).find? (λkv=>decide (kv.1=(.inr z:Bp)))=none:=by
  unfold D9 at e;cases hf:(tbK tb).find? (λkv=>decide (kv.1=(.inr z:Bp))) with
  |none=>rfl
  |some q=>rw[hf]at e;cases e
 have hany:(tbK tb).any (λkv=>decide (kv.1=(.inr z:Bp)))=false:=by
  rw[List.any_eq_false];exact List.find?_eq_none.mp hn
 unfold FG;rw[hany];unfold tbK;rw[AR];rfl
theorem partsF_len:∀{n:Nat} {l:List Nat} {ks:List Tk},partsF n l=some ks->ks.length<=n
 |
  n,[],ks,h=>by
  have:ks=[]:=by cases n<;>cases h<;>rfl
  rw[this];exact BI _
 |0,_::_,ks,h=>nomatch h
 |
  n+1,c::l,ks,h=>by
  rw[partsF]at h;cases h1:partF ((c::l).take (pend (c::l))) with
  |none=>rw[h1]at h;cases h
  |
   some k=>
   cases h2:partsF n ((c::l).drop (pend (c::l))) with
   |none=>rw[h1,h2]at h;cases h
   |
    some ls=>
    rw[h1,h2]at h;cases h;exact NN (partsF_len h2)
end Rd
namespace Rd
open PySem L2
def lk (tb:List (Str×Nat))(z:Str):Nat:=(tb.lookup z).getD 0
theorem lk_ok:∀{tb:List (Str×Nat)},(tb.map (·.1)).Nodup->∀p∈tb,p.2=lk tb p.1
 |[],_,p,h=>nomatch h
 |
  (y,m)::tb,nd,p,h=>by
  rw[BE,Gc]at nd;unfold lk;rw[E1];rcases Av.mp h with rfl|h
  .rw[show(((y,m).1:Str)==y)=true from CG.mpr rfl];rfl
  .rw[show(p.1==y)=false from EF.mpr λe=>nd.1 (e▸CK.mpr ⟨p,h,rfl⟩)];exact lk_ok nd.2 p h
theorem Pz:∀{tb:List (Str×Nat)} {z:Str},tb.lookup z=none->z∉tb.map (·.1)
 |[],_,_=>λh=>nomatch h
 |
  (y,m)::tb,z,h=>by
  rw[E1]at h;by_cases e:z=y
  .rw[show(z==y)=true from CG.mpr e]at h;cases h
  .rw[show(z==y)=false from EF.mpr e]at h;rw[BE,Av,not_or];exact⟨e,Pz h⟩
theorem tabF_pre:∀{ks:List Tk} {tb tb':List (Str×Nat)},tabF tb ks=some tb'->(∃l,tb'=tb++l)/\((tb.map (·.1)).Nodup->(tb'.map (·.1)).Nodup)/\tb'.length<=tb.length+ks.length
 |
  [],tb,tb',h=>by
  cases h;exact⟨⟨[],(D6 _).symm⟩,id,Jr _ _⟩
 |
  .t (.c z sp)::ks,tb,tb',h=>by
  rw[tabF]at h;cases hl:tb.lookup z with
  |
   some m=>
   rw[hl]at h;have h:(if m=sp.length then tabF tb ks else none)=some tb':=h;split at h
   .obtain⟨h1,h2,h3⟩:=tabF_pre h;exact⟨h1,h2,by rw[AJ];lia⟩
   .cases h
  |
   none=>
   rw[hl]at h;obtain⟨⟨l,h1⟩,h2,h3⟩:=tabF_pre (ks:=ks) (tb:=tb++[(z,sp.length)]) h;refine⟨⟨(z,sp.length)::l,by rw[h1,Br];rfl⟩,λnd=>h2 ?_,by rw[AJ];rw[An,Bf]at h3;lia⟩;rw[AR,List.nodup_append];refine⟨nd,by simp,λa ha b hb=>?_⟩;have hb:b=z:=by simpa using hb
   rw[hb];exact λe=>Pz hl (e▸ha)
 |
  .s _::ks,tb,tb',h=>by
  obtain⟨h1,h2,h3⟩:=tabF_pre (ks:=ks) (tb:=tb) (show tabF tb ks=some tb' from h);exact⟨h1,h2,by rw[AJ];lia⟩
 |
  .t (.n _)::ks,tb,tb',h=>by
  obtain⟨h1,h2,h3⟩:=tabF_pre (ks:=ks) (tb:=tb) (show tabF tb ks=some tb' from h);exact⟨h1,h2,by rw[AJ];lia⟩
 |
  .t (.v _)::ks,tb,tb',h=>by
  obtain⟨h1,h2,h3⟩:=tabF_pre (ks:=ks) (tb:=tb) (show tabF tb ks=some tb' from h);exact⟨h1,h2,by rw[AJ];lia⟩
 |
  .t (.j _ _ _)::ks,tb,tb',h=>by
  obtain⟨h1,h2,h3⟩:=tabF_pre (ks:=ks) (tb:=tb) (show tabF tb ks=some tb' from h);exact⟨h1,h2,by rw[AJ];lia⟩
structure DrT (CD C:Addr)(c:Cs)(H:Hp)(A:Da)(D:Dr)(tb:List (Str×Nat)):Prop where
 dr:C5 CD C c (lk tb) H A D
 ht:H A.tl=some (.dK (tbK tb))
 nd:(tb.map (·.1)).Nodup
 ln:tb.length<=2000*D.dd.length
section
variable {CD C:Addr}{c:Cs}{H H':Hp}{A:Da}{D:Dr}{tb:List (Str×Nat)}
theorem DrT.over (e:Ae H H')(h:DrT CD C c H A D tb):DrT CD C c H' A D tb:=⟨h.dr.over e,e _ _ h.ht,h.nd,h.ln⟩
theorem DrT.re (h:DrT CD C c H A D tb){l:List (Str×Nat)}(nd:((tb++l).map (·.1)).Nodup):C5 CD C c (lk (tb++l)) H A D:=
 ⟨h.dr.o,h.dr.dd,⟨tb,h.ht,λp hp=>lk_ok nd p (Eh _ hp),h.ln⟩,h.dr.nm,h.dr.lo,h.dr.hi,h.dr.pa,h.dr.nd,h.dr.pl⟩
theorem DrT.to (h:DrT CD C c H A D tb){D':Dr}(d:C5 CD C c (lk tb) H' A D')(t:H' A.tl=some (.dK (tbK tb)))(l:D'.dd=D.dd):DrT CD C c H' A D' tb:=⟨d,t,h.nd,by rw[l];exact h.ln⟩
end
def sizeF:List Str->Option Int
 |[a,b]=>if a=Str.ofString "size"/\C9 (cds b)/\2<=De (cds b) then some (De (cds b)) else none
 |_=>none
def sT (l:List Nat×Int):Str×Int:=(AC l.1,l.2)
def twoF (nm:List Str)(n:Str):Option (List Nat×Int)->Option (List Nat×Int)->Option As
 |some a,some b=>if knw nm (sT a)=true/\knw nm (sT b)=true then some ⟨n,sT a,sT b⟩ else none
 |_,_=>none
def loopF (nm:List Str):List Str->Option As
 |[_,n,lo,hi]=>if nm.length≠3/\AW (cds n)/\n∉nm then twoF nm n (Bv (cds lo)) (Bv (cds hi)) else none
 |_=>none
def bE (l:List Nat):List Nat:=if 61∈l then Cb 61 l else l
def aE (l:List Nat):List Nat:=if 61∈l then CS 61 l else[]
def rowD (nm:List Str)(tb:List (Str×Nat))(p:Str×List (Str×Int))(ks:List Tk):Option Tw->Option (Str×List (Str×Int)×Tw×List (Str×Nat))
 |none=>none
 |some t=>if(Tk.t (.c p.1 p.2)::ks).all (tknB nm)=true then(tabF tb (Tk.t (.c p.1 p.2)::ks)).map λtb'=>(p.1,p.2,t,tb') else none
def U2 (nm:List Str)(tb:List (Str×Nat)):Option (Str×List (Str×Int))->Option (List Tk)->Option (Str×List (Str×Int)×Tw×List (Str×Nat))
 |some p,some ks=>rowD nm tb p ks (termF ks)
 |_,_=>none
def dedF (D:Dr)(tb:List (Str×Nat))(l:List Nat):Option (Str×List (Str×Int)×Tw×List (Str×Nat)):=
 if D.dd.length=6 then none else U2 (D.lp.map (·.nm)) tb (cellF (bE l)) (partsF (aE l).length (aE l))
def spSizeF (CD C:Addr)(c:Cs):Sp:=λvs H Q _=>∃(B:Da) (D:Dr) (tb:List (Str×Nat)) (w:Addr) (ws:List Str),vs=[.ref B.d,.ref w]/\DrT CD C c H B D tb/\H w=some (.lst (ws.map V.str))/\ws.length<=2000/\(∀y∈ws,y.length<=1000)/\
 (sizeF ws=none->∀H',Out B H H'->Q (.bl false) H')/\∀(n:Int) (H':Hp),sizeF ws=some n->Out B H H'->DrT CD C c H' B ⟨some n,D.dd,D.lp,D.pa,D.la⟩ tb->Q (.bl true) H'
def spLoopF (CD C:Addr)(c:Cs):Sp:=λvs H Q _=>∃(B:Da) (D:Dr) (tb:List (Str×Nat)) (w:Addr) (ws:List Str),vs=[.ref B.d,.ref w]/\DrT CD C c H B D tb/\H w=some (.lst (ws.map V.str))/\D.lp.length<=3/\ws.length<=2000/\(∀y∈ws,y.length<=1000)/\
 (loopF (D.lp.map (·.nm)) ws=none->∀H',Out B H H'->Q (.bl false) H')/\∀(t:As) (H':Hp),loopF (D.lp.map (·.nm)) ws=some t->Out B H H'->DrT CD C c H' B (opens D t) tb->Q (.bl true) H'
def spEndF (CD C:Addr)(c:Cs):Sp:=λvs H Q _=>∃(B:Da) (D:Dr) (tb:List (Str×Nat)) (w:Addr) (ws:List Str),vs=[.ref B.d,.ref w]/\DrT CD C c H B D tb/\H w=some (.lst (ws.map V.str))/\D.lp.length<=3/\ws.length<=2000/\
 (ws.length≠1\/D.lp=[]\/D.la=0->∀H',Out B H H'->Q (.bl false) H')/\∀(lp:List As) (t:As) (pa:List Int) (m:Int) (H':Hp),ws.length=1->D.lp=lp++[t]->D.pa=pa++[m]->D.la≠0->Out B H H'->DrT CD C c H' B ⟨D.sz,D.dd,lp,pa,m+1⟩ tb->Q (.bl true) H'
def spDeedF (CD C:Addr)(c:Cs):Sp:=λvs H Q _=>∃(B:Da) (D:Dr) (tb:List (Str×Nat)) (z:Str),vs=[.ref B.d,.str z]/\DrT CD C c H B D tb/\z.length<=1000/\D.dd.length<=6/\D.lp.length<=3/\
 (dedF D tb (cds z)=none->∀H',Out B H H'->Q (.bl false) H')/\∀(nm:Str) (sp:List (Str×Int)) (t:Tw) (tb':List (Str×Nat)) (H':Hp),dedF D tb (cds z)=some (nm,sp,t,tb')->Out B H H'->DrT CD C c H' B (does D nm sp t) tb'->Q (.bl true) H'
def Fu:List Nat->List (List Nat)
 |[]=>[[]]
 |
  c::l=>if c=32 then[]::Fu l else match Fu l with
  |p::ps=>(c::p)::ps
  |[]=>[[c]]
theorem Iq:∀l:List Nat,IsSplit [32] l (Fu l)
 |[]=>.one' (λh=>nomatch h)
 |
  c::l=>by
  rw[Fu];have ih:=Iq l;by_cases h:c=32
  .rw[Ac h,h];exact IsSplit.cut' (p:=[]) (λh=>nomatch h) ih
  .rw[A9 h];have key:∀{l:List Nat} {n:Nat},EM [32] l n->EM [32] (c::l) (n+1):=λhn k hk=>by
    cases k with
    |zero=>exact λz=>h (by injection z)
    |succ k=>exact hn k (by lia)
   generalize Fu l=ps at ih;cases ih with
   |one hn=>exact .one (key hn)
   |@cut p r ps hn t=>exact IsSplit.cut (p:=c::p) (key hn) t
def wdsF (l:List Nat):List Str:=((Fu l).map AC).filter λy:Str=>decide (y≠Str.ofString "")
theorem wdsF_is {l:List Nat}{ps:List Str}(h:IsSplit [32] l (ps.map cds)):(ps.filter λy:Str=>decide (y≠Str.ofString ""))=wdsF l:=by
 unfold wdsF;rw[←h.fn (Iq l),FO];congr 1;exact((R3 (f:=AC∘cds) (g:=id) λx _=>ES x).trans (List.map_id _)).symm
theorem wdsF_len {l:List Nat}(hl:l.length<=1000):(wdsF l).length<=2000/\∀y∈wdsF l,y.length<=1000:=by
 unfold wdsF;refine⟨?_,λy hy=>?_⟩
 .have h1:=Ju (λy:Str=>decide (y≠Str.ofString "")) ((Fu l).map AC);have h2:=split_many (by decide) (Iq l);rw[Ag]at h1;lia
 .obtain⟨x,hx,rfl⟩:=CK.mp (GZ.mp hy).1;have:=split_part (Iq l) x hx;rw[Df];lia
def Hs (D:Dr):List Str->Option Dr
 |
  [_]=>match D.lp.reverse,D.pa.reverse with
  |_::lp,m::pa=>if D.la=0 then none else some ⟨D.sz,D.dd,lp.reverse,pa.reverse,m+1⟩
  |_,_=>none
 |_=>none
abbrev Ft:=Dr×List (Str×Nat)
def takW (D:Dr)(tb:List (Str×Nat))(l:List Nat):List Str->Option Ft
 |[]=>none
 |
  w::ws=>if w=Str.ofString "for" then(loopF (D.lp.map (·.nm)) (w::ws)).map λt=>(opens D t,tb)
  else if w=Str.ofString "end" then(Hs D (w::ws)).map λd=>(d,tb)
  else if w=Str.ofString "size" then none
  else(dedF D tb (l.filter (·≠32))).map λp=>(does D p.1 p.2.1 p.2.2.1,p.2.2.2)
def takF (D:Dr)(tb:List (Str×Nat))(l:List Nat):Option Ft:=match D.sz with
 |none=>(sizeF (wdsF l)).map λn=>(⟨some n,D.dd,D.lp,D.pa,D.la⟩,tb)
 |some _=>takW D tb l (wdsF l)
def spTakF (CD C:Addr)(c:Cs):Sp:=λvs H Q _=>∃(B:Da) (D:Dr) (tb:List (Str×Nat)) (z:Str),vs=[.ref B.d,.str z]/\DrT CD C c H B D tb/\z.length<=1000/\D.dd.length<=6/\D.lp.length<=3/\wdsF (cds z)≠[]/\
 (takF D tb (cds z)=none->∀H',Out B H H'->Q (.bl false) H')/\∀(e:Ft) (H':Hp),takF D tb (cds z)=some e->Out B H H'->DrT CD C c H' B e.1 e.2->Q (.bl true) H'
theorem endF_yes {D:Dr}{ws:List Str}{lp:List As}{t:As}{pa:List Int}{m:Int}(w:ws.length=1)(h1:D.lp=lp++[t])(h2:D.pa=pa++[m])(h3:D.la≠0):Hs D ws=some ⟨D.sz,D.dd,lp,pa,m+1⟩:=by
 match ws,w with
 |
  [x],_=>
  unfold Hs;rw[h1,h2,LJ,LJ];show(if D.la=0 then none else some (⟨D.sz,D.dd,lp.reverse.reverse,pa.reverse.reverse,m+1⟩:Dr))=_;rw[A9 h3,Jp,Jp]
theorem endF_no {D:Dr}{ws:List Str}(h:ws.length≠1\/D.lp=[]\/D.la=0):Hs D ws=none:=by
 match ws with
 |[]=>rfl
 |_::_::_=>rfl
 |
  [x]=>
  unfold Hs;rcases h with h|h|h
  .exact absurd rfl h
  .rw[h];rfl
  .cases hl:D.lp.reverse with
   |nil=>rfl
   |
    cons t lp=>
    cases hp:D.pa.reverse with
    |nil=>rfl
    |cons m pa=>exact Ac h
theorem takF_ok {D:Dr}{tb:List (Str×Nat)}{l:List Nat}{e:Ft}(h:takF D tb l=some e)(h6:D.dd.length<=6)(h3:D.lp.length<=3):e.1.dd.length<=6/\e.1.lp.length<=3:=by
 unfold takF at h;cases hs:D.sz with
 |
  none=>
  rw[hs]at h;obtain⟨n,_,rfl⟩:=NU.mp h;exact⟨h6,h3⟩
 |
  some m=>
  rw[hs]at h;cases hw:wdsF l with
  |nil=>rw[hw]at h;cases h
  |
   cons w ws=>
   rw[hw]at h;unfold takW at h;dsimp only at h;split at h
   .obtain⟨t,ht,rfl⟩:=NU.mp h;refine⟨h6,?_⟩;show(D.lp++[t]).length<=3;rw[An,Bf];have:D.lp.length≠3:=λz=>by
     unfold loopF at ht;split at ht
     .rw[A9 (λy=>y.1 (by rw[Ag,z]))]at ht;cases ht
     .cases ht
    lia
   .split at h
    .obtain⟨d,hd,rfl⟩:=NU.mp h;unfold Hs at hd;split at hd
     .cases hl:D.lp.reverse with
      |nil=>rw[hl]at hd;cases hd
      |
       cons t lp=>
       cases hp:D.pa.reverse with
       |nil=>rw[hl,hp]at hd;cases hd
       |
        cons m pa=>
        rw[hl,hp]at hd;have hd:(if D.la=0 then none else some (⟨D.sz,D.dd,lp.reverse,pa.reverse,m+1⟩:Dr))=some d:=hd;split at hd
        .cases hd
        .cases hd;refine⟨h6,?_⟩;have:=congrArg List.length hl;rw[Ih,AJ]at this;show lp.reverse.length<=3;rw[Ih];lia
     .cases hd
    .split at h
     .cases h
     .obtain⟨p,hp,rfl⟩:=NU.mp h;refine⟨?_,h3⟩;show(D.dd++[_]).length<=6;have e:(D.dd++[(⟨D.lp,p.1,p.2.1,p.2.2.1,D.pa++[D.la]⟩:Dw)]).length=D.dd.length+1:=An;rw[e];have:D.dd.length≠6:=λz=>by
       unfold dedF at hp;rw[Ac z]at hp;cases hp
      lia
def rdF:List (List Nat)->Nat->Dr->List (Str×Nat)->Nat ⊕ Ft
 |[],_,D,tb=>.inr (D,tb)
 |
  r::rs,i,D,tb=>if bare r=[] then rdF rs (i+1) D tb else match takF D tb (bare r) with
  |none=>.inl (i+1)
  |some e=>rdF rs (i+1) e.1 e.2
def spReadF (CP C CX:Addr)(c:Cs):Sp:=λvs H Q E=>∃(z:Str) (rows:List Str),vs=[.str z]/\z.length<=900000/\IsSplit [10] (cds z) (rows.map cds)/\rows.length<=1000/\(∀y∈rows,y.length<=1000)/\
 (∀(e:Ft) (n:Int) (v:V) (H':Hp),rdF (rows.map cds) 0 D0 [] = .inr e->Whl e.1->e.1.sz=some n->Ae H H'->Yg CP C c H' v n e.1.dd->Q v H')/\
 ∀(i:Nat) (x dx:Addr) (H':Hp),(rdF (rows.map cds) 0 D0 [] = .inl i\/(∃e,rdF (rows.map cds) 0 D0 [] = .inr e/\¬Whl e.1)/\i=rows.length+1)->Ae H H'->H' x=some (Dv x CX (some dx))->H' dx=some (.xd [("line",.int (i:Int))])->E (.ref x) none H'
theorem wds_bare {l:List Nat}(h:bare l≠[]):wdsF (bare l)≠[]:=by
 intro z;have hf:=(Iq (bare l)).flat;have key:∀p∈Fu (bare l),p=[]:=λp hp=>by
  have hm:AC p∉wdsF (bare l):=by rw[z];exact λy=>nomatch y
  unfold wdsF at hm;rw[GZ,not_and]at hm;have h1:=hm (List.mem_map_of_mem hp);have h2:AC p=Str.ofString "":=Ig λn=>h1 (Bc n);have h3:=congrArg cds h2;rw[Bl]at h3;exact h3
 have h0:(Fu (bare l)).flatten=[]:=List.flatten_eq_nil_iff.mpr key;rw[h0]at hf;cases hb:bare l with
 |nil=>exact h hb
 |
  cons c r=>
  have hc:c≠32:=λe=>by
   unfold bare stp at hb;generalize (if 59∈l then Cb 59 l else l)=y at hb;have h1:(((y.dropWhile (· == 32)).reverse.dropWhile (· == 32)).reverse).head?=some c:=by rw[hb];rfl
   rw[List.head?_reverse]at h1;have h2:(y.dropWhile (· == 32)).reverse.getLast?=some c:=by
    generalize (y.dropWhile (· == 32)).reverse=u at h1;obtain⟨v,hv⟩:=List.dropWhile_suffix (l:=u) (· == 32);rw[←hv,List.getLast?_append,h1];rfl
   rw[List.getLast?_reverse]at h2;have h3:=List.head?_dropWhile_not (· == 32) y;rw[h2]at h3;rw[e]at h3;exact absurd h3 (by decide)
  rw[hb,Fl,Ac (F1.mpr hc)]at hf;cases hf
theorem drt0 {CD C:Addr}{c:Cs}{H:Hp}{A:Da}(h:C5 CD C c (lk []) H A D0):DrT CD C c H A D0 []:=by
 obtain⟨tb,h1,_,h3⟩:=h.tb;have e:tb=[]:=Fm (Nat.le_zero.mp h3);rw[e]at h1;exact⟨h,h1,NP,BI _⟩
end Rd
namespace Rd
open PySem L2
def CN (tb:List (Str×Nat)):List Str:=tb.map (·.1)
def E7 (f:Str->Nat)(tb:List (Str×Nat)):Prop := ∀p∈tb,p.2=f p.1
theorem MD {f:Str->Nat}:∀{tb:List (Str×Nat)},E7 f tb->∀{z:Str} {m:Nat},tb.lookup z=some m->m=f z/\z∈CN tb
 |[],_,z,m,h=>nomatch h
 |
  (y,n)::tb,hc,z,m,h=>by
  rw[E1]at h;by_cases e:z=y
  .rw[show(z==y)=true from CG.mpr e]at h;cases h;rw[e];exact⟨hc (y,n) AH,AH⟩
  .rw[show(z==y)=false from EF.mpr e]at h;obtain⟨h1,h2⟩:=MD (tb:=tb) (λp hp=>hc p (B5 _ hp)) h;exact⟨h1,B5 _ h2⟩
theorem QD:∀{tb:List (Str×Nat)} {z:Str},z∈CN tb->∃m,tb.lookup z=some m
 |[],_,h=>nomatch h
 |
  (y,n)::tb,z,h=>by
  rw[E1];by_cases e:z=y
  .rw[show(z==y)=true from CG.mpr e];exact⟨n,rfl⟩
  .rw[show(z==y)=false from EF.mpr e];exact QD ((Av.mp h).resolve_left e)
theorem Gs {f:Str->Nat}:∀{ks:List Tk} {tb:List (Str×Nat)},E7 f tb->(∀k∈ks,Ly f k)->∃tb',tabF tb ks=some tb'/\E7 f tb'/\(∀z∈CN tb,z∈CN tb')/\∀z sp,Tk.t (.c z sp)∈ks->z∈CN tb'
 |[],tb,hc,_=>⟨tb,rfl,hc,λ_ h=>h,λ_ _ h=>nomatch h⟩
 |
  .t (.c z sp)::ks,tb,hc,hk=>by
  have hz:f z=sp.length:=hk _ AH;have hk':∀k∈ks,Ly f k:=λk h=>hk k (B5 _ h);rw[tabF];cases hl:tb.lookup z with
  |
   some m=>
   obtain⟨h1,h2⟩:=MD hc hl;obtain⟨tb',r1,r2,r3,r4⟩:=Gs (ks:=ks) hc hk';refine⟨tb',(Ac (h1.trans hz)).trans r1,r2,r3,λz' sp' h=>?_⟩;rcases Av.mp h with h|h
   .cases h;exact r3 _ h2
   .exact r4 _ _ h
  |
   none=>
   obtain⟨tb',r1,r2,r3,r4⟩:=Gs (ks:=ks) (tb:=tb++[(z,sp.length)]) (λp hp=>by
    rcases By.mp hp with hp|hp
    .exact hc p hp
    .rw[Bt.mp hp];exact hz.symm) hk'
   have hin:∀y∈CN tb,y∈CN (tb++[(z,sp.length)]):=λy h=>by unfold CN;rw[AR];exact Eh _ h
   refine⟨tb',r1,r2,λy h=>r3 _ (hin y h),λz' sp' h=>?_⟩;rcases Av.mp h with h|h
   .cases h;exact r3 _ (by unfold CN;rw[AR];exact Cz _ AH)
   .exact r4 _ _ h
 |
  .s c::ks,tb,hc,hk=>by
  obtain⟨tb',r1,r2,r3,r4⟩:=Gs (ks:=ks) hc λk h=>hk k (B5 _ h);exact⟨tb',r1,r2,r3,λz sp h=>r4 z sp ((Av.mp h).resolve_left λe=>nomatch e)⟩
 |
  .t (.n i)::ks,tb,hc,hk=>by
  obtain⟨tb',r1,r2,r3,r4⟩:=Gs (ks:=ks) hc λk h=>hk k (B5 _ h);exact⟨tb',r1,r2,r3,λz sp h=>r4 z sp ((Av.mp h).resolve_left λe=>nomatch e)⟩
 |
  .t (.v y)::ks,tb,hc,hk=>by
  obtain⟨tb',r1,r2,r3,r4⟩:=Gs (ks:=ks) hc λk h=>hk k (B5 _ h);exact⟨tb',r1,r2,r3,λz sp h=>r4 z sp ((Av.mp h).resolve_left λe=>nomatch e)⟩
 |
  .t (.j y l r)::ks,tb,hc,hk=>by
  obtain⟨tb',r1,r2,r3,r4⟩:=Gs (ks:=ks) hc λk h=>hk k (B5 _ h);exact⟨tb',r1,r2,r3,λz sp h=>r4 z sp ((Av.mp h).resolve_left λe=>nomatch e)⟩
theorem FD:∀{ks:List Tk} {tb:List (Str×Nat)},(∃z sp m,Tk.t (.c z sp)∈ks/\tb.lookup z=some m/\m≠sp.length)->tabF tb ks=none
 |[],tb,⟨z,sp,m,h,_⟩=>nomatch h
 |
  .t (.c y sq)::ks,tb,⟨z,sp,m,h,hl,hm⟩=>by
  rw[tabF];cases hy:tb.lookup y with
  |
   some n=>
   by_cases e:n=sq.length
   .refine(Ac e).trans (FD ⟨z,sp,m,?_,hl,hm⟩);refine(Av.mp h).resolve_left λe'=>?_;cases e';rw[hl]at hy;cases hy;exact hm e
   .exact A9 e
  |
   none=>
   refine FD (ks:=ks) ⟨z,sp,m,?_,?_,hm⟩
   .refine(Av.mp h).resolve_left λe'=>?_;cases e';rw[hl]at hy;cases hy
   .rw[List.lookup_append,hl];rfl
 |.s c::ks,tb,⟨z,sp,m,h,r⟩=>FD (ks:=ks) (tb:=tb) ⟨z,sp,m,(Av.mp h).resolve_left (λe=>nomatch e),r⟩
 |.t (.n i)::ks,tb,⟨z,sp,m,h,r⟩=>FD (ks:=ks) (tb:=tb) ⟨z,sp,m,(Av.mp h).resolve_left (λe=>nomatch e),r⟩
 |.t (.v y)::ks,tb,⟨z,sp,m,h,r⟩=>FD (ks:=ks) (tb:=tb) ⟨z,sp,m,(Av.mp h).resolve_left (λe=>nomatch e),r⟩
 |.t (.j y l r')::ks,tb,⟨z,sp,m,h,r⟩=>FD (ks:=ks) (tb:=tb) ⟨z,sp,m,(Av.mp h).resolve_left (λe=>nomatch e),r⟩
theorem Fi {l:List Nat}{ws:List Str}(h:Em l ws):wdsF l=ws:=by
 obtain⟨ps,h1,h2⟩:=h;rw[←wdsF_is h1,h2]
theorem L7 (s:Str×Int):sT (cds s.1,s.2)=s:=by
 show(AC (cds s.1),s.2)=s;rw[ES]
theorem U7 {nm:List Str}{k:Tk}(h:NG nm k):tknB nm k=true:=by
 cases k with
 |s c=>rfl
 |
  t w=>
  cases w with
  |n i=>rfl
  |v z=>exact Bc h
  |c z sp=>exact h
  |j _ _ _=>rfl
theorem Sm {f:Str->Nat}{D D':Dr}{tb:List (Str×Nat)}{y:Str}{sp:List (Str×Int)}{ks:List Tk}{t:Tw}(hs:Fz f D D' (.ded y sp ks t))(hc:E7 f tb):∃tb',dedF D tb (C3 y sp ks)=some (y,sp,t,tb')/\E7 f tb'/\(∀z∈CN tb,z∈CN tb')/\∀z sq,Tk.t (.c z sq)∈Tk.t (.c y sp)::ks->z∈CN tb':=by
 obtain⟨s0,d6,okc,okk,adj,kl,⟨T,S,hrun,hjw⟩,kn,kf,rfl⟩:=hs;obtain⟨tb',r1,r2,r3,r4⟩:=Gs hc kf;refine⟨tb',?_,r2,r3,r4⟩;have n61:61∉cds (AY y sp):=GU okc;have m:61∈C3 y sp ks:=Cz _ AH;have e1:bE (C3 y sp ks)=cds (AY y sp):=by unfold bE;rw[Ac m];unfold C3;rw[(FE n61).1]
 have e2:aE (C3 y sp ks)=BD ks:=by unfold aE;rw[Ac m];unfold C3;rw[(FE n61).2]
 have e3:termF ks=some t:=by unfold termF;rw[hrun];show oneF (jw 1 S T)=some t;rw[hjw];rfl
 unfold dedF;rw[A9 (by lia),e1,e2,Mn okc,Ma okk adj (M7 okk adj)];show rowD _ tb (y,sp) ks (termF ks)=_;rw[e3];unfold rowD;dsimp only;rw[Ac (EB.mpr λk hk=>U7 (kn k hk)),r1];rfl
theorem Td {f:Str->Nat}{D D':Dr}{tb:List (Str×Nat)}{l:List Nat}{k:Rk}(hr:Fx l k)(hs:Fz f D D' k)(hc:E7 f tb):∃tb',takF D tb l=some (D',tb')/\E7 f tb'/\(∀z∈CN tb,z∈CN tb')/\∀y sp ks t,k = .ded y sp ks t->∀z sq,Tk.t (.c z sq)∈Tk.t (.c y sp)::ks->z∈CN tb':=by
 have some_of:D.sz≠none->∀x,takW D tb l (wdsF l)=x->takF D tb l=x:=λh x e=>by
  unfold takF;cases hz:D.sz with
  |none=>exact absurd hz h
  |some m=>exact e
 cases k with
 |
  sz n=>
  obtain⟨h0,h1,h2,rfl⟩:=hs;obtain⟨gd,dg⟩:=DE (i:=n) (by lia) h2;refine⟨tb,?_,hc,λ_ h=>h,λ_ _ _ _ e=>nomatch e⟩;unfold takF;rw[h0,Fi hr];show(sizeF ["size",nS n]).map _=_;unfold sizeF;dsimp only;rw[Ac ⟨rfl,gd,by rw[dg];exact h1⟩,dg];rfl
 |
  opn t=>
  obtain⟨h0,h1,h2,h3,h4,h5,h6,h7,rfl⟩:=hs;refine⟨tb,some_of h0 _ ?_,hc,λ_ h=>h,λ_ _ _ _ e=>nomatch e⟩;rw[Fi hr];unfold takW;dsimp only;rw[Ac (show(("for":Str)=Str.ofString "for") from rfl)];unfold loopF;dsimp only;rw[Ac ⟨by rw[Ag];lia,h2,h3⟩,HY h4,HY h5];unfold twoF;dsimp only;rw[L7,L7,Ac ⟨h6,h7⟩];rfl
 |
  fin=>
  obtain⟨h0,lp,t,pa,m,h1,h2,h3,rfl⟩:=hs;refine⟨tb,some_of h0 _ ?_,hc,λ_ h=>h,λ_ _ _ _ e=>nomatch e⟩;rw[Fi hr];unfold takW;dsimp only;rw[A9 (show ¬(("end":Str)=Str.ofString "for") from by decide +kernel),Ac (show(("end":Str)=Str.ofString "end") from rfl),endF_yes rfl h1 h2 h3];rfl
 |
  ded y sp ks t=>
  obtain⟨⟨w,ws,hw,n1,n2,n3⟩,hrow⟩:=hr;obtain⟨tb',r1,r2,r3,r4⟩:=Sm hs hc;have hs':=hs;obtain⟨h0,_,_,_,_,_,_,_,_,rfl⟩:=hs;refine⟨tb',some_of h0 _ ?_,r2,r3,λ_ _ _ _ e=>by cases e;exact r4⟩;rw[Fi hw];unfold takW;dsimp only;rw[A9 n1,A9 n2,A9 n3,hrow,r1];rfl
theorem Nu {z:Str}{sp sq:List (Str×Int)}(hne:sp.length≠sq.length):∀{ks:List Tk} {tb:List (Str×Nat)},Tk.t (.c z sq)∈ks->tabF tb (.t (.c z sp)::ks)=none
 |
  ks,tb,h=>by
  rw[tabF];cases hl:tb.lookup z with
  |
   some m=>
   by_cases e:m=sp.length
   .exact(Ac e).trans (FD ⟨z,sq,m,h,hl,by rw[e];exact hne⟩)
   .exact A9 e
  |
   none=>
   refine FD (ks:=ks) ⟨z,sq,sp.length,h,?_,hne⟩;rw[List.lookup_append,hl,E1];rw[show(z==z)=true from CG.mpr rfl];rfl
theorem wr_len {nms ns:List Str}:∀{t:Tw},Twk nms ns t->t.wr.length+5<=155*t.sz
 |.n i,h=>by have:=Tk.len (Lk.ok h);rw[cds_len]at this;show(nS i).length+5<=155*1;have:(nS i).length<=150:=this;lia
 |.v z,h=>by have:=Tk.len (Lk.ok h);rw[cds_len]at this;show z.length+5<=155*1;have:z.length<=150:=this;lia
 |.c z sp,h=>by have:=Tk.len (Lk.ok h);rw[cds_len]at this;show(AY z sp).length+5<=155*1;have:(AY z sp).length<=150:=this;lia
 |
  .j z l r,h=>by
  have h1:=wr_len h.2.1;have h2:=wr_len h.2.2;have zl1:z.length=1:=by
   have:=h.1;unfold ET at this;simp only[Av,Cp,or_false]at this;rcases this with rfl|rfl|rfl<;>decide +kernel
  have br:∀(b:Bool) (x:Str),(DW b x).length<=x.length+2:=λb x=>by
   unfold DW;cases b with
   |false=>exact Jr _ _
   |
    true=>
    have e1:("(":Str).length=1:=by decide +kernel
    have e2:(")":Str).length=1:=by decide +kernel
    simp only[Fp];rw[AO,AO];lia
  have b1:=br (decide (Tw.hld l<hz z)) l.wr;have b2:=br (decide (Tw.hld r<=hz z)) r.wr;show(DW _ l.wr++z++DW _ r.wr).length+5<=155*(l.sz+r.sz);rw[AO,AO];lia
theorem KO {ns:List Str}{k:Rk}(h:Rok ns k):(rkS k).length<=1000:=by
 cases k with
 |
  sz n=>
  obtain⟨g,_⟩:=DE (i:=n) (by have:=h.1;lia) h.2;have e:("size ":Str).length=5:=by decide +kernel
  have:=g.2.1;rw[cds_len]at this;show("size "++nS n).length<=1000;rw[AO];lia
 |
  opn t=>
  have hn:=h.1.2.1;rw[cds_len]at hn;have:=Q4 (t:=t) ⟨by lia,h.2.1.2,h.2.2.2⟩;show(HR t).length<=1000;lia
 |fin=>show("end":Str).length<=1000;decide +kernel
 |
  ded tb sp ks t=>
  obtain⟨nms,lk,tk,rfl,hs⟩:=h;have e:(" = ":Str).length=3:=by decide +kernel
  have h1:=Tk.len lk.ok;have h2:=wr_len tk;have h1:(AY tb sp).length<=150:=by rw[←cds_len];exact h1
  show(AY tb sp++" = "++t.wr).length<=1000;rw[AO,AO];lia
def F8 (tb:List (Str×Nat)):Rk->Prop
 |.ded y sp ks _=>∀z sq,Tk.t (.c z sq)∈Tk.t (.c y sp)::ks->z∈CN tb
 |_=>True
theorem F8.up {tb tb':List (Str×Nat)}(h:∀z∈CN tb,z∈CN tb'){k:Rk}(hk:F8 tb k):F8 tb' k:=by
 cases k with
 |ded y sp ks t=>exact λz sq hz=>h z (hk z sq hz)
 |sz _=>exact True.intro
 |opn _=>exact True.intro
 |fin=>exact True.intro
theorem Og {f:Str->Nat}{ns:List Str}{D E:Dr}{ks:List Rk}(h:Stps f D ks E):∀{tb:List (Str×Nat)},(∀k∈ks,Rok ns k)->E7 f tb->∃tb',E7 f tb'/\(∀z∈CN tb,z∈CN tb')/\(∀k∈ks,F8 tb' k)/\∀rest i,rdF ((ks.map λk=>cds (rkS k))++rest) i D tb=rdF rest (i+ks.length) E tb':=by
 induction h with
 |nil=>exact fun{tb} _ hc=>⟨tb,hc,λ_ h=>h,(λ_ h=>nomatch h),λ_ _=>rfl⟩
 |
  @cons D D' E k ks hs _ ih=>
  intro tb ok hc;obtain⟨hb,hr,_⟩:=FZ (ok k AH);obtain⟨tb1,t1,t2,t3,t4⟩:=Td hr hs hc;obtain⟨tb2,r1,r2,r3,r4⟩:=ih (λx hx=>ok x (B5 _ hx)) t2;refine⟨tb2,r1,λz hz=>r2 z (t3 z hz),λx hx=>?_,λrest i=>?_⟩
  .rcases Av.mp hx with rfl|hx
   .refine F8.up r2 ?_;cases x with
    |ded y sp ks t=>exact t4 y sp ks t rfl
    |sz _=>exact True.intro
    |opn _=>exact True.intro
    |fin=>exact True.intro
   .exact r3 x hx
  .rw[BE,Dx,rdF,A9 hb,t1];show rdF _ (i+1) D' tb1=_;rw[r4,AJ];congr 1;lia
theorem Ng:∀{rs:List (List Nat)} {i j:Nat} {D:Dr} {tb:List (Str×Nat)},rdF rs i D tb = .inl j->i<j
 |[],i,j,D,tb,h=>nomatch h
 |
  r::rs,i,j,D,tb,h=>by
  rw[rdF]at h;split at h
  .have:=Ng h;lia
  .split at h
   .cases h;lia
   .have:=Ng h;lia
def FV:List (Option (List Nat)×List Nat)->List (List Nat)
 |[]=>[]
 |(none,r)::l=>r::FV l
 |(some x,r)::l=>x::r::FV l
def FI:List (Option (List Nat)×List Nat)->Nat->Nat
 |_,0=>0
 |[],_=>0
 |(b,_)::l,n+1=>(if b.isSome then 1 else 0)+FI l n
theorem Nx:∀{l:List (Option (List Nat)×List Nat)} {i i' n:Nat} {D:Dr} {tb:List (Str×Nat)},(∀p∈l,∀x,p.1=some x->bare x=[])->rdF (l.map (·.2)) i D tb = .inl (i+n)->rdF (FV l) i' D tb = .inl (i'+n+FI l n)
 |[],i,i',n,D,tb,_,h=>nomatch h
 |
  (b,r)::l,i,i',n,D,tb,hb,h=>by
  have hb':∀p∈l,∀x,p.1=some x->bare x=[]:=λp hp=>hb p (B5 _ hp);have gt:=Ng h;obtain⟨n,rfl⟩:∃m,n=m+1:=⟨n-1,by lia⟩
  rw[BE,rdF]at h;have key:∀i',rdF (r::FV l) i' D tb = .inl (i'+(n+1)+FI l n):=λi'=>by
   rw[rdF];by_cases hr:bare r=[]
   .rw[Ac hr]at h ⊢;rw[Nx (i:=i+1) (i':=i'+1) (n:=n) hb' (by rw[h];congr 1;lia)];congr 1;lia
   .rw[A9 hr]at h ⊢;cases ht:takF D tb (bare r) with
    |
     none=>
     rw[ht]at h;have h:(Sum.inl (i+1):Nat ⊕ Ft) = .inl (i+(n+1)):=h;have n0:n=0:=by injection h with h;lia
     subst n0;show(Sum.inl (i'+1):Nat ⊕ Ft)=_;congr 1;cases l<;>rfl
    |
     some e=>
     rw[ht]at h;show rdF (FV l) (i'+1) e.1 e.2=_;rw[Nx (i:=i+1) (i':=i'+1) (n:=n) hb' (by rw[show rdF (l.map (·.2)) (i+1) e.1 e.2 = .inl (i+(n+1)) from h];congr 1;lia)];congr 1;lia
  cases b with
  |
   none=>
   rw[FV,key,FI];congr 1;show _=i'+(n+1)+(0+FI l n);lia
  |
   some x=>
   rw[FV,rdF,Ac (hb (some x,r) AH x rfl),key,FI];congr 1;show _=i'+(n+1)+(1+FI l n);lia
end Rd
namespace Rd
open PySem L2
def Se:List Str:=["for","for a","for a 0","for a 0 1 2","for A 0 1","for a1 0 1","for for 0 1","for end 0 1"]
def Z1:List Str:=["for a 01 1","for a 0 -0","for a 0 1+a","for a 0 a+","for a +1 1","for abcdefghi 0 1"]
def Yf:List Str:=["end end","end 1","ends","size","size 1","size 0","size 07","size -5","size 5 5","Size 5"]
def Ya:List Str:=["size 1234567890123456789","a[0]","a[0] =","= 1","a = 1","a[] = 1","a[0 = 1","a0] = 1"]
def Ww:List Str:=["a[0]] = 1","a[0][0][0][0] = 1","a[0]b = 1","a[01] = 1","a[-0] = 1","a[+1] = 1","a[1+a] = 1"]
def Tz:List Str:=["A[0] = 1","end[0] = 1","size[0] = 1","for[0] = 1","abcdefghi[0] = 1","a[0] = 01","a[0] = -1"]
def RC:List Str:=["a[0] = +1","a[0] = 1+","a[0] = *1","a[0] = 1**2","a[0] = 1+-1","a[0] = 1-+1","a[0] = ()"]
def Xr:List Str:=["a[0] = (1","a[0] = 1)","a[0] = (1))","a[0] = )1(","a[0] = 1(2)","a[0] = (1)2","a[0] = (1)(2)"]
def Uv:List Str:=["a[0] = 1 = 2","a[0] == 1","a[0] = 1/2","a[0] = a[0","a[0] = a]0[","a[0] = a[]","a[0] = 12a"]
def Vm:List Str:=["a[0] = a[0][0][0][0]","a[0] = 1[0]","a[0] = (a)[0]","a[0] = 1234567890123456789","a[0] = size"]
def SK:List Str:=["a[0] = end[0]","a[0] : 1","plan","1[0] = 1","a[0] = 1.5","a[0] = 1,2","(a[0]) = 1"]
def T3:List Str:=["a[0]+a[0] = 1","a[0] = a[1","a[0] = ((1)","a[0] = (-1)","a[0] = 2*-3","a[0] = 1*(+2)"]
def SA:List Str:=["a[0] = a[0]--1","a[1+1] = 1","a[(0)] = 1","a[a[0]] = 1"]
def oddL:List Str:=(((((((((((Se++Z1)++Yf)++Ya)++Ww)++Tz)++RC)++Xr)++Uv)++Vm)++SK)++T3)++SA
def Qg:List Str->Bool
 |[_,n,lo,hi]=>!decide (AW (cds n))||(Bv (cds lo)).isNone||(Bv (cds hi)).isNone
 |_=>true
def Mx (l:List Nat):Bool:=match cellF (bE l),partsF (aE l).length (aE l) with
 |some _,some ks=>(termF ks).isNone
 |_,_=>true
def Qf (l:List Nat):List Str->Bool
 |[]=>false
 |w::ws=>if w=Str.ofString "for" then Qg (w::ws) else if w=Str.ofString "end" then !ws.isEmpty else if w=Str.ofString "size" then true else Mx (l.filter (·≠32))
def PL (l:List Nat):Bool:=(sizeF (wdsF l)).isNone&&Qf l (wdsF l)
theorem Ux {nm ws:List Str}(h:Qg ws=true):loopF nm ws=none:=by
 unfold loopF;split
 .rename_i a n lo hi;have h:(!decide (AW (cds n))||(Bv (cds lo)).isNone||(Bv (cds hi)).isNone)=true:=h;split
  .rename_i c;rw[Bc c.2.1]at h;cases h1:Bv (cds lo) with
   |none=>rfl
   |
    some x=>
    cases h2:Bv (cds hi) with
    |none=>rfl
    |some y=>rw[h1,h2]at h;cases h
  .rfl
 .rfl
theorem Vz {D:Dr}{tb:List (Str×Nat)}{l:List Nat}(h:Mx l=true):dedF D tb l=none:=by
 unfold Mx at h;unfold dedF;split
 .rfl
 .cases h1:cellF (bE l) with
  |none=>rfl
  |
   some p=>
   cases h2:partsF (aE l).length (aE l) with
   |none=>rfl
   |
    some ks=>
    rw[h1,h2]at h;have h:(termF ks).isNone=true:=h;show rowD _ tb p ks (termF ks)=none;rw[Option.isNone_iff_eq_none.mp h];rfl
theorem Yp {D:Dr}{tb:List (Str×Nat)}{l:List Nat}(h:PL l=true):takF D tb l=none:=by
 obtain⟨h1,h2⟩:=Re.mp h;unfold takF;cases D.sz with
 |none=>show(sizeF (wdsF l)).map _=none;rw[Option.isNone_iff_eq_none.mp h1];rfl
 |
  some m=>
  show takW D tb l (wdsF l)=none;cases hw:wdsF l with
  |nil=>rfl
  |
   cons w ws=>
   rw[hw]at h2;unfold Qf at h2;unfold takW;dsimp only at h2 ⊢;split at h2
   .rename_i c;rw[Ac c,Ux h2];rfl
   .rename_i c;rw[A9 c];split at h2
    .rename_i c2;rw[Ac c2,endF_no (.inl (by cases ws with|nil=>cases h2|cons x l=>rw[AJ,AJ];lia))];rfl
    .rename_i c2;rw[A9 c2];split at h2
     .rename_i c3;rw[Ac c3]
     .rename_i c3;rw[A9 c3,Vz h2];rfl
theorem Pf:∀z∈oddL,PL (bare (cds z))=true/\bare (cds z)≠[]/\10∉cds z/\z.length<=100:=by decide +kernel
def spOdd:Sp:=λvs H Q _=>∃c:Int,vs=[.int c]/\∀(z:Str) (H':Hp),Ae H H'->z∈oddL->Q (.str z) H'
end Rd
namespace Rd
open PySem L2
def spLine:Sp:=λvs H Q _=>∃(z:Str) (rows:List Str) (i:Nat),vs=[.str z]/\z.length<=900000/\IsSplit [10] (cds z) (rows.map cds)/\rows.length<=1000/\(∀y∈rows,y.length<=1000)/\(rdF (rows.map cds) 0 D0 [] = .inl i\/(∃e,rdF (rows.map cds) 0 D0 [] = .inr e/\¬Whl e.1)/\i=rows.length+1)/\∀H',Ae H H'->Q (.int (i:Int)) H'
def spByB:Sp:=λvs H Q _=>∃(z:Str) (rows:List Str) (i:Nat),vs=[.str z]/\z.length<=900000/\IsSplit [10] (cds z) (rows.map cds)/\rows.length<=1000/\(∀y∈rows,y.length<=1000)/\(rdF (rows.map cds) 0 D0 [] = .inl i\/(∃e,rdF (rows.map cds) 0 D0 [] = .inr e/\¬Whl e.1)/\i=rows.length+1)/\∀H',Ae H H'->Q (.bl true) H'
end Rd
namespace Rd
open PySem L2
def strL (n r:Str):List Str:=["for "++r++" 0 "++r,"for "++r++" "++r++"+1 5",n++"["++r++"] = 1"]++[n++"[0] = 1+"++r,n++"[0] = "++n++"["++r++"-2]"]++[n++"[0]["++r++"] = 3"]
def spStrange:Sp:=λvs H Q _=>∃(c:Int) (n r:Str),vs=[.int c,.str n,.str r]/\n.length<=10/\r.length<=10/\∀(z:Str) (H':Hp),Ae H H'->z∈strL n r->Q (.str z) H'
def spMore:Sp:=λvs H Q _=>∃(l:Addr) (Ln:List Str) (d:Nat) (c:Int),vs=[.ref l,.int (d:Int),.int c]/\H l=some (.lst (Ln.map V.str))/\d<=Ln.length/\Ln.length<=200/\∀(r:Addr) (H':Hp) (b:List Str),Ae H H'->H' r=some (.lst ((Ln.take d++b).map V.str))->b.length<=Ln.length-d+1->(∀y∈b,y∈Ln\/y∈oddL)->Q (.ref r) H'
end Rd
namespace Rd
open PySem L2
def spFS:List (Option Str×Str)->List Str
 |[]=>[]
 |(none,r)::l=>r::spFS l
 |(some x,r)::l=>x::r::spFS l
def cntS:List (Option Str×Str)->Nat->Nat
 |_,0=>0
 |[],_=>0
 |(b,_)::l,n+1=>(if b.isSome then 1 else 0)+cntS l n
theorem spFS_app:∀(a b:List (Option Str×Str)),spFS (a++b)=spFS a++spFS b
 |[],b=>rfl
 |(none,r)::a,b=>congrArg (r :: ·) (spFS_app a b)
 |(some x,r)::a,b=>congrArg (λl=>x::r::l) (spFS_app a b)
theorem cntS_snoc:∀(a:List (Option Str×Str)) (p:Option Str×Str) (n:Nat),cntS (a++[p]) n=cntS a n+(if p.1.isSome=true/\a.length<n then 1 else 0)
 |[],p,0=>by show 0=0+_;rw[A9 (λz=>absurd z.2 (Rc _))]
 |
  [],p,n+1=>by
  show(if p.1.isSome then 1 else 0)+cntS [] n=0+_;rw[show cntS [] n=0 from by cases n<;>rfl];by_cases h:p.1.isSome=true
  .rw[Ac h,Ac ⟨h,Ge _⟩]
  .rw[A9 h,A9 (λz=>h z.1)]
 |q::a,p,0=>by show 0=0+_;rw[A9 (λz=>absurd z.2 (Rc _))]
 |
  q::a,p,n+1=>by
  show(if q.1.isSome then 1 else 0)+cntS (a++[p]) n=(if q.1.isSome then 1 else 0)+cntS a n+_;rw[cntS_snoc a p n,←Nat.add_assoc];congr 1;by_cases h:p.1.isSome=true/\a.length<n
  .rw[Ac h,Ac ⟨h.1,Nat.succ_lt_succ h.2⟩]
  .rw[A9 h,A9 (λz=>h ⟨z.1,Nat.lt_of_succ_lt_succ z.2⟩)]
def IU (p:Option Str×Str):Option (List Nat)×List Nat:=(p.1.map cds,cds p.2)
theorem Nd:∀(P:List (Option Str×Str)),(spFS P).map cds=FV (P.map IU)
 |[]=>rfl
 |(none,r)::l=>congrArg (cds r :: ·) (Nd l)
 |(some x,r)::l=>congrArg (λy=>cds x::cds r::y) (Nd l)
theorem Qo:∀(P:List (Option Str×Str)) (n:Nat),cntS P n=FI (P.map IU) n
 |[],0=>rfl
 |[],n+1=>rfl
 |_::_,0=>rfl
 |
  (b,r)::l,n+1=>by
  show(if b.isSome then 1 else 0)+cntS l n=(if(b.map cds).isSome then 1 else 0)+FI (l.map IU) n;rw[Qo l n];cases b<;>rfl
def BlkOk (b:Option Str):Prop := ∀x,b=some x->bare (cds x)=[]/\10∉cds x/\x.length<=10
def spSpaced:Sp:=λvs H Q _=>∃(l:Addr) (Ln:List Str) (d:Nat) (c:Int),vs=[.ref l,.int (d:Int),.int c]/\H l=some (.lst (Ln.map V.str))/\Ln.length<=300/\∀(t r:Addr) (H':Hp) (P:List (Option Str×Str)),Ae H H'->P.map (·.2)=Ln->(∀p∈P,BlkOk p.1)->H' t=some (.tup [.ref r,.int ((d+cntS P d:Nat):Int)])->H' r=some (.lst ((spFS P).map V.str))->Q (.ref t) H'
theorem pick27 {i:Int}(h0:0<=i)(h1:i<4):∃u:Str,Bu [V.str "",V.str "  ",V.str ";",V.str "; end"] i=some (.str u)/\BlkOk (some u):=by
 obtain⟨j,rfl⟩:∃j:Nat,i=(j:Int):=⟨i.toNat,by lia⟩
 have j4:j<4:=by lia
 have key:∀u∈(["","  ",";","; end"]:List Str),bare (cds u)=[]/\10∉cds u/\u.length<=10:=by decide +kernel
 have hl:j<(["","  ",";","; end"]:List Str).length:=j4;refine⟨(["","  ",";","; end"]:List Str)[j],D8 (xs:=(["","  ",";","; end"]:List Str).map V.str) (by rw[Ce,BC hl];rfl),λx e=>?_⟩;cases e;exact key _ (EY hl)
end Rd
namespace Rd
open PySem L2
def csT:Tw->List (Str×List (Str×Int))
 |.c z sp=>[(z,sp)]
 |.j _ l r=>csT l++csT r
 |_=>[]
def CcAt (H:Hp)(v:V)(p:Str×List (Str×Int)):Prop := ∃t q:Addr,v = .ref t/\H t=some (.tup [.str p.1,.ref q])/\F4 H q p.2
theorem CcAt.over {H H':Hp}(e:Ae H H'){v:V}{p:Str×List (Str×Int)}(h:CcAt H v p):CcAt H' v p:=by
 obtain⟨t,q,rfl,h1,h2⟩:=h;exact⟨t,q,rfl,e _ _ h1,h2.tk (Ae.tk e)⟩
theorem csT_len:∀t:Tw,(csT t).length<=t.sz
 |.n _=>BI _
 |.v _=>BI _
 |.c _ _=>Aq _
 |
  .j _ l r=>by
  show(csT l++csT r).length<=l.sz+r.sz;rw[An];exact Nat.add_le_add (csT_len l) (csT_len r)
def spCells (n:Nat):Sp:=λvs H Q _=>∃(x:V) (t:Tw),vs=[x]/\Ew H t x/\t.Ok/\t.sz<=n/\t.sz<=1000/\∀(r:Addr) (xs:List V) (H':Hp),Ae H H'->H' r=some (.lst xs)->AN (CcAt H') xs (csT t)->Q (.ref r) H'
end Rd
namespace Rd
open PySem L2
section
variable {D:Dr}{tb:List (Str×Nat)}{l:List Nat}
theorem IR (h:D.sz≠none){ws:List Str}(hw:wdsF l=ws):takF D tb l=takW D tb l ws:=by
 unfold takF;cases hz:D.sz with
 |none=>exact absurd hz h
 |some m=>show takW D tb l (wdsF l)=_;rw[hw]
theorem O8 {t:As}(h0:D.sz≠none)(hw:Em l ["for",t.nm,AI t.lo,AI t.hi])(slo:SpN t.lo)(shi:SpN t.hi)(hk:knw (D.lp.map (·.nm)) t.lo=false\/knw (D.lp.map (·.nm)) t.hi=false):takF D tb l=none:=by
 rw[IR h0 (Fi hw)];unfold takW;dsimp only;rw[Ac (show(("for":Str)=Str.ofString "for") from rfl)];unfold loopF;dsimp only;split
 .rw[HY slo,HY shi];unfold twoF;dsimp only;rw[L7,L7,A9]
  .rfl
  .rintro ⟨a,b⟩;rcases hk with h|h
   .rw[h]at a;cases a
   .rw[h]at b;cases b
 .rfl
theorem Qu {n lo hi:Str}(h0:D.sz≠none)(hw:Em l ["for",n,lo,hi])(hk:n∈D.lp.map (·.nm)\/D.lp.length=3):takF D tb l=none:=by
 rw[IR h0 (Fi hw)];unfold takW;dsimp only;rw[Ac (show(("for":Str)=Str.ofString "for") from rfl)];unfold loopF;dsimp only;rw[A9]
 .rfl
 .rintro ⟨a,_,b⟩;rcases hk with h|h
  .exact b h
  .exact a (by rw[Ag,h])
theorem U3 (h0:D.sz≠none)(hw:Em l ["end"])(h:D.lp=[]\/D.la=0):takF D tb l=none:=by
 rw[IR h0 (Fi hw)];unfold takW;dsimp only;rw[A9 (show ¬(("end":Str)=Str.ofString "for") from by decide +kernel),Ac (show(("end":Str)=Str.ofString "end") from rfl),endF_no (.inr h)];rfl
theorem Wx (h0:D.sz≠none){ws:List Str}(hw:Em l ("size"::ws)):takF D tb l=none:=by
 rw[IR h0 (Fi hw)];unfold takW;dsimp only;rw[A9 (show ¬(("size":Str)=Str.ofString "for") from by decide +kernel),A9 (show ¬(("size":Str)=Str.ofString "end") from by decide +kernel),Ac (show(("size":Str)=Str.ofString "size") from rfl)]
theorem NJ (h0:D.sz=none){w:Str}{ws:List Str}(hw:Em l (w::ws))(n:w≠"size"):takF D tb l=none:=by
 unfold takF;rw[h0,Fi hw];show(sizeF (w::ws)).map _=none;unfold sizeF;split
 .rename_i a b e;injection e with e _;rw[A9 λz=>n (e▸z.1)];rfl
 .rfl
theorem QF {y:Str}{sp:List (Str×Int)}{ks:List Tk}{t:Tw}(h0:D.sz≠none)(hr:Fx l (.ded y sp ks t))(okc:(Tk.t (.c y sp)).Ok)(okk:∀k∈ks,k.Ok)(adj:Dz ks)
  (h:D.dd.length=6\/(∃k∈Tk.t (.c y sp)::ks,tknB (D.lp.map (·.nm)) k=false)\/tabF tb (Tk.t (.c y sp)::ks)=none):takF D tb l=none:=by
 obtain⟨⟨w,ws,hw,n1,n2,n3⟩,hrow⟩:=hr;rw[IR h0 (Fi hw)];unfold takW;dsimp only;rw[A9 n1,A9 n2,A9 n3,hrow];have n61:61∉cds (AY y sp):=GU okc;have m:61∈C3 y sp ks:=Cz _ AH;have e1:bE (C3 y sp ks)=cds (AY y sp):=by unfold bE;rw[Ac m];unfold C3;rw[(FE n61).1]
 have e2:aE (C3 y sp ks)=BD ks:=by unfold aE;rw[Ac m];unfold C3;rw[(FE n61).2]
 have key:dedF D tb (C3 y sp ks)=none:=by
  unfold dedF;split
  .rfl
  .rename_i d6;rw[e1,e2,Mn okc,Ma okk adj (M7 okk adj)];show rowD _ tb (y,sp) ks (termF ks)=none;cases termF ks with
   |none=>rfl
   |
    some t'=>
    unfold rowD;dsimp only;split
    .rename_i ha;rcases h with h|⟨k,hk,hb⟩|h
     .exact absurd h d6
     .rw[EB.mp ha k hk]at hb;cases hb
     .rw[h];rfl
    .rfl
 rw[key];rfl
end
theorem Tj {f:Str->Nat}{ns:List Str}{D:Dr}{ks:List Rk}(h:Stps f D0 ks D)(ok:∀k∈ks,Rok ns k){r:List Nat}(hb:bare r≠[])(hn:∀tb,E7 f tb->(∀k∈ks,F8 tb k)->takF D tb (bare r)=none)(rest:List (List Nat)):rdF ((ks.map λk=>cds (rkS k))++r::rest) 0 D0 [] = .inl (ks.length+1):=by
 obtain⟨tb,h1,_,h3,h4⟩:=Og h (tb:=[]) ok (λ_ h=>nomatch h);rw[h4,rdF,A9 hb,hn tb h1 h3];show(Sum.inl (0+ks.length+1):Nat ⊕ Ft)=_;rw[Js]
end Rd
namespace Rd
open PySem L2
theorem YH {y:Str}{sp:List (Str×Int)}{ks:List Tk}(okc:(Tk.t (.c y sp)).Ok)(okk:∀k∈ks,k.Ok)(t:Tw){l:List Nat}(e:l=cds (AY y sp)++([32,61,32]++BD ks)):bare l≠[]/\Fx (bare l) (.ded y sp ks t)/\10∉l:=by
 subst e;refine Qx okc ?_ t;have d0:=OA okc okk;have cl:=congrArg List.length (cel_cds (z:=y) okc.2.1);rw[An]at cl;have b1:=KH d0 (l':=(C3 y sp ks).take (cds (AY y sp)).length++32::(C3 y sp ks).drop (cds (AY y sp)).length) (.inr ⟨_,by lia,by unfold C3;rw[An];lia,rfl⟩);have e1:(C3 y sp ks).take (cds (AY y sp)).length++32::(C3 y sp ks).drop (cds (AY y sp)).length=cds (AY y sp)++[32,61]++BD ks:=by
  unfold C3;rw[FN,Ic,Br];rfl
 rw[e1]at b1;refine KH b1 (.inr ⟨(cds (AY y sp)++[32,61]).length,by rw[An];lia,by rw[An (as:=cds (AY y sp)++[32,61])];exact Jr _ _,?_⟩);rw[FN,Ic];simp only[Br,Dx,FM]
def Bdr (f:Str->Nat)(kt:List Rk)(D:Dr)(r:Str):Prop:=bare (cds r)≠[]/\10∉cds r/\r.length<=1000/\∀tb,E7 f tb->(∀k∈kt,F8 tb k)->takF D tb (bare (cds r))=none
section
variable {f:Str->Nat}{kt:List Rk}{D:Dr}
theorem FK {y:Str}{sp:List (Str×Int)}{ks:List Tk}{r:Str}(h0:D.sz≠none)(okc:(Tk.t (.c y sp)).Ok)(okk:∀k∈ks,k.Ok)(adj:Dz ks)(e:cds r=cds (AY y sp)++([32,61,32]++BD ks))(rl:r.length<=1000)
  (h:∀tb,E7 f tb->(∀k∈kt,F8 tb k)->D.dd.length=6\/(∃k∈Tk.t (.c y sp)::ks,tknB (D.lp.map (·.nm)) k=false)\/tabF tb (Tk.t (.c y sp)::ks)=none):Bdr f kt D r:=by
 obtain⟨h1,h2,h3⟩:=YH okc okk (.n 0) e;exact⟨h1,h3,rl,λtb hc hk=>QF h0 h2 okc okk adj (h tb hc hk)⟩
theorem Kz {t:As}{r:Str}(e:r=rkS (.opn t))(hn:AW (cds t.nm))(hl:SpN t.lo)(hh:SpN t.hi)(h0:D.sz≠none)(hk:knw (D.lp.map (·.nm)) t.lo=false\/knw (D.lp.map (·.nm)) t.hi=false\/t.nm∈D.lp.map (·.nm)\/D.lp.length=3):Bdr f kt D r:=by
 subst e;have ok:Rok [] (.opn t):=⟨hn,hl,hh⟩
 obtain⟨h1,h2,h3⟩:=FZ ok;refine⟨h1,h3,KO ok,λtb _ _=>?_⟩;rcases hk with h|h|h|h
 .exact O8 h0 h2 hl hh (.inl h)
 .exact O8 h0 h2 hl hh (.inr h)
 .exact Qu h0 h2 (.inl h)
 .exact Qu h0 h2 (.inr h)
theorem end_bad (h0:D.sz≠none)(h:D.lp=[]\/D.la=0):Bdr f kt D "end":=by
 obtain⟨h1,h2,h3⟩:=P0;exact⟨h1,h3,by decide +kernel,λtb _ _=>U3 h0 h2 h⟩
theorem size_bad (h0:D.sz≠none):Bdr f kt D "size 7":=by
 obtain⟨h1,h2,h3⟩:=FZ (ns:=[]) (k:=.sz 7) ⟨by decide,by decide⟩;have e:("size 7":Str)=rkS (.sz 7):=by decide +kernel
 rw[e];exact⟨h1,h3,by decide +kernel,λtb _ _=>Wx h0 h2⟩
theorem odd_bad {z:Str}(h:z∈oddL):Bdr f kt D z:=by
 obtain⟨h1,h2,h3,h4⟩:=Pf z h;exact⟨h2,h3,by lia,λtb _ _=>Yp h1⟩
theorem Vg {ns:List Str}{k:Rk}(ok:Rok ns k)(h0:D.sz=none)(hk:∀n,k≠.sz n):Bdr f kt D (rkS k):=by
 obtain⟨h1,h2,h3⟩:=FZ ok;refine⟨h1,h3,KO ok,λtb _ _=>?_⟩;cases k with
 |sz n=>exact absurd rfl (hk n)
 |opn t=>exact NJ h0 h2 (by decide +kernel)
 |fin=>exact NJ h0 h2 (by decide +kernel)
 |
  ded y sp ks t=>
  obtain⟨⟨w,ws,hw,_,_,n3⟩,_⟩:=h2;exact NJ h0 hw n3
end
end Rd
namespace Rd
open PySem L2
section
variable {n r:Str}
theorem JG (h:AW (cds r)):r≠"":=λz=>by
 have:=h.1;rw[z]at this;exact absurd this (by decide +kernel)
theorem Nm (h:AW (cds r)):AI (r,0)=r:=by
 unfold AI;rw[A9 (show ¬(r,(0:Int)).1="" from JG h),Ac rfl]
theorem Vu (h:AW (cds r)):cds (AI (r,1))=cds r++[43,49]:=by
 unfold AI;rw[A9 (show ¬(r,(1:Int)).1="" from JG h),A9 (show ¬(1:Int)=0 from by decide),Ac (show(0:Int)<1 from by decide),B4,B4,Br];have e:cds "+"++cds (nS 1)=[43,49]:=by decide +kernel
 exact congrArg (cds r ++ ·) e
theorem Sa (h:AW (cds r)):cds (AI (r,-2))=cds r++[45,50]:=by
 unfold AI;rw[A9 (show ¬(r,(-2:Int)).1="" from JG h),A9 (show ¬(-2:Int)=0 from by decide),A9 (show ¬(0:Int) < -2 from by decide),B4];have e:cds (nS (-2))=[45,50]:=by decide +kernel
 exact congrArg (cds r ++ ·) e
theorem Je (h:AW (cds r)){k:Int}(h0 : -9<=k)(h1:k<=9):SpN (r,k):=⟨.inr h,by have:=h.2.1;rw[cds_len]at this;show r.length<=20;lia,by show -999999999999999999<=k;lia,by show k<=999999999999999999;lia⟩
theorem Eb {k:Int}(h0 : -9<=k)(h1:k<=9):SpN ("",k):=⟨.inl rfl,by show("":Str).length<=20;decide +kernel,by show -999999999999999999<=k;lia,by show k<=999999999999999999;lia⟩
theorem IK {nm:List Str}(h:AW (cds r))(hr:r∉nm)(k:Int):knw nm (r,k)=false:=by
 unfold knw;rw[Bg (show ¬(r,k).1=Str.ofString "" from JG h),Bg (show ¬(r,k).1∈nm from hr)];rfl
theorem Kw {s:Str×Int}:cds (AY n [s])=cds n++91::(cds (AI s)++[93]):=cel_cds (Cq _ _)
theorem UM {s t:Str×Int}:cds (AY n [s,t])=cds n++91::(cds (AI s)++[93,91]++cds (AI t)++[93]):=by
 rw[cel_cds (Cq _ _)];show cds n++91::(C4 [cds (AI s),cds (AI t)]++[93])=_;rw[C4];simp only[C4,Br]
theorem str_bad {f:Str->Nat}{kt:List Rk}{D:Dr}(hn:AW (cds n))(hr:AW (cds r))(nr:r∉D.lp.map (·.nm))(h0:D.sz≠none){z:Str}(hz:z∈strL n r):Bdr f kt D z:=by
 have nl:=hn.2.1;have rl:=hr.2.1;rw[cds_len]at nl rl;have z0:cds (AI ("",0))=[48]:=by decide +kernel
 have okN:∀i:Int,0<=i->i<=9->(Tk.t (.n i)).Ok:=λi a b=>⟨a,by lia⟩
 have one:∀{k:Tk},k.Ok->∀k'∈[k],k'.Ok:=fun{k} h k' hk=>by rw[Bt.mp hk];exact h
 have ln:z.length<=1000:=by
  have k0:("for ":Str).length=4:=by decide +kernel
  have k1:(" 0 ":Str).length=3:=by decide +kernel
  have k2:(" ":Str).length=1:=by decide +kernel
  have k3:("+1 5":Str).length=4:=by decide +kernel
  have k4:("[":Str).length=1:=by decide +kernel
  have k5:("] = 1":Str).length=5:=by decide +kernel
  have k6:("[0] = 1+":Str).length=8:=by decide +kernel
  have k7:("[0] = ":Str).length=6:=by decide +kernel
  have k8:("-2]":Str).length=3:=by decide +kernel
  have k9:("[0][":Str).length=4:=by decide +kernel
  have k10:("] = 3":Str).length=5:=by decide +kernel
  have:∀z∈strL n r,z.length<=1000:=λz hz=>by
   simp only[strL,Dx,FM,Av,Cp,or_false]at hz;rcases hz with rfl|rfl|rfl|rfl|rfl|rfl<;>simp only[AO,k0,k1,k2,k3,k4,k5,k6,k7,k8,k9,k10]<;>lia
  exact this z hz
 simp only[strL,Dx,FM,Av,Cp,or_false]at hz;rcases hz with rfl|rfl|rfl|rfl|rfl|rfl
 .refine Kz (t:=⟨r,("",0),(r,0)⟩) (D2 ?_) hr (Eb (by decide) (by decide)) (Je hr (by decide) (by decide)) h0 (.inr (.inl (IK hr nr 0)));show cds ("for "++r++" 0 "++r)=cds ("for "++r++" "++AI ("",0)++" "++AI (r,0));rw[Nm hr];simp only[B4,z0];have e:cds (" 0 ":Str)=cds (" ":Str)++([48]++cds (" ":Str)):=by decide +kernel
  rw[e];simp only[Br]
 .refine Kz (t:=⟨r,(r,1),("",5)⟩) (D2 ?_) hr (Je hr (by decide) (by decide)) (Eb (by decide) (by decide)) h0 (.inl (IK hr nr 1));show cds ("for "++r++" "++r++"+1 5")=cds ("for "++r++" "++AI (r,1)++" "++AI ("",5));simp only[B4,Vu hr];have e:cds ("+1 5":Str)=[43,49]++(cds (" ":Str)++cds (AI ("",5))):=by decide +kernel
  rw[e];simp only[Br]
 .refine FK (y:=n) (sp:=[(r,0)]) (ks:=[.t (.n 1)]) h0 ⟨hn,Cq _ _,(by show 1<=3;decide),λs hs=>by rw[Bt.mp hs];exact Je hr (by decide) (by decide)⟩ (one (okN 1 (by decide) (by decide))) True.intro ?_ ln (λtb _ _=>.inr (.inl ⟨_,AH,?_⟩))
  .rw[Kw,Nm hr,GJ];simp only[B4];have e:cds ("] = 1":Str)=[93]++([32,61,32]++cds (Tk.t (.n 1)).txt):=by decide +kernel
   have e2:cds ("[":Str)=[91]:=by decide +kernel
   rw[e,e2];simp only[Br,Dx,FM]
  .show[(r,(0:Int))].all (knw (D.lp.map (·.nm)))=false;rw[EW,IK hr nr 0];rfl
 .refine FK (y:=n) (sp:=[("",0)]) (ks:=[.t (.n 1),.s 43,.t (.v r)]) h0 ⟨hn,Cq _ _,(by show 1<=3;decide),λs hs=>by rw[Bt.mp hs];exact Eb (by decide) (by decide)⟩ (λk hk=>?_) True.intro ?_ ln (λtb _ _=>.inr (.inl ⟨.t (.v r),by simp,Bg nr⟩))
  .simp only[Av,Cp,or_false]at hk;rcases hk with rfl|rfl|rfl
   .exact okN 1 (by decide) (by decide)
   .show 43∈sg5;decide
   .exact hr
  .rw[Kw,z0,F3,F3,GJ];simp only[B4];have e:cds ("[0] = 1+":Str)=[91]++([48]++([93]++([32,61,32]++(cds (Tk.t (.n 1)).txt++cds (Tk.s 43).txt)))):=by decide +kernel
   rw[e];simp only[Br,Dx,FM];rfl
 .refine FK (y:=n) (sp:=[("",0)]) (ks:=[.t (.c n [(r,-2)])]) h0 ⟨hn,Cq _ _,(by show 1<=3;decide),λs hs=>by rw[Bt.mp hs];exact Eb (by decide) (by decide)⟩ (one ⟨hn,Cq _ _,(by show 1<=3;decide),λs hs=>by rw[Bt.mp hs];exact Je hr (by decide) (by decide)⟩) True.intro ?_ ln (λtb _ _=>.inr (.inl ⟨.t (.c n [(r,-2)]),by simp,?_⟩))
  .rw[Kw,z0,GJ];show _=_++(_++cds (AY n [(r,-2)]));rw[Kw,Sa hr];simp only[B4];have e:cds ("[0] = ":Str)=[91]++([48]++([93]++[32,61,32])):=by decide +kernel
   have e2:cds ("[":Str)=[91]:=by decide +kernel
   have e3:cds ("-2]":Str)=[45,50]++[93]:=by decide +kernel
   rw[e,e2,e3];simp only[Br,Dx,FM]
  .show[(r,(-2:Int))].all (knw (D.lp.map (·.nm)))=false;rw[EW,IK hr nr (-2)];rfl
 .refine FK (y:=n) (sp:=[("",0),(r,0)]) (ks:=[.t (.n 3)]) h0 ⟨hn,Cq _ _,(by show 2<=3;decide),λs hs=>?_⟩ (one (okN 3 (by decide) (by decide))) True.intro ?_ ln (λtb _ _=>.inr (.inl ⟨_,AH,?_⟩))
  .rcases Av.mp hs with rfl|hs
   .exact Eb (by decide) (by decide)
   .rw[Bt.mp hs];exact Je hr (by decide) (by decide)
  .rw[UM,z0,Nm hr,GJ];simp only[B4];have e:cds ("] = 3":Str)=[93]++([32,61,32]++cds (Tk.t (.n 3)).txt):=by decide +kernel
   have e2:cds ("[0][":Str)=[91]++([48]++[93,91]):=by decide +kernel
   rw[e,e2];simp only[Br,Dx,FM]
  .show[(("":Str),(0:Int)),(r,(0:Int))].all (knw (D.lp.map (·.nm)))=false;rw[EW,EW,IK hr nr 0];simp
end
end Rd
namespace Rd
open PySem L2
def Cok (ns:List Str)(kt:List Rk)(p:Str×List (Str×Int)):Prop:=(Tk.t (.c p.1 p.2)).Ok/\tf ns p.1=p.2.length/\∀tb,(∀k∈kt,F8 tb k)->p.1∈CN tb
def F5 (k:Nat):List (Str×Int):=List.replicate k ("",0)
def tbT (z:Str)(m:Nat):Str:=z++Txt.mul "[0]" ((m:Int)%3+1)
theorem OO {z:Str}{m:Nat}:tbT z m=AY z (F5 (m%3+1)):=by
 unfold tbT AY;have h:m%3=0\/m%3=1\/m%3=2:=by lia
 have e:(m:Int)%3+1=((m%3+1:Nat):Int):=by lia
 rw[e];congr 1;rcases h with h|h|h<;>rw[h]<;>decide +kernel
theorem Wq {z:Str}(hz:AW (cds z)){k:Nat}(h1:1<=k)(h3:k<=3):(Tk.t (.c z (F5 k))).Ok:=by
 refine⟨hz,λe=>?_,by unfold F5;rw[Fj];exact h3,λs hs=>?_⟩
 .have:=congrArg List.length e;unfold F5 at this;rw[Fj]at this;exact absurd this (by show ¬k=0;lia)
 .rw[(LL.mp hs).2];exact Eb (by decide) (by decide)
theorem Py:AW (cds "q"):=by decide +kernel
def qTab:List Str:=["q[0] = q[0][0]","q[1] = 2*(q[1]+q[1][2][3])","q[0][0][0] = q[0][0]"]
section
variable {ns:List Str}{kt:List Rk}{D:Dr}
theorem q_bad {f:Str->Nat}(h0:D.sz≠none){z:Str}(hz:z∈qTab):Bdr f kt D z:=by
 have ok:∀{l:List Int},l≠[]->l.length<=3->(∀i∈l,-9<=i/\i<=9)->(Tk.t (.c "q" (l.map λi=>(("":Str),i)))).Ok:=fun{l} h1 h2 h3=>⟨Py,λe=>h1 (Jt.mp e),by rw[Ag];exact h2,λs hs=>by
  obtain⟨i,hi,rfl⟩:=CK.mp hs;exact Eb (h3 i hi).1 (h3 i hi).2⟩
 have o1:=ok (l:=[0]) (by decide) (by decide) (by decide);have o2:=ok (l:=[0,0]) (by decide) (by decide) (by decide);have o3:=ok (l:=[0,0,0]) (by decide) (by decide) (by decide);have p1:=ok (l:=[1]) (by decide) (by decide) (by decide);have p3:=ok (l:=[1,2,3]) (by decide) (by decide) (by decide);unfold qTab at hz;simp only[Av,Cp,or_false]at hz;rcases hz with rfl|rfl|rfl
 .refine FK h0 o1 (ks:=[.t (.c "q" [("",0),("",0)])]) (λk hk=>by rw[Bt.mp hk];exact o2) True.intro (by decide +kernel) (by decide +kernel) λtb _ _=>.inr (.inr (Nu (by decide) AH))
 .refine FK h0 p1 (ks:=[.t (.n 2),.s 42,.s 40,.t (.c "q" [("",1)]),.s 43,.t (.c "q" [("",1),("",2),("",3)]),.s 41]) (λk hk=>?_) True.intro (by decide +kernel) (by decide +kernel) λtb _ _=>.inr (.inr (Nu (sq:=[("",1),("",2),("",3)]) (by decide) (by simp)));simp only[Av,Cp,or_false]at hk;rcases hk with rfl|rfl|rfl|rfl|rfl|rfl|rfl
  .exact⟨by decide,by decide⟩
  .show 42∈sg5;decide
  .show 40∈sg5;decide
  .exact p1
  .show 43∈sg5;decide
  .exact p3
  .show 41∈sg5;decide
 .refine FK h0 o3 (ks:=[.t (.c "q" [("",0),("",0)])]) (λk hk=>by rw[Bt.mp hk];exact o2) True.intro (by decide +kernel) (by decide +kernel) λtb _ _=>.inr (.inr (Nu (by decide) AH))
theorem tab_bad (h0:D.sz≠none){p:Str×List (Str×Int)}(hp:Cok ns kt p){z:Str}(hz:z∈[tbT p.1 p.2.length++" = 1","q[1] = 3*("++tbT p.1 p.2.length++"-2)"]):Bdr (tf ns) kt D z:=by
 obtain⟨⟨hn,hne,h3,_⟩,ht,hk⟩:=hp;have l0:p.2.length≠0:=λe=>hne (Fm e);have hne2:p.2.length%3+1≠p.2.length:=by lia
 have oc:=Wq hn (k:=p.2.length%3+1) (by lia) (by lia);have nl:=hn.2.1;rw[cds_len]at nl;have ln3:(tbT p.1 p.2.length).length<=20:=by
  unfold tbT;rw[AO];have h:p.2.length%3=0\/p.2.length%3=1\/p.2.length%3=2:=by lia
  have e:(p.2.length:Int)%3+1=((p.2.length%3+1:Nat):Int):=by lia
  have:(Txt.mul "[0]" ((p.2.length:Int)%3+1)).length<=9:=by
   rw[e];rcases h with h|h|h<;>rw[h]<;>decide +kernel
  lia
 have bad:∀{a:List Tk},Tk.t (.c p.1 (F5 (p.2.length%3+1)))∈a->∀tb,E7 (tf ns) tb->(∀k∈kt,F8 tb k)->tabF tb a=none:=fun{a} ha tb hc hk'=>by
  obtain⟨m,hm⟩:=QD (hk tb hk');refine FD ⟨p.1,_,m,ha,hm,?_⟩;rw[(MD hc hm).1,ht];unfold F5;rw[Fj];lia
 simp only[Av,Cp,or_false]at hz;have k1:(" = 1":Str).length=4:=by decide +kernel
 have k2:("q[1] = 3*(":Str).length=10:=by decide +kernel
 have k3:("-2)":Str).length=3:=by decide +kernel
 rcases hz with rfl|rfl
 .refine FK (y:=p.1) (sp:=F5 (p.2.length%3+1)) (ks:=[.t (.n 1)]) h0 oc (λk hk=>by rw[Bt.mp hk];exact⟨by decide,by decide⟩) True.intro ?_ (by rw[AO];lia) λtb hc hk'=>.inr (.inr (bad AH tb hc hk'));rw[OO,B4];have e:cds (" = 1":Str)=[32,61,32]++BD [.t (.n 1)]:=by decide +kernel
  rw[e]
 .refine FK (y:="q") (sp:=[("",1)]) (ks:=[.t (.n 3),.s 42,.s 40,.t (.c p.1 (F5 (p.2.length%3+1))),.s 45,.t (.n 2),.s 41]) h0 ⟨Py,Cq _ _,by decide,λs hs=>by rw[Bt.mp hs];exact Eb (by decide) (by decide)⟩ (λk hk=>?_) True.intro ?_ (by rw[AO,AO];lia) λtb hc hk'=>.inr (.inr (bad (by simp) tb hc hk'))
  .simp only[Av,Cp,or_false]at hk;rcases hk with rfl|rfl|rfl|rfl|rfl|rfl|rfl
   .exact⟨by decide,by decide⟩
   .show 42∈sg5;decide
   .show 40∈sg5;decide
   .exact oc
   .show 45∈sg5;decide
   .exact⟨by decide,by decide⟩
   .show 41∈sg5;decide
  .rw[B4,B4,OO];have e1:cds ("q[1] = 3*(":Str)=cds (AY "q" [("",1)])++([32,61,32]++BD [.t (.n 3),.s 42,.s 40]):=by decide +kernel
   have e2:cds ("-2)":Str)=BD [.s 45,.t (.n 2),.s 41]:=by decide +kernel
   rw[e1,e2];rw[show([.t (.n 3),.s 42,.s 40,.t (.c p.1 (F5 (p.2.length%3+1))),.s 45,.t (.n 2),.s 41]:List Tk)=[.t (.n 3),.s 42,.s 40]++([.t (.c p.1 (F5 (p.2.length%3+1)))]++[.s 45,.t (.n 2),.s 41]) from rfl,L9,L9,GJ];simp only[Br];rfl
end
end Rd
namespace Rd
open PySem L2
section
variable {f:Str->Nat}{D E:Dr}{ks:List Rk}
theorem stps_cut (h:Stps f D ks E):∀n:Nat,∃F,Stps f D (ks.take n) F/\Stps f F (ks.drop n) E:=by
 induction h with
 |nil=>exact λn=>⟨_,by rw[List.take_nil];exact .nil,by rw[List.drop_nil];exact .nil⟩
 |
  cons a g ih=>
  intro n;cases n with
  |zero=>exact⟨_,.nil,.cons a g⟩
  |succ n=>obtain⟨F,h1,h2⟩:=ih n;exact⟨F,.cons a h1,h2⟩
theorem U4 {F:Dr}{l:List Rk}(h:Stps f D ks E)(g:Stps f E l F):Stps f D (ks++l) F:=by
 induction h with
 |nil=>exact g
 |cons a _ ih=>exact .cons a (ih g)
theorem OH {D':Dr}{k:Rk}(s:Fz f D D' k):D'.dd=D.dd\/∃y sp tk t,k = .ded y sp tk t/\D'.dd=D.dd++[⟨D.lp,y,sp,t,D.pa++[D.la]⟩]:=by
 cases k with
 |sz n=>obtain⟨_,_,_,rfl⟩:=s;exact .inl rfl
 |opn t=>obtain⟨_,_,_,_,_,_,_,_,rfl⟩:=s;exact .inl rfl
 |fin=>obtain⟨_,lp,t,pa,m,_,_,_,rfl⟩:=s;exact .inl rfl
 |ded y sp tk t=>obtain⟨_,_,_,_,_,_,_,_,_,rfl⟩:=s;exact .inr ⟨y,sp,tk,t,rfl,rfl⟩
theorem stps_pre (h:Stps f D ks E):∃l,E.dd=D.dd++l:=by
 induction h with
 |nil=>exact⟨[],by rw[D6]⟩
 |
  @cons D D' E k ks s _ ih=>
  obtain⟨l,hl⟩:=ih;rcases OH s with e|⟨_,_,_,_,_,e⟩
  .exact⟨l,by rw[hl,e]⟩
  .exact⟨_::l,by rw[hl,e,Br];rfl⟩
theorem Xm (h:Stps f D ks E):∀e∈E.dd,e∈D.dd\/∃tk,Rk.ded e.tbl e.sp tk e.tm∈ks:=by
 induction h with
 |nil=>exact λe he=>.inl he
 |
  @cons D D' E k ks s _ ih=>
  intro e he;rcases ih e he with h1|⟨tk,h1⟩
  .rcases OH s with e1|⟨y,sp,tk,t,rfl,e1⟩
   .exact .inl (e1▸h1)
   .rw[e1]at h1;rcases By.mp h1 with h1|h1
    .exact .inl h1
    .rw[Bt.mp h1];exact .inr ⟨tk,AH⟩
  .exact .inr ⟨tk,B5 _ h1⟩
theorem stps_lp (h:Stps f D ks E):(D.lp.length<=3/\∀t∈D.lp,AW (cds t.nm))->E.lp.length<=3/\∀t∈E.lp,AW (cds t.nm):=by
 induction h with
 |nil=>exact id
 |
  @cons D D' E k ks s _ ih=>
  intro hd;refine ih ?_;cases k with
  |sz n=>obtain⟨_,_,_,rfl⟩:=s;exact hd
  |
   opn t=>
   obtain⟨_,h3,hn,_,_,_,_,_,rfl⟩:=s;refine⟨?_,FX hd.2 hn⟩;show(D.lp++[t]).length<=3;rw[An,Bf];lia
  |
   fin=>
   obtain⟨_,lp,t,pa,m,e,_,_,rfl⟩:=s;rw[e]at hd;refine⟨?_,λx hx=>hd.2 x (Eh _ hx)⟩;have:=hd.1;rw[An]at this;show lp.length<=3;lia
  |ded y sp tk t=>obtain⟨_,_,_,_,_,_,_,_,_,rfl⟩:=s;exact hd
end
theorem Nn:∀{t:Tw} {p:Str×List (Str×Int)},p∈csT t->Tk.t (.c p.1 p.2)∈(BZ t).tk
 |.n _,p,h=>nomatch h
 |.v _,p,h=>nomatch h
 |.c z sp,p,h=>by rw[Bt.mp h];exact AH
 |
  .j z l r,p,h=>by
  have br:∀{b:Bool} {e:Ex} {k:Tk},k∈e.tk->k∈(DN b e).tk:=fun{b e k} h=>by
   cases b with
   |false=>exact h
   |true=>exact B5 _ (Eh _ h)
  show _∈(DN _ (BZ l)).tk++Tk.s _::(DN _ (BZ r)).tk;rcases By.mp h with h|h
  .exact Eh _ (br (Nn h))
  .exact Cz _ (B5 _ (br (Nn h)))
theorem ML {nms ns:List Str}:∀{t:Tw},Twk nms ns t->∀{p:Str×List (Str×Int)},p∈csT t->Lk nms ns (.t (.c p.1 p.2))
 |.n _,_,p,h=>nomatch h
 |.v _,_,p,h=>nomatch h
 |.c z sp,k,p,h=>by rw[Bt.mp h];exact k
 |
  .j z l r,k,p,h=>by
  rcases By.mp h with h|h
  .exact ML k.2.1 h
  .exact ML k.2.2 h
theorem W6 {ns:List Str}{kt:List Rk}(ok:∀k∈kt,Rok ns k){e:Dw}{tk:List Tk}(h:Rk.ded e.tbl e.sp tk e.tm∈kt){p:Str×List (Str×Int)}(hp:p∈(e.tbl,e.sp)::csT e.tm):Cok ns kt p:=by
 obtain⟨nms,lk,tw,rfl,_⟩:=ok _ h;have key:Lk nms ns (.t (.c p.1 p.2))/\Tk.t (.c p.1 p.2)∈Tk.t (.c e.tbl e.sp)::(BZ e.tm).tk:=by
  rcases Av.mp hp with rfl|hp
  .exact⟨lk,AH⟩
  .exact⟨ML tw hp,B5 _ (Nn hp)⟩
 exact⟨key.1.ok,key.1.tb,λtb hk=>hk _ h _ _ key.2⟩
theorem cok_all {ns:List Str}{kt:List Rk}{D:Dr}(h:Stps (tf ns) D0 kt D)(ok:∀k∈kt,Rok ns k):∀e∈D.dd,∀p∈(e.tbl,e.sp)::csT e.tm,Cok ns kt p:=λe he p hp=>by
 rcases Xm h e he with z|⟨tk,z⟩
 .cases z
 .exact W6 ok z hp
def Bd (Ln:List Str)(d:Nat):Prop:=d<=Ln.length/\Ln.length<=200/\(∀y∈Ln,y.length<=1000/\10∉cds y)/\∀rest,rdF ((Ln.take d).map cds++rest) 0 D0 [] = .inl d
theorem rk_fine {ns:List Str}{ks:List Rk}(ok:∀k∈ks,Rok ns k):∀y∈ks.map rkS,y.length<=1000/\10∉cds y:=λy hy=>by
 obtain⟨k,hk,rfl⟩:=CK.mp hy;exact⟨KO (ok k hk),(FZ (ok k hk)).2.2⟩
theorem bd_of {f:Str->Nat}{ns:List Str}{kt:List Rk}{D:Dr}(h:Stps f D0 kt D)(ok:∀k∈kt,Rok ns k){r:Str}(hr:Bdr f kt D r){rest Ln:List Str}(e:Ln=kt.map rkS++r::rest)(hx:∀y∈rest,y.length<=1000/\10∉cds y)(hl:kt.length+rest.length<=199):Bd Ln (kt.length+1):=by
 subst e;obtain⟨h1,h2,h3,h4⟩:=hr;refine⟨by rw[An,Ag,AJ];lia,by rw[An,Ag,AJ];lia,λy hy=>?_,λrst=>?_⟩
 .rcases By.mp hy with hy|hy
  .exact rk_fine ok y hy
  .rcases Av.mp hy with rfl|hy
   .exact⟨h3,h2⟩
   .exact hx y hy
 .have e:(kt.map rkS++r::rest).take (kt.length+1)=kt.map rkS++[r]:=by
   rw[List.take_append,Ag,Nat.add_sub_cancel_left,Gh (by rw[Ag];lia)];rfl
  rw[e,AR,Br,FO];exact Tj h ok h1 h4 rst
def on7 (e:Dw):Rk:=.ded e.tbl (List.replicate e.sp.length ("",1)) [.t (.n 2)] (.n 2)
theorem Ny {ns:List Str}{e:Dw}(h:Dk ns e):(Tk.t (.c e.tbl (List.replicate e.sp.length ("",1)))).Ok/\Rok ns (on7 e)/\tf ns e.tbl=e.sp.length:=by
 obtain⟨hn,hne,h3,_⟩:=h.c.ok;have ok:(Tk.t (.c e.tbl (List.replicate e.sp.length ("",1)))).Ok:=by
  refine⟨hn,λz=>hne ?_,by rw[Fj];exact h3,λs hs=>by rw[(LL.mp hs).2];exact Eb (by decide) (by decide)⟩;have:=congrArg List.length z;rw[Fj]at this;exact Fm this
 have tb:tf ns e.tbl=e.sp.length:=h.c.tb;refine⟨ok,⟨[],⟨ok,?_,?_⟩,⟨⟨by decide,by decide⟩,True.intro,True.intro⟩,rfl,by decide⟩,tb⟩
 .show(List.replicate e.sp.length (("":Str),(1:Int))).all (knw [])=true;rw[EB];intro s hs;rw[(LL.mp hs).2];rfl
 .show tf ns e.tbl=(List.replicate e.sp.length (("":Str),(1:Int))).length;rw[Fj];exact tb
theorem Om {ns:List Str}{e:Dw}(h:Dk ns e):∀(j:Nat) {D:Dr},D.sz≠none->D.dd.length+j<=6->∃E,Stps (tf ns) D (List.replicate j (on7 e)) E/\E.sz≠none/\E.dd.length=D.dd.length+j
 |0,D,h0,_=>⟨D,.nil,h0,rfl⟩
 |
  j+1,D,h0,hj=>by
  obtain⟨o1,o2,o3⟩:=Ny h;have s:Fz (tf ns) D (does D e.tbl (List.replicate e.sp.length ("",1)) (.n 2)) (on7 e):=by
   refine⟨h0,by lia,o1,λk hk=>by rw[Bt.mp hk];exact⟨by decide,by decide⟩,True.intro,by decide,⟨[.n 2],[],rfl,rfl⟩,λk hk=>?_,λk hk=>?_,rfl⟩
   .rcases Av.mp hk with rfl|hk
    .show(List.replicate e.sp.length (("":Str),(1:Int))).all (knw _)=true;rw[EB];intro s hs;rw[(LL.mp hs).2];rfl
    .rw[Bt.mp hk];exact True.intro
   .rcases Av.mp hk with rfl|hk
    .show tf ns e.tbl=(List.replicate e.sp.length (("":Str),(1:Int))).length;rw[Fj];exact o3
    .rw[Bt.mp hk];exact True.intro
  have dl:(does D e.tbl (List.replicate e.sp.length ("",1)) (.n 2)).dd.length=D.dd.length+1:=by
   show(D.dd++[_]).length=_;rw[An];rfl
  obtain⟨E,g1,g2,g3⟩:=Om h j (D:=does D e.tbl (List.replicate e.sp.length ("",1)) (.n 2)) h0 (by lia);exact⟨E,.cons s g1,g2,by lia⟩
theorem on7_txt {ns:List Str}{e:Dw}(h:Dk ns e):rkS (on7 e)=e.tbl++Txt.mul "[1]" (e.sp.length:Int)++" = 2":=by
 obtain⟨hn,hne,h3,_⟩:=h.c.ok;have h0:e.sp.length≠0:=λz=>hne (Fm z);have hk:e.sp.length=1\/e.sp.length=2\/e.sp.length=3:=by lia
 show AY e.tbl (List.replicate e.sp.length ("",1))++" = "++nS 2=_;have key:Txt.join "" ((List.replicate e.sp.length (("":Str),(1:Int))).map Do)=Txt.mul "[1]" (e.sp.length:Int):=by
  rcases hk with h|h|h<;>rw[h]<;>decide +kernel
 unfold AY;rw[key];refine D2 ?_;have e2:cds (" = 2":Str)=cds (" = ":Str)++cds (nS 2):=by decide +kernel
 simp only[B4,e2,Br]
theorem Tu {ns:List Str}{e:Dw}(h:Dk ns e){kt:List Rk}{D:Dr}(h0:D.sz≠none)(h6:D.dd.length=6):Bdr (tf ns) kt D (rkS (on7 e)):=by
 obtain⟨o1,o2,o3⟩:=Ny h;obtain⟨r1,r2,r3⟩:=FZ o2;exact⟨r1,r3,KO o2,λtb _ _=>QF h0 r2 o1 (λk hk=>by rw[Bt.mp hk];exact⟨by decide,by decide⟩) True.intro (.inl h6)⟩
theorem bd_seven {ns:List Str}{kk:List Rk}{D:Dr}{e:Dw}(hs:Stps (tf ns) D0 kk D)(ok:∀k∈kk,Rok ns k)(h:Dk ns e)(h0:D.sz≠none)(h6:D.dd.length<=6)(hl:kk.length<=100):Bd (kk.map rkS++List.replicate (7-D.dd.length) (rkS (on7 e))) (kk.length+7-D.dd.length):=by
 obtain⟨j,hj⟩:∃j,D.dd.length+j=6:=⟨6-D.dd.length,by lia⟩
 obtain⟨E,g1,g2,g3⟩:=Om h j h0 (by lia);obtain⟨o1,o2,o3⟩:=Ny h;have r:=bd_of (U4 hs g1) (ns:=ns) (r:=rkS (on7 e)) (rest:=[]) (Ln:=kk.map rkS++List.replicate (7-D.dd.length) (rkS (on7 e))) (λk hk=>?_) (Tu h g2 (by lia)) ?_ (λ_ h=>nomatch h) (by rw[An,Fj];show _+0<=_;lia)
 .rw[An,Fj]at r;rw[show kk.length+7-D.dd.length=kk.length+j+1 by lia];exact r
 .rcases By.mp hk with hk|hk
  .exact ok k hk
  .rw[(LL.mp hk).2];exact o2
 .rw[AR,List.map_replicate,Br,show 7-D.dd.length=j+1 by lia,List.replicate_succ']
end Rd
namespace Rd
open PySem L2
def spTable:Sp:=λvs H Q _=>∃(c:Int) (dl al:Addr) (ys:List V) (Ds:List Dw) (kt:List Rk) (ns:List Str),vs=[.int c,.ref dl,.ref al]/\H dl=some (.lst ys)/\AN (DZ H) ys Ds/\Ds.length<=6/\H al=some (.lst ((kt.map rkS).map V.str))/\kt.length<=100/\(∀k∈kt,Rok ns k)/\(∀E∈Ds,E.tm.Ok/\E.tm.sz<=5)/\(∀E∈Ds.take (kt.filter isD).length,∀p∈(E.tbl,E.sp)::csT E.tm,Cok ns kt p)/\
 ∀(z:Str) (H':Hp),Ae H H'->(∀D:Dr,D.sz≠none->Bdr (tf ns) kt D z)->Q (.str z) H'
def spSpoilt (K:Zc):Sp:=λvs H Q _=>∃(l dl p nl:Addr) (cs:List Int) (ns:List Str) (ys:List V) (Ds:List Dw) (ks:List Rk) (n la:Int),vs=[.ref l,.ref dl,.ref p,.ref nl]/\A4 K H p (cs.map V.int)/\EO H nl ns/\H dl=some (.lst ys)/\AN (DZ H) ys Ds/\H l=some (.lst (((Rk.sz n::ks).map rkS).map V.str))/\ks.length<=70/\Ds≠[]/\Ds.length<=6/\(∀D∈Ds,Dk ns D)/\(∀k∈Rk.sz n::ks,Rok ns k)/\Stps (tf ns) ⟨some n,[],[],[],0⟩ ks ⟨some n,Ds,[],[],la⟩/\
 ∀(t r:Addr) (H':Hp) (Ln:List Str) (d:Nat),Ae H H'->H' t=some (.tup [.ref r,.int (d:Int)])->H' r=some (.lst (Ln.map V.str))->Bd Ln d->Q (.ref t) H'
end Rd
namespace Rd
open PySem L2
theorem bd_first {ns:List Str}{n la:Int}{ks:List Rk}{Ds:List Dw}(hS:Stps (tf ns) ⟨some n,[],[],[],0⟩ ks ⟨some n,Ds,[],[],la⟩)(dne:Ds≠[])(ok:∀k∈ks,Rok ns k)(hl:ks.length<=70):Bd (ks.map rkS) 1:=by
 cases hS with
 |nil=>exact absurd rfl dne
 |
  @cons _ D' _ k ks s g=>
  refine bd_of (f:=tf ns) (ns:=ns) (kt:=[]) .nil (λ_ h=>nomatch h) (r:=rkS k) (Vg (ok k AH) rfl λm e=>?_) rfl (rk_fine λx hx=>ok x (B5 _ hx)) (by rw[Ag];rw[AJ]at hl;show 0+_<=_;lia);subst e;exact nomatch s.1
theorem bd_loop {ns:List Str}{kt:List Rk}{D:Dr}{r:Str}(h:Stps (tf ns) D0 kt D)(ok:∀k∈kt,Rok ns k)(h0:D.sz≠none)(hr:AW (cds r))(nr:r∉D.lp.map (·.nm)){rest:List Str}(hx:∀y∈rest,y.length<=1000/\10∉cds y)(hl:kt.length+rest.length<=190):Bd (kt.map rkS++("for "++r++" 0 1")::"end"::rest) (kt.length+1+if D.lp.length<3 then 1 else 0):=by
 have s0:SpN ("",0):=Eb (by decide) (by decide);have s1:SpN ("",1):=Eb (by decide) (by decide);have e:"for "++r++" 0 1"=rkS (.opn ⟨r,("",0),("",1)⟩):=by
  refine D2 ?_;show cds ("for "++r++" 0 1")=cds ("for "++r++" "++AI ("",0)++" "++AI ("",1));simp only[B4];have e:cds (" 0 1":Str)=cds (" ":Str)++(cds (AI ("",0))++(cds (" ":Str)++cds (AI ("",1)))):=by decide +kernel
  rw[e];simp only[Br]
 have ro:Rok ns (.opn ⟨r,("",0),("",1)⟩):=⟨hr,s0,s1⟩
 have fine:∀y∈("end":Str)::rest,y.length<=1000/\10∉cds y:=λy hy=>by
  rcases Av.mp hy with rfl|hy
  .exact⟨by decide +kernel,by decide +kernel⟩
  .exact hx y hy
 by_cases h3:D.lp.length<3
 .rw[Ac h3];have st:Fz (tf ns) D (opens D ⟨r,("",0),("",1)⟩) (.opn ⟨r,("",0),("",1)⟩):=⟨h0,h3,hr,nr,s0,s1,rfl,rfl,rfl⟩
  have:=bd_of (h.snoc st) (ns:=ns) (r:="end") (rest:=rest) (Ln:=kt.map rkS++("for "++r++" 0 1")::"end"::rest) (FX ok ro) (end_bad h0 (.inr rfl)) (by rw[AR,Br,e];rfl) hx (by rw[An,Bf];lia)
  rwa [An]at this
 .rw[A9 h3];have l3:=(stps_lp h ⟨BI _,λ_ h=>nomatch h⟩).1;exact bd_of h ok (Kz (t:=⟨r,("",0),("",1)⟩) e hr s0 s1 h0 (.inr (.inr (.inr (by lia))))) rfl fine (by rw[AJ];lia)
theorem again_bad {f:Str->Nat}{kt:List Rk}{D:Dr}{r:Str}(h0:D.sz≠none)(hr:AW (cds r))(nr:r∈D.lp.map (·.nm)):Bdr f kt D ("for "++r++" 0 1"):=by
 refine Kz (t:=⟨r,("",0),("",1)⟩) (D2 ?_) hr (Eb (by decide) (by decide)) (Eb (by decide) (by decide)) h0 (.inr (.inr (.inl nr)));show cds ("for "++r++" 0 1")=cds ("for "++r++" "++AI ("",0)++" "++AI ("",1));simp only[B4];have e:cds (" 0 1":Str)=cds (" ":Str)++(cds (AI ("",0))++(cds (" ":Str)++cds (AI ("",1)))):=by decide +kernel
 rw[e];simp only[Br]
end Rd
namespace L2
open PySem EX
theorem SY {X:Cx}:Mw X (λ_=>E0):=λ_ _ _ _ _ _ _ h=>by
 obtain⟨_,_,_,_,_,_,_,_,_,_,_,_,_,_,_,_,z⟩:=h;exact z.elim
end L2
namespace Rd
open PySem L2
theorem Ni:∀P:List (Option Str×Str),(spFS P).length<=2*P.length
 |[]=>Aq _
 |(none,r)::l=>by show(spFS l).length+1<=_;have:=Ni l;rw[AJ];lia
 |(some x,r)::l=>by show(spFS l).length+1+1<=_;have:=Ni l;rw[AJ];lia
theorem Nl:∀{P:List (Option Str×Str)} {y:Str},y∈spFS P->y∈P.map (·.2)\/∃p∈P,p.1=some y
 |[],y,h=>nomatch h
 |
  (none,r)::l,y,h=>by
  rcases Av.mp h with rfl|h
  .exact .inl AH
  .rcases Nl h with h|⟨p,hp,e⟩
   .exact .inl (B5 _ h)
   .exact .inr ⟨p,B5 _ hp,e⟩
 |
  (some x,r)::l,y,h=>by
  rcases Av.mp h with rfl|h
  .exact .inr ⟨_,AH,rfl⟩
  .rcases Av.mp h with rfl|h
   .exact .inl AH
   .rcases Nl h with h|⟨p,hp,e⟩
    .exact .inl (B5 _ h)
    .exact .inr ⟨p,B5 _ hp,e⟩
theorem line_of {Ln b:List Str}{d:Nat}{P:List (Option Str×Str)}(bd:Bd Ln d)(bl:b.length<=Ln.length-d+1)(bm:∀y∈b,y∈Ln\/y∈oddL)(hP:P.map (·.2)=Ln.take d++b)(hB:∀p∈P,BlkOk p.1) :
  (Txt.join "\n" (spFS P)).length<=900000/\IsSplit [10] (cds (Txt.join "\n" (spFS P))) ((spFS P).map cds)/\(spFS P).length<=1000/\(∀y∈spFS P,y.length<=1000)/\rdF ((spFS P).map cds) 0 D0 [] = .inl (d+cntS P d):=by
 obtain⟨b1,b2,b3,b4⟩:=bd;have pl:P.length<=201:=by
  have:=congrArg List.length hP;rw[Ag,An,Bb]at this;lia
 have pf:=Ni P;have fine:∀y∈spFS P,y.length<=1000/\10∉cds y:=λy hy=>by
  rcases Nl hy with h|⟨p,hp,e⟩
  .rw[hP]at h;rcases By.mp h with h|h
   .exact b3 y (EZ h)
   .rcases bm y h with h|h
    .exact b3 y h
    .obtain⟨_,_,o3,o4⟩:=Pf y h;exact⟨by lia,o3⟩
  .obtain⟨_,o2,o3⟩:=hB p hp y e;exact⟨by lia,o2⟩
 have ne:spFS P≠[]:=λe=>by
  have pn:P=[]:=by
   cases P with
   |nil=>rfl
   |
    cons p l=>
    obtain⟨o,r⟩:=p;cases o<;>cases e
  rw[pn]at hP;have h:=b4 [];rw[(Rb.mp hP.symm).1]at h;cases h
 have nl1:("\n":Str).length=1:=by decide +kernel
 have jl:=M3 "\n" (spFS P);rw[nl1]at jl;have sl:=sum_le (n:=1000) (λy hy=>(fine y hy).1) (l:=spFS P);refine⟨by lia,Mz ne λz hz=>(fine z hz).2,by lia,λy hy=>(fine y hy).1,?_⟩;rw[Nd,Qo];have e:(P.map IU).map (·.2)=(Ln.take d++b).map cds:=by
  rw[←hP,FO,FO];rfl
 have:=Nx (l:=P.map IU) (i:=0) (i':=0) (n:=d) (D:=D0) (tb:=[]) (λp hp x ex=>?_) (by rw[e,Js,AR];exact b4 _)
 .rwa [Js]at this
 .obtain⟨p0,hp0,rfl⟩:=CK.mp hp;have ex:p0.1.map cds=some x:=ex;cases h1:p0.1 with
  |none=>rw[h1]at ex;cases ex
  |
   some y=>
   rw[h1]at ex;cases ex;exact(hB p0 hp0 y h1).1
theorem read_of {ns:List Str}{kk:List Rk}{D:Dr}(h:Stps (tf ns) D0 kk D)(ok:∀k∈kk,Rok ns k)(ne:kk≠[])(hl:kk.length<=100) :
  (Txt.join "\n" (kk.map rkS)).length<=900000/\IsSplit [10] (cds (Txt.join "\n" (kk.map rkS))) ((kk.map rkS).map cds)/\(kk.map rkS).length<=1000/\(∀y∈kk.map rkS,y.length<=1000)/\∃tb,rdF ((kk.map rkS).map cds) 0 D0 [] = .inr (D,tb):=by
 have fine:=rk_fine ok;have nl1:("\n":Str).length=1:=by decide +kernel
 have jl:=M3 "\n" (kk.map rkS);rw[nl1]at jl;have sl:=sum_le (n:=1000) (λy hy=>(fine y hy).1) (l:=kk.map rkS);rw[Ag]at sl jl;obtain⟨tb,_,_,_,hr⟩:=Og h (tb:=[]) ok (λ_ h=>nomatch h);refine⟨by lia,Mz (λe=>ne (Jt.mp e)) λz hz=>(fine z hz).2,by rw[Ag];lia,λy hy=>(fine y hy).1,tb,?_⟩;have:=hr [] 0;rw[D6]at this;rw[FO];exact this
end Rd
namespace L2
open PySem PySem.Spec PyProof.Rows
section
variable {X:Cx}{pins:List (Addr×Obj)}{s:Shared}{σ:St}{H:Hp}
end
end L2
namespace PySem
open Builtin
open AutoSeq1 (wpAny_loadPart')
end PySem
namespace L2
open PySem PySem.Spec PyProof.Rows
end L2
namespace Fo
variable {W:Type}
end Fo
namespace PySem
open PySem.Spec PyProof.Rows
open AutoSeq1 (wpAny_loadPart')
end PySem
namespace L2
open PySem PySem.Spec PyProof.Rows
end L2
namespace HU
open PySem PySem.Spec
section
variable {prog:Program}{w:World}{A:Around}{E:Value->Shared->Prop}{s:Shared}
end
end HU
namespace L2
open PySem PySem.Spec PyProof.Rows
end L2
namespace Fw
open PySem L2 EX
def Ba (i:Nat):Stmt:=PySem.Challenge.pw_furrow_k27_the_first_row_that_is_wrong.main.body.getD i (.Pass ⟨0,0,0,0⟩)
abbrev JF:Stmt:=Gb (Ba 12) 0
abbrev JC:Stmt:=Gb (Ba 3) 0
abbrev Kc:Stmt:=Gb (Ba 4) 0
abbrev Ke:Stmt:=Gb (Ba 5) 0
abbrev KE:Stmt:=Gb (Ba 6) 0
abbrev JP:Stmt:=Gb (Ba 8) 0
abbrev Ky:Stmt:=Gb (Ba 9) 0
abbrev IF:Stmt:=Ba 19
abbrev Lv:Stmt:=Ba 20
abbrev K9:Stmt:=Ba 21
abbrev Kb:Stmt:=Ba 23
abbrev Kx:Stmt:=Ba 24
abbrev JQ:Stmt:=Ba 22
abbrev Ll:Stmt:=Ba 25
abbrev Iy:Stmt:=Ba 26
abbrev KU:Stmt:=Ba 45
abbrev HM:Stmt:=Ba 47
abbrev Kl:Stmt:=Ba 46
abbrev KP:Stmt:=Ba 44
abbrev Ka:Stmt:=Ba 49
abbrev Ki:Stmt:=Ba 48
abbrev KW:Stmt:=Gb (Ba 34) 0
abbrev J4:Stmt:=Ba 42
abbrev Kg:Stmt:=Ba 41
abbrev Lf:Stmt:=Ba 43
abbrev Kk:Stmt:=Ba 40
abbrev JO:Stmt:=Ba 37
abbrev Lx:Stmt:=Ba 38
abbrev L4:Stmt:=Ba 39
abbrev Lc:Stmt:=Ba 36
abbrev Kn:Stmt:=Ba 35
abbrev Ks:Stmt:=Ba 51
abbrev Ko:Stmt:=Ba 52
abbrev KL:Stmt:=Ba 53
abbrev Jd:Stmt:=Ba 54
abbrev K0:Stmt:=Ba 55
abbrev K5:Stmt:=Ba 56
abbrev Lw:Stmt:=Ba 57
abbrev HK:Stmt:=Ba 58
abbrev KA:Stmt:=Ba 59
abbrev KZ:Stmt:=Ba 60
abbrev L8:Stmt:=Ba 61
abbrev Ht:Stmt:=Ba 62
abbrev IB:Stmt:=Ba 63
abbrev KI:Stmt:=Ba 64
abbrev JA:Stmt:=Ba 65
abbrev JE:Stmt:=Ba 66
abbrev Le:Stmt:=Ba 67
abbrev Lu:Stmt:=Ba 68
abbrev IX:Stmt:=Ba 69
abbrev Ja:Stmt:=Ba 70
abbrev Lp:Stmt:=Ba 71
abbrev JU:Stmt:=Ba 72
abbrev KD:Stmt:=Ba 73
abbrev KR:Stmt:=Ba 74
abbrev IM:Stmt:=Ba 75
theorem B9 {N P:List Str}{sc:Scope}(a:sc.kind = .function:=by rfl)(b:sc.isCoroutine=false:=by rfl)(c:sc.isGenerator=false:=by rfl)(d:N.Nodup:=by decide +kernel)(e:N.take P.length=P:=by rfl)(f:∀x∈P,sc.names.lookup x=some .local\/sc.names.lookup x=some .cell:=by decide +kernel)(g:∀y∈sc.names,y.2≠.free:=by decide +kernel):B1 N P sc:=⟨a,b,c,d,e,f,g⟩
theorem Wo:B1 ["self","line"] ["self","line"] (AF JF):=B9
theorem UE:B1 ["self","n"] ["self","n"] (AF JC):=B9
theorem W3:B1 ["self","name"] ["self","name"] (AF Kc):=B9
theorem Yc:B1 ["self","table","spots"] ["self","table","spots"] (AF Ke):=B9
theorem WL:B1 ["self","sign","left","right"] ["self","sign","left","right"] (AF KE):=B9
theorem VP:B1 ["self","names","lows","highs","table","spots","term","path"] ["self","names","lows","highs","table","spots","term","path"] (AF JP):=B9
theorem SO:B1 ["self","size","deeds"] ["self","size","deeds"] (AF Ky):=B9
theorem V7:B1 ["text","signs"] ["text","signs"] (AF IF):=B9
theorem Y6:B1 ["text"] ["text"] (AF Lv):=B9
theorem Xn:B1 ["text"] ["text"] (AF K9):=B9
theorem Q7:B1 ["parts","number"] ["parts"] (AF Kb):=B9
theorem OT:B1 ["parts","number"] ["parts"] (AF Kx):=B9
theorem O5:B1 ["text","number"] ["text"] (AF JQ):=B9
theorem Yw:B1 ["row"] ["row"] (AF Ll):=B9
theorem X6:B1 ["row"] ["row"] (AF Iy):=B9
theorem Lb:B1 ["text","at","inside"] ["text","at"] (AF KU):=B9
theorem NA:B1 ["text","parts","spots"] ["text"] (AF HM):=B9
theorem OR:B1 ["text","number"] ["text"] (AF Kl):=B9
theorem HZ:B1 ["text","parts","at","end","part"] ["text"] (AF KP):=B9
theorem MY:B1 ["terms","signs","least","right","left"] ["terms","signs","least"] (AF Ka):=B9
theorem GS:B1 ["parts","terms","signs","due","part"] ["parts"] (AF Ki):=B9
theorem Rj:B1 ["self"] ["self"] (AF KW):=B9
theorem UQ:B1 ["draft","spots"] ["draft","spots"] (AF J4):=B9
theorem OU:B1 ["draft","parts","part"] ["draft","parts"] (AF Kg):=B9
theorem MG:B1 ["draft","parts","part","many"] ["draft","parts"] (AF Lf):=B9
theorem ID:B1 ["draft","row","halves","cell","parts","term"] ["draft","row"] (AF Kk):=B9
theorem Q2:B1 ["draft","words","size"] ["draft","words"] (AF JO):=B9
theorem Nw:B1 ["draft","words","low","high"] ["draft","words"] (AF Lx):=B9
theorem Z0:B1 ["draft","words"] ["draft","words"] (AF L4):=B9
theorem Qn:B1 ["draft","row","words"] ["draft","row"] (AF Lc):=B9
theorem HQ:B1 ["text","rows","draft","line","row","bare"] ["text"] (AF Kn):=B9
theorem W5:B1 ["_law_script","_law_k"] ["_law_script","_law_k"] (AF Ks):=B9
theorem Ti:B1 ["_law_found"] ["_law_found"] (AF Ko):=B9
theorem Iu:B1 ["_law_cell_here","_law_many","_law_found","_law_number_here","_law_k"] ["_law_cell_here","_law_many"] (AF KL):=B9
theorem Ee:B1 ["_law_cell_here","_law_many","_law_letters","_law_xs","_law_word","_law_long","_law_at","_law_found","_law_k","_law_sign","_law_name"] ["_law_cell_here","_law_many"] (AF Jd):=B9
theorem S7:B1 ["_law_cell_here","_law_far"] ["_law_cell_here","_law_far"] (AF K0):=B9
theorem RZ:B1 ["_law_spot_here"] ["_law_spot_here"] (AF K5):=B9
theorem Mm:B1 ["_law_one","_law_other","_law_known","_law_n"] ["_law_one","_law_other","_law_known"] (AF Lw):=B9
theorem K6:B1 ["_law_xs","_law_known","_law_names_here","_law_many","_law_table_here","_law_spots"] ["_law_xs","_law_known","_law_names_here"] (AF HK):=B9
theorem J6:B1 ["_law_cell_here","_law_known","_law_names_here","_law_xs","_law_n","_law_name","_law_one"] ["_law_cell_here","_law_known","_law_names_here"] (AF KA):=B9
theorem HH:B1 ["_law_sign","_law_left","_law_right","_law_hold","_law_one","_law_other"] ["_law_sign","_law_left","_law_right"] (AF KZ):=B9
theorem FS:B1 ["_law_cell_here","_law_known","_law_names_here","_law_xs","_law_stack","_law_x","_law_right","_law_left"] ["_law_cell_here","_law_known","_law_names_here"] (AF L8):=B9
theorem Jg:B1 ["_law_cell_here","_law_names_here","_law_opened_here","_law_last","_law_xs","_law_known","_law_rest","_law_low"] ["_law_cell_here","_law_names_here","_law_opened_here","_law_last"] (AF Ht):=B9
theorem Hl:B1 ["_law_cell_here","_law_opened_here","_law_path","_law_names_here","_law_known","_law_table_here","_law_spots","_law_text","_law_term_here"] ["_law_cell_here","_law_opened_here","_law_path","_law_names_here"] (AF IB):=B9
theorem DF:B1 ["_law_cells_here","_law_names_here","_law_opened_here","_law_path","_law_rows","_law_deeds","_law_last","_law_cell_here","_law_loop_here","_law_text"] ["_law_cells_here","_law_names_here"] (AF KI):=B9
theorem Kr:B1 ["_law_texts","_law_found","_law_text","_law_words"] ["_law_texts"] (AF JA):=B9
theorem DT:B1 ["_law_cell_here","_law_some"] ["_law_cell_here"] (AF JE):=B9
theorem Lq:B1 ["_law_cell_here","_law_name","_law_rest","_law_some"] ["_law_cell_here","_law_name","_law_rest"] (AF Le):=B9
theorem Ue:B1 ["_law_shape"] ["_law_shape"] (AF Lu):=B9
theorem GG:B1 ["_law_cell_here","_law_deeds","_law_above","_law_some","_law_deed_here","_law_table_here","_law_spots","_law_text"] ["_law_cell_here","_law_deeds","_law_above"] (AF IX):=B9
theorem Ec:B1 ["_law_lines","_law_deeds","_law_script","_law_names_here","_law_way","_law_cell_here","_law_at","_law_one","_law_opened_here","_law_rest","_law_row"] ["_law_lines","_law_deeds","_law_script","_law_names_here"] (AF Ja):=B9
theorem QN:B1 ["_law_lines","_law_due","_law_cell_here","_law_at"] ["_law_lines","_law_due","_law_cell_here"] (AF Lp):=B9
theorem Hj:B1 ["_law_lines","_law_due","_law_cell_here","_law_xs","_law_found","_law_later","_law_k"] ["_law_lines","_law_due","_law_cell_here"] (AF JU):=B9
theorem Km:B1 ["_law_text","_law_found","e"] ["_law_text"] (AF KD):=B9
theorem JV:B1 ["_law_text","_law_found","e"] ["_law_text"] (AF KR):=B9
theorem Ey:B1 ["_law_script","_law_names_here","_law_rows","_law_deeds","_law_lines","_law_spoilt_here","_law_due","_law_text","_law_found"] ["_law_script"] (AF IM):=B9
theorem WB:D7 (DV [(".0",.local),("sign",.local),("signs",.free)]) (AF IF)  ["text","signs"] ["sign","signs"] [none,some 1]=true:=by decide +kernel
theorem Yx:(["sign","signs"]:List Str).Nodup:=by decide +kernel
theorem W4:D7 (DV [(".0",.local),("word",.local)]) (AF Iy)  ["row"] ["word"] [none]=true:=by decide +kernel
theorem Vc:(["word"]:List Str).Nodup:=by decide +kernel
theorem VB:D7 (DV [(".0",.local),("inner",.local),("spot_of",.globalImplicit)]) (AF HM)  ["text","parts","spots"] ["inner"] [none]=true:=by decide +kernel
theorem Z4:(["inner"]:List Str).Nodup:=by decide +kernel
theorem Wz:D7 (DV [(".0",.local),("spot",.local)]) (AF HM)  ["text","parts","spots"] ["spot"] [none]=true:=by decide +kernel
theorem Wu:(["spot"]:List Str).Nodup:=by decide +kernel
theorem Uo:D7 (DV [(".0",.local),("spot",.local),("draft",.free)]) (AF J4)  ["draft","spots"] ["spot","draft"] [none,some 0]=true:=by decide +kernel
theorem XF:(["spot","draft"]:List Str).Nodup:=by decide +kernel
theorem Wv:D7 (DV [(".0",.local),("_law_x",.local),("_law_letters",.free)]) (AF Jd)  ["_law_cell_here","_law_many","_law_letters","_law_xs","_law_word","_law_long","_law_at","_law_found","_law_k","_law_sign","_law_name"] ["_law_x","_law_letters"] [none,some 2]=true:=by decide +kernel
theorem SU:(["_law_x","_law_letters"]:List Str).Nodup:=by decide +kernel
theorem YQ:D7 (DV [(".0",.local),("_law_k",.local),("_law_spot",.globalImplicit),("_law_known",.free),("_law_xs",.free)]) (AF HK)  ["_law_xs","_law_known","_law_names_here","_law_many","_law_table_here","_law_spots"] ["_law_k","_law_known","_law_xs"] [none,some 1,some 0]=true:=by decide +kernel
theorem UG:(["_law_k","_law_known","_law_xs"]:List Str).Nodup:=by decide +kernel
theorem Tn:D7 (DV [(".0",.local),("_law_spot_here",.local),("_law_spot_text",.globalImplicit)]) (AF HK)  ["_law_xs","_law_known","_law_names_here","_law_many","_law_table_here","_law_spots"] ["_law_spot_here"] [none]=true:=by decide +kernel
theorem Xu:(["_law_spot_here"]:List Str).Nodup:=by decide +kernel
theorem YJ:D7 (DV [(".0",.local),("_law_one",.local)]) (AF Ht)  ["_law_cell_here","_law_names_here","_law_opened_here","_law_last","_law_xs","_law_known","_law_rest","_law_low"] ["_law_one"] [none]=true:=by decide +kernel
theorem VW:(["_law_one"]:List Str).Nodup:=by decide +kernel
theorem Tb:D7 (DV [(".0",.local),("_law_name",.local),("_law_known",.free)]) (AF Ht)  ["_law_cell_here","_law_names_here","_law_opened_here","_law_last","_law_xs","_law_known","_law_rest","_law_low"] ["_law_name","_law_known"] [none,some 5]=true:=by decide +kernel
theorem Xj:(["_law_name","_law_known"]:List Str).Nodup:=by decide +kernel
theorem UJ:D7 (DV [(".0",.local),("_law_one",.local)]) (AF IB)  ["_law_cell_here","_law_opened_here","_law_path","_law_names_here","_law_known","_law_table_here","_law_spots","_law_text","_law_term_here"] ["_law_one"] [none]=true:=by decide +kernel
theorem XR:(["_law_one"]:List Str).Nodup:=by decide +kernel
theorem WO:D7 (DV [(".0",.local),("_law_text",.local)]) (AF IX)  ["_law_cell_here","_law_deeds","_law_above","_law_some","_law_deed_here","_law_table_here","_law_spots","_law_text"] ["_law_text"] [none]=true:=by decide +kernel
theorem U5:(["_law_text"]:List Str).Nodup:=by decide +kernel
theorem UU:D7 (DV [(".0",.local),("_law_name",.local),("_law_opened_here",.free)]) (AF Ja)  ["_law_lines","_law_deeds","_law_script","_law_names_here","_law_way","_law_cell_here","_law_at","_law_one","_law_opened_here","_law_rest","_law_row"] ["_law_name","_law_opened_here"] [none,some 8]=true:=by decide +kernel
theorem Vi:(["_law_name","_law_opened_here"]:List Str).Nodup:=by decide +kernel
theorem YD:D7 (DV [(".0",.local),("_law_deep",.local),("_law_text",.local)]) (AF IM)  ["_law_script","_law_names_here","_law_rows","_law_deeds","_law_lines","_law_spoilt_here","_law_due","_law_text","_law_found"] ["_law_deep","_law_text"] [none,none]=true:=by decide +kernel
theorem Q8:(["_law_deep","_law_text"]:List Str).Nodup:=by decide +kernel
structure Bk (K:Zc)(x:Str)(st:Stmt)(f:Addr)(d:FuncData):Prop where
 a:PySem.W.nsIn K mainGlobals x=some (some (.ref f))
 F:AZ K x x st f d
structure G8 (K:Zc)(C:Addr)(x q:Str)(st:Stmt)(f:Addr)(d:FuncData):Prop where
 a:PySem.W.findIn K (.ref C) x=some (some (.ref f))
 i:PySem.W.isFn K (.ref f)=true
 F:AZ K x q st f d
structure ClA (K:Zc)(C:Addr)(x:Str):Prop where
 a:PySem.W.nsIn K mainGlobals x=some (some (.ref C))
 pg:PySem.W.plainGet K C Str.empty=true
 hd:PySem.W.hasDictIn K C=true
 po:PySem.W.plainOver K C=true
 sa:PySem.W.findIn K (.ref C) "__setattr__"=some (some (.builtin "object.__setattr__"))
 mi:PySem.W.makesIn K C=true
 kc:PySem.W.keepIn K (.ref C)=true
abbrev B8 (x q:Str)(st:Stmt)(ps:List Str):Prop := ∀(kV doc pm:Value) (an:Option Addr) (cdv ct:Value) (us:List Value),us.length=ps.length->bindArgs (PySem.W.fnOf x q (IE st) (Gy st) (AF st) .none kV doc pm an cdv ct) ⟨us,[]⟩=pure (ps.zip us)
structure Ad where
 f_W:Addr
 d_W:FuncData
 f_X:Addr
 d_X:FuncData
 f_Y:Addr
 d_Y:FuncData
 f_Z:Addr
 d_Z:FuncData
 f_0:Addr
 d_0:FuncData
 f_1:Addr
 d_1:FuncData
 f_2:Addr
 d_2:FuncData
 f_k:Addr
 d_k:FuncData
 f_d:Addr
 d_d:FuncData
 f_c:Addr
 d_c:FuncData
 f_u:Addr
 d_u:FuncData
 f_v:Addr
 d_v:FuncData
 f_f:Addr
 d_f:FuncData
 f_w:Addr
 d_w:FuncData
 f_x:Addr
 d_x:FuncData
 f_y:Addr
 d_y:FuncData
 f_l:Addr
 d_l:FuncData
 f_z:Addr
 d_z:FuncData
 f_A:Addr
 d_A:FuncData
 f_j:Addr
 d_j:FuncData
 f_B:Addr
 d_B:FuncData
 f_3:Addr
 d_3:FuncData
 f_m:Addr
 d_m:FuncData
 f_C:Addr
 d_C:FuncData
 f_D:Addr
 d_D:FuncData
 f_E:Addr
 d_E:FuncData
 f_F:Addr
 d_F:FuncData
 f_G:Addr
 d_G:FuncData
 f_H:Addr
 d_H:FuncData
 f_I:Addr
 d_I:FuncData
 f_e:Addr
 d_e:FuncData
 f_b:Addr
 d_b:FuncData
 f_J:Addr
 d_J:FuncData
 f_a:Addr
 d_a:FuncData
 f_K:Addr
 d_K:FuncData
 f_n:Addr
 d_n:FuncData
 f_g:Addr
 d_g:FuncData
 f_h:Addr
 d_h:FuncData
 f_o:Addr
 d_o:FuncData
 f_q:Addr
 d_q:FuncData
 f_r:Addr
 d_r:FuncData
 f_L:Addr
 d_L:FuncData
 f_M:Addr
 d_M:FuncData
 f_s:Addr
 d_s:FuncData
 f_N:Addr
 d_N:FuncData
 f_O:Addr
 d_O:FuncData
 f_p:Addr
 d_p:FuncData
 f_P:Addr
 d_P:FuncData
 f_i:Addr
 d_i:FuncData
 f_Q:Addr
 d_Q:FuncData
 f_R:Addr
 d_R:FuncData
 f_S:Addr
 d_S:FuncData
 f_T:Addr
 d_T:FuncData
 f_t:Addr
 d_t:FuncData
 f_U:Addr
 d_U:FuncData
 f_V:Addr
 d_V:FuncData
 c_Term:Addr
 c_Number:Addr
 c_Value:Addr
 c_Cell:Addr
 c_Joined:Addr
 c_Deed:Addr
 c_Program:Addr
 c_Draft:Addr
 c_FurrowError:Addr
 c_NoText:Addr
 u_FIGURES:Value
 u_LEAST_SIZE:Value
 u_LETTERS:Value
 u_MOST_DEEDS:Value
 u_MOST_FIGURES:Value
 u_MOST_LETTERS:Value
 u_MOST_LOOPS:Value
 u_MOST_SPOTS:Value
 u_ROW_WORDS:Addr
 u_SIGNS:Value
 u_STRENGTHS:Addr
structure Tx (w:World)(K:Zc)(mg:Str->Option Value)(a:Ad):Prop where
 F_W:AZ K "__init__" "NoText.__init__" JF a.f_W a.d_W
 b_W:AV K a.d_W ["self","line"] []
 F_X:AZ K "__init__" "Number.__init__" JC a.f_X a.d_X
 b_X:AV K a.d_X ["self","n"] []
 F_Y:AZ K "__init__" "Value.__init__" Kc a.f_Y a.d_Y
 b_Y:AV K a.d_Y ["self","name"] []
 F_Z:AZ K "__init__" "Cell.__init__" Ke a.f_Z a.d_Z
 b_Z:AV K a.d_Z ["self","table","spots"] []
 F_0:AZ K "__init__" "Joined.__init__" KE a.f_0 a.d_0
 b_0:AV K a.d_0 ["self","sign","left","right"] []
 F_1:AZ K "__init__" "Deed.__init__" JP a.f_1 a.d_1
 b_1:AV K a.d_1 ["self","names","lows","highs","table","spots","term","path"] []
 F_2:AZ K "__init__" "Program.__init__" Ky a.f_2 a.d_2
 b_2:AV K a.d_2 ["self","size","deeds"] []
 F_k:AZ K "made_of" "made_of" IF a.f_k a.d_k
 b_k:AV K a.d_k ["text","signs"] []
 m_k:mg "made_of"=some (.ref a.f_k)
 F_d:AZ K "number_of" "number_of" Lv a.f_d a.d_d
 b_d:AV K a.d_d ["text"] []
 m_d:mg "number_of"=some (.ref a.f_d)
 F_c:AZ K "is_name" "is_name" K9 a.f_c a.d_c
 b_c:AV K a.d_c ["text"] []
 m_c:mg "is_name"=some (.ref a.f_c)
 F_u:AZ K "risen" "risen" Kb a.f_u a.d_u
 b_u:AV K a.d_u ["parts"] []
 m_u:mg "risen"=some (.ref a.f_u)
 F_v:AZ K "fallen" "fallen" Kx a.f_v a.d_v
 b_v:AV K a.d_v ["parts"] []
 m_v:mg "fallen"=some (.ref a.f_v)
 F_f:AZ K "spot_of" "spot_of" JQ a.f_f a.d_f
 b_f:AV K a.d_f ["text"] []
 m_f:mg "spot_of"=some (.ref a.f_f)
 F_w:AZ K "bare_row" "bare_row" Ll a.f_w a.d_w
 b_w:AV K a.d_w ["row"] []
 m_w:mg "bare_row"=some (.ref a.f_w)
 F_x:AZ K "words_of" "words_of" Iy a.f_x a.d_x
 b_x:AV K a.d_x ["row"] []
 m_x:mg "words_of"=some (.ref a.f_x)
 F_y:AZ K "part_end" "part_end" KU a.f_y a.d_y
 b_y:AV K a.d_y ["text","at"] []
 m_y:mg "part_end"=some (.ref a.f_y)
 F_l:AZ K "cell_of" "cell_of" HM a.f_l a.d_l
 b_l:AV K a.d_l ["text"] []
 m_l:mg "cell_of"=some (.ref a.f_l)
 F_z:AZ K "part_of" "part_of" Kl a.f_z a.d_z
 b_z:AV K a.d_z ["text"] []
 m_z:mg "part_of"=some (.ref a.f_z)
 F_A:AZ K "parts_of" "parts_of" KP a.f_A a.d_A
 b_A:AV K a.d_A ["text"] []
 m_A:mg "parts_of"=some (.ref a.f_A)
 F_j:AZ K "join_waiting" "join_waiting" Ka a.f_j a.d_j
 b_j:AV K a.d_j ["terms","signs","least"] []
 m_j:mg "join_waiting"=some (.ref a.f_j)
 F_B:AZ K "term_of" "term_of" Ki a.f_B a.d_B
 b_B:AV K a.d_B ["parts"] []
 m_B:mg "term_of"=some (.ref a.f_B)
 F_3:AZ K "__init__" "Draft.__init__" KW a.f_3 a.d_3
 b_3:AV K a.d_3 ["self"] []
 F_m:AZ K "spots_known" "spots_known" J4 a.f_m a.d_m
 b_m:AV K a.d_m ["draft","spots"] []
 m_m:mg "spots_known"=some (.ref a.f_m)
 F_C:AZ K "names_known" "names_known" Kg a.f_C a.d_C
 b_C:AV K a.d_C ["draft","parts"] []
 m_C:mg "names_known"=some (.ref a.f_C)
 F_D:AZ K "tables_kept" "tables_kept" Lf a.f_D a.d_D
 b_D:AV K a.d_D ["draft","parts"] []
 m_D:mg "tables_kept"=some (.ref a.f_D)
 F_E:AZ K "deed_taken" "deed_taken" Kk a.f_E a.d_E
 b_E:AV K a.d_E ["draft","row"] []
 m_E:mg "deed_taken"=some (.ref a.f_E)
 F_F:AZ K "size_taken" "size_taken" JO a.f_F a.d_F
 b_F:AV K a.d_F ["draft","words"] []
 m_F:mg "size_taken"=some (.ref a.f_F)
 F_G:AZ K "loop_taken" "loop_taken" Lx a.f_G a.d_G
 b_G:AV K a.d_G ["draft","words"] []
 m_G:mg "loop_taken"=some (.ref a.f_G)
 F_H:AZ K "end_taken" "end_taken" L4 a.f_H a.d_H
 b_H:AV K a.d_H ["draft","words"] []
 m_H:mg "end_taken"=some (.ref a.f_H)
 F_I:AZ K "taken" "taken" Lc a.f_I a.d_I
 b_I:AV K a.d_I ["draft","row"] []
 m_I:mg "taken"=some (.ref a.f_I)
 F_e:AZ K "read" "read" Kn a.f_e a.d_e
 b_e:AV K a.d_e ["text"] []
 m_e:mg "read"=some (.ref a.f_e)
 F_b:AZ K "_law_cell_at" "_law_cell_at" Ks a.f_b a.d_b
 b_b:AV K a.d_b ["_law_script","_law_k"] []
 m_b:mg "_law_cell_at"=some (.ref a.f_b)
 F_J:AZ K "_law_whole" "_law_whole" Ko a.f_J a.d_J
 b_J:AV K a.d_J ["_law_found"] []
 m_J:mg "_law_whole"=some (.ref a.f_J)
 F_a:AZ K "_law_stream" "_law_stream" KL a.f_a a.d_a
 b_a:AV K a.d_a ["_law_cell_here","_law_many"] []
 m_a:mg "_law_stream"=some (.ref a.f_a)
 F_K:AZ K "_law_names" "_law_names" Jd a.f_K a.d_K
 b_K:AV K a.d_K ["_law_cell_here","_law_many"] []
 m_K:mg "_law_names"=some (.ref a.f_K)
 F_n:AZ K "_law_number" "_law_number" K0 a.f_n a.d_n
 b_n:AV K a.d_n ["_law_cell_here","_law_far"] []
 m_n:mg "_law_number"=some (.ref a.f_n)
 F_g:AZ K "_law_spot_text" "_law_spot_text" K5 a.f_g a.d_g
 b_g:AV K a.d_g ["_law_spot_here"] []
 m_g:mg "_law_spot_text"=some (.ref a.f_g)
 F_h:AZ K "_law_spot" "_law_spot" Lw a.f_h a.d_h
 b_h:AV K a.d_h ["_law_one","_law_other","_law_known"] []
 m_h:mg "_law_spot"=some (.ref a.f_h)
 F_o:AZ K "_law_cell" "_law_cell" HK a.f_o a.d_o
 b_o:AV K a.d_o ["_law_xs","_law_known","_law_names_here"] []
 m_o:mg "_law_cell"=some (.ref a.f_o)
 F_q:AZ K "_law_leaf" "_law_leaf" KA a.f_q a.d_q
 b_q:AV K a.d_q ["_law_cell_here","_law_known","_law_names_here"] []
 m_q:mg "_law_leaf"=some (.ref a.f_q)
 F_r:AZ K "_law_both" "_law_both" KZ a.f_r a.d_r
 b_r:AV K a.d_r ["_law_sign","_law_left","_law_right"] []
 m_r:mg "_law_both"=some (.ref a.f_r)
 F_L:AZ K "_law_term" "_law_term" L8 a.f_L a.d_L
 b_L:AV K a.d_L ["_law_cell_here","_law_known","_law_names_here"] []
 m_L:mg "_law_term"=some (.ref a.f_L)
 F_M:AZ K "_law_loop" "_law_loop" Ht a.f_M a.d_M
 b_M:AV K a.d_M ["_law_cell_here","_law_names_here","_law_opened_here","_law_last"] []
 m_M:mg "_law_loop"=some (.ref a.f_M)
 F_s:AZ K "_law_deed" "_law_deed" IB a.f_s a.d_s
 b_s:AV K a.d_s ["_law_cell_here","_law_opened_here","_law_path","_law_names_here"] []
 m_s:mg "_law_deed"=some (.ref a.f_s)
 F_N:AZ K "_law_program" "_law_program" KI a.f_N a.d_N
 b_N:AV K a.d_N ["_law_cells_here","_law_names_here"] []
 m_N:mg "_law_program"=some (.ref a.f_N)
 F_O:AZ K "_law_opened" "_law_opened" JA a.f_O a.d_O
 b_O:AV K a.d_O ["_law_texts"] []
 m_O:mg "_law_opened"=some (.ref a.f_O)
 F_p:AZ K "_law_odd" "_law_odd" JE a.f_p a.d_p
 b_p:AV K a.d_p ["_law_cell_here"] []
 m_p:mg "_law_odd"=some (.ref a.f_p)
 F_P:AZ K "_law_strange" "_law_strange" Le a.f_P a.d_P
 b_P:AV K a.d_P ["_law_cell_here","_law_name","_law_rest"] []
 m_P:mg "_law_strange"=some (.ref a.f_P)
 F_i:AZ K "_law_cells" "_law_cells" Lu a.f_i a.d_i
 b_i:AV K a.d_i ["_law_shape"] []
 m_i:mg "_law_cells"=some (.ref a.f_i)
 F_Q:AZ K "_law_table" "_law_table" IX a.f_Q a.d_Q
 b_Q:AV K a.d_Q ["_law_cell_here","_law_deeds","_law_above"] []
 m_Q:mg "_law_table"=some (.ref a.f_Q)
 F_R:AZ K "_law_spoilt" "_law_spoilt" Ja a.f_R a.d_R
 b_R:AV K a.d_R ["_law_lines","_law_deeds","_law_script","_law_names_here"] []
 m_R:mg "_law_spoilt"=some (.ref a.f_R)
 F_S:AZ K "_law_more" "_law_more" Lp a.f_S a.d_S
 b_S:AV K a.d_S ["_law_lines","_law_due","_law_cell_here"] []
 m_S:mg "_law_more"=some (.ref a.f_S)
 F_T:AZ K "_law_spaced" "_law_spaced" JU a.f_T a.d_T
 b_T:AV K a.d_T ["_law_lines","_law_due","_law_cell_here"] []
 m_T:mg "_law_spaced"=some (.ref a.f_T)
 F_t:AZ K "_law_line" "_law_line" KD a.f_t a.d_t
 b_t:AV K a.d_t ["_law_text"] []
 m_t:mg "_law_line"=some (.ref a.f_t)
 F_U:AZ K "_law_by_base" "_law_by_base" KR a.f_U a.d_U
 b_U:AV K a.d_U ["_law_text"] []
 m_U:mg "_law_by_base"=some (.ref a.f_U)
 F_V:AZ K "law" "law" IM a.f_V a.d_V
 b_V:AV K a.d_V ["_law_script"] []
 m_V:mg "law"=some (.ref a.f_V)
 cl_Term:DQ K a.c_Term
 mc_Term:mg "Term"=some (.ref a.c_Term)
 cl_Number:DQ K a.c_Number
 mc_Number:mg "Number"=some (.ref a.c_Number)
 mk_Number:Mk K a.c_Number a.f_X
 n_Number_n:BV K a.c_Number "n"
 cl_Value:DQ K a.c_Value
 mc_Value:mg "Value"=some (.ref a.c_Value)
 mk_Value:Mk K a.c_Value a.f_Y
 n_Value_name:BV K a.c_Value "name"
 cl_Cell:DQ K a.c_Cell
 mc_Cell:mg "Cell"=some (.ref a.c_Cell)
 mk_Cell:Mk K a.c_Cell a.f_Z
 n_Cell_table:BV K a.c_Cell "table"
 n_Cell_spots:BV K a.c_Cell "spots"
 cl_Joined:DQ K a.c_Joined
 mc_Joined:mg "Joined"=some (.ref a.c_Joined)
 mk_Joined:Mk K a.c_Joined a.f_0
 n_Joined_sign:BV K a.c_Joined "sign"
 n_Joined_left:BV K a.c_Joined "left"
 n_Joined_right:BV K a.c_Joined "right"
 cl_Deed:DQ K a.c_Deed
 mc_Deed:mg "Deed"=some (.ref a.c_Deed)
 mk_Deed:Mk K a.c_Deed a.f_1
 n_Deed_names:BV K a.c_Deed "names"
 n_Deed_lows:BV K a.c_Deed "lows"
 n_Deed_highs:BV K a.c_Deed "highs"
 n_Deed_table:BV K a.c_Deed "table"
 n_Deed_spots:BV K a.c_Deed "spots"
 n_Deed_term:BV K a.c_Deed "term"
 n_Deed_path:BV K a.c_Deed "path"
 cl_Program:DQ K a.c_Program
 mc_Program:mg "Program"=some (.ref a.c_Program)
 mk_Program:Mk K a.c_Program a.f_2
 n_Program_size:BV K a.c_Program "size"
 n_Program_deeds:BV K a.c_Program "deeds"
 cl_Draft:DQ K a.c_Draft
 mc_Draft:mg "Draft"=some (.ref a.c_Draft)
 mk_Draft:Mk K a.c_Draft a.f_3
 n_Draft_size:BV K a.c_Draft "size"
 n_Draft_deeds:BV K a.c_Draft "deeds"
 n_Draft_tables:BV K a.c_Draft "tables"
 n_Draft_names:BV K a.c_Draft "names"
 n_Draft_lows:BV K a.c_Draft "lows"
 n_Draft_highs:BV K a.c_Draft "highs"
 n_Draft_path:BV K a.c_Draft "path"
 ty_Number:∀(H:Hp) (x dx:Addr) (fs:List (Str×V)),H x=some (.ins a.c_Number dx fs)->CT K H (.ref x) (.ref a.c_Number)
 is_Number_Term:PySem.W.kitOne K (.ref a.c_Number) (.ref a.c_Term)=some true
 is_Number_Number:PySem.W.kitOne K (.ref a.c_Number) (.ref a.c_Number)=some true
 is_Number_Value:PySem.W.kitOne K (.ref a.c_Number) (.ref a.c_Value)=some false
 is_Number_Cell:PySem.W.kitOne K (.ref a.c_Number) (.ref a.c_Cell)=some false
 is_Number_Joined:PySem.W.kitOne K (.ref a.c_Number) (.ref a.c_Joined)=some false
 is_Number_Deed:PySem.W.kitOne K (.ref a.c_Number) (.ref a.c_Deed)=some false
 is_Number_Program:PySem.W.kitOne K (.ref a.c_Number) (.ref a.c_Program)=some false
 is_Number_Draft:PySem.W.kitOne K (.ref a.c_Number) (.ref a.c_Draft)=some false
 ty_Value:∀(H:Hp) (x dx:Addr) (fs:List (Str×V)),H x=some (.ins a.c_Value dx fs)->CT K H (.ref x) (.ref a.c_Value)
 is_Value_Term:PySem.W.kitOne K (.ref a.c_Value) (.ref a.c_Term)=some true
 is_Value_Number:PySem.W.kitOne K (.ref a.c_Value) (.ref a.c_Number)=some false
 is_Value_Value:PySem.W.kitOne K (.ref a.c_Value) (.ref a.c_Value)=some true
 is_Value_Cell:PySem.W.kitOne K (.ref a.c_Value) (.ref a.c_Cell)=some false
 is_Value_Joined:PySem.W.kitOne K (.ref a.c_Value) (.ref a.c_Joined)=some false
 is_Value_Deed:PySem.W.kitOne K (.ref a.c_Value) (.ref a.c_Deed)=some false
 is_Value_Program:PySem.W.kitOne K (.ref a.c_Value) (.ref a.c_Program)=some false
 is_Value_Draft:PySem.W.kitOne K (.ref a.c_Value) (.ref a.c_Draft)=some false
 ty_Cell:∀(H:Hp) (x dx:Addr) (fs:List (Str×V)),H x=some (.ins a.c_Cell dx fs)->CT K H (.ref x) (.ref a.c_Cell)
 is_Cell_Term:PySem.W.kitOne K (.ref a.c_Cell) (.ref a.c_Term)=some true
 is_Cell_Number:PySem.W.kitOne K (.ref a.c_Cell) (.ref a.c_Number)=some false
 is_Cell_Value:PySem.W.kitOne K (.ref a.c_Cell) (.ref a.c_Value)=some false
 is_Cell_Cell:PySem.W.kitOne K (.ref a.c_Cell) (.ref a.c_Cell)=some true
 is_Cell_Joined:PySem.W.kitOne K (.ref a.c_Cell) (.ref a.c_Joined)=some false
 is_Cell_Deed:PySem.W.kitOne K (.ref a.c_Cell) (.ref a.c_Deed)=some false
 is_Cell_Program:PySem.W.kitOne K (.ref a.c_Cell) (.ref a.c_Program)=some false
 is_Cell_Draft:PySem.W.kitOne K (.ref a.c_Cell) (.ref a.c_Draft)=some false
 ty_Joined:∀(H:Hp) (x dx:Addr) (fs:List (Str×V)),H x=some (.ins a.c_Joined dx fs)->CT K H (.ref x) (.ref a.c_Joined)
 is_Joined_Term:PySem.W.kitOne K (.ref a.c_Joined) (.ref a.c_Term)=some true
 is_Joined_Number:PySem.W.kitOne K (.ref a.c_Joined) (.ref a.c_Number)=some false
 is_Joined_Value:PySem.W.kitOne K (.ref a.c_Joined) (.ref a.c_Value)=some false
 is_Joined_Cell:PySem.W.kitOne K (.ref a.c_Joined) (.ref a.c_Cell)=some false
 is_Joined_Joined:PySem.W.kitOne K (.ref a.c_Joined) (.ref a.c_Joined)=some true
 is_Joined_Deed:PySem.W.kitOne K (.ref a.c_Joined) (.ref a.c_Deed)=some false
 is_Joined_Program:PySem.W.kitOne K (.ref a.c_Joined) (.ref a.c_Program)=some false
 is_Joined_Draft:PySem.W.kitOne K (.ref a.c_Joined) (.ref a.c_Draft)=some false
 is_str_Term:PySem.W.kitOne K (.type "str") (.ref a.c_Term)=some false
 is_str_Number:PySem.W.kitOne K (.type "str") (.ref a.c_Number)=some false
 is_str_Value:PySem.W.kitOne K (.type "str") (.ref a.c_Value)=some false
 is_str_Cell:PySem.W.kitOne K (.type "str") (.ref a.c_Cell)=some false
 is_str_Joined:PySem.W.kitOne K (.type "str") (.ref a.c_Joined)=some false
 is_str_Deed:PySem.W.kitOne K (.type "str") (.ref a.c_Deed)=some false
 is_str_Program:PySem.W.kitOne K (.type "str") (.ref a.c_Program)=some false
 is_str_Draft:PySem.W.kitOne K (.type "str") (.ref a.c_Draft)=some false
 ty_Deed:∀(H:Hp) (x dx:Addr) (fs:List (Str×V)),H x=some (.ins a.c_Deed dx fs)->CT K H (.ref x) (.ref a.c_Deed)
 is_Deed_Term:PySem.W.kitOne K (.ref a.c_Deed) (.ref a.c_Term)=some false
 is_Deed_Number:PySem.W.kitOne K (.ref a.c_Deed) (.ref a.c_Number)=some false
 is_Deed_Value:PySem.W.kitOne K (.ref a.c_Deed) (.ref a.c_Value)=some false
 is_Deed_Cell:PySem.W.kitOne K (.ref a.c_Deed) (.ref a.c_Cell)=some false
 is_Deed_Joined:PySem.W.kitOne K (.ref a.c_Deed) (.ref a.c_Joined)=some false
 is_Deed_Deed:PySem.W.kitOne K (.ref a.c_Deed) (.ref a.c_Deed)=some true
 is_Deed_Program:PySem.W.kitOne K (.ref a.c_Deed) (.ref a.c_Program)=some false
 is_Deed_Draft:PySem.W.kitOne K (.ref a.c_Deed) (.ref a.c_Draft)=some false
 ty_Program:∀(H:Hp) (x dx:Addr) (fs:List (Str×V)),H x=some (.ins a.c_Program dx fs)->CT K H (.ref x) (.ref a.c_Program)
 is_Program_Term:PySem.W.kitOne K (.ref a.c_Program) (.ref a.c_Term)=some false
 is_Program_Number:PySem.W.kitOne K (.ref a.c_Program) (.ref a.c_Number)=some false
 is_Program_Value:PySem.W.kitOne K (.ref a.c_Program) (.ref a.c_Value)=some false
 is_Program_Cell:PySem.W.kitOne K (.ref a.c_Program) (.ref a.c_Cell)=some false
 is_Program_Joined:PySem.W.kitOne K (.ref a.c_Program) (.ref a.c_Joined)=some false
 is_Program_Deed:PySem.W.kitOne K (.ref a.c_Program) (.ref a.c_Deed)=some false
 is_Program_Program:PySem.W.kitOne K (.ref a.c_Program) (.ref a.c_Program)=some true
 is_Program_Draft:PySem.W.kitOne K (.ref a.c_Program) (.ref a.c_Draft)=some false
 ty_Draft:∀(H:Hp) (x dx:Addr) (fs:List (Str×V)),H x=some (.ins a.c_Draft dx fs)->CT K H (.ref x) (.ref a.c_Draft)
 is_Draft_Term:PySem.W.kitOne K (.ref a.c_Draft) (.ref a.c_Term)=some false
 is_Draft_Number:PySem.W.kitOne K (.ref a.c_Draft) (.ref a.c_Number)=some false
 is_Draft_Value:PySem.W.kitOne K (.ref a.c_Draft) (.ref a.c_Value)=some false
 is_Draft_Cell:PySem.W.kitOne K (.ref a.c_Draft) (.ref a.c_Cell)=some false
 is_Draft_Joined:PySem.W.kitOne K (.ref a.c_Draft) (.ref a.c_Joined)=some false
 is_Draft_Deed:PySem.W.kitOne K (.ref a.c_Draft) (.ref a.c_Deed)=some false
 is_Draft_Program:PySem.W.kitOne K (.ref a.c_Draft) (.ref a.c_Program)=some false
 is_Draft_Draft:PySem.W.kitOne K (.ref a.c_Draft) (.ref a.c_Draft)=some true
 mc_FurrowError:mg "FurrowError"=some (.ref a.c_FurrowError)
 xi_FurrowError:XI K a.c_FurrowError
 ct_FurrowError:∃N,∀h,K.In h->EX.ClsT h a.c_FurrowError N (([]:List Addr).map Value.ref++EX.bmVE)
 xm_FurrowError:Yd K a.c_FurrowError
 is_FurrowError_FurrowError:PySem.W.kitOne K (.ref a.c_FurrowError) (.ref a.c_FurrowError)=some true
 is_FurrowError_NoText:PySem.W.kitOne K (.ref a.c_FurrowError) (.ref a.c_NoText)=some false
 kv_FurrowError:PySem.W.kitOne K (.ref a.c_FurrowError) (.type "ValueError")=some true
 mc_NoText:mg "NoText"=some (.ref a.c_NoText)
 xi_NoText:XI K a.c_NoText
 ct_NoText:∃N,∀h,K.In h->EX.ClsT h a.c_NoText N (([a.c_FurrowError]:List Addr).map Value.ref++EX.bmVE)
 xm_NoText:Pj K a.c_NoText a.f_W
 n_NoText_line:BV K a.c_NoText "line"
 is_NoText_FurrowError:PySem.W.kitOne K (.ref a.c_NoText) (.ref a.c_FurrowError)=some true
 is_NoText_NoText:PySem.W.kitOne K (.ref a.c_NoText) (.ref a.c_NoText)=some true
 kv_NoText:PySem.W.kitOne K (.ref a.c_NoText) (.type "ValueError")=some true
 xnd:([a.c_FurrowError,a.c_NoText]:List Addr).Nodup
 xb:XB K a.c_FurrowError
 z_abs:mg "abs"=none
 z_all:mg "all"=none
 z_bool:mg "bool"=none
 z_enumerate:mg "enumerate"=none
 z_int:mg "int"=none
 z_isinstance:mg "isinstance"=none
 z_len:mg "len"=none
 z_list:mg "list"=none
 z_max:mg "max"=none
 z_range:mg "range"=none
 z_str:mg "str"=none
 z_tuple:mg "tuple"=none
 g_FIGURES:mg "FIGURES"=some a.u_FIGURES
 r_FIGURES:AK (.str "0123456789") a.u_FIGURES
 g_LEAST_SIZE:mg "LEAST_SIZE"=some a.u_LEAST_SIZE
 r_LEAST_SIZE:AK (.int 2) a.u_LEAST_SIZE
 g_LETTERS:mg "LETTERS"=some a.u_LETTERS
 r_LETTERS:AK (.str "abcdefghijklmnopqrstuvwxyz") a.u_LETTERS
 g_MOST_DEEDS:mg "MOST_DEEDS"=some a.u_MOST_DEEDS
 r_MOST_DEEDS:AK (.int 6) a.u_MOST_DEEDS
 g_MOST_FIGURES:mg "MOST_FIGURES"=some a.u_MOST_FIGURES
 r_MOST_FIGURES:AK (.int 18) a.u_MOST_FIGURES
 g_MOST_LETTERS:mg "MOST_LETTERS"=some a.u_MOST_LETTERS
 r_MOST_LETTERS:AK (.int 8) a.u_MOST_LETTERS
 g_MOST_LOOPS:mg "MOST_LOOPS"=some a.u_MOST_LOOPS
 r_MOST_LOOPS:AK (.int 3) a.u_MOST_LOOPS
 g_MOST_SPOTS:mg "MOST_SPOTS"=some a.u_MOST_SPOTS
 r_MOST_SPOTS:AK (.int 3) a.u_MOST_SPOTS
 g_ROW_WORDS:mg "ROW_WORDS"=some (.ref a.u_ROW_WORDS)
 r_ROW_WORDS:AK (.ref a.u_ROW_WORDS) (.ref a.u_ROW_WORDS)
 q_ROW_WORDS:∀H:Hp,Aw K H a.u_ROW_WORDS [.str "for",.str "end",.str "size"]
 g_SIGNS:mg "SIGNS"=some a.u_SIGNS
 r_SIGNS:AK (.str "+-*()") a.u_SIGNS
 g_STRENGTHS:mg "STRENGTHS"=some (.ref a.u_STRENGTHS)
 r_STRENGTHS:AK (.ref a.u_STRENGTHS) (.ref a.u_STRENGTHS)
 d_STRENGTHS:∀P:Program,Nv P w K a.u_STRENGTHS [(.inr "(",.int 0),(.inr "+",.int 1),(.inr "-",.int 1),(.inr "*",.int 2)]
def BY (a:Ad):Cs:=⟨a.c_Number,a.c_Value,a.c_Cell,a.c_Joined⟩
section
variable {P:Program}{w:World}{K:Zc}{mg:Str->Option Value}{base:Heap}{a:Ad}
theorem PF (T:Tx w K mg a):AQ P w K mg base B3 1 a.f_k a.d_k ["text","signs"] TL:=by
 refine T.F_k.ok V7 (λvs H Q E h=>?_) (λcdv A outer s H vs Q E hr h=>?_)
 .obtain⟨_,_,rfl,_⟩:=h;rfl
 obtain⟨z,y,rfl,hz,q⟩:=h;refine⟨_,(Af (Ay (B6 (MN rfl) (by rfl) T.z_all LU (A0 (Ef ["sign","signs"] [none,some 1] (by rfl) (Up (pv 0)) WB (λ_ _ _ _ _ _=>⟨(BB (i:=0) Yx rfl (.inl rfl)),F7,(DY IG (pv 0) (pv 1) (by with_unfolding_all rfl))⟩)) A1)))),?_⟩;refine⟨_,rfl,z,rfl,?_⟩;refine Sj (z:=z) (λi ys H'=>H'=H/\ys=((cds z).take i).map λc=>V.bl (decide (c∈cds y))) ⟨rfl,rfl⟩ (Ap (by have:=cds_len z;lia)) (λi ys H' hi p=>?_) (λi c ys H' hc p=>?_) (λys H' p r hr'=>?_)
 .obtain⟨_,rfl⟩:=p;rw[Ag,Bb];lia
 .obtain⟨rfl,rfl⟩:=p;refine⟨_,rfl,_,rfl,_,_,rfl,rfl,rfl,?_⟩;rw[DB hc,AR,Lh];rfl
 .obtain⟨rfl,rfl⟩:=p;rw[El];refine⟨r,(cds z).map λc=>decide (c∈cds y),rfl,A4.of ?_,?_⟩
  .rw[A3,FO];rfl
  .have e:(((cds z).map λc=>decide (c∈cds y)).all id)=decide (∀c∈cds z,c∈cds y):=by
    rw[Ei];simp only[LM,EB,Function.comp,id,EG]
   rw[e];exact q _ (A6 hr' _)
theorem J5 (T:Tx w K mg a):AQ P w K mg base B3 2 a.f_d a.d_d ["text"] WY:=by
 have G_k :=@PF P w K mg base a T;refine T.F_d.ok Y6 (λvs H Q E h=>?_) (λcdv A outer s H vs Q E hr h=>?_)
 .obtain⟨_,rfl,_⟩:=h;rfl
 obtain⟨z,rfl,hz,q⟩:=h;refine⟨_,(A5 (AM ((Cg (Au Bs (pv 0) Ab (Ax _)) (Cg (Au FH (B6 JN (by rfl) T.z_len Bq (A0 (pv 0) A1)) (CJ (by rfl) T.g_MOST_FIGURES T.r_MOST_FIGURES) (Ax _)) (D4 (E4 (CI (AD G_k (hr.mono (by lia)) (by rfl) T.m_k T.F_k.kp T.b_k .nil Az (A0 (pv 0) (A0 (CJ (by rfl) T.g_FIGURES T.r_FIGURES) A1))))))))).pt
  (Af (Ay Cd))
  AS)
  (A5 (AM ((DG (Au Bs (Aj Fh (pv 0) A2 (λ_ _=>rfl)) Ab (Ax _)) (E8 (Au E9 (pv 0) Ab (Ax _))))).pt
  (Af (Ay Cd))
  AS)
  (Af (Ay (Du We (by rfl) T.z_int HF (A0 (pv 0) A1)))))),?_⟩
 have qn:¬C9 (cds z)->∀H',Ae H H'->Q .non H':=λh H' e=>by
  have:=q H' e;unfold Gq at this
  rwa [A9 h]at this
 have hl:=cds_len z;refine⟨_,rfl,rfl,_,rfl,?_⟩;refine AB (λc=>?_) (λc=>?_)
 .have e:z="":=V.str.inj (dT c);refine AG ?_;exact qn (λg=>by have:=g.1;rw[Hw.mp e]at this;simp at this) H (Ae.refl H)
 have c1:¬z="":=λe=>dF c (by rw[e]);refine⟨_,rfl,_,rfl,Ap (by lia),_,_,rfl,rfl,_,rfl,?_⟩;refine AB (λc2=>?_) (λc2=>?_)
 .have:=dT c2;refine AG ?_;exact qn (λg=>by have:=g.2.1;lia) H (Ae.refl H)
 have c3:=dF c2;refine⟨_,rfl,z,_,rfl,hz,λH1 e1=>?_⟩;refine⟨_,rfl,?_⟩;by_cases hm:∀c∈cds z,c∈cds "0123456789"
 case neg=>
  rw[Bg hm];refine AG ?_;exact qn (λg=>hm λc hc=>(OL c).mpr (g.2.2.2 c hc)) H1 e1
 rw[Bc hm];refine AL ?_;have hd:∀c∈cds z,48<=c/\c<=57:=λc hc=>(OL c).mp (hm c hc);have hne:cds z≠[]:=λe=>c1 (Hw.mpr e);obtain⟨d,r,hdr⟩:∃d r,cds z=d::r:=by
  cases e:cds z with
  |nil=>exact absurd e hne
  |cons d r=>exact⟨d,r,rfl⟩
 refine⟨_,rfl,z,0,d,rfl,rfl,Ap (by lia),(by show Bu (cds z) ((0:Nat):Int)=some d;exact D8 (by rw[hdr];rfl)),rfl,_,rfl,?_⟩;have fin:C9 (cds z)->Q (.int ((NumText.digitsVal (cds z):Nat):Int)) H1:=λg=>by
  have:=q H1 e1;unfold Gq at this
  rwa [Ac g]at this
 have last:C9 (cds z)->_:=λg=>(⟨_,rfl,z,_,rfl,intText_digits (x:=z) (λc hc=>hd c hc) hne (by lia),by lia,fin g⟩:G9 (KC (λxs H Q=>∃z n,xs=[V.str z]/\intText? z=some n/\z.length<=640/\Q (V.int n) H) (HL (EL 0) GL)) {nx:=λx H'=>Q V.non H',rt:=Q} (L2.start ["text"] [V.str z]) H1)
 refine AB (λc4=>?_) (λc4=>?_)
 .have h48:d=48:=by
   have:=V.str.inj (dT c4);have h2:=MK.mp this;rw[P4]at h2;simpa using h2
  refine⟨_,rfl,rfl,_,rfl,?_⟩;by_cases hz0:z="0"
  .rw[Bc (congrArg V.str hz0)];refine AL ?_;refine last ?_;rw[MK.mp hz0];exact⟨by decide,by decide,by decide,by decide⟩
  .refine AB (λ_=>?_) (λc5=>?_)
   .refine qn (λg=>g.2.2.1 ⟨by rw[hdr,h48];rfl,?_⟩) H1 e1;rw[hdr];cases r with
    |nil=>exact absurd (MK.mpr (by rw[hdr,h48])) hz0
    |cons _ _=>simp
   .exact absurd (show(!decide (V.str z=V.str "0"))=true by rw[Bg (λe=>hz0 (V.str.inj e))];rfl) c5
 .refine AL ?_;refine last ⟨by rw[hdr];simp,by lia,fun⟨h1,_⟩=>?_,hd⟩;rw[hdr]at h1;have:d=48:=by simpa using h1
  exact dF c4 (by rw[this];congr 1)
theorem HP (T:Tx w K mg a):AQ P w K mg base B3 2 a.f_c a.d_c ["text"] SH:=by
 have G_k :=@PF P w K mg base a T;refine T.F_c.ok Xn (λvs H Q E h=>?_) (λcdv A outer s H vs Q E hr h=>?_)
 .obtain⟨_,rfl,_⟩:=h;rfl
 obtain⟨z,rfl,hz,q⟩:=h;refine⟨_,(A5 (AM ((Cg (Au Bs (pv 0) Ab (Ax _)) (D4 (Au FH (B6 JN (by rfl) T.z_len Bq (A0 (pv 0) A1)) (CJ (by rfl) T.g_MOST_LETTERS T.r_MOST_LETTERS) (Ax _))))).pt
  (Af (Ay Cw))
  AS)
  (Af (Ay (K4 (AD G_k (hr.mono (by lia)) (by rfl) T.m_k T.F_k.kp T.b_k .nil Az (A0 (pv 0) (A0 (CJ (by rfl) T.g_LETTERS T.r_LETTERS) A1))) (Gv (DY Jy (pv 0) (CJ (by rfl) T.g_ROW_WORDS T.r_ROW_WORDS) (by with_unfolding_all rfl))))))),?_⟩
 have hl:=cds_len z;have qn:¬AW (cds z)->∀H',Ae H H'->Q (.bl false) H':=λh H' e=>by
  have:=q H' e
  rwa [Bg h]at this
 refine⟨_,rfl,rfl,_,rfl,?_⟩;refine AB (λc=>?_) (λc=>?_)
 .have e:z="":=V.str.inj (dT c);refine AG ?_;exact qn (λg=>by have:=g.1;rw[Hw.mp e]at this;simp at this) H (Ae.refl H)
 have c1:¬z="":=λe=>dF c (by rw[e]);refine⟨_,rfl,_,rfl,Ap (by lia),_,_,rfl,rfl,_,rfl,?_⟩;refine AB (λc2=>?_) (λc2=>?_)
 .have:=dT c2;exact qn (λg=>by have:=g.2.1;lia) H (Ae.refl H)
 have c3:=dF c2;refine⟨_,rfl,z,_,rfl,hz,λH1 e1=>?_⟩;refine⟨_,rfl,?_⟩;have hne:1<=(cds z).length:=by
  cases e:cds z with
  |nil=>exact absurd (Hw.mpr e) c1
  |cons _ _=>simp
 refine AB (λc4=>?_) (λc4=>?_)
 .have h4:=dT c4;refine⟨_,rfl,a.u_ROW_WORDS,_,rfl,.inr (T.q_ROW_WORDS _),rfl,rfl,?_⟩;have e2:Dd (V.str z) [.str "for",.str "end",.str "size"]=decide (cds z∈DK):=by
   have:=Qr (cds z)
   rwa [ES]at this
  show Q (.bl (!Dd (V.str z) [.str "for",.str "end",.str "size"])) H1;rw[e2];have:=q H1 e1;have e3:decide (AW (cds z))=!decide (cds z∈DK):=by
   rw[Ei];simp only[EG,Bool.not_eq_true',decide_eq_false_iff_not];exact⟨λg=>g.2.2.2,λg=>⟨hne,by lia,h4,g⟩⟩
  rwa [e3]at this
 .exact qn (λg=>dF c4 g.2.2.1) H1 e1
theorem VG (T:Tx w K mg a):AQ P w K mg base B3 3 a.f_u a.d_u ["parts"] (PB 43 IS K):=by
 have G_d :=@J5 P w K mg base a T;have G_c :=@HP P w K mg base a T;refine T.F_u.ok Q7 (λvs H Q E h=>?_) (λcdv A outer s H vs Q E hr h=>?_)
 .obtain⟨_,_,rfl,_⟩:=h;rfl
 obtain⟨p,l,rfl,hp,hl,q⟩:=h;obtain⟨b,m,e,hpv,h1,h0,hm0,hb,he⟩:=P8 43 l hl;rw[hpv]at hp;refine⟨_,(A5 (Ak (i:=1) Q7.nd rfl (.inl rfl) (AD G_d (hr.mono (by lia)) (by rfl) T.m_d T.F_d.kp T.b_d .nil Az (A0 (Aj B7 (pv 0) A2 (λ_ _=>rfl)) A1)))
  (A5 (AM ((Cg (Au EN (pv 1) Cd (Ax _)) (D4 (E4 (CI (AD G_c (hr.mono (by lia)) (by rfl) T.m_c T.F_c.kp T.b_c .nil Az (A0 (Aj B7 (pv 0) A2 (λ_ _=>rfl)) A1))))))).pt
  (Af (Ay Cd))
  AS)
  (Af (Ay (Cf (A0 (Aj B7 (pv 0) A2 (λ_ _=>rfl)) (A0 (pv 1) A1))))))),?_⟩
 have qn:IS l=none->∀H',Ae H H'->Q .non H':=λz=>by rw[z]at q;exact q
 refine⟨_,rfl,p,_,2,_,rfl,rfl,hp,rfl,_,rfl,he,λH1 e1=>?_⟩;rw[Bl];refine⟨_,rfl,rfl,_,rfl,?_⟩;by_cases g:C9 e
 case neg=>
  rw[Bc (IQ g)];refine AG (AG ?_);refine qn ?_ H1 e1;unfold IS;by_cases hm:43∈l
  .rw[Ac hm,A9 (λz=>g (by rw[(h1 hm).2];exact z.1))]
  .rw[A9 hm]
 have hm:43∈l:=Decidable.byContradiction λz=>Po (by rw[←(h0 z).2];exact g);rw[IW g];refine AL ?_;refine⟨_,rfl,p,_,0,_,rfl,rfl,e1.seqT hp,rfl,_,rfl,hb,λH2 e2=>?_⟩;rw[Bl];refine⟨_,rfl,?_⟩;unfold IS at q;rw[Ac hm,←(h1 hm).1,←(h1 hm).2]at q;by_cases hn:AW b
 .rw[Bc hn];rw[Ac ⟨g,hn⟩]at q;refine AL ?_;exact⟨_,rfl,p,_,0,_,rfl,rfl,(e1.trans e2).seqT hp,rfl,_,rfl,Al rfl,λr hr=>q r _ ((e1.trans e2).trans (A6 hr _)) A3⟩
 .rw[Bg hn];rw[A9 (λz=>hn z.2)]at q;refine AG ?_;exact q H2 (e1.trans e2)
theorem YM (T:Tx w K mg a):AQ P w K mg base B3 3 a.f_v a.d_v ["parts"] (PB 45 K3 K):=by
 have G_d :=@J5 P w K mg base a T;have G_c :=@HP P w K mg base a T;refine T.F_v.ok OT (λvs H Q E h=>?_) (λcdv A outer s H vs Q E hr h=>?_)
 .obtain⟨_,_,rfl,_⟩:=h;rfl
 obtain⟨p,l,rfl,hp,hl,q⟩:=h;obtain⟨b,m,e,hpv,h1,h0,hm0,hb,he⟩:=P8 45 l hl;rw[hpv]at hp;refine⟨_,(A5 (Ak (i:=1) OT.nd rfl (.inl rfl) (AD G_d (hr.mono (by lia)) (by rfl) T.m_d T.F_d.kp T.b_d .nil Az (A0 (Aj B7 (pv 0) A2 (λ_ _=>rfl)) A1)))
  (A5 (AM (Au EN (pv 1) Cd (Ax _))
  (Af (Ay Cd))
  AS)
  (A5 (AM ((Cg (CI (AD G_c (hr.mono (by lia)) (by rfl) T.m_c T.F_c.kp T.b_c .nil Az (A0 (Aj B7 (pv 0) A2 (λ_ _=>rfl)) A1))) (D4 ((DG (Au Bs (Aj B7 (pv 0) A2 (λ_ _=>rfl)) Ab (Ax _)) (E8 (Au FH (pv 1) A2 (Ax _))))).pt))).pt
  (Af (Ay (Cf (A0 (Aj B7 (pv 0) A2 (λ_ _=>rfl)) (A0 (Dh Dj (pv 1)) A1)))))
  AS)
  (Af (Ay Cd))))),?_⟩
 have qn:K3 l=none->∀H',Ae H H'->Q .non H':=λz=>by rw[z]at q;exact q
 refine⟨_,rfl,p,_,2,_,rfl,rfl,hp,rfl,_,rfl,he,λH1 e1=>?_⟩;rw[Bl];refine⟨_,rfl,rfl,_,rfl,?_⟩;by_cases g:C9 e
 case neg=>
  rw[Bc (IQ g)];refine AG ?_;refine qn ?_ H1 e1;unfold K3;by_cases hm:45∈l
  .rw[Ac hm,A9 (λz=>g (by rw[(h1 hm).2];exact z))]
  .rw[A9 hm]
 have hm:45∈l:=Decidable.byContradiction λz=>Po (by rw[←(h0 z).2];exact g);rw[IW g];refine AL ?_;refine⟨_,rfl,p,_,0,_,rfl,rfl,e1.seqT hp,rfl,_,rfl,hb,λH2 e2=>?_⟩;rw[Bl];unfold K3 at q;rw[Ac hm,←(h1 hm).1,←(h1 hm).2,Ac g]at q;refine⟨_,rfl,?_⟩;by_cases hn:AW b
 .rw[Bc hn];rw[Ac (.inl hn)]at q;refine AG (AG ?_);exact⟨_,rfl,p,_,0,_,rfl,rfl,(e1.trans e2).seqT hp,rfl,_,rfl,_,rfl,Al rfl,λr hr=>q r _ ((e1.trans e2).trans (A6 hr _)) A3⟩
 rw[Bg hn];refine AL ?_;refine⟨_,rfl,p,_,0,_,rfl,rfl,(e1.trans e2).seqT hp,rfl,rfl,_,rfl,?_⟩;by_cases hb0:b=[]
 .subst hb0;refine AG ?_;refine⟨_,rfl,_,_,rfl,rfl,_,rfl,?_⟩;refine AB (λc=>?_) (λc=>?_)
  .rw[Ac (.inr ⟨rfl,dT c⟩)]at q;exact⟨_,rfl,p,_,0,_,rfl,rfl,(e1.trans e2).seqT hp,rfl,_,rfl,_,rfl,Al rfl,λr hr=>q r _ ((e1.trans e2).trans (A6 hr _)) A3⟩
  .rw[A9 (λz=>z.elim hn λw=>dF c w.2)]at q;exact q _ (e1.trans e2)
 .have e5:¬V.str (AC b)=V.str (Str.ofString ""):=λz=>hb0 (by have:=Hw.mp (V.str.inj z);rwa [Bl]at this);rw[Bg e5];refine AL (AL ?_);rw[A9 (λz=>z.elim hn λw=>hb0 w.1)]at q;exact q _ (e1.trans e2)
theorem P5 (T:Tx w K mg a):AQ P w K mg base B3 4 a.f_f a.d_f ["text"] (VQ Bv):=by
 have G_d :=@J5 P w K mg base a T;have G_c :=@HP P w K mg base a T;have G_u :=@VG P w K mg base a T;have G_v :=@YM P w K mg base a T;refine T.F_f.ok O5 (λvs H Q E h=>?_) (λcdv A outer s H vs Q E hr h=>?_)
 .obtain⟨_,rfl,_⟩:=h;rfl
 obtain⟨z,rfl,hz,q⟩:=h;refine⟨_,(A5 (AM (CI (AD G_c (hr.mono (by lia)) (by rfl) T.m_c T.F_c.kp T.b_c .nil Az (A0 (pv 0) A1)))
  (Af (Ay (Cf (A0 (pv 0) (A0 A2 A1)))))
  AS)
  (A5 (Ak (i:=1) O5.nd rfl (.inl rfl) (AD G_d (hr.mono (by lia)) (by rfl) T.m_d T.F_d.kp T.b_d .nil Az (A0 (pv 0) A1)))
  (A5 (AM (Au M0 (pv 1) Cd (Ax _))
  (Af (Ay (Cf (A0 Ab (A0 (pv 1) A1)))))
  AS)
  (A5 (AM (Au IG Ab (pv 0) (by with_unfolding_all rfl))
  (Af (Ay (AD G_u (hr.mono (by lia)) (by rfl) T.m_u T.F_u.kp T.b_u .nil Az (A0 (Bx E2 LN LO II (pv 0) (A0 Ab A1)) A1))))
  AS)
  (Af (Ay (AD G_v (hr.mono (by lia)) (by rfl) T.m_v T.F_v.kp T.b_v .nil Az (A0 (Bx E2 LN LO II (pv 0) (A0 Ab A1)) A1)))))))),?_⟩
 refine⟨_,rfl,z,rfl,hz,λH1 e1=>?_⟩;refine⟨_,rfl,?_⟩;by_cases hn:AW (cds z)
 .rw[Bc hn];unfold Bv at q;rw[Ac hn,]at q;refine AG ?_;refine⟨_,rfl,Al rfl,λr hr=>q r _ (e1.trans (A6 hr _)) (by rw[ES];exact A3)⟩
 rw[Bg hn];refine AL ?_;refine⟨_,rfl,z,rfl,hz,λH2 e2=>?_⟩;have e12:=e1.trans e2;refine⟨_,rfl,rfl,_,rfl,?_⟩;unfold Bv at q;rw[A9 hn]at q;by_cases g:C9 (cds z)
 .rw[IW g];rw[Ac g]at q;refine AG ?_;refine⟨_,rfl,Al rfl,λr hr=>q r _ (e12.trans (A6 hr _)) A3⟩
 rw[IQ g];rw[A9 g]at q;refine AL ?_;refine⟨_,rfl,_,_,rfl,rfl,_,rfl,?_⟩;have ep:(!(Builtin.Str.occurrences z (Str.ofString "+") 0 z.length 1).isEmpty)=decide (43∈cds z):=Lh z 43;have hl:=cds_len z;rw[ep];by_cases hp:43∈cds z
 .rw[Bc hp];rw[Ac hp]at q;refine AG ?_;refine⟨_,rfl,rfl,z,43,rfl,rfl,Ap (by lia),λr hr=>?_⟩;refine⟨r,cds z,rfl,Aw.of A3,by lia,?_⟩;unfold IS;rw[Ac hp];exact q.over (e12.trans (A6 hr _))
 .rw[Bg hp];rw[A9 hp]at q;refine AL ?_;refine⟨_,rfl,rfl,z,45,rfl,rfl,Ap (by lia),λr hr=>?_⟩;refine⟨r,cds z,rfl,Aw.of A3,by lia,?_⟩;exact Hi.over q (e12.trans (A6 hr _))
theorem VM (T:Tx w K mg a):AQ P w K mg base B3 1 a.f_X a.d_X ["self","n"] (JM a.c_Number ["n"]):=by
 refine T.F_X.ok UE (λvs H Q E h=>?_) (λcdv A outer s H vs Q E hr h=>?_)
 .obtain⟨_,_,vs,rfl,hl,_⟩:=h;rw[AJ,hl];rfl
 obtain⟨x,dx,vs,rfl,hl,hx,q⟩:=h;obtain⟨n,rfl⟩:∃n,vs=[n]:=by match vs,hl with|[n],_=>exact⟨n,rfl⟩
 refine⟨_,(Af (Cv (pv 0) (pv 1) rfl)),?_⟩;exact⟨_,rfl,_,rfl,x,_,dx,_,rfl,hx,T.cl_Number,T.n_Number_n,(by show 0<1000;decide),q _ (λb o e hb=>by rw[Aa hb];exact e) ⟨dx,A3⟩⟩
theorem U6 (T:Tx w K mg a):AQ P w K mg base B3 1 a.f_Y a.d_Y ["self","name"] (JM a.c_Value ["name"]):=by
 refine T.F_Y.ok W3 (λvs H Q E h=>?_) (λcdv A outer s H vs Q E hr h=>?_)
 .obtain⟨_,_,vs,rfl,hl,_⟩:=h;rw[AJ,hl];rfl
 obtain⟨x,dx,vs,rfl,hl,hx,q⟩:=h;obtain⟨n,rfl⟩:∃n,vs=[n]:=by match vs,hl with|[n],_=>exact⟨n,rfl⟩
 refine⟨_,(Af (Cv (pv 0) (pv 1) rfl)),?_⟩;exact⟨_,rfl,_,rfl,x,_,dx,_,rfl,hx,T.cl_Value,T.n_Value_name,(by show 0<1000;decide),q _ (λb o e hb=>by rw[Aa hb];exact e) ⟨dx,A3⟩⟩
theorem Ur (T:Tx w K mg a):AQ P w K mg base B3 1 a.f_Z a.d_Z ["self","table","spots"] (JM a.c_Cell ["table","spots"]):=by
 refine T.F_Z.ok Yc (λvs H Q E h=>?_) (λcdv A outer s H vs Q E hr h=>?_)
 .obtain⟨_,_,vs,rfl,hl,_⟩:=h;rw[AJ,hl];rfl
 obtain⟨x,dx,vs,rfl,hl,hx,q⟩:=h;obtain⟨n,m,rfl⟩:∃n m,vs=[n,m]:=by match vs,hl with|[n,m],_=>exact⟨n,m,rfl⟩
 refine⟨_,(A5 (Cv (pv 0) (pv 1) rfl)
  (Af (Cv (pv 0) (pv 2) rfl))),?_⟩
 refine⟨_,rfl,_,rfl,x,_,dx,_,rfl,hx,T.cl_Cell,T.n_Cell_table,(by show 0<1000;decide),?_⟩;refine⟨_,rfl,_,rfl,x,_,dx,_,rfl,A3,T.cl_Cell,T.n_Cell_spots,(by show 1<1000;decide),?_⟩;exact q _ (λb o e hb=>by
   repeat rw[Aa hb]
   exact e) ⟨dx,A3⟩
theorem RP (T:Tx w K mg a):AQ P w K mg base B3 1 a.f_0 a.d_0 ["self","sign","left","right"] (JM a.c_Joined ["sign","left","right"]):=by
 refine T.F_0.ok WL (λvs H Q E h=>?_) (λcdv A outer s H vs Q E hr h=>?_)
 .obtain⟨_,_,vs,rfl,hl,_⟩:=h;rw[AJ,hl];rfl
 obtain⟨x,dx,vs,rfl,hl,hx,q⟩:=h;obtain⟨n,m,o,rfl⟩:∃n m o,vs=[n,m,o]:=by match vs,hl with|[n,m,o],_=>exact⟨n,m,o,rfl⟩
 refine⟨_,(A5 (Cv (pv 0) (pv 1) rfl)
  (A5 (Cv (pv 0) (pv 2) rfl)
  (Af (Cv (pv 0) (pv 3) rfl)))),?_⟩
 refine⟨_,rfl,_,rfl,x,_,dx,_,rfl,hx,T.cl_Joined,T.n_Joined_sign,(by show 0<1000;decide),?_⟩;refine⟨_,rfl,_,rfl,x,_,dx,_,rfl,A3,T.cl_Joined,T.n_Joined_left,(by show 1<1000;decide),?_⟩;refine⟨_,rfl,_,rfl,x,_,dx,_,rfl,A3,T.cl_Joined,T.n_Joined_right,(by show 2<1000;decide),?_⟩;exact q _ (λb o e hb=>by
   repeat rw[Aa hb]
   exact e) ⟨dx,A3⟩
theorem TX (T:Tx w K mg a):AQ P w K mg base B3 1 a.f_1 a.d_1 ["self","names","lows","highs","table","spots","term","path"] (RV a.c_Deed):=by
 refine T.F_1.ok VP (λvs H Q E h=>?_) (λcdv A outer s H vs Q E hr h=>?_)
 .obtain⟨_,_,_,_,_,_,_,_,_,rfl,_⟩:=h;rfl
 obtain⟨x,dx,v1,v2,v3,v4,v5,v6,v7,rfl,hx,q⟩:=h;refine⟨_,(A5 (Cv (pv 0) (pv 1) rfl)
  (A5 (Cv (pv 0) (pv 2) rfl)
  (A5 (Cv (pv 0) (pv 3) rfl)
  (A5 (Cv (pv 0) (pv 4) rfl)
  (A5 (Cv (pv 0) (pv 5) rfl)
  (A5 (Cv (pv 0) (pv 6) rfl)
  (Af (Cv (pv 0) (pv 7) rfl)))))))),?_⟩
 refine⟨_,rfl,_,rfl,x,_,dx,_,rfl,hx,T.cl_Deed,T.n_Deed_names,(by show 0<1000;decide),?_⟩;refine⟨_,rfl,_,rfl,x,_,dx,_,rfl,A3,T.cl_Deed,T.n_Deed_lows,(by show 1<1000;decide),?_⟩;refine⟨_,rfl,_,rfl,x,_,dx,_,rfl,A3,T.cl_Deed,T.n_Deed_highs,(by show 2<1000;decide),?_⟩;refine⟨_,rfl,_,rfl,x,_,dx,_,rfl,A3,T.cl_Deed,T.n_Deed_table,(by show 3<1000;decide),?_⟩;refine⟨_,rfl,_,rfl,x,_,dx,_,rfl,A3,T.cl_Deed,T.n_Deed_spots,(by show 4<1000;decide),?_⟩;refine⟨_,rfl,_,rfl,x,_,dx,_,rfl,A3,T.cl_Deed,T.n_Deed_term,(by show 5<1000;decide),?_⟩;refine⟨_,rfl,_,rfl,x,_,dx,_,rfl,A3,T.cl_Deed,T.n_Deed_path,(by show 6<1000;decide),?_⟩;exact q _ (λb o e hb=>by
   repeat rw[Aa hb]
   exact e) ⟨dx,A3⟩
theorem RN (T:Tx w K mg a):AQ P w K mg base B3 1 a.f_2 a.d_2 ["self","size","deeds"] (XZ a.c_Program):=by
 refine T.F_2.ok SO (λvs H Q E h=>?_) (λcdv A outer s H vs Q E hr h=>?_)
 .obtain⟨_,_,_,_,_,rfl,_⟩:=h;rfl
 obtain⟨x,dx,p,v1,ys,rfl,hx,hp,yl,q⟩:=h;refine⟨_,(A5 (Cv (pv 0) (pv 1) rfl)
  (Af (Cv (pv 0) (Du X0 (by rfl) T.z_list RX (A0 (pv 2) A1)) rfl))),?_⟩
 refine⟨_,rfl,_,rfl,x,_,dx,_,rfl,hx,T.cl_Program,T.n_Program_size,(by show 0<1000;decide),?_⟩;have npx:p≠x:=Dm hp hx (by intro z;cases z);refine⟨_,rfl,p,ys,rfl,.inl (A4.of (by rw[Aa npx];exact hp)),λl hl=>?_⟩;have nxl:x≠l:=λe=>by rw[e,A3]at hl;cases hl
 have hlH:H l=none:=by rw[Aa (Ne.symm nxl)]at hl;exact hl
 refine⟨_,rfl,x,_,dx,_,rfl,(by rw[Aa nxl];exact A3),T.cl_Program,T.n_Program_deeds,(by show 1<1000;decide),?_⟩;refine q _ l (λb o e hb=>?_) ⟨dx,A3⟩ (by rw[Aa (Ne.symm nxl)];exact A3);rw[Aa hb,Aa (B0 e hlH),Aa hb];exact e
theorem Su (T:Tx w K mg a):AQ P w K mg base B3 1 a.f_w a.d_w ["row"] Rd.spBare:=by
 refine T.F_w.ok Yw (λvs H Q E h=>?_) (λcdv A outer s H vs Q E hr h=>?_)
 .obtain⟨_,rfl,_⟩:=h;rfl
 obtain⟨z,rfl,hz,q⟩:=h;have hlen:=cds_len z;refine⟨_,(Af (Ay (Bx E2 PySem.F.slot_str_strip PySem.F.type_str_strip Xt (Aj B7 (Bx E2 LN LO II (pv 0) (A0 Ab A1)) A2 (λ_ _=>rfl)) (A0 Ab A1)))),?_⟩;refine⟨_,rfl,rfl,z,59,rfl,rfl,Ap (by lia),λr hr'=>?_⟩;have q2:=q _ (A6 hr' (.tup (DC 59 (cds z))));unfold Rd.bare at q2;by_cases h59:59∈cds z
 .rw[Ac h59]at q2;have e:DC 59 (cds z)=[.str (AC (Cb 59 (cds z))),.str ⟨#[59]⟩,.str (AC (CS 59 (cds z)))]:=Ac h59;refine⟨r,_,0,.str (AC (Cb 59 (cds z))),rfl,rfl,Aw.of A3,(by rw[e];rfl),rfl,_,32,rfl,rfl,?_,?_⟩
  .rw[Df];unfold Cb;exact Ap (by rw[Bb];lia)
  .rw[Bl];exact q2
 .rw[A9 h59]at q2;have e:DC 59 (cds z)=[.str (AC (cds z)),.str "",.str ""]:=A9 h59;refine⟨r,_,0,.str (AC (cds z)),rfl,rfl,Aw.of A3,(by rw[e];rfl),rfl,_,32,rfl,rfl,?_,?_⟩
  .rw[Df];exact Ap (by lia)
  .rw[Bl];exact q2
theorem WH (T:Tx w K mg a):AQ P w K mg base B3 1 a.f_x a.d_x ["row"] Rd.spWords:=by
 refine T.F_x.ok X6 (λvs H Q E h=>?_) (λcdv A outer s H vs Q E hr h=>?_)
 .obtain⟨_,rfl,_⟩:=h;rfl
 obtain⟨z,rfl,hz,q⟩:=h;have hlen:=cds_len z;refine⟨_,(Af (Ay (Ef ["word"] [none] (by rfl) (DD (Bx E2 NV NW JK (pv 0) (A0 Ab A1))) W4 (λ_ _ _ _ _ _=>⟨(BB (i:=0) Vc rfl (.inl rfl)),(Kq (Au E9 (pv 0) Ab (Ax _))),(pv 0)⟩)))),?_⟩;refine⟨_,rfl,rfl,z,_,rfl,rfl,by decide +kernel,?_,by lia,λl ps hl hs=>?_⟩
 .have e:cds (Str.ofString " ")=[32]:=by decide +kernel
  rw[e];intro c hc;rw[Bt.mp hc];decide
 have e:cds (Str.ofString " ")=[32]:=by decide +kernel
 rw[e]at hs;refine⟨l,rfl,⟨_,A4.of A3⟩,?_⟩;have pl:ps.length<=100001:=by
  have:=Rd.split_many (Aq _) hs;rw[Ag]at this;lia
 refine G0 (xs:=ps.map V.str) (λi ys H'=>H'=upd H l (.lst (ps.map V.str))/\ys=((ps.take i).filter λy:Str=>decide (y≠Str.ofString "")).map V.str) ⟨rfl,rfl⟩ (Ap (by rw[Ag];lia)) (λi ys H' hi p=>?_) (λi x ys H' hc p=>?_) (λys H' p t ht=>?_)
 .obtain⟨rfl,rfl⟩:=p;refine⟨A4.of A3,?_⟩;rw[Ag];have h1:=Ju (λy:Str=>decide (y≠Str.ofString "")) (ps.take i);rw[Bb]at h1;lia
 .obtain⟨rfl,rfl⟩:=p;rw[Ce]at hc;cases hy:ps[i]? with
  |none=>rw[hy]at hc;cases hc
  |
   some y=>
   rw[hy]at hc;cases hc;refine⟨_,rfl,rfl,_,rfl,?_⟩;have k1:(V.str y=V.str (Str.ofString ""))↔y=Str.ofString "":=⟨λe=>V.str.inj e,λe=>by rw[e]⟩
   rw[DB hy,Gj];refine AB (λc=>?_) (λc=>?_)
   .have n:y≠Str.ofString "":=λe=>by rw[Bc (k1.mpr e)]at c;cases c
    refine⟨_,rfl,rfl,?_⟩;rw[Fl,Ac (Bc n),AR];rfl
   .have n:y=Str.ofString "":=Ig λn=>c (by rw[Bg λe=>n (k1.mp e)];rfl);refine⟨rfl,?_⟩;rw[Fl,A9 (by rw[EG];exact λz=>z n),List.filter_nil,D6]
 .obtain⟨rfl,rfl⟩:=p;rw[Ag,El];exact q t _ ps ((A6 hl _).trans (A6 ht _)) hs A3
theorem Ua (T:Tx w K mg a):AQ P w K mg base B3 1 a.f_y a.d_y ["text","at"] Rd.spPend:=by
 refine T.F_y.ok Lb (λvs H Q E h=>?_) (λcdv A outer s H vs Q E hr h=>?_)
 .obtain⟨_,_,rfl,_⟩:=h;rfl
 obtain⟨z,i,rfl,hi,hz,q⟩:=h;have hlen:=cds_len z;have at':∀k:Nat,k<(cds z).length->∃c,(cds z).drop k=c::(cds z).drop (k+1)/\Bu z.cps.toList ((k:Nat):Int)=some c:=λk hk=>⟨(cds z)[k],Gi hk,D8 (BC hk)⟩
 have zl:z.length<=sizeLine:=Ap (by lia);refine⟨_,(A5 (AM (Au IG (Aj Fh (pv 0) (pv 1) (λ_ _=>rfl)) (CJ (by rfl) T.g_SIGNS T.r_SIGNS) (by with_unfolding_all rfl))
  (Af (Ay (A8 BG (pv 1) A2)))
  AS)
  (A5 (Ak (i:=2) Lb.nd rfl (.inl rfl) Cw)
  (A5 (IT PassesOwn.never ((DG (Au EK (pv 1) (B6 JN (by rfl) T.z_len Bq (A0 (pv 0) A1)) (Ax _)) (E8 ((Cg (CI (pv 2)) (D4 (Au Y0 (Aj Fh (pv 0) (pv 1) (λ_ _=>rfl)) (CJ (by rfl) T.g_SIGNS T.r_SIGNS) (by with_unfolding_all rfl))))).pt))).pt
  (A5 (Ak (i:=2) Lb.nd rfl (.inl rfl) (Nr (DY Bs (Aj Fh (pv 0) (pv 1) (λ_ _=>rfl)) Ab (Ax _)) (Gv (K4 (pv 2) (Gv (DY E9 (Aj Fh (pv 0) (pv 1) (λ_ _=>rfl)) Ab (Ax _)))))))
  (Af (VN (i:=1) Lb.nd rfl (.inl rfl) A2 LX))))
  (Af (Ay (pv 1)))))),?_⟩
 obtain⟨c,hd,hc⟩:=at' i hi;refine⟨_,rfl,_,rfl,_,_,c,rfl,rfl,zl,hc,_,_,rfl,rfl,_,rfl,?_⟩;refine AB (λcc=>?_) (λcc=>?_)
 .have h5:c∈Rd.sg5:=Ig λn=>C6 ((Rd.not_sign (z:=⟨#[c]⟩) (c:=c) (r:=[]) rfl n).symm.trans cc);refine⟨_,rfl,_,_,rfl,rfl,?_⟩;rw[hd,Rd.pend,Ac h5]at q;exact q
 have h5:c∉Rd.sg5:=λn=>cc (Rd.is_sign n);have ep:Rd.pend ((cds z).drop i)=Rd.scan false ((cds z).drop i):=by rw[hd,Rd.pend,A9 h5]
 rw[ep]at q;dsimp only[Am];refine⟨λm σ' H'=>H'=H/\∃(j:Nat) (b:Bool),σ'=[some (.str z),some (.int ((i+j:Nat):Int)),some (.bl b)]/\i+j<=(cds z).length/\m=(cds z).length-(i+j)/\Rd.scan false ((cds z).drop i)=j+Rd.scan b ((cds z).drop (i+j)),⟨_,rfl,0,false,rfl,by lia,rfl,by rw[Js,Nat.add_zero]⟩,?_⟩;rintro m σ' H' ⟨rfl,j,b,rfl,hj,rfl,hs⟩;refine⟨_,rfl,_,rfl,_,rfl,zl,_,_,rfl,rfl,_,rfl,?_⟩;refine AB (λlt=>?_) (λge=>?_)
 .have lt:((i+j:Nat):Int)<((z.length:Nat):Int):=dT lt;obtain⟨d,hd2,hd3⟩:=at' (i+j) (by lia);rw[hd2]at hs;have stp:(b=true\/d∉Rd.sg5)->Rd.scan false ((cds z).drop i)=(j+1)+Rd.scan (Rd.ins b d) ((cds z).drop (i+(j+1))):=λhc2=>by
   rw[Rd.scan,Ac hc2]at hs;rw[hs,show i+(j+1)=i+j+1 by lia];lia
  have body:∀(D:CY),(b=true\/d∉Rd.sg5)->∃N:St->Hp->Prop,(∀σ' H'',N σ' H''->∃m',m'<(cds z).length-(i+j)/\(H''=H'/\∃(j:Nat) (b:Bool),σ'=[some (.str z),some (.int ((i+j:Nat):Int)),some (.bl b)]/\i+j<=(cds z).length/\m'=(cds z).length-(i+j)/\Rd.scan false ((cds z).drop i)=j+Rd.scan b ((cds z).drop (i+j))))/\
    Dt (Hr (Oy (Fe P2 (Fe Nb (EL 0) (EL 1)) (tC (V.str (Str.ofString "[")))) (Np (EL 2) (Fe Qd (Fe Nb (EL 0) (EL 1)) (tC (V.str (Str.ofString "]")))))) (Am 2)) (Mo 1 (tC (V.int 1)) (M8 λi j=>i+j)) {D with nx:=N,ct:=N} [some (V.str z),some (V.int ((i+j:Nat):Int)),some (V.bl b)] H':=λD hc2=>by
   refine⟨fun σ'' H''=>H''=H'/\σ''=[some (.str z),some (.int (((i+j:Nat):Int)+1)),some (.bl (Rd.ins b d))],fun σ'' H'' hN=>?_,?_⟩
   .obtain⟨rfl,rfl⟩:=hN;exact⟨_,(by lia:(cds z).length-(i+(j+1))<(cds z).length-(i+j)),rfl,j+1,Rd.ins b d,rfl,by lia,rfl,stp hc2⟩
   .refine⟨_,rfl,_,rfl,_,_,d,rfl,rfl,zl,hd3,rfl,_,rfl,?_⟩;have k1:∀e:Nat,(V.str ⟨#[d]⟩=V.str ⟨#[e]⟩)↔d=e:=λe=>⟨λx=>by injection x with x;injection x with x;simpa using x,λx=>by rw[x]⟩
    have fin:∀b',b'=Rd.ins b d->Am 2 (V.bl b') [some (V.str z),some (V.int ((i+j:Nat):Int)),some (V.bl b)] H' fun σ2 H2=>Mo 1 (tC (V.int 1)) (M8 λi j=>i+j) {D with nx:=fun σ'' H''=>H''=H'/\σ''=[some (.str z),some (.int (((i+j:Nat):Int)+1)),some (.bl (Rd.ins b d))],ct:=fun σ'' H''=>H''=H'/\σ''=[some (.str z),some (.int (((i+j:Nat):Int)+1)),some (.bl (Rd.ins b d))]} σ2 H2:=λb' eb=>by
     subst eb;dsimp only[Am];exact⟨_,rfl,_,_,rfl,rfl,rfl,rfl⟩
    refine AB (λc1=>?_) (λc1=>?_)
    .refine fin true ?_;have e:d=91:=(k1 91).mp (dT c1);unfold Rd.ins;rw[Bc e,Bool.true_or]
    .have e:d≠91:=λx=>dF c1 ((k1 91).mpr x);refine⟨_,rfl,b,rfl,?_⟩;refine AB (λc2=>?_) (λc2=>?_)
     .refine⟨_,rfl,_,rfl,_,_,d,rfl,rfl,zl,hd3,rfl,fin _ ?_⟩;unfold Rd.ins;rw[Bg e,c2,Bool.false_or,Bool.true_and];show(!decide (V.str ⟨#[d]⟩=V.str ⟨#[93]⟩))=decide (d≠93);rw[←decide_not];exact decide_eq_decide.mpr (not_congr (k1 93))
     .refine fin false ?_;unfold Rd.ins;rw[Bg e,NR.mpr c2];rfl
  refine⟨_,rfl,b,rfl,?_⟩;refine AB (λhb=>?_) (λhb=>?_)
  .exact body {nx:=λ_ _=>True,rt:=Q,bk:=G9 (EL 1) {nx:=λ_ H'=>Q V.non H',rt:=Q}} (.inl hb)
  .refine⟨_,rfl,_,rfl,_,_,d,rfl,rfl,zl,hd3,_,_,rfl,rfl,_,rfl,?_⟩;refine AB (λc3=>?_) (λc3=>?_)
   .exact body {nx:=λ_ _=>True,rt:=Q,bk:=G9 (EL 1) {nx:=λ_ H'=>Q V.non H',rt:=Q}} (.inr λn=>by rw[Rd.is_sign n]at c3;cases c3)
   .have h6:d∈Rd.sg5:=Ig λn=>c3 (by rw[Rd.not_sign (z:=⟨#[d]⟩) (c:=d) (r:=[]) rfl n];rfl);rw[Rd.scan,A9 (λx=>x.elim hb λy=>y h6),Nat.add_zero]at hs;rw[hs]at q;exact⟨_,rfl,q⟩
 .have ge:¬((i+j:Nat):Int)<((z.length:Nat):Int):=dF ge;have nl:(cds z).drop (i+j)=[]:=R4 (by lia);rw[nl]at hs;have hs:Rd.scan false ((cds z).drop i)=j:=hs;rw[hs]at q;exact⟨_,rfl,q⟩
theorem Oj (T:Tx w K mg a):AQ P w K mg base B3 5 a.f_l a.d_l ["text"] (Rd.spCellF (BY a)):=by
 have G_c :=@HP P w K mg base a T;have G_f :=@P5 P w K mg base a T;have G_Z :=@Ur P w K mg base a T;refine T.F_l.ok NA (λvs H Q E h=>?_) (λcdv A outer s H vs Q E hr h=>?_)
 .obtain⟨_,rfl,_⟩:=h;rfl
 obtain⟨z,rfl,zl,q⟩:=h;have hlen:=cds_len z;obtain⟨sm,hp,nl,al⟩:∃sm:Str,DC 91 (cds z)=[.str (AC (Rd.nmP (cds z))),.str sm,.str (AC (Rd.afP (cds z)))]/\(Rd.nmP (cds z)).length<=1000/\(Rd.afP (cds z)).length<=1000:=by
  unfold Rd.nmP Rd.afP DC;by_cases h:91∈cds z
  .rw[Ac h,Ac h,Ac h];exact⟨_,rfl,by unfold Cb;rw[Bb];lia,by unfold CS;rw[BS];lia⟩
  .rw[A9 h,A9 h,A9 h];exact⟨"",rfl,by lia,BI _⟩
 unfold Rd.cellF at q;generalize Rd.nmP (cds z)=N at q hp nl;generalize Rd.afP (cds z)=I at q hp al;refine⟨_,(A5 (Ak (i:=1) NA.nd rfl (.inl rfl) (Bx E2 LN LO II (pv 0) (A0 Ab A1)))
  (A5 (AM ((Cg (E4 (CI (AD G_c (hr.mono (by lia)) (by rfl) T.m_c T.F_c.kp T.b_c .nil Az (A0 (Aj B7 (pv 1) A2 (λ_ _=>rfl)) A1)))) (D4 (E4 (CI (Bx E2 PySem.F.slot_str_endswith PySem.F.type_str_endswith Y2 (Aj B7 (pv 1) A2 (λ_ _=>rfl)) (A0 Ab A1))))))).pt
  (Af (Ay Cd))
  AS)
  (A5 (Ak (i:=2) NA.nd rfl (.inl rfl) (Du GA (by rfl) T.z_tuple Gw (A0 (Ef ["inner"] [none] (by rfl) (DD (Bx E2 NV NW JK (C7 Hx (Aj B7 (pv 1) A2 (λ_ _=>rfl)) Cy (BW (Dh Dj A2))) (A0 Ab A1))) VB (λ_ _ _ _ _ _=>⟨(BB (i:=0) Z4 rfl (.inl rfl)),F7,(AD G_f (hr.mono (by lia)) (by rfl) T.m_f T.F_f.kp T.b_f .nil Az (A0 (pv 0) A1))⟩)) A1)))
  (A5 (AM ((Cg (Au FH (B6 Bw (by rfl) T.z_len Bq (A0 (pv 2) A1)) (CJ (by rfl) T.g_MOST_SPOTS T.r_MOST_SPOTS) (Ax _)) (D4 (E4 (CI (B6 (MN rfl) (by rfl) T.z_all LU (A0 (Ef ["spot"] [none] (by rfl) (Me (pv 2)) Wz (λ_ _ _ _ _ _=>⟨(BB (i:=0) Wu rfl (.inl rfl)),F7,(DY M0 (pv 0) Cd (Ax _))⟩)) A1))))))).pt
  (Af (Ay Cd))
  AS)
  (Af (Ay (HJ T.mk_Cell G_Z (hr.mono (by lia)) (by rfl) T.mc_Cell T.b_Z .nil Az (A0 (Aj B7 (pv 1) A2 (λ_ _=>rfl)) (A0 (pv 2) A1))))))))),?_⟩
 refine⟨_,rfl,rfl,_,91,rfl,rfl,Ap (by lia),λr hr'=>?_⟩;rw[hp];dsimp only[Am];refine⟨_,rfl,r,_,_,_,rfl,rfl,Aw.of A3,rfl,_,rfl,by rw[Df];exact nl,λH2 e2=>⟨_,rfl,?_⟩⟩;rw[Bl];have s2:Ae H H2:=(A6 hr' _).trans e2;have hr2:=e2 _ _ (A3 (H:=H));have no:¬(AW N/\I.getLast?=some 93/\(Rd.spl2 I.dropLast).length<=3)->∀H',Ae H2 H'->Q .non H':=λh H' e=>by rw[A9 h]at q;exact q _ (s2.trans e)
 rcases E3 (¬AW N) with hz|hz
 .rw[Bg hz];exact AG (AG (no (λx=>hz x.1) _ (Ae.refl _)))
 have hz:=Classical.not_not.mp hz;rw[Bc hz];refine AL ?_;refine⟨_,rfl,r,_,_,_,rfl,rfl,Aw.of hr2,rfl,rfl,_,93,rfl,rfl,_,rfl,?_⟩;rw[Bl];rcases E3 (¬I.getLast?=some 93) with lst|lst
 .rw[Bg lst];exact AG (no (λx=>lst x.2.1) _ (Ae.refl _))
 have lst:=Classical.not_not.mp lst;rw[Bc lst];refine AL ?_;refine⟨_,rfl,r,_,_,_,rfl,rfl,Aw.of hr2,rfl,_,rfl,_,rfl,_,rfl,Ap (by rw[Df];lia),rfl,_,_,rfl,rfl,by decide +kernel,?_,?_,λlp ps hlp hs=>?_⟩
 .have e:cds (Str.ofString "][")=[93,91]:=by decide +kernel
  rw[e];intro c hc;simp only[Av,Cp,or_false]at hc;lia
 .rw[Bl,Rd.cut_lastI lst,Df,LF];lia
 have hps:ps.map cds=Rd.spl2 I.dropLast:=by
  have e:cds (Str.ofString "][")=[93,91]:=by decide +kernel
  rw[e,Bl,Bl,Rd.cut_lastI lst]at hs;exact hs.fn (Rd.spl2_is _)
 have psl:ps.length=(Rd.spl2 I.dropLast).length:=by rw[←hps,Ag]
 have pl:∀y∈ps,y.length<=1000:=λy hy=>by
  have:=Rd.split_part (Rd.spl2_is I.dropLast) (cds y) (by rw[←hps];exact List.mem_map_of_mem hy);rw[cds_len,LF]at this;lia
 have pmany:ps.length<=1001:=by
  have:=Rd.split_many (by decide) (Rd.spl2_is I.dropLast);rw[LF]at this;lia
 have H3s:=A6 hlp (.lst (ps.map V.str));refine⟨lp,rfl,⟨_,A4.of A3⟩,?_⟩;refine G0 (xs:=ps.map V.str) (λi ys H'=>Ae (upd H2 lp (.lst (ps.map V.str))) H'/\AN (Rd.SpoO H') ys ((ps.map cds).take i)/\i<=ps.length) ⟨Ae.refl _,⟨rfl,λ_ _ _ x=>by cases x⟩,BI _⟩ (Ap (by rw[Ag];lia)) (λi ys H' hi p=>?_) (λi x ys H' hc p=>?_) (λys H' p t ht=>?_)
 .exact⟨A4.of (p.1 _ _ A3),by rw[p.2.1.1,Bb,Ag];lia⟩
 .obtain⟨pe,pa,pi⟩:=p;rw[Ce]at hc;cases hy:ps[i]? with
  |none=>rw[hy]at hc;cases hc
  |
   some y=>
   rw[hy]at hc;cases hc;have hil:i<ps.length:=(BQ.mp hy).1;have hyc:(ps.map cds)[i]?=some (cds y):=by rw[Ce,hy];rfl
   refine⟨_,rfl,y,rfl,pl y (CU hy),?_⟩;cases hsp:Bv (cds y) with
   |
    none=>
    intro H5 e5;refine⟨pe.trans e5,?_,hil⟩;rw[DB hyc];exact(pa.mono λ_ _ x=>x.over e5).snoc (by unfold Rd.SpoO;rw[hsp])
   |
    some s=>
    intro r5 H5 e5 h5;refine⟨pe.trans e5,?_,hil⟩;rw[DB hyc];exact(pa.mono λ_ _ x=>x.over e5).snoc (by unfold Rd.SpoO;rw[hsp];exact⟨r5,rfl,h5⟩)
 obtain⟨pe,pa,-⟩:=p;rw[Ag,←Ag (f:=cds) (as:=ps),El,hps]at pa;refine⟨t,ys,rfl,.inl ⟨A4.of A3,λtp htp=>?_⟩⟩;dsimp only[Am];have s4:Ae H2 (upd (upd H' t (.lst ys)) tp (.tup ys)):=H3s.trans (pe.trans ((A6 ht _).trans (A6 htp _)));have pa4:AN (Rd.SpoO (upd (upd H' t (.lst ys)) tp (.tup ys))) ys (Rd.spl2 I.dropLast):=pa.mono λ_ _ x=>x.over ((A6 ht _).trans (A6 htp _));have htp4:(upd (upd H' t (.lst ys)) tp (.tup ys)) tp=some (.tup ys):=A3;have hr4:=s4 _ _ hr2;generalize upd (upd H' t (.lst ys)) tp (.tup ys)=H4 at s4 pa4 htp4 hr4;have yl:ys.length=(Rd.spl2 I.dropLast).length:=pa.1;refine⟨_,rfl,tp,ys,rfl,.inr (Aw.of htp4),_,_,rfl,rfl,_,rfl,?_⟩;rcases E3 ((3:Int)<((ys.length:Nat):Int)) with n3|n3
 .rw[Bc n3];exact AG (AG (no (λx=>by have:=x.2.2;lia) _ s4))
 rw[Bg n3];refine AL ?_;rw[Ac ⟨hz,lst,by lia⟩]at q;refine⟨_,rfl,tp,rfl,⟨_,Aw.of htp4⟩,?_⟩;refine Mi (xs:=ys) (λi bs H'=>H'=H4/\bs=(((Rd.spl2 I.dropLast).take i).map λp=>(Bv p).isSome).map V.bl/\i<=ys.length) ⟨rfl,rfl,BI _⟩ (Ap (by lia)) (λi bs H' hi p=>?_) (λi x bs H' hc p=>?_) (λbs H' p t5 ht5=>?_)
 .obtain⟨rfl,rfl,_⟩:=p;exact⟨Aw.of htp4,by rw[Ag,Ag,Bb];lia⟩
 .obtain⟨rfl,rfl,_⟩:=p;have hil:i<ys.length:=(BQ.mp hc).1;have hil2:i<(Rd.spl2 I.dropLast).length:=by lia
  have hx:=pa4.2 i x _ hc (BC hil2);refine⟨_,rfl,rfl,rfl,?_,hil⟩;rw[DB (BC hil2),AR,AR];show _=_++[V.bl (Bv (Rd.spl2 I.dropLast)[i]).isSome];rw[Rd.spo_some hx]
 obtain⟨rfl,rfl,_⟩:=p;rw[yl,El];refine⟨t5,_,rfl,A4.of A3,_,rfl,?_⟩;have s5:=A6 ht5 (.lst (((Rd.spl2 I.dropLast).map λp=>(Bv p).isSome).map V.bl));cases hF:Rd.spotsF (Rd.spl2 I.dropLast) with
 |
  none=>
  rw[Rd.spots_all_none hF];rw[hF]at q;exact AG (q _ (s2.trans (s4.trans s5)))
 |some sp=>
 rw[hF]at q;rw[Rd.spots_all hF];refine AL ?_;refine⟨_,rfl,r,_,0,_,rfl,rfl,Aw.of (s5 _ _ hr4),rfl,_,rfl,λx dx nx ndx ne=>⟨x,dx,[_,_],rfl,rfl,A3,λH6 k6 hx6=>⟨rfl,?_⟩⟩⟩;obtain⟨dx6,hx6⟩:=hx6;have e6:=GW nx ndx k6;exact q _ _ (s2.trans (s4.trans (s5.trans e6))) ⟨x,dx6,tp,rfl,hx6,ys,(s5.trans e6) _ _ htp4,(Rd.spots_at hF pa4).mono λ_ _ x=>x.tk (Ae.tk (s5.trans e6))⟩
theorem Y4 (T:Tx w K mg a):AQ P w K mg base B3 6 a.f_z a.d_z ["text"] (Rd.spPartF (BY a)):=by
 have G_c :=@HP P w K mg base a T;have G_d :=@J5 P w K mg base a T;have G_l :=@Oj P w K mg base a T;have G_Y :=@U6 P w K mg base a T;have G_X :=@VM P w K mg base a T;refine T.F_z.ok OR (λvs H Q E h=>?_) (λcdv A outer s H vs Q E hr h=>?_)
 .obtain⟨_,_,_,rfl,_⟩:=h;rfl
 obtain⟨z,d,r,rfl,zl,hz,hd,q⟩:=h;have hh:(cds z).headD 0=d:=by rw[hz];rfl
 unfold Rd.partF at q;rw[hh]at q;refine⟨_,(A5 (AM (Au IG (pv 0) (CJ (by rfl) T.g_SIGNS T.r_SIGNS) (by with_unfolding_all rfl))
  (Af (Ay (pv 0)))
  AS)
  (A5 (AM (CI (AD G_c (hr.mono (by lia)) (by rfl) T.m_c T.F_c.kp T.b_c .nil Az (A0 (pv 0) A1)))
  (Af (Ay (HJ T.mk_Value G_Y (hr.mono (by lia)) (by rfl) T.mc_Value T.b_Y .nil Az (A0 (pv 0) A1))))
  AS)
  (A5 (Ak (i:=1) OR.nd rfl (.inl rfl) (AD G_d (hr.mono (by lia)) (by rfl) T.m_d T.F_d.kp T.b_d .nil Az (A0 (pv 0) A1)))
  (A5 (AM (Au M0 (pv 1) Cd (Ax _))
  (Af (Ay (HJ T.mk_Number G_X (hr.mono (by lia)) (by rfl) T.mc_Number T.b_X .nil Az (A0 (pv 1) A1))))
  AS)
  (Af (Ay (AD G_l (hr.mono (by lia)) (by rfl) T.m_l T.F_l.kp T.b_l .nil Az (A0 (pv 0) A1)))))))),?_⟩
 refine⟨_,rfl,_,_,rfl,rfl,_,rfl,?_⟩;by_cases hs:d∈Rd.sg5
 .have e:=Rd.is_sign hs;have ez:z=⟨#[d]⟩:=D2 (by rw[hz,hd hs]);subst ez;rw[Ac hs]at q;exact AB (λ_=>⟨_,rfl,q _ _ (Ae.refl _) rfl⟩) (λn=>absurd e n)
 have e:=Rd.not_sign hz hs;rw[A9 hs]at q;refine AB (λy=>absurd (e.symm.trans y) C6) (λ_=>?_);refine⟨_,rfl,z,rfl,zl,λH1 e1=>⟨_,rfl,?_⟩⟩;refine AB (λy=>?_) (λn=>?_)
 .rw[Ac (dT y)]at q;refine⟨_,rfl,λx dx nx ndx ne=>⟨x,dx,[_],rfl,rfl,A3,λH2 k2 hx2=>⟨rfl,?_⟩⟩⟩;obtain⟨dx2,hx2⟩:=hx2;exact q _ _ (e1.trans (GW nx ndx k2)) ⟨x,dx2,rfl,by rw[ES];exact hx2⟩
 rw[A9 (dF n)]at q;refine⟨_,rfl,z,rfl,zl,λH2 e2=>?_⟩;by_cases g:C9 (cds z)
 .rw[Ac g]at q;rw[IW g];dsimp only[Am];refine⟨_,rfl,rfl,_,rfl,?_⟩;refine AB (λ_=>?_) (λn=>absurd rfl n);refine⟨_,rfl,λx dx nx ndx ne=>⟨x,dx,[_],rfl,rfl,A3,λH3 k3 hx3=>⟨rfl,?_⟩⟩⟩;obtain⟨dx3,hx3⟩:=hx3;exact q _ _ (e1.trans (e2.trans (GW nx ndx k3))) ⟨x,dx3,rfl,hx3⟩
 .rw[A9 g]at q;rw[IQ g];dsimp only[Am];refine⟨_,rfl,rfl,_,rfl,?_⟩;refine AB (λy=>absurd y (by decide)) (λ_=>?_);refine⟨_,rfl,z,rfl,zl,?_⟩;cases hc:Rd.cellF (cds z) with
  |
   none=>
   rw[hc]at q;exact λH3 e3=>q _ (e1.trans (e2.trans e3))
  |
   some p=>
   rw[hc]at q;exact λx H3 e3 hx=>q _ _ (e1.trans (e2.trans e3)) hx
theorem T9 (T:Tx w K mg a):AQ P w K mg base B3 7 a.f_A a.d_A ["text"] (Rd.spPartsF (BY a)):=by
 have G_y :=@Ua P w K mg base a T;have G_z :=@Y4 P w K mg base a T;refine T.F_A.ok HZ (λvs H Q E h=>?_) (λcdv A outer s H vs Q E hr h=>?_)
 .obtain⟨_,rfl,_⟩:=h;rfl
 obtain⟨z,rfl,zl,q⟩:=h;have hlen:=cds_len z;refine⟨_,(A5 (Ak (i:=1) HZ.nd rfl (.inl rfl) (Bh A1))
  (A5 (Ak (i:=2) HZ.nd rfl (.inl rfl) A2)
  (A5 (IT PassesOwn.never (Au EK (pv 2) (B6 JN (by rfl) T.z_len Bq (A0 (pv 0) A1)) (Ax _))
  (A5 (Ak (i:=3) HZ.nd rfl (.inl rfl) (AD G_y (hr.mono (by lia)) (by rfl) T.m_y T.F_y.kp T.b_y .nil Az (A0 (pv 0) (A0 (pv 2) A1))))
  (A5 (Ak (i:=4) HZ.nd rfl (.inl rfl) (AD G_z (hr.mono (by lia)) (by rfl) T.m_z T.F_z.kp T.b_z .nil Az (A0 (C7 Hx (pv 0) (BW (pv 2)) (BW (pv 3))) A1)))
  (A5 (AM (Au EN (pv 4) Cd (Ax _))
  (Af (Ay Cd))
  AS)
  (A5 (BF (Bx BJ CC CF Ct (pv 1) (A0 (pv 4) A1)))
  (Af (Ak (i:=2) HZ.nd rfl (.inl rfl) (pv 3))))))))
  (Af (Ay (pv 1)))))),?_⟩
 refine⟨Al rfl,λl hl=>?_⟩;dsimp only[Am];refine⟨λm σ' H'=>∃(i n:Nat) (xs:List V) (ks:List Rd.Tk) (o3 o4:Option V),σ'=[some (.str z),some (.ref l),some (.int (i:Int)),o3,o4]/\m=(cds z).length-i/\i<=(cds z).length/\(cds z).length-i<=n/\Rd.partsF (cds z).length (cds z)=Rd.pre ks (Rd.partsF n ((cds z).drop i))/\xs.length<=i/\Ae H H'/\H' l=some (.lst xs)/\AN (Rd.PtAt (BY a) H') xs ks,⟨_,0,_,[],[],none,none,rfl,rfl,BI _,Aq _,(Rd.pre_nil _).symm,BI _,A6 hl _,A3,rfl,λ_ _ _ x=>by cases x⟩,?_⟩;rintro m σ' H1 ⟨i,n,xs,ks,o3,o4,rfl,rfl,hi,hn,hF,hxl,e1,hl1,pa⟩;refine⟨_,rfl,_,rfl,_,rfl,Ap (by lia),_,_,rfl,rfl,_,rfl,?_⟩;refine AB (λlt=>?_) (λge=>?_)
 .have lt:((i:Nat):Int)<((z.length:Nat):Int):=dT lt;have il:i<(cds z).length:=by lia
  have ne:(cds z).drop i≠[]:=λx=>by have:=congrArg List.length x;rw[BS]at this;have:(cds z).length-i=0:=this;lia
  obtain⟨hp1,hp2⟩:=Rd.pend_pos ne;rw[BS]at hp2;obtain⟨d,r,ed,hds⟩:=Rd.part_head ne;refine⟨fun σ' H'=>∃m',m'<(cds z).length-i/\∃(i n:Nat) (xs:List V) (ks:List Rd.Tk) (o3 o4:Option V),σ'=[some (.str z),some (.ref l),some (.int (i:Int)),o3,o4]/\m'=(cds z).length-i/\i<=(cds z).length/\(cds z).length-i<=n/\Rd.partsF (cds z).length (cds z)=Rd.pre ks (Rd.partsF n ((cds z).drop i))/\xs.length<=i/\Ae H H'/\H' l=some (.lst xs)/\AN (Rd.PtAt (BY a) H') xs ks,fun σ' H' x=>x,?_⟩;refine⟨_,rfl,_,rfl,z,i,rfl,by lia,by lia,?_⟩;dsimp only[Am];generalize hp:Rd.pend ((cds z).drop i)=p at hp1 hp2 ed;have ecut:AC (CM (cds z) (some ((i:Nat):Int)) (some ((i+p:Nat):Int)))=AC (((cds z).drop i).take p):=by
   rw[Mg _ (by lia) (by lia) (by lia) (by lia)];rw[show(((i:Nat):Int)).toNat=i by lia,show(((i+p:Nat):Int)).toNat-i=p by lia]
  obtain⟨n,rfl⟩:∃n',n=n'+1:=⟨n-1,by lia⟩
  rw[Rd.partsF_cons ne,hp,Jn]at hF;refine⟨_,rfl,_,rfl,_,rfl,_,rfl,_,rfl,_,rfl,Ap (by lia),?_⟩;rw[ecut];refine⟨_,d,r,rfl,?_,by rw[Bl];exact ed,hds,?_⟩
  .rw[Df,Bb,BS];lia
  rw[Bl];cases hk:Rd.partF (((cds z).drop i).take p) with
  |
   none=>
   rw[hk,Rd.pre_none]at hF;intro H2 e2;dsimp only[Am];refine⟨_,rfl,rfl,_,rfl,?_⟩;rw[hF]at q;exact AG (q _ (e1.trans e2))
  |some k=>
  rw[hk,Rd.pre_some]at hF;intro x H2 e2 hx;dsimp only[Am];refine⟨_,rfl,rfl,_,rfl,?_⟩;refine AB (λy=>absurd (dT y) (hx.someS (Rd.partF_sg hk))) (λ_=>?_);have hl2:=e2 _ _ hl1;have nl:=Rd.NL.upd (ys:=xs++[x]) hl2;refine⟨_,rfl,.inl ⟨rfl,_,A4.of hl2⟩,_,rfl,l,_,_,rfl,rfl,hl2,Cu (by lia),_,rfl,?_⟩;refine⟨(cds z).length-(i+p),by lia,i+p,n,xs++[x],ks++[k],_,_,rfl,rfl,by lia,by lia,hF,by rw[An,Bf];lia,?_,A3,?_⟩
  .exact λb o e=>by rw[Aa (B0 e hl)];exact e2 _ _ (e1 b o e)
  .exact(pa.mono λ_ _ y=>(y.over e2).nl nl).snoc (hx.nl nl)
 .have ge:¬((i:Nat):Int)<((z.length:Nat):Int):=dF ge;have nl:(cds z).drop i=[]:=R4 (by lia);rw[nl,Rd.partsF_nil,Rd.pre_some_nil]at hF;rw[hF]at q;exact⟨_,rfl,q _ H1 e1 ⟨l,xs,rfl,hl1,pa⟩⟩
theorem SG (T:Tx w K mg a):AQ P w K mg base B3 3 a.f_j a.d_j ["terms","signs","least"] (Rd.spJoinW (BY a)):=by
 have G_0 :=@RP P w K mg base a T;refine T.F_j.ok MY (λvs H Q E h=>?_) (λcdv A outer s H vs Q E hr h=>?_)
 .obtain⟨_,_,_,_,_,_,_,rfl,_⟩:=h;rfl
 obtain⟨l,r,ts,ss,Tt,S,k,rfl,lr,k1,hl,hr',pa,es,hS,hn,h1000,q⟩:=h;subst es;refine⟨_,(Af (IT PassesOwn.never ((DG (Au (Hf (Fg hr)) (pv 1) (Bh A1) (Ax _)) (E8 (Au Tq (JW (CJ (by rfl) T.g_STRENGTHS T.r_STRENGTHS) (Aj AX (pv 1) (Dh Dj A2) (λ_ _=>rfl)) (λ_ _=>rfl)) (pv 2) (Ax _))))).pt
  (A5 (Ak (i:=3) MY.nd rfl (.inl rfl) (Ed BJ EC ED Eg (pv 0)))
  (A5 (Ak (i:=4) MY.nd rfl (.inl rfl) (Ed BJ EC ED Eg (pv 0)))
  (Af (BF (Bx BJ CC CF Ct (pv 0) (A0 (HJ T.mk_Joined G_0 (hr.mono (by lia)) (by rfl) T.mc_Joined T.b_0 .nil Az (A0 (Ed BJ EC ED Eg (pv 1)) (A0 (pv 4) (A0 (pv 3) A1)))) A1)))))))),?_⟩
 refine⟨λm σ' H'=>∃(ts:List V) (T':List Tw) (S':List Nat) (o3 o4:Option V),σ'=[some (.ref l),some (.ref r),some (.int (k:Int)),o3,o4]/\m=S'.length/\Rd.B2 l r H H'/\H' l=some (.lst ts)/\H' r=some (.lst (S'.reverse.map λa=>V.str (Rd.sg a)))/\AN (λv t=>BM (BY a) H' t v) ts T'.reverse/\(∀a∈S',a∈Rd.sg5/\a≠41)/\Rd.nb S'<T'.length/\T'.length<=1000/\Rd.jw k S' T'=Rd.jw k S Tt,⟨_,ts,Tt,S,none,none,rfl,rfl,λb o e _ _=>e,hl,hr',pa,hS,hn,h1000,rfl⟩,?_⟩;rintro m σ' H1 ⟨ts1,T1,S1,o3,o4,rfl,rfl,b1,hl1,hr1,pa1,hS1,hn1,l1,ej⟩;refine⟨_,rfl,Al rfl,λe0 he0=>?_⟩;have r1:(upd H1 e0 (.lst [])) r=some (.lst (S1.reverse.map λa=>V.str (Rd.sg a))):=by rw[Aa (B0 hr1 he0)];exact hr1
 have l1':(upd H1 e0 (.lst [])) l=some (.lst ts1):=by rw[Aa (B0 hl1 he0)];exact hl1
 have b2:Rd.B2 l r H (upd H1 e0 (.lst [])):=λb o e n1 n2=>A6 he0 _ _ _ (b1 b o e n1 n2);have pa2:AN (λv t=>BM (BY a) (upd H1 e0 (.lst [])) t v) ts1 T1.reverse:=pa1.mono λ_ _ x=>BM.over (A6 he0 _) x;have he2:(upd H1 e0 (.lst [])) e0=some (.lst []):=A3;generalize upd H1 e0 (.lst [])=H2 at r1 l1' b2 pa2 he2;refine⟨r,e0,_,rfl,rfl,A4.of r1,A4.of he2,_,rfl,?_⟩;have fin:Rd.jw k S1 T1=(T1,S1)->Q .non H2:=λhj=>q ts1 _ H2 b2 l1' r1 (by rw[←ej,hj];exact pa2) (by rw[←ej,hj]);cases S1 with
 |
  nil=>
  refine AB (λy=>absurd y (by decide)) (λ_=>?_);exact AB (λy=>absurd y C6) (λ_=>fin (by cases T1<;>rfl))
 |
  cons c S2=>
  refine AB (λ_=>?_) (λy=>absurd (by simp) y);have hc:=hS1 c AH;have er:(c::S2).reverse.map (λa=>V.str (Rd.sg a))=S2.reverse.map (λa=>V.str (Rd.sg a))++[.str (Rd.sg c)]:=by rw[Ii,AR];rfl
  rw[er]at r1;refine⟨_,rfl,_,rfl,r,_,_,_,rfl,rfl,A4.of r1,JL _ _,a.u_STRENGTHS,Rd.strV,.inr (Rd.sg c),_,rfl,T.d_STRENGTHS P,rfl,Rd.st_val hc,_,rfl,_,_,rfl,rfl,_,rfl,?_⟩;refine AB (λge=>?_) (λlt=>fin (Rd.jw_no (by have:=dF lt;lia)));have ge:(k:Int)<=((Rd.st c:Nat):Int):=dT ge;have n40:c≠40:=λz=>by subst z;exact absurd ge (by show ¬(k:Int)<=0;lia)
  rw[Rd.nb_cons n40]at hn1
  match T1,hn1,l1,ej,pa2,fin with
  |[],hn1,_,_,_,_=>exact absurd hn1 (by show ¬_<0;lia)
  |[_],hn1,_,_,_,_=>exact absurd hn1 (by show ¬_<1;lia)
  |
   t2::t1::T2,hn1,l1,ej,pa2,_=>
   rw[Rd.jw_yes (by lia)]at ej;rw[Ii,Ii]at pa2;obtain⟨u1,x2,rfl,pa3,hx2⟩:=Rd.all2_pop pa2;obtain⟨u2,x1,rfl,pa4,hx1⟩:=Rd.all2_pop pa3;refine⟨fun σ' H'=>∃m',m'<(c::S2).length/\∃(ts:List V) (T':List Tw) (S':List Nat) (o3 o4:Option V),σ'=[some (.ref l),some (.ref r),some (.int (k:Int)),o3,o4]/\m'=S'.length/\Rd.B2 l r H H'/\H' l=some (.lst ts)/\H' r=some (.lst (S'.reverse.map λa=>V.str (Rd.sg a)))/\AN (λv t=>BM (BY a) H' t v) ts T'.reverse/\(∀a∈S',a∈Rd.sg5/\a≠41)/\Rd.nb S'<T'.length/\T'.length<=1000/\Rd.jw k S' T'=Rd.jw k S Tt,fun σ' H' x=>x,?_⟩;refine⟨_,rfl,.inl ⟨rfl,_,A4.of l1'⟩,l,_,x2,rfl,rfl,l1',Cj.1,?_⟩;rw[Cj.2];dsimp only[Am];refine⟨_,rfl,.inl ⟨rfl,_,A4.of A3⟩,l,_,x1,rfl,rfl,A3,Cj.1,?_⟩;rw[Cj.2,JI];dsimp only[Am];have n3:Rd.NL H2 (upd H2 l (.lst u2)):=Rd.NL.upd l1';have r3:(upd H2 l (.lst u2)) r=some (.lst (S2.reverse.map (λa=>V.str (Rd.sg a))++[.str (Rd.sg c)])):=by rw[Aa (Ne.symm lr)];exact r1
   have l3:(upd H2 l (.lst u2)) l=some (.lst u2):=A3;have b3:Rd.B2 l r H (upd H2 l (.lst u2)):=λb o e m1 m2=>by rw[Aa m1];exact b2 b o e m1 m2
   generalize upd H2 l (.lst u2)=H3 at n3 r3 l3 b3;refine⟨_,rfl,.inl ⟨rfl,_,A4.of l3⟩,_,rfl,.inl ⟨rfl,_,A4.of r3⟩,r,_,.str (Rd.sg c),rfl,rfl,r3,Cj.1,?_⟩;rw[Cj.2];have n4:Rd.NL H3 (upd H3 r (.lst (S2.reverse.map λa=>V.str (Rd.sg a)))):=Rd.NL.upd r3;have r4:(upd H3 r (.lst (S2.reverse.map λa=>V.str (Rd.sg a)))) r=some (.lst (S2.reverse.map λa=>V.str (Rd.sg a))):=A3;have l4:(upd H3 r (.lst (S2.reverse.map λa=>V.str (Rd.sg a)))) l=some (.lst u2):=by rw[Aa lr];exact l3
   have b4:Rd.B2 l r H (upd H3 r (.lst (S2.reverse.map λa=>V.str (Rd.sg a)))):=λb o e m1 m2=>by rw[Aa m2];exact b3 b o e m1 m2
   generalize upd H3 r (.lst (S2.reverse.map λa=>V.str (Rd.sg a)))=H4 at n4 r4 l4 b4;refine⟨_,rfl,_,rfl,λx dx nx ndx ne=>⟨x,dx,[_,_,_],rfl,rfl,A3,λH5 k5 hx5=>⟨rfl,?_⟩⟩⟩;obtain⟨dx5,hx5⟩:=hx5;have e5:=GW nx ndx k5;have l5:=e5 _ _ l4;have n6:Rd.NL H5 (upd H5 l (.lst (u2++[.ref x]))):=Rd.NL.upd l5;have u2l:u2.length<=1000:=by
    rw[pa4.1,Ih];rw[AJ,AJ]at l1;lia
   have n26:Rd.NL H2 (upd H5 l (.lst (u2++[.ref x]))):=n3.trans (n4.trans ((Rd.NL.of e5).trans n6));refine⟨l,_,_,rfl,rfl,l5,Cu (by lia),S2.length,LA _,u2++[.ref x],.j (Rd.sg c) t1 t2::T2,S2,_,_,rfl,rfl,λb o e m1 m2=>?_,A3,?_,?_,λd hd=>hS1 d (B5 _ hd),?_,?_,ej⟩
   .rw[Aa m1];exact e5 _ _ (b4 b o e m1 m2)
   .rw[Aa (Ne.symm lr)];exact e5 _ _ r4
   .rw[Ii];exact(pa4.mono λ_ _ y=>Rd.tb_nl n26 y).snoc ⟨x,dx5,x1,x2,rfl,n6 _ _ hx5 (λ_ z=>nomatch z),Rd.tb_nl n26 hx1,Rd.tb_nl n26 hx2⟩
   .rw[AJ]at hn1 ⊢;rw[AJ]at hn1;lia
   .rw[AJ]at l1 ⊢;rw[AJ]at l1;lia
theorem X9 (T:Tx w K mg a):AQ P w K mg base B3 4 a.f_B a.d_B ["parts"] (Rd.spTermF (BY a)):=by
 have G_j :=@SG P w K mg base a T;refine T.F_B.ok GS (λvs H Q E h=>?_) (λcdv A outer s H vs Q E hr h=>?_)
 .obtain⟨_,_,_,rfl,_⟩:=h;rfl
 obtain⟨l,xs,ks,rfl,hl,pa,xl,ok,q⟩:=h;have non:Rd.termF ks=none->∀H',Ae H H'->Q .non H':=λh=>by rw[h]at q;exact q
 have bad:∀{i:Nat} {z:Rd.Sta} {k:Rd.Tk},Rd.run (ks.take i) ⟨[],[],true⟩=some z->ks[i]?=some k->Rd.step z k=none->∀H',Ae H H'->Q .non H':=λh1 h2 h3=>non (Rd.termF_bad h1 h2 h3);have isT:∀{H':Hp} {x:V} {w':Tw},BM (BY a) H' w' x->∃ty,CT K H' x ty/\PySem.W.kitOne K ty (.ref a.c_Term)=some true:=fun{H' x w'} hx=>by
  cases w' with
  |n i=>obtain⟨_,_,rfl,hx⟩:=hx;exact⟨_,T.ty_Number _ _ _ _ hx,T.is_Number_Term⟩
  |v z=>obtain⟨_,_,rfl,hx⟩:=hx;exact⟨_,T.ty_Value _ _ _ _ hx,T.is_Value_Term⟩
  |c z sp=>obtain⟨_,_,_,rfl,hx,_⟩:=hx;exact⟨_,T.ty_Cell _ _ _ _ hx,T.is_Cell_Term⟩
  |j z l r=>obtain⟨_,_,_,_,rfl,hx,_⟩:=hx;exact⟨_,T.ty_Joined _ _ _ _ hx,T.is_Joined_Term⟩
 refine⟨_,(A5 (Ak (i:=1) GS.nd rfl (.inl rfl) (Bh A1))
  (A5 (Ak (i:=2) GS.nd rfl (.inl rfl) (Bh A1))
  (A5 (Ak (i:=3) GS.nd rfl (.inl rfl) Cw)
  (A5 (EI PassesOwn.never rfl (DD (pv 0)) (BB (i:=4) GS.nd rfl (.inl rfl))
  (A5 (AM (Au E9 (pv 3) (Nr (B6 GK (by rfl) T.z_isinstance FT (A0 (pv 4) (A0 (CJ (v:=.ref a.c_Term) (by rfl) T.mc_Term rfl) A1))) (Gv (DY Bs (pv 4) Ab (Ax _)))) (Ax _))
  (Af (Ay Cd))
  AS)
  (Af (AM (CI (B6 GK (by rfl) T.z_isinstance FT (A0 (pv 4) (A0 (CJ (v:=.ref a.c_Term) (by rfl) T.mc_Term rfl) A1))))
  (A5 (BF (Bx BJ CC CF Ct (pv 1) (A0 (pv 4) A1)))
  (Af (Ak (i:=3) GS.nd rfl (.inl rfl) Cw)))
  (Af (AM (Au Bs (pv 4) Ab (Ax _))
  (A5 (BF (AD G_j (hr.mono (by lia)) (by rfl) T.m_j T.F_j.kp T.b_j .nil Az (A0 (pv 1) (A0 (pv 2) (A0 (JW (CJ (by rfl) T.g_STRENGTHS T.r_STRENGTHS) Ab (λ_ _=>rfl)) A1)))))
  (A5 (AM (Au (Kd (Fg hr)) (pv 2) (Bh A1) (Ax _))
  (Af (Ay Cd))
  AS)
  (Af (BF (Ed BJ EC ED Eg (pv 2))))))
  (A5 (AM (Au E9 (pv 4) Ab (Ax _))
  (Af (BF (AD G_j (hr.mono (by lia)) (by rfl) T.m_j T.F_j.kp T.b_j .nil Az (A0 (pv 1) (A0 (pv 2) (A0 (JW (CJ (by rfl) T.g_STRENGTHS T.r_STRENGTHS) (pv 4) (λ_ _=>rfl)) A1))))))
  AS)
  (A5 (BF (Bx BJ CC CF Ct (pv 2) (A0 (pv 4) A1)))
  (Af (Ak (i:=3) GS.nd rfl (.inl rfl) Cw))))))))))
  (A5 (AM (CI (pv 3))
  (Af (Ay Cd))
  AS)
  (A5 (BF (AD G_j (hr.mono (by lia)) (by rfl) T.m_j T.F_j.kp T.b_j .nil Az (A0 (pv 1) (A0 (pv 2) (A0 (JW (CJ (by rfl) T.g_STRENGTHS T.r_STRENGTHS) Ab (λ_ _=>rfl)) A1)))))
  (A5 (AM (Au (Hf (Fg hr)) (pv 2) (Bh A1) (Ax _))
  (Af (Ay Cd))
  AS)
  (Af (Ay (Aj AX (pv 1) A2 (λ_ _=>rfl))))))))))),?_⟩
 refine⟨Al rfl,λtl htl=>?_⟩;dsimp only[Am];refine⟨Al rfl,λsl hsl=>?_⟩;dsimp only[Am];have ts:tl≠sl:=B0 (A3 (H:=H)) hsl;have H0t:(upd (upd H tl (.lst [])) sl (.lst [])) tl=some (.lst []):=by rw[Aa ts];exact A3
 have H0s:(upd (upd H tl (.lst [])) sl (.lst [])) sl=some (.lst []):=A3;have e0:Ae H (upd (upd H tl (.lst [])) sl (.lst [])):=(A6 htl _).trans (A6 hsl _);have tl0:H tl=none:=htl;have sl0:H sl=none:=(A6 htl _).free hsl;generalize upd (upd H tl (.lst [])) sl (.lst [])=H0 at H0t H0s e0;refine⟨_,rfl,l,rfl,⟨_,A4.of (e0 _ _ hl)⟩,?_⟩;refine GY (xs:=xs) (λi σ' H'=>∃(z:Rd.Sta) (tv:List V) (o4:Option V),σ'=[some (.ref l),some (.ref tl),some (.ref sl),some (.bl z.due),o4]/\Ae H H'/\Rd.run (ks.take i) ⟨[],[],true⟩=some z/\Rd.Wt z/\z.T.length<=i/\z.S.length<=i/\H' tl=some (.lst tv)/\H' sl=some (.lst (z.S.reverse.map λa=>V.str (Rd.sg a)))/\AN (λv t=>BM (BY a) H' t v) tv z.T.reverse) ?_ (λi σ' H' hi p=>?_) (λi x σ' H' hx p=>?_) (fun σ' H' p=>?_)
 .exact⟨⟨[],[],true⟩,[],none,rfl,e0,rfl,⟨(λc hc=>nomatch hc),rfl⟩,Aq _,Aq _,H0t,H0s,rfl,λ_ _ _ x=>by cases x⟩
 .obtain⟨z,tv,o4,rfl,e1,_⟩:=p;exact A4.of (e1 _ _ hl)
 .obtain⟨z,tv,o4,rfl,e1,hz,wt,zt,zs,ht,hs,pz⟩:=p;dsimp only[Am];have il:i<xs.length:=(BQ.mp hx).1;obtain⟨k,hk⟩:∃k,ks[i]?=some k:=⟨ks[i]'(by rw[←pa.1];exact il),BC _⟩
  have hpk:=(pa.2 i x k hx hk).over e1;have okk:=ok k (CU hk);have go:∀{u:Rd.Sta},Rd.step z k=some u->Rd.run (ks.take (i+1)) ⟨[],[],true⟩=some u/\Rd.Wt u:=fun{u} st1=>⟨by rw[DB hk,Rd.run_app hz,Rd.run,st1];rfl,wt.stepS okk st1⟩
  have bad:=bad hz hk;have zl2:z.T.length<=1000:=by lia
  obtain⟨zT,zS,zd⟩:=z;have b12:∀{H2:Hp},Rd.B2 tl sl H' H2->Ae H H2:=fun{H2} b2 b o e=>b2 b o (e1 b o e) (B0 e tl0) (B0 e sl0);cases k with
  |
   t w'=>
   obtain⟨ty,h1,h2⟩:=isT hpk;cases zd with
   |
    false=>
    refine⟨_,rfl,_,rfl,x,_,ty,_,true,rfl,rfl,h1,h2,_,rfl,?_⟩;refine AG ⟨rfl,_,rfl,?_⟩;refine AB (λ_=>bad rfl _ e1) (λy=>absurd (show(!decide (V.bl false=V.bl true))=true from by decide) y)
   |
    true=>
    obtain⟨r2,wu⟩:=go (u:=⟨w'::zT,zS,false⟩) rfl;refine⟨_,rfl,_,rfl,x,_,ty,_,true,rfl,rfl,h1,h2,_,rfl,?_⟩;refine AG ⟨rfl,_,rfl,?_⟩;refine AB (λy=>absurd (show(!decide (V.bl true=V.bl true))=true from y) (by decide)) (λ_=>?_);refine⟨_,rfl,x,_,ty,_,true,rfl,rfl,h1,h2,_,rfl,?_⟩;refine AG ?_;have nl:=Rd.NL.upd (ys:=tv++[x]) ht;have tvl:tv.length<=1000:=by rw[pz.1,Ih];exact zl2
    refine⟨_,rfl,.inl ⟨rfl,_,A4.of ht⟩,_,rfl,tl,_,_,rfl,rfl,ht,Cu (by lia),?_⟩;dsimp only[Am];refine⟨⟨w'::zT,zS,false⟩,tv++[x],_,rfl,λb o e=>?_,r2,wu,?_,LI zs,A3,?_,?_⟩
    .rw[Aa (B0 e tl0)];exact e1 b o e
    .show zT.length+1<=i+1;have:zT.length<=i:=zt;lia
    .rw[Aa (Ne.symm ts)];exact hs
    .show AN _ _ (w'::zT).reverse;rw[Ii];exact(pz.mono λ_ _ y=>Rd.tb_nl nl y).snoc (Rd.tb_nl nl hpk)
  |
   s c=>
   have hpk:x = .str ⟨#[c]⟩:=hpk;subst hpk;have okc:c∈Rd.sg5:=okk;have k1:∀e:Nat,(V.str ⟨#[c]⟩=V.str ⟨#[e]⟩)↔c=e:=λe=>⟨λx=>by injection x with x;injection x with x;simpa using x,λx=>by rw[x]⟩
   refine⟨_,rfl,_,rfl,_,_,_,_,false,rfl,rfl,.str _,T.is_str_Term,_,rfl,?_⟩;refine AL ⟨_,rfl,rfl,rfl,_,rfl,?_⟩;refine AB (λy=>?_) (λy=>?_)
   .refine bad ?_ _ e1;have y:zd≠decide (V.str ⟨#[c]⟩=V.str (Str.ofString "(")):=λz=>by rw[←z]at y;exact absurd (show(!decide (V.bl zd=V.bl zd))=true from y) (by simp)
    rw[Rd.step];by_cases c40:c=40
    .rw[show decide (V.str ⟨#[c]⟩=V.str (Str.ofString "("))=true from Bc ((k1 40).mpr c40)]at y;rw[Ac c40];exact A9 y
    .rw[show decide (V.str ⟨#[c]⟩=V.str (Str.ofString "("))=false from Bg λz=>c40 ((k1 40).mp z)]at y;rw[A9 c40];exact Ac (by cases zd;exact absurd rfl y;rfl)
   have hd:zd=decide (V.str ⟨#[c]⟩=V.str (Str.ofString "(")):=Ig λn=>y (by show(!decide (V.bl zd=V.bl _))=true;rw[Bg λz=>n (V.bl.inj z)];rfl);refine⟨_,rfl,_,_,_,_,false,rfl,rfl,.str _,T.is_str_Term,_,rfl,?_⟩;refine AL ?_;refine⟨_,rfl,rfl,_,rfl,?_⟩;refine AB (λy=>?_) (λy=>?_)
   .have c41:c=41:=(k1 41).mp (dT y);subst c41;obtain rfl:zd=false:=by rw[hd];exact Bg λz=>absurd ((k1 40).mp z) (by decide)
    have wn:Rd.nb zS+1=zT.length:=wt.nb;have st1:Rd.step ⟨zT,zS,false⟩ (.s 41)=match (Rd.jw 1 zS zT).2 with|[]=>none|_::S=>some ⟨(Rd.jw 1 zS zT).1,S,false⟩:=rfl
    refine⟨_,rfl,_,rfl,a.u_STRENGTHS,Rd.strV,.inr (Rd.sg 43),_,rfl,T.d_STRENGTHS P,rfl,Rd.st_val ⟨by decide,by decide⟩,tl,sl,tv,_,zT,zS,1,rfl,ts,Aq _,ht,hs,pz,rfl,wt.sg,by lia,zl2,λts' ss' H2 b2 ht2 hs2 pz2 es2=>?_⟩;subst es2;cases hS:(Rd.jw 1 zS zT).2 with
    |
     nil=>
     simp only[hS]at st1;rw[hS]at hs2;refine⟨_,rfl,Al rfl,λen hen=>?_⟩;refine⟨sl,en,_,rfl,rfl,A4.of (A6 hen _ _ _ hs2),A4.of A3,_,rfl,?_⟩;exact AG (bad st1 _ ((b12 b2).trans (A6 hen _)))
    |
     cons d S'=>
     simp only[hS]at st1;obtain⟨r2,wu⟩:=go st1;have er:(d::S').reverse.map (λa=>V.str (Rd.sg a))=S'.reverse.map (λa=>V.str (Rd.sg a))++[.str (Rd.sg d)]:=by rw[Ii,AR];rfl
     rw[hS,er]at hs2;refine⟨_,rfl,Al rfl,λen hen=>?_⟩;have e3:=A6 hen (.lst []);have hs3:=e3 _ _ hs2;have ht3:=e3 _ _ ht2;refine⟨sl,en,_,rfl,rfl,A4.of hs3,A4.of A3,_,rfl,?_⟩;refine AB (λy=>absurd y (by simp)) (λ_=>?_);refine⟨_,rfl,.inl ⟨rfl,_,A4.of hs3⟩,sl,_,_,rfl,rfl,hs3,Cj.1,?_⟩;rw[Cj.2];refine⟨⟨(Rd.jw 1 zS zT).1,S',false⟩,ts',_,rfl,λb o e=>?_,r2,wu,?_,?_,?_,A3,?_⟩
     .rw[Aa (B0 e sl0)];exact e3 _ _ (b12 b2 b o e)
     .have:=Rd.jw_len 1 (S:=zS) (T:=zT);have:zT.length<=i:=zt;show(Rd.jw 1 zS zT).1.length<=i+1;lia
     .have h2:=Rd.jw_len2 1 (S:=zS) (T:=zT);rw[hS,AJ]at h2;have:zS.length<=i:=zs;show S'.length<=i+1;lia
     .rw[Aa ts];exact ht3
     .exact pz2.mono λ_ _ y=>Rd.tb_nl ((Rd.NL.of e3).trans (Rd.NL.upd hs3)) y
   .have c41:c≠41:=λz=>dF y ((k1 41).mpr z);refine⟨_,rfl,rfl,_,rfl,?_⟩;have last:∀(T2:List Tw) (S2:List Nat) (tv2:List V) (H2:Hp),Rd.B2 tl sl H' H2->H2 tl=some (.lst tv2)->H2 sl=some (.lst (S2.reverse.map λa=>V.str (Rd.sg a)))->AN (λv t=>BM (BY a) H2 t v) tv2 T2.reverse->Rd.step ⟨zT,zS,zd⟩ (.s c)=some (⟨T2,c::S2,true⟩:Rd.Sta)->T2.length<=i->S2.length<=i->
      QI (.ref sl) [.str ⟨#[c]⟩] H2 λv H3=>∃(z:Rd.Sta) (tv:List V) (o4:Option V),[some (.ref l),some (.ref tl),some (.ref sl),some (.bl true),some (V.str ⟨#[c]⟩)]=[some (.ref l),some (.ref tl),some (.ref sl),some (.bl z.due),o4]/\Ae H H3/\Rd.run (ks.take (i+1)) ⟨[],[],true⟩=some z/\Rd.Wt z/\z.T.length<=i+1/\z.S.length<=i+1/\H3 tl=some (.lst tv)/\H3 sl=some (.lst (z.S.reverse.map λa=>V.str (Rd.sg a)))/\AN (λv t=>BM (BY a) H3 t v) tv z.T.reverse:=λT2 S2 tv2 H2 b2 ht2 hs2 pz2 hu t2 s2=>by
     obtain⟨r2,wu⟩:=go hu;refine⟨sl,_,_,rfl,rfl,hs2,Cu (by rw[Ag,Ih];lia),⟨T2,c::S2,true⟩,tv2,_,rfl,λb o e=>?_,r2,wu,LI t2,NN s2,?_,?_,?_⟩
     .rw[Aa (B0 e sl0)];exact b12 b2 b o e
     .rw[Aa ts];exact ht2
     .rw[A3];show _=some (HO.lst ((c::S2).reverse.map λa=>V.str (Rd.sg a)));rw[Ii,AR];rfl
     .exact pz2.mono λ_ _ y=>Rd.tb_nl (Rd.NL.upd hs2) y
    have c40d:∀c40:c≠40,zd=false:=λc40=>by rw[hd];exact Bg λz=>c40 ((k1 40).mp z)
    have zT':zT.length<=i:=zt;have zS':zS.length<=i:=zs;refine AB (λne=>?_) (λeq=>?_)
    .have c40:c≠40:=λz=>by
      have e:decide (V.str ⟨#[c]⟩=V.str (Str.ofString "("))=true:=Bc ((k1 40).mpr z);rw[e]at ne;cases ne
     obtain rfl:=c40d c40;have wn:Rd.nb zS+1=zT.length:=wt.nb;have st1:Rd.step ⟨zT,zS,false⟩ (.s c)=some ⟨(Rd.jw (Rd.st c) zS zT).1,c::(Rd.jw (Rd.st c) zS zT).2,true⟩:=by rw[Rd.step,A9 c40,A9 (show ¬(Rd.Sta.due ⟨zT,zS,false⟩=true) from C6),A9 c41]
     refine⟨_,rfl,_,rfl,_,rfl,a.u_STRENGTHS,Rd.strV,.inr (Rd.sg c),_,rfl,T.d_STRENGTHS P,rfl,Rd.st_val ⟨okc,c41⟩,tl,sl,tv,_,zT,zS,Rd.st c,rfl,ts,(by unfold Rd.st;rw[A9 c40];split<;>decide),ht,hs,pz,rfl,wt.sg,by lia,zl2,λts' ss' H2 b2 ht2 hs2 pz2 es2=>?_⟩;subst es2;have j1:=Rd.jw_len (Rd.st c) (S:=zS) (T:=zT);have j2:=Rd.jw_len2 (Rd.st c) (S:=zS) (T:=zT);exact⟨_,rfl,.inl ⟨rfl,_,A4.of hs2⟩,_,rfl,last _ _ ts' H2 b2 ht2 hs2 pz2 st1 (by lia) (by lia)⟩
    .have c40:c=40:=Ig λn=>eq (by rw[show decide (V.str ⟨#[c]⟩=V.str (Str.ofString "("))=false from Bg λz=>n ((k1 40).mp z)];rfl);subst c40;obtain rfl:zd=true:=by rw[hd];exact Bc rfl
     have st1:Rd.step ⟨zT,zS,true⟩ (.s 40)=some ⟨zT,40::zS,true⟩:=rfl;exact⟨_,rfl,.inl ⟨rfl,_,A4.of hs⟩,_,rfl,last zT zS tv H' (λb o e _ _=>e) ht hs pz st1 zT' zS'⟩
 .obtain⟨z,tv,o4,rfl,e1,hz,wt,zt,zs,ht,hs,pz⟩:=p;rw[pa.1,El]at hz;obtain⟨Tt,S,due⟩:=z;refine⟨_,rfl,_,rfl,?_⟩;cases due with
  |true=>exact AG (non (by unfold Rd.termF;rw[hz]) _ e1)
  |false=>
  have wn:Rd.nb S+1=Tt.length:=wt.nb;refine AL ?_;refine⟨_,rfl,_,rfl,a.u_STRENGTHS,Rd.strV,.inr (Rd.sg 43),_,rfl,T.d_STRENGTHS P,rfl,Rd.st_val ⟨by decide,by decide⟩,tl,sl,tv,_,Tt,S,1,rfl,ts,Aq _,ht,hs,pz,rfl,wt.sg,by lia,by have:Tt.length<=xs.length:=zt;lia,λts' ss' H2 b2 ht2 hs2 pz2 es2=>?_⟩;have e2:Ae H H2:=λb o e=>b2 b o (e1 b o e) (B0 e tl0) (B0 e sl0);refine⟨_,rfl,Al rfl,λen hen=>?_⟩;subst es2;refine⟨sl,en,_,rfl,rfl,A4.of (by rw[Aa (B0 hs2 hen)];exact hs2),A4.of A3,_,rfl,?_⟩;have jn:=Rd.jw_nb 1 (Aq _) (S:=S) (T:=Tt) (by lia);have tF:Rd.termF ks=Rd.oneF (Rd.jw 1 S Tt):=by unfold Rd.termF;rw[hz]
  generalize Rd.jw 1 S Tt=J at pz2 hs2 jn tF;obtain⟨JT,JS⟩:=J;cases JS with
  |
   cons d S'=>
   refine AB (λ_=>non ?_ _ (e2.trans (A6 hen _))) (λy=>absurd (by simp) y);rw[tF];cases JT with
   |nil=>rfl
   |cons t l=>cases l<;>rfl
  |
   nil=>
   have j1:JT.length=1:=by
    have h2:Tt.length+Rd.nb []=JT.length+Rd.nb S:=jn.2;have h3:Rd.nb []=0:=rfl;lia
   match JT,j1 with
   |[t],_=>
   have tF:Rd.termF ks=some t:=tF;refine AB (λy=>absurd (show false=true from y) C6) (λ_=>?_);obtain⟨u0,x0,rfl,p0,hx0⟩:=Rd.all2_pop (ys:=[]) pz2;obtain rfl:u0=[]:=Fm p0.1;rw[tF]at q;exact⟨_,rfl,tl,_,0,x0,rfl,rfl,A4.of (by rw[Aa (B0 ht2 hen)];exact ht2),rfl,q x0 _ (e2.trans (A6 hen _)) (BM.over (A6 hen _) hx0)⟩
theorem Vl (T:Tx w K mg a):AQ P w K mg base B3 1 a.f_3 a.d_3 ["self"] (Rd.spDrI a.c_Draft a.c_Deed (BY a)):=by
 refine T.F_3.ok Rj (λvs H Q E h=>?_) (λcdv A outer s H vs Q E hr h=>?_)
 .obtain⟨_,_,rfl,_⟩:=h;rfl
 obtain⟨x,dx,rfl,hx,q⟩:=h;refine⟨_,(A5 (Cv (pv 0) Cd rfl)
  (A5 (Cv (pv 0) (Bh A1) rfl)
  (A5 (Cv (pv 0) XM rfl)
  (A5 (Cv (pv 0) (Bh A1) rfl)
  (A5 (Cv (pv 0) (Bh A1) rfl)
  (A5 (Cv (pv 0) (Bh A1) rfl)
  (Af (Cv (pv 0) (Bh (A0 A2 A1)) rfl)))))))),?_⟩
 refine⟨_,rfl,x,_,dx,_,rfl,hx,T.cl_Draft,T.n_Draft_size,(by show 0<1000;decide),?_⟩;have k1:∀b o,H b=some o->b≠x->(upd H x (.ins a.c_Draft dx (Ah "size" V.non []))) b=some o:=λb o e n=>by rw[Aa n];exact e
 have x1:(upd H x (.ins a.c_Draft dx (Ah "size" V.non []))) x=some (.ins a.c_Draft dx (Ah "size" V.non [])):=A3;change Dt _ _ _ [some (.ref x)] (upd H x (.ins a.c_Draft dx (Ah "size" V.non [])));generalize upd H x (.ins a.c_Draft dx (Ah "size" V.non []))=H1 at k1 x1;refine⟨Al rfl,λdl hdl=>⟨_,rfl,x,_,dx,_,rfl,(by rw[Aa (B0 x1 hdl)];exact x1),T.cl_Draft,T.n_Draft_deeds,(by show 1<1000;decide),?_⟩⟩;obtain⟨fdl,gdl,k'⟩:=Rd.put2 (v:=.lst []) (w:=.ins a.c_Draft dx (Ah "deeds" (.ref dl) (Ah "size" V.non []))) hdl x1;have ndl:H dl=none:=(by cases z:H dl with|none=>rfl|some u=>rw[k1 dl u z fdl]at hdl;cases hdl)
 have k2:∀b o,H b=some o->b≠x->_:=λb o e n=>k' b o (k1 b o e n) n;have x2:(upd (upd H1 dl (.lst [])) x (.ins a.c_Draft dx (Ah "deeds" (.ref dl) (Ah "size" V.non [])))) x=some (.ins a.c_Draft dx (Ah "deeds" (.ref dl) (Ah "size" V.non []))):=A3;change Dt _ _ _ [some (.ref x)] (upd (upd H1 dl (.lst [])) x (.ins a.c_Draft dx (Ah "deeds" (.ref dl) (Ah "size" V.non []))));clear k';generalize upd (upd H1 dl (.lst [])) x (.ins a.c_Draft dx (Ah "deeds" (.ref dl) (Ah "size" V.non [])))=H2 at k2 x2 gdl;have odl:=gdl;refine λtl htl=>⟨_,rfl,x,_,dx,_,rfl,(by rw[Aa (B0 x2 htl)];exact x2),T.cl_Draft,T.n_Draft_tables,(by show 2<1000;decide),?_⟩
 obtain⟨ftl,gtl,k'⟩:=Rd.put2 (v:=.dK []) (w:=.ins a.c_Draft dx (Ah "tables" (.ref tl) (Ah "deeds" (.ref dl) (Ah "size" V.non [])))) htl x2;have ntl:H tl=none:=(by cases z:H tl with|none=>rfl|some u=>rw[k2 tl u z ftl]at htl;cases htl)
 have gdl:=k' _ _ gdl fdl;have k3:∀b o,H b=some o->b≠x->_:=λb o e n=>k' b o (k2 b o e n) n;have x3:(upd (upd H2 tl (.dK [])) x (.ins a.c_Draft dx (Ah "tables" (.ref tl) (Ah "deeds" (.ref dl) (Ah "size" V.non []))))) x=some (.ins a.c_Draft dx (Ah "tables" (.ref tl) (Ah "deeds" (.ref dl) (Ah "size" V.non [])))):=A3;change Dt _ _ _ [some (.ref x)] (upd (upd H2 tl (.dK [])) x (.ins a.c_Draft dx (Ah "tables" (.ref tl) (Ah "deeds" (.ref dl) (Ah "size" V.non [])))));clear k';generalize upd (upd H2 tl (.dK [])) x (.ins a.c_Draft dx (Ah "tables" (.ref tl) (Ah "deeds" (.ref dl) (Ah "size" V.non []))))=H3 at k3 x3 gdl gtl;have odl:=gdl;refine⟨Al rfl,λnl hnl=>⟨_,rfl,x,_,dx,_,rfl,(by rw[Aa (B0 x3 hnl)];exact x3),T.cl_Draft,T.n_Draft_names,(by show 3<1000;decide),?_⟩⟩;obtain⟨fnl,gnl,k'⟩:=Rd.put2 (v:=.lst []) (w:=.ins a.c_Draft dx (Ah "names" (.ref nl) (Ah "tables" (.ref tl) (Ah "deeds" (.ref dl) (Ah "size" V.non []))))) hnl x3;have nnl:H nl=none:=(by cases z:H nl with|none=>rfl|some u=>rw[k3 nl u z fnl]at hnl;cases hnl)
 have gdl:=k' _ _ gdl fdl;have ddlnl:dl≠nl:=λz=>by rw[z]at odl;rw[odl]at hnl;cases hnl
 have gtl:=k' _ _ gtl ftl;have k4:∀b o,H b=some o->b≠x->_:=λb o e n=>k' b o (k3 b o e n) n;have x4:(upd (upd H3 nl (.lst [])) x (.ins a.c_Draft dx (Ah "names" (.ref nl) (Ah "tables" (.ref tl) (Ah "deeds" (.ref dl) (Ah "size" V.non [])))))) x=some (.ins a.c_Draft dx (Ah "names" (.ref nl) (Ah "tables" (.ref tl) (Ah "deeds" (.ref dl) (Ah "size" V.non []))))):=A3;change Dt _ _ _ [some (.ref x)] (upd (upd H3 nl (.lst [])) x (.ins a.c_Draft dx (Ah "names" (.ref nl) (Ah "tables" (.ref tl) (Ah "deeds" (.ref dl) (Ah "size" V.non []))))));clear k';generalize upd (upd H3 nl (.lst [])) x (.ins a.c_Draft dx (Ah "names" (.ref nl) (Ah "tables" (.ref tl) (Ah "deeds" (.ref dl) (Ah "size" V.non [])))))=H4 at k4 x4 gdl gtl gnl;have odl:=gdl;have onl:=gnl;refine⟨Al rfl,λll hll=>⟨_,rfl,x,_,dx,_,rfl,(by rw[Aa (B0 x4 hll)];exact x4),T.cl_Draft,T.n_Draft_lows,(by show 4<1000;decide),?_⟩⟩;obtain⟨fll,gll,k'⟩:=Rd.put2 (v:=.lst []) (w:=.ins a.c_Draft dx (Ah "lows" (.ref ll) (Ah "names" (.ref nl) (Ah "tables" (.ref tl) (Ah "deeds" (.ref dl) (Ah "size" V.non [])))))) hll x4;have nll:H ll=none:=(by cases z:H ll with|none=>rfl|some u=>rw[k4 ll u z fll]at hll;cases hll)
 have gdl:=k' _ _ gdl fdl;have ddlll:dl≠ll:=λz=>by rw[z]at odl;rw[odl]at hll;cases hll
 have gtl:=k' _ _ gtl ftl;have gnl:=k' _ _ gnl fnl;have dnlll:nl≠ll:=λz=>by rw[z]at onl;rw[onl]at hll;cases hll
 have k5:∀b o,H b=some o->b≠x->_:=λb o e n=>k' b o (k4 b o e n) n;have x5:(upd (upd H4 ll (.lst [])) x (.ins a.c_Draft dx (Ah "lows" (.ref ll) (Ah "names" (.ref nl) (Ah "tables" (.ref tl) (Ah "deeds" (.ref dl) (Ah "size" V.non []))))))) x=some (.ins a.c_Draft dx (Ah "lows" (.ref ll) (Ah "names" (.ref nl) (Ah "tables" (.ref tl) (Ah "deeds" (.ref dl) (Ah "size" V.non [])))))):=A3;change Dt _ _ _ [some (.ref x)] (upd (upd H4 ll (.lst [])) x (.ins a.c_Draft dx (Ah "lows" (.ref ll) (Ah "names" (.ref nl) (Ah "tables" (.ref tl) (Ah "deeds" (.ref dl) (Ah "size" V.non [])))))));clear k';generalize upd (upd H4 ll (.lst [])) x (.ins a.c_Draft dx (Ah "lows" (.ref ll) (Ah "names" (.ref nl) (Ah "tables" (.ref tl) (Ah "deeds" (.ref dl) (Ah "size" V.non []))))))=H5 at k5 x5 gdl gtl gnl gll;have odl:=gdl;have onl:=gnl;have oll:=gll;refine⟨Al rfl,λhl hhl=>⟨_,rfl,x,_,dx,_,rfl,(by rw[Aa (B0 x5 hhl)];exact x5),T.cl_Draft,T.n_Draft_highs,(by show 5<1000;decide),?_⟩⟩;obtain⟨fhl,ghl,k'⟩:=Rd.put2 (v:=.lst []) (w:=.ins a.c_Draft dx (Ah "highs" (.ref hl) (Ah "lows" (.ref ll) (Ah "names" (.ref nl) (Ah "tables" (.ref tl) (Ah "deeds" (.ref dl) (Ah "size" V.non []))))))) hhl x5;have nhl:H hl=none:=(by cases z:H hl with|none=>rfl|some u=>rw[k5 hl u z fhl]at hhl;cases hhl)
 have gdl:=k' _ _ gdl fdl;have ddlhl:dl≠hl:=λz=>by rw[z]at odl;rw[odl]at hhl;cases hhl
 have gtl:=k' _ _ gtl ftl;have gnl:=k' _ _ gnl fnl;have dnlhl:nl≠hl:=λz=>by rw[z]at onl;rw[onl]at hhl;cases hhl
 have gll:=k' _ _ gll fll;have dllhl:ll≠hl:=λz=>by rw[z]at oll;rw[oll]at hhl;cases hhl
 have k6:∀b o,H b=some o->b≠x->_:=λb o e n=>k' b o (k5 b o e n) n;have x6:(upd (upd H5 hl (.lst [])) x (.ins a.c_Draft dx (Ah "highs" (.ref hl) (Ah "lows" (.ref ll) (Ah "names" (.ref nl) (Ah "tables" (.ref tl) (Ah "deeds" (.ref dl) (Ah "size" V.non [])))))))) x=some (.ins a.c_Draft dx (Ah "highs" (.ref hl) (Ah "lows" (.ref ll) (Ah "names" (.ref nl) (Ah "tables" (.ref tl) (Ah "deeds" (.ref dl) (Ah "size" V.non []))))))):=A3;dsimp only;clear k';generalize upd (upd H5 hl (.lst [])) x (.ins a.c_Draft dx (Ah "highs" (.ref hl) (Ah "lows" (.ref ll) (Ah "names" (.ref nl) (Ah "tables" (.ref tl) (Ah "deeds" (.ref dl) (Ah "size" V.non [])))))))=H6 at k6 x6 gdl gtl gnl gll ghl;have odl:=gdl;have onl:=gnl;have oll:=gll;have ohl:=ghl;refine⟨Al rfl,λpl hpl=>⟨_,rfl,x,_,dx,_,rfl,(by rw[Aa (B0 x6 hpl)];exact x6),T.cl_Draft,T.n_Draft_path,(by show 6<1000;decide),?_⟩⟩;obtain⟨fpl,gpl,k'⟩:=Rd.put2 (v:=.lst [.int 0]) (w:=.ins a.c_Draft dx (Ah "path" (.ref pl) (Ah "highs" (.ref hl) (Ah "lows" (.ref ll) (Ah "names" (.ref nl) (Ah "tables" (.ref tl) (Ah "deeds" (.ref dl) (Ah "size" V.non [])))))))) hpl x6;have npl:H pl=none:=(by cases z:H pl with|none=>rfl|some u=>rw[k6 pl u z fpl]at hpl;cases hpl)
 have gdl:=k' _ _ gdl fdl;have ddlpl:dl≠pl:=λz=>by rw[z]at odl;rw[odl]at hpl;cases hpl
 have gtl:=k' _ _ gtl ftl;have gnl:=k' _ _ gnl fnl;have dnlpl:nl≠pl:=λz=>by rw[z]at onl;rw[onl]at hpl;cases hpl
 have gll:=k' _ _ gll fll;have dllpl:ll≠pl:=λz=>by rw[z]at oll;rw[oll]at hpl;cases hpl
 have ghl:=k' _ _ ghl fhl;have dhlpl:hl≠pl:=λz=>by rw[z]at ohl;rw[ohl]at hpl;cases hpl
 have k7:∀b o,H b=some o->b≠x->_:=λb o e n=>k' b o (k6 b o e n) n;have x7:(upd (upd H6 pl (.lst [.int 0])) x (.ins a.c_Draft dx (Ah "path" (.ref pl) (Ah "highs" (.ref hl) (Ah "lows" (.ref ll) (Ah "names" (.ref nl) (Ah "tables" (.ref tl) (Ah "deeds" (.ref dl) (Ah "size" V.non []))))))))) x=some (.ins a.c_Draft dx (Ah "path" (.ref pl) (Ah "highs" (.ref hl) (Ah "lows" (.ref ll) (Ah "names" (.ref nl) (Ah "tables" (.ref tl) (Ah "deeds" (.ref dl) (Ah "size" V.non [])))))))):=A3;refine q _ ⟨x,dx,dl,tl,nl,ll,hl,pl⟩ rfl k7 ?_ λf=>⟨x7,⟨_,gdl,rfl,λ_ _ _ z=>by cases z⟩,⟨[],gtl,(λp hp=>nomatch hp),BI _⟩,gnl,⟨_,gll,rfl,λ_ _ _ z=>by cases z⟩,⟨_,ghl,rfl,λ_ _ _ z=>by cases z⟩,gpl,?_,rfl⟩
 .rintro b (z|z|z|z|z|z|z) n
  .exact absurd z n
  .rw[z];exact ndl
  .rw[z];exact ntl
  .rw[z];exact nnl
  .rw[z];exact nll
  .rw[z];exact nhl
  .rw[z];exact npl
 .simp only[Gc,Av,Cp,or_false,not_or,NP,Rh,and_true];exact⟨⟨ddlnl,ddlll,ddlhl,ddlpl⟩,⟨dnlll,dnlhl,dnlpl⟩,⟨dllhl,dllpl⟩,dhlpl⟩
theorem Qi (T:Tx w K mg a):AQ P w K mg base B3 1 a.f_m a.d_m ["draft","spots"] (Rd.spKnown a.c_Draft):=by
 refine T.F_m.ok UQ (λvs H Q E h=>?_) (λcdv A outer s H vs Q E hr h=>?_)
 .obtain⟨_,_,_,_,rfl,_⟩:=h;rfl
 obtain⟨d,p,nm,sp,rfl,⟨dx,fs,n,hd,hf,hn⟩,⟨ys,hp,pa⟩,sl,q⟩:=h;refine⟨_,(Af (Ay (B6 (MN rfl) (by rfl) T.z_all LU (A0 (Ef ["spot","draft"] [none,some 0] (by rfl) (Me (pv 1)) Uo (λ_ _ _ _ _ _=>⟨(BB (i:=0) XF rfl (.inl rfl)),F7,(Nr (DY Bs (Aj (show F2 _ (IY K) from B7) (pv 0) A2 (λ_ _=>rfl)) Ab (Ax _)) (Gv (DY (show BL _ _ (Io K false) from GO) (Aj (show F2 _ (IY K) from B7) (pv 0) A2 (λ_ _=>rfl)) (show PE _ _ (QE K _ "names") from BH (pv 1) rfl) (by with_unfolding_all rfl))))⟩)) A1)))),?_⟩;refine⟨_,rfl,p,rfl,⟨_,Aw.of hp⟩,?_⟩;have yl:ys.length=sp.length:=pa.1;refine Mi (xs:=ys) (λi bs H'=>H'=H/\bs=((sp.take i).map (Rd.knw nm)).map V.bl) ⟨rfl,rfl⟩ (Ap (by lia)) (λi bs H' hi p=>?_) (λi x bs H' hc p=>?_) (λbs H' p t5 ht5=>?_)
 .obtain⟨rfl,rfl⟩:=p;exact⟨Aw.of hp,by simp;lia⟩
 .obtain⟨rfl,rfl⟩:=p;have hil:i<sp.length:=by rw[←yl];exact(BQ.mp hc).1
  obtain⟨t6,rfl,h6⟩:=pa.2 i x sp[i] hc (BC hil);refine⟨_,rfl,t6,_,0,_,rfl,rfl,Aw.of h6,rfl,rfl,_,rfl,?_⟩;have k1:(V.str (sp[i]).1=V.str (Str.ofString ""))↔(sp[i]).1=Str.ofString "":=⟨λe=>V.str.inj e,λe=>by rw[e]⟩
  rw[DB (BC hil),AR,AR];refine AB (λy=>⟨rfl,?_⟩) (λy=>?_)
  .have e:Rd.knw nm sp[i]=true:=by unfold Rd.knw;rw[Bc (k1.mp (dT y))];rfl
   show _=_++[V.bl (Rd.knw nm sp[i])];rw[e]
  .have e:Rd.knw nm sp[i]=decide ((sp[i]).1∈nm):=by unfold Rd.knw;rw[Bg λz=>dF y (k1.mpr z)];rfl
   refine⟨_,rfl,t6,_,0,_,rfl,rfl,Aw.of h6,rfl,_,rfl,d,_,dx,fs,_,rfl,hd,T.cl_Draft,T.n_Draft_names,hf,n,_,rfl,.inl (A4.of hn),rfl,Rd.flat_strs nm,?_⟩;refine⟨rfl,?_⟩;show _=_++[V.bl (Rd.knw nm sp[i])];rw[e,Rd.in_strs];rfl
 obtain⟨rfl,rfl⟩:=p;refine⟨t5,_,rfl,A4.of A3,?_⟩;have q2:=q _ (A6 ht5 (.lst (((sp.take ys.length).map (Rd.knw nm)).map V.bl)));rw[yl,El]at q2 ⊢;have e:(sp.map (Rd.knw nm)).all id=sp.all (Rd.knw nm):=by rw[LM];rfl
 rw[e];exact q2
theorem V9 (T:Tx w K mg a):AQ P w K mg base B3 2 a.f_C a.d_C ["draft","parts"] (Rd.spNamesF a.c_Draft (BY a)):=by
 have G_m :=@Qi P w K mg base a T;refine T.F_C.ok OU (λvs H Q E h=>?_) (λcdv A outer s H vs Q E hr h=>?_)
 .obtain⟨_,_,_,_,_,rfl,_⟩:=h;rfl
 obtain⟨d,l,nm,xs,ks,rfl,hd,hl,pa,ok,q⟩:=h;refine⟨_,(A5 (EI PassesOwn.never rfl (DD (pv 1)) (BB (i:=2) OU.nd rfl (.inl rfl))
  (A5 (AM ((DG (CI (B6 GK (by rfl) T.z_isinstance FT (A0 (pv 2) (A0 (CJ (v:=.ref a.c_Value) (by rfl) T.mc_Value rfl) A1)))) (E8 (Au Jy (BH (pv 2) rfl) (BH (pv 0) rfl) (by with_unfolding_all rfl))))).pt
  (Af (Ay Cw))
  AS)
  (Af (AM ((DG (CI (B6 GK (by rfl) T.z_isinstance FT (A0 (pv 2) (A0 (CJ (v:=.ref a.c_Cell) (by rfl) T.mc_Cell rfl) A1)))) (E8 (E4 (CI (AD G_m (hr.mono (by lia)) (by rfl) T.m_m T.F_m.kp T.b_m .nil Az (A0 (pv 0) (A0 (BH (pv 2) rfl) A1)))))))).pt
  (Af (Ay Cw))
  AS))))
  (Af (Ay Cw))),?_⟩
 refine⟨_,rfl,l,rfl,⟨_,A4.of hl⟩,?_⟩;refine GY (xs:=xs) (λi σ' H'=>(ks.all (Rd.tknB nm)=(ks.drop i).all (Rd.tknB nm))/\Ae H H'/\∃o2:Option V,σ'=[some (.ref d),some (.ref l),o2]) ⟨rfl,Ae.refl _,_,rfl⟩ (λi σ' H' _ p=>p.2.1.seq (A4.of hl)) (λi x σ' H' hx p=>?_) (fun σ' H' p=>?_)
 .obtain⟨hA,e,o2,rfl⟩:=p;dsimp only[Am];have il:i<xs.length:=(BQ.mp hx).1;obtain⟨k,hk⟩:∃k,ks[i]?=some k:=⟨ks[i]'(by rw[←pa.1];exact il),BC _⟩
  have hpk:=(pa.2 i x k hx hk).over e;have okk:=ok k (CU hk);have go:Rd.tknB nm k=true->ks.all (Rd.tknB nm)=(ks.drop (i+1)).all (Rd.tknB nm):=λh=>by
   have il2:=(BQ.mp hk).1;rw[hA,Gi il2,EW];rw[BC il2]at hk;rw[Co hk,h];rfl
  have stop:Rd.tknB nm k=false->ks.all (Rd.tknB nm)=false:=λh=>by
   have il2:=(BQ.mp hk).1;rw[hA,Gi il2,EW];rw[BC il2]at hk;rw[Co hk,h];rfl
  obtain⟨ddx,fs,n,hd0,hf,hn0⟩:=hd;have hd:=e _ _ hd0;have hn:=e _ _ hn0;cases k with
  |
   s c=>
   have hpk:x = .str ⟨#[c]⟩:=hpk;subst hpk;refine⟨_,rfl,_,_,_,_,false,rfl,rfl,.str _,T.is_str_Value,_,rfl,AL ?_⟩;exact⟨_,rfl,_,_,_,_,false,rfl,rfl,.str _,T.is_str_Cell,_,rfl,AL ⟨go rfl,e,_,rfl⟩⟩
  |
   t w'=>
   cases w' with
   |
    n i=>
    obtain⟨t0,dx,rfl,hx0⟩:=hpk;refine⟨_,rfl,_,_,_,_,false,rfl,rfl,T.ty_Number _ _ _ _ hx0,T.is_Number_Value,_,rfl,AL ?_⟩;exact⟨_,rfl,_,_,_,_,false,rfl,rfl,T.ty_Number _ _ _ _ hx0,T.is_Number_Cell,_,rfl,AL ⟨go rfl,e,_,rfl⟩⟩
   |
    v z=>
    obtain⟨t0,dx,rfl,hx0⟩:=hpk;refine⟨_,rfl,_,_,_,_,true,rfl,rfl,T.ty_Value _ _ _ _ hx0,T.is_Value_Value,_,rfl,AG ?_⟩;refine⟨_,rfl,t0,_,dx,_,_,rfl,hx0,T.cl_Value,T.n_Value_name,rfl,_,rfl,d,_,ddx,fs,_,rfl,hd,T.cl_Draft,T.n_Draft_names,hf,n,_,rfl,.inl (A4.of hn),rfl,Rd.flat_strs nm,_,rfl,?_⟩;have e1:Dd (V.str z) (nm.map V.str)=Rd.tknB nm (.t (.v z)):=Rd.in_strs _ _;rw[e1];cases hb:Rd.tknB nm (.t (.v z)) with
    |
     false=>
     have q1:=q _ e;rw[stop hb]at q1;exact AG q1
    |true=>
    refine AL ?_;exact⟨_,rfl,_,_,_,_,false,rfl,rfl,T.ty_Value _ _ _ _ hx0,T.is_Value_Cell,_,rfl,AL ⟨go hb,e,_,rfl⟩⟩
   |
    c z sp=>
    obtain⟨t0,dx,p0,rfl,hx0,hp0⟩:=hpk;refine⟨_,rfl,_,_,_,_,false,rfl,rfl,T.ty_Cell _ _ _ _ hx0,T.is_Cell_Value,_,rfl,AL ?_⟩;refine⟨_,rfl,_,_,_,_,true,rfl,rfl,T.ty_Cell _ _ _ _ hx0,T.is_Cell_Cell,_,rfl,AG ?_⟩;refine⟨_,rfl,_,rfl,t0,_,dx,_,_,rfl,hx0,T.cl_Cell,T.n_Cell_spots,rfl,d,p0,nm,sp,rfl,⟨ddx,fs,n,hd,hf,hn⟩,hp0,(by have:sp.length<=3:=okk;lia),λH2 e2=>⟨_,rfl,?_⟩⟩;have e1:sp.all (Rd.knw nm)=Rd.tknB nm (.t (.c z sp)):=rfl;rw[e1];cases hb:Rd.tknB nm (.t (.c z sp)) with
    |
     false=>
     have q1:=q _ (e.trans e2);rw[stop hb]at q1;exact AG q1
    |true=>exact AL ⟨go hb,e.trans e2,_,rfl⟩
   |j _ _ _=>exact okk.elim
 .obtain⟨hA,e,o2,rfl⟩:=p;have q1:=q _ e;rw[hA,pa.1,NX]at q1;exact q1
theorem VA (T:Tx w K mg a):AQ P w K mg base B3 1 a.f_D a.d_D ["draft","parts"] (Rd.spTabF a.c_Draft (BY a)):=by
 refine T.F_D.ok MG (λvs H Q E h=>?_) (λcdv A outer s H vs Q E hr h=>?_)
 .obtain⟨_,_,_,_,_,_,_,_,rfl,_⟩:=h;rfl
 obtain⟨d,l,dx,t,fs,xs,ks,tb,rfl,hd,hf,ht,tl,hl,pa,ok,qn,q⟩:=h;refine⟨_,(A5 (EI PassesOwn.never rfl (DD (pv 1)) (BB (i:=2) MG.nd rfl (.inl rfl))
  (Af (AM (CI (B6 GK (by rfl) T.z_isinstance FT (A0 (pv 2) (A0 (CJ (v:=.ref a.c_Cell) (by rfl) T.mc_Cell rfl) A1))))
  (A5 (Ak (i:=3) MG.nd rfl (.inl rfl) (B6 Bw (by rfl) T.z_len Bq (A0 (BH (pv 2) rfl) A1)))
  (Af (AM (Au E9 (Wr (BH (pv 0) rfl) (BH (pv 2) rfl) (pv 3) ⟨rfl,rfl,rfl,rfl⟩) (pv 3) (Ax _))
  (Af (Ay Cw))
  AS)))
  AS)))
  (Af (Ay Cw))),?_⟩
 have ntl:∀{b:Addr} {o:HO},H b=some o->(∀kv,o≠.dK kv)->b≠t:=fun{b o} e n z=>by rw[z,ht]at e;exact n _ (Co e).symm
 refine⟨_,rfl,l,rfl,⟨_,A4.of hl⟩,?_⟩;refine GY (xs:=xs) (λi σ' H'=>(∀b o,H b=some o->b≠t->H' b=some o)/\(∃o2 o3:Option V,σ'=[some (.ref d),some (.ref l),o2,o3])/\∃tb',H' t=some (.dK (Rd.tbK tb'))/\Rd.tabF tb ks=Rd.tabF tb' (ks.drop i)/\tb'.length<=tb.length+i) ⟨λ_ _ e _=>e,⟨_,_,rfl⟩,tb,ht,rfl,Aq _⟩ (λi σ' H' _ p=>A4.of (p.1 _ _ hl (ntl hl (λ_ z=>nomatch z)))) (λi x σ' H' hx p=>?_) (fun σ' H' p=>?_)
 .obtain⟨e,⟨o2,o3,rfl⟩,tb',ht',hf',tl'⟩:=p;dsimp only[Am];have il:i<xs.length:=(BQ.mp hx).1;obtain⟨k,hk⟩:∃k,ks[i]?=some k:=⟨ks[i]'(by rw[←pa.1];exact il),BC _⟩
  have kp:Rd.Kp H H':=λb o e' ob=>e b o e' (ntl e' (λ_ z=>by rw[z]at ob;exact ob));have hpk:=(pa.2 i x k hx hk).kp kp;have okk:=ok k (CU hk);have hdr:ks.drop i=k::ks.drop (i+1):=by
   have il2:=(BQ.mp hk).1;rw[Gi il2];rw[BC il2]at hk;rw[Co hk]
  rw[hdr]at hf';have hd':=e _ _ hd (ntl hd (λ_ z=>nomatch z));cases k with
  |
   s c=>
   have hpk:x = .str ⟨#[c]⟩:=hpk;subst hpk;exact⟨_,rfl,_,_,_,_,false,rfl,rfl,.str _,T.is_str_Cell,_,rfl,AL ⟨e,⟨_,_,rfl⟩,tb',ht',hf',by lia⟩⟩
  |
   t w'=>
   cases w' with
   |
    n i=>
    obtain⟨t0,dx,rfl,hx0⟩:=hpk;exact⟨_,rfl,_,_,_,_,false,rfl,rfl,T.ty_Number _ _ _ _ hx0,T.is_Number_Cell,_,rfl,AL ⟨e,⟨_,_,rfl⟩,tb',ht',hf',by lia⟩⟩
   |
    v z=>
    obtain⟨t0,dx,rfl,hx0⟩:=hpk;exact⟨_,rfl,_,_,_,_,false,rfl,rfl,T.ty_Value _ _ _ _ hx0,T.is_Value_Cell,_,rfl,AL ⟨e,⟨_,_,rfl⟩,tb',ht',hf',by lia⟩⟩
   |
    c z sp=>
    obtain⟨t0,dx0,p0,rfl,hx0,ys,hp0,pa0⟩:=hpk;rw[Rd.tabF]at hf';have yl:((ys.length:Nat):Int)=((sp.length:Nat):Int):=by rw[pa0.1]
    refine⟨_,rfl,_,_,_,_,true,rfl,rfl,T.ty_Cell _ _ _ _ hx0,T.is_Cell_Cell,_,rfl,AG ?_⟩;refine⟨_,rfl,t0,_,dx0,_,_,rfl,hx0,T.cl_Cell,T.n_Cell_spots,rfl,p0,ys,rfl,.inr (Aw.of hp0),?_⟩;rw[yl];dsimp only[Am];refine⟨_,rfl,d,_,dx,fs,_,rfl,hd',T.cl_Draft,T.n_Draft_tables,hf,t,rfl,.inl ⟨_,.inl ht'⟩,?_⟩;refine⟨_,rfl,t0,_,dx0,_,_,rfl,hx0,T.cl_Cell,T.n_Cell_table,rfl,_,rfl,_,.inr z,ht',rfl,?_,λv hv=>?_,λhn=>?_⟩
    .have:=pa.1;unfold Rd.tbK;rw[Ag];lia
    .rw[Rd.tb_look]at hv;cases hk2:tb'.lookup z with
     |none=>rw[hk2]at hv;cases hv
     |some m=>
     rw[hk2]at hv hf';cases hv;refine⟨_,rfl,rfl,_,rfl,?_⟩;by_cases hm:m=sp.length
     .rw[Bc (by rw[hm])];exact AL ⟨e,⟨_,_,rfl⟩,tb',ht',by rw[hf'];exact Ac hm,by lia⟩
     .rw[Bg (λy=>hm (by have:=V.int.inj y;lia))];exact AG (qn (by rw[hf'];exact A9 hm) _ e)
    .have hk2:tb'.lookup z=none:=by
      rw[Rd.tb_look]at hn;cases hk2:tb'.lookup z with
      |none=>rfl
      |some m=>rw[hk2]at hn;cases hn
     rw[hk2]at hf';rw[Rd.tb_new _ hn];refine⟨_,rfl,rfl,_,rfl,?_⟩;rw[Bc rfl];exact AL ⟨λb o e' nb=>by rw[Aa nb];exact e b o e' nb,⟨_,_,rfl⟩,_,A3,hf',by rw[An,Bf];lia⟩
   |j _ _ _=>exact okk.elim
 .obtain⟨e,⟨o2,o3,rfl⟩,tb',ht',hf',tl'⟩:=p;rw[pa.1,NX]at hf';exact q _ tb' hf' e ht'
theorem UT (T:Tx w K mg a):AQ P w K mg base B3 3 a.f_F a.d_F ["draft","words"] (Rd.spSizeF a.c_Draft a.c_Deed (BY a)):=by
 have G_d :=@J5 P w K mg base a T;refine T.F_F.ok Q2 (λvs H Q E h=>?_) (λcdv A outer s H vs Q E hr h=>?_)
 .obtain⟨_,_,_,_,_,rfl,_⟩:=h;rfl
 obtain⟨B,D,tb,wl,ws,rfl,hT,hw,wl2,wlen,qn,q⟩:=h;have hD:=hT.dr;refine⟨_,(A5 (AM ((Cg (Au E9 (B6 Bw (by rfl) T.z_len Bq (A0 (pv 1) A1)) A2 (Ax _)) (D4 (Au E9 (Aj AX (pv 1) A2 (λ_ _=>rfl)) Ab (Ax _))))).pt
  (Af (Ay Cw))
  AS)
  (A5 (Ak (i:=2) Q2.nd rfl (.inl rfl) (AD G_d (hr.mono (by lia)) (by rfl) T.m_d T.F_d.kp T.b_d .nil Az (A0 (Aj AX (pv 1) A2 (λ_ _=>rfl)) A1)))
  (A5 (AM ((Cg (Au EN (pv 2) Cd (Ax _)) (D4 (Au EK (pv 2) (CJ (by rfl) T.g_LEAST_SIZE T.r_LEAST_SIZE) (Ax _))))).pt
  (Af (Ay Cw))
  AS)
  (A5 (Cv (pv 0) (pv 2) rfl)
  (Af (Ay Cw)))))),?_⟩
 refine⟨_,rfl,wl,_,rfl,.inl (A4.of hw),rfl,_,rfl,?_⟩;rcases E3 (ws.length=2) with l2|l2
 case inr=>
  refine AB (λ_=>?_) (λy=>absurd (by show(!decide (V.int (((ws.map V.str).length:Nat):Int)=V.int 2))=true;rw[Bg λz=>l2 (by have:=V.int.inj z;rw[Ag]at this;lia)];rfl) y);refine AG (qn ?_ _ (Rd.Out.refl _ _))
  match ws,l2 with
  |[],_=>rfl
  |[_],_=>rfl
  |[_,_],h=>exact absurd rfl h
  |_::_::_::_,_=>rfl
 obtain⟨w0,w1,rfl⟩:∃w0 w1,ws=[w0,w1]:=by
  match ws,l2 with
  |[x,y],_=>exact⟨x,y,rfl⟩
 refine AL ?_;refine⟨_,rfl,wl,_,_,_,rfl,rfl,A4.of hw,rfl,rfl,_,rfl,?_⟩;rcases E3 (w0=Str.ofString "size") with e0|e0
 case inr=>
  rw[Bg λz=>e0 (V.str.inj z)];exact AG (qn (by unfold Rd.sizeF;exact A9 λz=>e0 z.1) _ (Rd.Out.refl _ _))
 rw[Bc (by rw[e0])];refine AL ?_;refine⟨_,rfl,wl,_,_,_,rfl,rfl,A4.of hw,rfl,_,rfl,wlen w1 (by simp),λH1 e1=>?_⟩;have o1:Rd.Out B H H1:=Rd.Out.of e1;by_cases gd:C9 (cds w1)
 .rw[IW gd];dsimp only[Am];refine⟨_,rfl,rfl,_,rfl,AL ?_⟩;refine⟨_,rfl,_,_,rfl,rfl,_,rfl,?_⟩;refine AB (λy=>?_) (λy=>?_)
  .have y:De (cds w1)<2:=dT y;exact qn (by unfold Rd.sizeF;exact A9 λz=>by have:=z.2.2;lia) _ o1
  have y:¬De (cds w1)<2:=dF y;have hT1:=hT.over e1;have hD1:=hT1.dr;obtain⟨o2,d2⟩:=hD1.size (De (cds w1));have n6:=hD1.ne.2.2.2.2.2.1;exact⟨_,rfl,_,rfl,B.d,_,B.dx,_,rfl,hD1.o,T.cl_Draft,T.n_Draft_size,(by show 7<1000;decide),q _ _ (by unfold Rd.sizeF;exact Ac ⟨e0,gd,by lia⟩) (o1.trans o2) (hT1.to d2 (by rw[Aa n6];exact hT1.ht) rfl)⟩
 .rw[IQ gd];dsimp only[Am];refine⟨_,rfl,rfl,_,rfl,AG (AG (qn (by unfold Rd.sizeF;exact A9 λz=>gd z.2.1) _ o1))⟩
theorem Vf (T:Tx w K mg a):AQ P w K mg base B3 1 a.f_H a.d_H ["draft","words"] (Rd.spEndF a.c_Draft a.c_Deed (BY a)):=by
 refine T.F_H.ok Z0 (λvs H Q E h=>?_) (λcdv A outer s H vs Q E hr h=>?_)
 .obtain⟨_,_,_,_,_,rfl,_⟩:=h;rfl
 obtain⟨B,D,tb,wl,ws,rfl,hT,hw,l3,wl2,qn,q⟩:=h;have hD:=hT.dr;refine⟨_,(A5 (AM ((Cg (Au E9 (B6 Bw (by rfl) T.z_len Bq (A0 (pv 1) A1)) A2 (Ax _)) (Cg (Au (Kd (Fg hr)) (BH (pv 0) rfl) (Bh A1) (Ax _)) (D4 (Au Bs (Aj AX (BH (pv 0) rfl) (Dh Dj A2) (λ_ _=>rfl)) A2 (Ax _)))))).pt
  (Af (Ay Cw))
  AS)
  (A5 (BF (Ed BJ EC ED Eg (BH (pv 0) rfl)))
  (A5 (BF (Ed BJ EC ED Eg (BH (pv 0) rfl)))
  (A5 (BF (Ed BJ EC ED Eg (BH (pv 0) rfl)))
  (A5 (BF (Ed BJ EC ED Eg (BH (pv 0) rfl)))
  (A5 (Px (BH (pv 0) rfl) (Dh Dj A2) Qq A2 LX QJ)
  (Af (Ay Cw)))))))),?_⟩
 refine⟨_,rfl,wl,_,rfl,.inl (A4.of hw),rfl,_,rfl,?_⟩;rcases E3 (ws.length=1) with w1|w1
 case inr=>
  refine AB (λ_=>?_) (λy=>absurd (by show(!decide (V.int (((ws.map V.str).length:Nat):Int)=V.int 1))=true;rw[Bg λz=>w1 (by have:=V.int.inj z;rw[Ag]at this;lia)];rfl) y);exact AG (qn (.inl w1) _ (Rd.Out.refl _ _))
 refine AB (λy=>absurd (show(!decide (V.int (((ws.map V.str).length:Nat):Int)=V.int 1))=true from y) (by rw[Ag,w1];decide)) (λ_=>?_);refine⟨_,rfl,B.d,_,B.dx,_,_,rfl,hD.o,T.cl_Draft,T.n_Draft_names,rfl,Al rfl,λen hen=>?_⟩;have es:=A6 hen (.lst []);have hT1:=hT.over es;have hD1:=hT1.dr;have hen1:(upd H en (.lst [])) en=some (.lst []):=A3;generalize upd H en (.lst [])=H1 at es hT1 hD1 hen1;obtain⟨n1,n2,n3,n4,n5,n6,m1,m2,m3,m4,m5⟩:=hD1.ne;obtain⟨⟨a1,a2,a3,a4⟩,⟨b1,b2,b3⟩,⟨c1,c2⟩,d1⟩:=hD1.nds;have oE:=Rd.Out.of (A:=B) es;rcases E3 (D.lp=[]) with lp0|lp0
 .have hn0:H1 B.nl=some (.lst []):=by rw[hD1.nm,lp0];rfl
  refine⟨B.nl,en,_,rfl,rfl,A4.of hn0,A4.of hen1,_,rfl,?_⟩;exact AG (AG (qn (.inr (.inl lp0)) _ oE))
 obtain⟨lp,t0,e1⟩:∃lp t,D.lp=lp++[t]:=⟨_,_,(NO lp0).symm⟩
 obtain⟨pa,m,e2⟩:∃pa m,D.pa=pa++[m]:=⟨_,_,(NO (l:=D.pa) (λz=>lp0 (Fm (by rw[←hD1.pl,z];rfl)))).symm⟩
 have hnm:H1 B.nl=some (.lst (lp.map (λt=>V.str t.nm)++[.str t0.nm])):=by rw[hD1.nm,e1,AR];rfl
 obtain⟨ls,hls,pls⟩:=hD1.lo;obtain⟨hs,hhs,phs⟩:=hD1.hi;rw[e1]at pls phs;obtain⟨ls,lx,rfl,pls,-⟩:=Rd.all2_pop pls;obtain⟨hs,hx,rfl,phs,-⟩:=Rd.all2_pop phs;have hpa:H1 B.pl=some (.lst ((pa.map V.int++[.int m])++[.int D.la])):=by rw[hD1.pa,e2,AR,AR];rfl
 refine⟨B.nl,en,_,rfl,rfl,A4.of hnm,A4.of hen1,_,rfl,?_⟩;refine AB (λy=>absurd y (by simp)) (λ_=>?_);refine⟨_,rfl,B.d,_,B.dx,_,_,rfl,hD1.o,T.cl_Draft,T.n_Draft_path,rfl,_,rfl,B.pl,_,_,_,rfl,rfl,A4.of hpa,JL _ _,rfl,_,rfl,?_⟩;refine AB (λy=>?_) (λla0=>?_)
 .exact qn (.inr (.inr (V.int.inj (dT y)))) _ oE
 have la0:D.la≠0:=λz=>dF la0 (by rw[z]);refine⟨_,rfl,B.d,_,B.dx,_,_,rfl,hD1.o,T.cl_Draft,T.n_Draft_names,rfl,.inl ⟨rfl,_,A4.of hnm⟩,B.nl,_,_,rfl,rfl,hnm,Cj.1,?_⟩;rw[Cj.2];have o1:(upd H1 B.nl (.lst (lp.map λt=>V.str t.nm))) B.d=_:=((Aa (Ne.symm n1)).trans hD1.o)
 have l1:(upd H1 B.nl (.lst (lp.map λt=>V.str t.nm))) B.ll=_:=((Aa (Ne.symm b1)).trans hls)
 refine⟨_,rfl,B.d,_,B.dx,_,_,rfl,o1,T.cl_Draft,T.n_Draft_lows,rfl,.inl ⟨rfl,_,A4.of l1⟩,B.ll,_,_,rfl,rfl,l1,Cj.1,?_⟩;rw[Cj.2];have o2:(upd (upd H1 B.nl (.lst (lp.map λt=>V.str t.nm))) B.ll (.lst ls)) B.d=_:=((Aa (Ne.symm n2)).trans o1)
 have l2:(upd (upd H1 B.nl (.lst (lp.map λt=>V.str t.nm))) B.ll (.lst ls)) B.hl=_:=((Aa (Ne.symm c1)).trans ((Aa (Ne.symm b2)).trans hhs))
 refine⟨_,rfl,B.d,_,B.dx,_,_,rfl,o2,T.cl_Draft,T.n_Draft_highs,rfl,.inl ⟨rfl,_,A4.of l2⟩,B.hl,_,_,rfl,rfl,l2,Cj.1,?_⟩;rw[Cj.2];have o3:(upd (upd (upd H1 B.nl (.lst (lp.map λt=>V.str t.nm))) B.ll (.lst ls)) B.hl (.lst hs)) B.d=_:=((Aa (Ne.symm n3)).trans o2)
 have l3:(upd (upd (upd H1 B.nl (.lst (lp.map λt=>V.str t.nm))) B.ll (.lst ls)) B.hl (.lst hs)) B.pl=_:=((Aa (Ne.symm d1)).trans ((Aa (Ne.symm c2)).trans ((Aa (Ne.symm b3)).trans hpa)))
 refine⟨_,rfl,B.d,_,B.dx,_,_,rfl,o3,T.cl_Draft,T.n_Draft_path,rfl,.inl ⟨rfl,_,A4.of l3⟩,B.pl,_,_,rfl,rfl,l3,Cj.1,?_⟩;rw[Cj.2];have o4:(upd (upd (upd (upd H1 B.nl (.lst (lp.map λt=>V.str t.nm))) B.ll (.lst ls)) B.hl (.lst hs)) B.pl (.lst (pa.map V.int++[.int m]))) B.d=_:=((Aa (Ne.symm n4)).trans o3)
 refine⟨_,rfl,B.d,_,B.dx,_,_,rfl,o4,T.cl_Draft,T.n_Draft_path,rfl,_,rfl,B.pl,_,_,rfl,rfl,A3,_,_,rfl,rfl,B.pl,_,_,_,rfl,rfl,A3,Rd.ix_end _ _,?_⟩;rw[Rd.set_last,JI];have k4:=hD1.four (lp:=lp) (pa:=pa) (la:=m+1) pls phs (by have:=hD1.pl;rw[e1,e2,An,An]at this;exact Nat.add_right_cancel this);rw[AR]at k4;exact q lp t0 pa m _ w1 e1 e2 la0 (oE.trans k4.1) (hT1.to k4.2 (by rw[Aa (Ne.symm m4),Aa (Ne.symm m3),Aa (Ne.symm m2),Aa (Ne.symm m1)];exact hT1.ht) rfl)
theorem Yl (T:Tx w K mg a):AQ P w K mg base B3 5 a.f_G a.d_G ["draft","words"] (Rd.spLoopF a.c_Draft a.c_Deed (BY a)):=by
 have G_c :=@HP P w K mg base a T;have G_f :=@P5 P w K mg base a T;have G_m :=@Qi P w K mg base a T;refine T.F_G.ok Nw (λvs H Q E h=>?_) (λcdv A outer s H vs Q E hr h=>?_)
 .obtain⟨_,_,_,_,_,rfl,_⟩:=h;rfl
 obtain⟨B,D,tb,wl,ws,rfl,hT,hw,l33,wl2,wlen,qn,q⟩:=h;have hD:=hT.dr;refine⟨_,(A5 (AM ((Cg (Au E9 (B6 Bw (by rfl) T.z_len Bq (A0 (pv 1) A1)) A2 (Ax _)) (D4 (Au Bs (B6 Bw (by rfl) T.z_len Bq (A0 (BH (pv 0) rfl) A1)) (CJ (by rfl) T.g_MOST_LOOPS T.r_MOST_LOOPS) (Ax _))))).pt
  (Af (Ay Cw))
  AS)
  (A5 (AM ((Cg (E4 (CI (AD G_c (hr.mono (by lia)) (by rfl) T.m_c T.F_c.kp T.b_c .nil Az (A0 (Aj AX (pv 1) A2 (λ_ _=>rfl)) A1)))) (D4 (Au GO (Aj AX (pv 1) A2 (λ_ _=>rfl)) (BH (pv 0) rfl) (by with_unfolding_all rfl))))).pt
  (Af (Ay Cw))
  AS)
  (A5 (Ak (i:=2) Nw.nd rfl (.inl rfl) (AD G_f (hr.mono (by lia)) (by rfl) T.m_f T.F_f.kp T.b_f .nil Az (A0 (Aj AX (pv 1) A2 (λ_ _=>rfl)) A1)))
  (A5 (Ak (i:=3) Nw.nd rfl (.inl rfl) (AD G_f (hr.mono (by lia)) (by rfl) T.m_f T.F_f.kp T.b_f .nil Az (A0 (Aj AX (pv 1) A2 (λ_ _=>rfl)) A1)))
  (A5 (AM ((Cg (Au EN (pv 2) Cd (Ax _)) (Cg (Au EN (pv 3) Cd (Ax _)) (D4 (E4 (CI (AD G_m (hr.mono (by lia)) (by rfl) T.m_m T.F_m.kp T.b_m .nil Az (A0 (pv 0) (A0 (Cf (A0 (pv 2) (A0 (pv 3) A1))) A1))))))))).pt
  (Af (Ay Cw))
  AS)
  (A5 (BF (Bx BJ CC CF Ct (BH (pv 0) rfl) (A0 (Aj AX (pv 1) A2 (λ_ _=>rfl)) A1)))
  (A5 (BF (Bx BJ CC CF Ct (BH (pv 0) rfl) (A0 (pv 2) A1)))
  (A5 (BF (Bx BJ CC CF Ct (BH (pv 0) rfl) (A0 (pv 3) A1)))
  (A5 (BF (Bx BJ CC CF Ct (BH (pv 0) rfl) (A0 A2 A1)))
  (Af (Ay Cw))))))))))),?_⟩
 refine⟨_,rfl,wl,_,rfl,.inl (A4.of hw),rfl,_,rfl,?_⟩;rcases E3 (ws.length=4) with l4|l4
 case inr=>
  refine AB (λ_=>?_) (λy=>absurd (by show(!decide (V.int (((ws.map V.str).length:Nat):Int)=V.int 4))=true;rw[Bg λz=>l4 (by have:=V.int.inj z;rw[Ag]at this;lia)];rfl) y);refine AG (qn ?_ _ (Rd.Out.refl _ _))
  match ws,l4 with
  |[],_=>rfl
  |[_],_=>rfl
  |[_,_],_=>rfl
  |[_,_,_],_=>rfl
  |[_,_,_,_],h=>exact absurd rfl h
  |_::_::_::_::_::_,_=>rfl
 obtain⟨w0,n,lo,hi,rfl⟩:∃w0 n lo hi,ws=[w0,n,lo,hi]:=by
  match ws,l4 with
  |[x,y,z,u],_=>exact⟨x,y,z,u,rfl⟩
 have no:¬((D.lp.map (·.nm)).length≠3/\AW (cds n)/\n∉D.lp.map (·.nm))->∀H',Rd.Out B H H'->Q (.bl false) H':=λh=>qn (by unfold Rd.loopF;exact A9 h);refine AL ?_;refine⟨_,rfl,B.d,_,B.dx,_,_,rfl,hD.o,T.cl_Draft,T.n_Draft_names,rfl,B.nl,_,rfl,.inl (A4.of hD.nm),rfl,_,rfl,?_⟩;refine AB (λy=>?_) (λl3=>?_)
 .have y:=V.int.inj (dT y);rw[Ag]at y;exact no (λz=>z.1 (by rw[Ag];lia)) _ (Rd.Out.refl _ _)
 have l3:(D.lp.map (·.nm)).length≠3:=λz=>dF l3 (by rw[Ag]at z ⊢;rw[z];rfl);have zl:=wlen n (by simp);refine⟨_,rfl,wl,_,_,_,rfl,rfl,A4.of hw,rfl,_,rfl,zl,λH1 e1=>⟨_,rfl,?_⟩⟩;have o1:Rd.Out B H H1:=Rd.Out.of e1;rcases E3 (AW (cds n)) with hnm|hnm
 case inr=>
  rw[Bg hnm];exact AG (AG (no (λz=>hnm z.2.1) _ o1))
 rw[Bc hnm];refine AL ?_;have hD1:=hD.over e1;have hw1:=e1 _ _ hw;have hn1:H1 B.nl=some (.lst ((D.lp.map (·.nm)).map V.str)):=by rw[FO];exact hD1.nm
 refine⟨_,rfl,wl,_,_,_,rfl,rfl,A4.of hw1,rfl,_,rfl,B.d,_,B.dx,_,_,rfl,hD1.o,T.cl_Draft,T.n_Draft_names,rfl,B.nl,_,rfl,.inl (A4.of hn1),rfl,Rd.flat_strs _,_,rfl,?_⟩;rcases E3 (n∈D.lp.map (·.nm)) with hin|hnin
 .rw[show Dd (V.str n) ((D.lp.map (·.nm)).map V.str)=true from(Rd.in_strs _ _).trans (Bc hin)];exact AG (no (λz=>z.2.2 hin) _ o1)
 rw[show Dd (V.str n) ((D.lp.map (·.nm)).map V.str)=false from(Rd.in_strs _ _).trans (Bg hnin)];refine AL ?_;have lF:Rd.loopF (D.lp.map (·.nm)) [w0,n,lo,hi]=Rd.twoF (D.lp.map (·.nm)) n (Bv (cds lo)) (Bv (cds hi)):=by unfold Rd.loopF;exact Ac ⟨l3,hnm,hnin⟩
 rw[lF]at q qn;refine⟨_,rfl,wl,_,_,_,rfl,rfl,A4.of hw1,rfl,_,rfl,wlen lo (by simp),?_⟩;cases hlo:Bv (cds lo) with
 |
  none=>
  rw[hlo]at qn;intro H2 e2;dsimp only[Am];have hw2:=e2 _ _ hw1;refine⟨_,rfl,wl,_,_,_,rfl,rfl,A4.of hw2,rfl,_,rfl,wlen hi (by simp),?_⟩;cases hhi:Bv (cds hi) with
  |
   none=>
   intro H3 e3;dsimp only[Am];exact⟨_,rfl,rfl,_,rfl,AG (AG (qn rfl _ (o1.trans (Rd.Out.of (e2.trans e3)))))⟩
  |
   some b=>
   intro r3 H3 e3 h3;dsimp only[Am];exact⟨_,rfl,rfl,_,rfl,AG (AG (qn rfl _ (o1.trans (Rd.Out.of (e2.trans e3)))))⟩
 |some sa=>
 rw[hlo]at qn q;intro r2 H2 e2 h2;dsimp only[Am];have hw2:=e2 _ _ hw1;refine⟨_,rfl,wl,_,_,_,rfl,rfl,A4.of hw2,rfl,_,rfl,wlen hi (by simp),?_⟩;cases hhi:Bv (cds hi) with
 |
  none=>
  rw[hhi]at qn;intro H3 e3;dsimp only[Am];refine⟨_,rfl,rfl,_,rfl,AL ?_⟩;exact⟨_,rfl,rfl,_,rfl,AG (AG (qn rfl _ (o1.trans (Rd.Out.of (e2.trans e3)))))⟩
 |some sb=>
 rw[hhi]at qn q;intro r3 H3 e3 h3;dsimp only[Am];refine⟨_,rfl,rfl,_,rfl,AL ?_⟩;refine⟨_,rfl,rfl,_,rfl,AL ?_⟩;refine⟨_,rfl,_,rfl,_,rfl,Al rfl,λtp htp=>?_⟩;have e4:=e1.trans (e2.trans (e3.trans (A6 htp (.tup [.ref r2,.ref r3]))));have h24:=(e3.trans (A6 htp (.tup [.ref r2,.ref r3]))) _ _ h2;have h34:=(A6 htp (.tup [.ref r2,.ref r3])) _ _ h3;have htp4:(upd H3 tp (.tup [.ref r2,.ref r3])) tp=some (.tup [.ref r2,.ref r3]):=A3;generalize upd H3 tp (.tup [.ref r2,.ref r3])=H4 at e4 h24 h34 htp4;refine⟨B.d,tp,_,[Rd.sT sa,Rd.sT sb],rfl,(hD.over e4).drn,⟨_,htp4,rfl,λi x s hx hs=>?_⟩,(by show 2<=1000;decide),λH5 e5=>⟨_,rfl,?_⟩⟩
 .match i,hx,hs with
  |0,hx,hs=>cases hx;cases hs;exact⟨r2,rfl,h24⟩
  |1,hx,hs=>cases hx;cases hs;exact⟨r3,rfl,h34⟩
  |_+2,hx,hs=>cases hx
 have e05:=e4.trans e5;have hall:[Rd.sT sa,Rd.sT sb].all (Rd.knw (D.lp.map (·.nm)))=(Rd.knw (D.lp.map (·.nm)) (Rd.sT sa)&&Rd.knw (D.lp.map (·.nm)) (Rd.sT sb)):=by rw[EW,EW,List.all_nil,Bool.and_true]
 rw[hall];rcases E3 (Rd.knw (D.lp.map (·.nm)) (Rd.sT sa)=true/\Rd.knw (D.lp.map (·.nm)) (Rd.sT sb)=true) with hk|hk
 case inr=>
  rw[show(Rd.knw (D.lp.map (·.nm)) (Rd.sT sa)&&Rd.knw (D.lp.map (·.nm)) (Rd.sT sb))=false from NR.mpr λz=>hk (Re.mp z)];exact AG (qn (A9 hk) _ (Rd.Out.of e05))
 have q9:∀H',Rd.Out B H H'->Rd.DrT a.c_Draft a.c_Deed (BY a) H' B (Rd.opens D ⟨n,Rd.sT sa,Rd.sT sb⟩) tb->Q (.bl true) H':=λH'=>q ⟨n,Rd.sT sa,Rd.sT sb⟩ H' (Ac hk);rw[show(Rd.knw (D.lp.map (·.nm)) (Rd.sT sa)&&Rd.knw (D.lp.map (·.nm)) (Rd.sT sb))=true from Re.mpr hk];refine AL ?_;have hT5:=hT.over e05;have hD5:=hT5.dr;have hw5:=e05 _ _ hw;have s2:Ck H5 (.ref r2) (Rd.sT sa):=⟨r2,rfl,e5 _ _ h24⟩
 have s3:Ck H5 (.ref r3) (Rd.sT sb):=⟨r3,rfl,e5 _ _ h34⟩
 generalize ht:(⟨n,Rd.sT sa,Rd.sT sb⟩:As)=t at q9;have en:n=t.nm:=by rw[←ht]
 have s2:Ck H5 (.ref r2) t.lo:=by rw[←ht];exact s2
 have s3:Ck H5 (.ref r3) t.hi:=by rw[←ht];exact s3
 subst en;obtain⟨y1,y2,y3,y4,y5,y6,m1,m2,m3,m4,m5⟩:=hD5.ne;obtain⟨⟨a1,a2,a3,a4⟩,⟨b1,b2,b3⟩,⟨c1,c2⟩,d1⟩:=hD5.nds;obtain⟨ls,hls,pls⟩:=hD5.lo;obtain⟨hs,hhs,phs⟩:=hD5.hi;have k4:=hD5.four (lp:=D.lp++[t]) (pa:=D.pa++[D.la]) (la:=0) (pls.snoc s2) (phs.snoc s3) (by rw[An,An,hD5.pl];rfl);have hnm5:=hD5.nm;refine⟨_,rfl,B.d,_,B.dx,_,_,rfl,hD5.o,T.cl_Draft,T.n_Draft_names,rfl,.inl ⟨rfl,_,A4.of hnm5⟩,_,rfl,wl,_,_,_,rfl,rfl,A4.of hw5,rfl,B.nl,_,_,rfl,rfl,hnm5,Cu (by rw[Ag];lia),?_⟩;rw[show D.lp.map (λt=>V.str t.nm)++[.str t.nm]=(D.lp++[t]).map (λt=>V.str t.nm) from by rw[AR];rfl];have o1:(upd H5 B.nl (.lst ((D.lp++[t]).map λt=>V.str t.nm))) B.d=_:=((Aa (Ne.symm y1)).trans hD5.o)
 have l1:(upd H5 B.nl (.lst ((D.lp++[t]).map λt=>V.str t.nm))) B.ll=_:=((Aa (Ne.symm b1)).trans hls)
 refine⟨_,rfl,B.d,_,B.dx,_,_,rfl,o1,T.cl_Draft,T.n_Draft_lows,rfl,.inl ⟨rfl,_,A4.of l1⟩,_,rfl,B.ll,_,_,rfl,rfl,l1,Cu (by rw[pls.1];lia),?_⟩;have o2:(upd (upd H5 B.nl (.lst ((D.lp++[t]).map λt=>V.str t.nm))) B.ll (.lst (ls++[.ref r2]))) B.d=_:=((Aa (Ne.symm y2)).trans o1)
 have l2:(upd (upd H5 B.nl (.lst ((D.lp++[t]).map λt=>V.str t.nm))) B.ll (.lst (ls++[.ref r2]))) B.hl=_:=((Aa (Ne.symm c1)).trans ((Aa (Ne.symm b2)).trans hhs))
 refine⟨_,rfl,B.d,_,B.dx,_,_,rfl,o2,T.cl_Draft,T.n_Draft_highs,rfl,.inl ⟨rfl,_,A4.of l2⟩,_,rfl,B.hl,_,_,rfl,rfl,l2,Cu (by rw[phs.1];lia),?_⟩;have o3:(upd (upd (upd H5 B.nl (.lst ((D.lp++[t]).map λt=>V.str t.nm))) B.ll (.lst (ls++[.ref r2]))) B.hl (.lst (hs++[.ref r3]))) B.d=_:=((Aa (Ne.symm y3)).trans o2)
 have l3':(upd (upd (upd H5 B.nl (.lst ((D.lp++[t]).map λt=>V.str t.nm))) B.ll (.lst (ls++[.ref r2]))) B.hl (.lst (hs++[.ref r3]))) B.pl=_:=((Aa (Ne.symm d1)).trans ((Aa (Ne.symm c2)).trans ((Aa (Ne.symm b3)).trans hD5.pa)))
 refine⟨_,rfl,B.d,_,B.dx,_,_,rfl,o3,T.cl_Draft,T.n_Draft_path,rfl,.inl ⟨rfl,_,A4.of l3'⟩,B.pl,_,_,rfl,rfl,l3',Cu (by rw[Ag,An,hD5.pl,Bf];lia),?_⟩;rw[AR (f:=V.int) (l₁:=D.pa++[D.la]) (l₂:=[0])]at k4;exact q9 _ ((Rd.Out.of e05).trans k4.1) (hT5.to k4.2 (by rw[Aa (Ne.symm m4),Aa (Ne.symm m3),Aa (Ne.symm m2),Aa (Ne.symm m1)];exact hT5.ht) rfl)
theorem V0 (T:Tx w K mg a):AQ P w K mg base B3 8 a.f_E a.d_E ["draft","row"] (Rd.spDeedF a.c_Draft a.c_Deed (BY a)):=by
 have G_l :=@Oj P w K mg base a T;have G_A :=@T9 P w K mg base a T;have G_B :=@X9 P w K mg base a T;have G_C :=@V9 P w K mg base a T;have G_D :=@VA P w K mg base a T;have G_1 :=@TX P w K mg base a T;refine T.F_E.ok ID (λvs H Q E h=>?_) (λcdv A outer s H vs Q E hr h=>?_)
 .obtain⟨_,_,_,_,rfl,_⟩:=h;rfl
 obtain⟨B,D,tbs,z,rfl,hT,zl,d66,l33,qn,q⟩:=h;have hD:=hT.dr;refine⟨_,(A5 (Ak (i:=2) ID.nd rfl (.inl rfl) (Bx E2 LN LO II (pv 1) (A0 Ab A1)))
  (A5 (Ak (i:=3) ID.nd rfl (.inl rfl) (AD G_l (hr.mono (by lia)) (by rfl) T.m_l T.F_l.kp T.b_l .nil Az (A0 (Aj B7 (pv 2) A2 (λ_ _=>rfl)) A1)))
  (A5 (Ak (i:=4) ID.nd rfl (.inl rfl) (AD G_A (hr.mono (by lia)) (by rfl) T.m_A T.F_A.kp T.b_A .nil Az (A0 (Aj B7 (pv 2) A2 (λ_ _=>rfl)) A1)))
  (A5 (AM ((Cg (Au Bs (B6 Bw (by rfl) T.z_len Bq (A0 (BH (pv 0) rfl) A1)) (CJ (by rfl) T.g_MOST_DEEDS T.r_MOST_DEEDS) (Ax _)) (Cg (Au EN (pv 3) Cd (Ax _)) (D4 (Au EN (pv 4) Cd (Ax _)))))).pt
  (Af (Ay Cw))
  AS)
  (A5 (Ak (i:=5) ID.nd rfl (.inl rfl) (AD G_B (hr.mono (by lia)) (by rfl) T.m_B T.F_B.kp T.b_B .nil Az (A0 (pv 4) A1)))
  (A5 (AM ((Cg (Au EN (pv 5) Cd (Ax _)) (Cg (E4 (CI (AD G_C (hr.mono (by lia)) (by rfl) T.m_C T.F_C.kp T.b_C .nil Az (A0 (pv 0) (A0 (A8 BK (Bh (A0 (pv 3) A1)) (pv 4)) A1))))) (D4 (E4 (CI (AD G_D (hr.mono (by lia)) (by rfl) T.m_D T.F_D.kp T.b_D .nil Az (A0 (pv 0) (A0 (A8 BK (Bh (A0 (pv 3) A1)) (pv 4)) A1))))))))).pt
  (Af (Ay Cw))
  AS)
  (A5 (BF (Bx BJ CC CF Ct (BH (pv 0) rfl) (A0 (HJ T.mk_Deed G_1 (hr.mono (by lia)) (by rfl) T.mc_Deed T.b_1 .nil Az (A0 (Du GA (by rfl) T.z_tuple Gw (A0 (BH (pv 0) rfl) A1)) (A0 (Du GA (by rfl) T.z_tuple Gw (A0 (BH (pv 0) rfl) A1)) (A0 (Du GA (by rfl) T.z_tuple Gw (A0 (BH (pv 0) rfl) A1)) (A0 (BH (pv 3) rfl) (A0 (BH (pv 3) rfl) (A0 (pv 5) (A0 (Du GA (by rfl) T.z_tuple Gw (A0 (BH (pv 0) rfl) A1)) A1)))))))) A1)))
  (A5 (Px (BH (pv 0) rfl) (Dh Dj A2) Qq A2 LX QJ)
  (Af (Ay Cw)))))))))),?_⟩
 have hlen:=cds_len z;obtain⟨sm,hp,bl,al⟩:∃sm:Str,DC 61 (cds z)=[.str (AC (Rd.bE (cds z))),.str sm,.str (AC (Rd.aE (cds z)))]/\(Rd.bE (cds z)).length<=1000/\(Rd.aE (cds z)).length<=1000:=by
  unfold Rd.bE Rd.aE DC;by_cases h:61∈cds z
  .rw[Ac h,Ac h,Ac h];exact⟨_,rfl,by unfold Cb;rw[Bb];lia,by unfold CS;rw[BS];lia⟩
  .rw[A9 h,A9 h,A9 h];exact⟨"",rfl,by lia,BI _⟩
 unfold Rd.dedF at q qn;generalize Rd.bE (cds z)=bz at q qn hp bl;generalize Rd.aE (cds z)=az at q qn hp al;refine⟨_,rfl,rfl,_,61,rfl,rfl,Ap (by lia),λr hr'=>?_⟩;rw[hp];have e1:=A6 hr' (.tup [.str (AC bz),.str sm,.str (AC az)]);have hr1:(upd H r (.tup [.str (AC bz),.str sm,.str (AC az)])) r=_:=A3;generalize upd H r (.tup [.str (AC bz),.str sm,.str (AC az)])=H1 at e1 hr1;dsimp only[Am];refine⟨_,rfl,r,_,_,_,rfl,rfl,Aw.of hr1,rfl,_,rfl,by rw[Df];exact bl,?_⟩;rw[Bl];refine Rd.OptQ.of λcv H2 e2 hc2=>?_;dsimp only[Am];have hr2:=e2 _ _ hr1;refine⟨_,rfl,r,_,_,_,rfl,rfl,Aw.of hr2,rfl,_,rfl,by rw[Df];exact al,?_⟩;rw[Bl];refine Rd.OptQ.of λpv H3 e3 hp3=>?_;dsimp only[Am];have e13:=e1.trans (e2.trans e3);have hT3:=hT.over e13;have hD3:=hT3.dr;have o3:Rd.Out B H H3:=Rd.Out.of e13;obtain⟨ds,hds,pds⟩:=hD3.dd;refine⟨_,rfl,B.d,_,B.dx,_,_,rfl,hD3.o,T.cl_Draft,T.n_Draft_deeds,rfl,B.dl,_,rfl,.inl (A4.of hds),rfl,_,rfl,?_⟩;refine AB (λy=>?_) (λy=>?_)
 .have y:=V.int.inj (dT y);rw[pds.1]at y;exact AG (qn (Ac (by lia)) _ o3)
 have d6:D.dd.length≠6:=λz=>dF y (by rw[pds.1,z];rfl);rw[A9 d6]at q qn;cases hcf:Rd.cellF bz with
 |
  none=>
  rw[hcf]at hc2 qn;have hc2:cv = .non:=hc2;subst hc2;exact⟨_,rfl,rfl,_,rfl,AG (AG (qn rfl _ o3))⟩
 |some pc=>
 obtain⟨tb,sp⟩:=pc;rw[hcf]at hc2 q qn;have hc3:=BM.over e3 (show BM (BY a) H2 (.c tb sp) cv from hc2);obtain⟨c0,cdx,cp,rfl,hc0,hcp⟩:=hc3;refine⟨_,rfl,rfl,_,rfl,AL ?_⟩;cases hpf:Rd.partsF az.length az with
 |
  none=>
  rw[hpf]at hp3 qn;have hp3:pv = .non:=hp3;subst hp3;exact⟨_,rfl,rfl,_,rfl,AG (qn rfl _ o3)⟩
 |some ks=>
 rw[hpf]at hp3 q qn;obtain⟨pl,xs,rfl,hxs,pa3⟩:=hp3;have kl:=Rd.partsF_len hpf;have ksg:=Rd.partsF_sg hpf;refine⟨_,rfl,rfl,_,rfl,AL ?_⟩;refine⟨_,rfl,pl,xs,ks,rfl,hxs,pa3,(by rw[pa3.1];lia),ksg,Rd.OptQ.of λtv H4 e4 htv=>?_⟩;dsimp only[Am];have e14:=e13.trans e4;have xl:xs.length<=1000:=by rw[pa3.1];lia
 have q:∀(nm:Str) (sp':List (Str×Int)) (t:Tw) (tb':List (Str×Nat)) (H':Hp),Rd.rowD (D.lp.map (·.nm)) tbs (tb,sp) ks (Rd.termF ks)=some (nm,sp',t,tb')->Rd.Out B H H'->Rd.DrT a.c_Draft a.c_Deed (BY a) H' B (Rd.does D nm sp' t) tb'->Q (.bl true) H':=q;have qn:Rd.rowD (D.lp.map (·.nm)) tbs (tb,sp) ks (Rd.termF ks)=none->∀H',Rd.Out B H H'->Q (.bl false) H':=qn;refine⟨_,rfl,rfl,_,rfl,?_⟩;cases htf:Rd.termF ks with
 |
  none=>
  rw[htf]at htv qn;have htv:tv = .non:=htv;subst htv;exact AG (AG (qn rfl _ (Rd.Out.of e14)))
 |some t=>
 rw[htf]at htv q qn;have htv:BM (BY a) H4 t tv:=htv;have tn:tv≠.non:=by
  cases t with
  |n i=>obtain⟨_,_,rfl,_⟩:=htv;exact λz=>nomatch z
  |v z=>obtain⟨_,_,rfl,_⟩:=htv;exact λz=>nomatch z
  |c z sp=>obtain⟨_,_,_,rfl,_⟩:=htv;exact λz=>nomatch z
  |j z l r=>obtain⟨_,_,_,_,rfl,_⟩:=htv;exact λz=>nomatch z
 refine AB (λy=>absurd (dT y) tn) (λ_=>?_);refine⟨_,rfl,_,rfl,Al rfl,λl1 hl1=>⟨_,rfl,l1,pl,[.ref c0],xs,rfl,rfl,A3,(A6 hl1 _) _ _ (e4 _ _ hxs),Ap (by show 1+_<=_;lia),λl2 hl2=>?_⟩⟩;have e5:=e4.trans ((A6 hl1 (.lst [.ref c0])).trans (A6 hl2 (.lst ([.ref c0]++xs))));have hl25:(upd (upd H4 l1 (.lst [.ref c0])) l2 (.lst ([.ref c0]++xs))) l2=some (.lst ([.ref c0]++xs)):=A3;have htv5:=BM.over ((A6 hl1 (.lst [.ref c0])).trans (A6 hl2 (.lst ([.ref c0]++xs)))) htv;generalize upd (upd H4 l1 (.lst [.ref c0])) l2 (.lst ([.ref c0]++xs))=H5 at e5 hl25 htv5;have hcel:BM (BY a) H3 (.c tb sp) (.ref c0):=⟨c0,cdx,cp,rfl,hc0,hcp⟩
 have pall:AN (Rd.PtAt (BY a) H3) ([.ref c0]++xs) (.t (.c tb sp)::ks):=AN.cons hcel pa3;have oall:∀k∈Rd.Tk.t (.c tb sp)::ks,k.Sg:=λk hk=>by
  rcases Av.mp hk with rfl|hk
  .exact Rd.cellF_len hcf
  .exact ksg k hk
 refine⟨B.d,l2,_,_,.t (.c tb sp)::ks,rfl,(hD3.over e5).drn,hl25,pall.mono λ_ _ x=>x.over e5,oall,λH6 e6=>⟨_,rfl,?_⟩⟩;cases hkn:(Rd.Tk.t (.c tb sp)::ks).all (Rd.tknB (D.lp.map (·.nm))) with
 |false=>exact AG (AG (qn (by unfold Rd.rowD;exact A9 (by rw[hkn];exact C6)) _ (o3.trans (Rd.Out.of (e5.trans e6)))))
 |true=>
 refine AL ?_;have rD:Rd.rowD (D.lp.map (·.nm)) tbs (tb,sp) ks (some t)=(Rd.tabF tbs (Rd.Tk.t (.c tb sp)::ks)).map λtb'=>(tb,sp,t,tb'):=by unfold Rd.rowD;exact Ac hkn
 rw[rD]at q qn;have e36:=e5.trans e6;refine⟨_,rfl,_,rfl,Al rfl,λl1 hl1=>⟨_,rfl,l1,pl,[.ref c0],xs,rfl,rfl,A3,(A6 hl1 _) _ _ (e36 _ _ hxs),Ap (by show 1+_<=_;lia),λl2 hl2=>?_⟩⟩;have e7:=e36.trans ((A6 hl1 (.lst [.ref c0])).trans (A6 hl2 (.lst ([.ref c0]++xs))));have hl27:(upd (upd H6 l1 (.lst [.ref c0])) l2 (.lst ([.ref c0]++xs))) l2=some (.lst ([.ref c0]++xs)):=A3;have htv7:=BM.over (e6.trans ((A6 hl1 (.lst [.ref c0])).trans (A6 hl2 (.lst ([.ref c0]++xs))))) htv5;generalize upd (upd H6 l1 (.lst [.ref c0])) l2 (.lst ([.ref c0]++xs))=H7 at e7 hl27 htv7;have hT7:=hT3.over e7;have ln7:=hT7.ln;refine⟨B.d,l2,B.dx,B.tl,_,_,.t (.c tb sp)::ks,tbs,rfl,hT7.dr.o,rfl,hT7.ht,(by rw[AJ];lia),hl27,pall.mono λ_ _ x=>x.over e7,oall,λhn H8 e8=>⟨_,rfl,AG (qn (by rw[hn];rfl) _ ((o3.trans (Rd.Out.of e7)).trans (hT7.dr.tabs e8).2.1))⟩,λH8 tb8 hF8 e8 ht8=>⟨_,rfl,AL ?_⟩⟩;obtain⟨⟨tl8,htb8⟩,nd8,ll8⟩:=Rd.tabF_pre hF8;have nd8:=nd8 hT7.nd;subst htb8;have hD7:=hT7.re nd8;have hf8:=Rd.lk_ok nd8;rw[hF8]at q;obtain⟨kp8,out8,o8,⟨ds8,hds8,pds8⟩,nm8,⟨ls8,hls8,pls8⟩,⟨hs8,hhs8,phs8⟩,pa8⟩:=hD7.tabs e8;have htv8:=Rd.tb_kp kp8 htv7;have hc8:=Rd.tb_kp kp8 (BM.over e7 hcel);obtain⟨c0',cdx',cp',ec0,hc0,hcp⟩:=hc8;cases ec0;clear hc2 hcel pall;refine⟨_,rfl,B.d,_,B.dx,_,_,rfl,o8,T.cl_Draft,T.n_Draft_deeds,rfl,.inl ⟨rfl,_,A4.of hds8⟩,?_⟩;refine⟨_,rfl,B.d,_,B.dx,_,_,rfl,o8,T.cl_Draft,T.n_Draft_names,rfl,B.nl,_,rfl,.inl ⟨A4.of nm8,λt1 ht1=>?_⟩⟩;have s1:=A6 ht1 (.tup (D.lp.map λt=>V.str t.nm));have g1:(upd H8 t1 (.tup (D.lp.map λt=>V.str t.nm))) t1=_:=A3;generalize upd H8 t1 (.tup (D.lp.map λt=>V.str t.nm))=H9 at s1 g1;refine⟨_,rfl,B.d,_,B.dx,_,_,rfl,s1 _ _ o8,T.cl_Draft,T.n_Draft_lows,rfl,B.ll,_,rfl,.inl ⟨A4.of (s1 _ _ hls8),λt2 ht2=>?_⟩⟩;have s2:=s1.trans (A6 ht2 (.tup ls8));have g1:=(A6 ht2 (.tup ls8)) _ _ g1;have g2:(upd H9 t2 (.tup ls8)) t2=_:=A3;generalize upd H9 t2 (.tup ls8)=H10 at s2 g1 g2;refine⟨_,rfl,B.d,_,B.dx,_,_,rfl,s2 _ _ o8,T.cl_Draft,T.n_Draft_highs,rfl,B.hl,_,rfl,.inl ⟨A4.of (s2 _ _ hhs8),λt3 ht3=>?_⟩⟩;have s3:=s2.trans (A6 ht3 (.tup hs8));have g1:=(A6 ht3 (.tup hs8)) _ _ g1;have g2:=(A6 ht3 (.tup hs8)) _ _ g2;have g3:(upd H10 t3 (.tup hs8)) t3=_:=A3;generalize upd H10 t3 (.tup hs8)=H11 at s3 g1 g2 g3;refine⟨_,rfl,c0,_,cdx',_,_,rfl,s3 _ _ hc0,T.cl_Cell,T.n_Cell_table,rfl,_,rfl,c0,_,cdx',_,_,rfl,s3 _ _ hc0,T.cl_Cell,T.n_Cell_spots,rfl,_,rfl,?_⟩;refine⟨_,rfl,B.d,_,B.dx,_,_,rfl,s3 _ _ o8,T.cl_Draft,T.n_Draft_path,rfl,B.pl,_,rfl,.inl ⟨A4.of (s3 _ _ pa8),λt4 ht4=>?_⟩⟩;have s4:=s3.trans (A6 ht4 (.tup ((D.pa++[D.la]).map V.int)));have g1:=(A6 ht4 (.tup ((D.pa++[D.la]).map V.int))) _ _ g1;have g2:=(A6 ht4 (.tup ((D.pa++[D.la]).map V.int))) _ _ g2;have g3:=(A6 ht4 (.tup ((D.pa++[D.la]).map V.int))) _ _ g3;have g4:(upd H11 t4 (.tup ((D.pa++[D.la]).map V.int))) t4=_:=A3;generalize upd H11 t4 (.tup ((D.pa++[D.la]).map V.int))=H12 at s4 g1 g2 g3 g4;intro x dx nx ndx ne;refine⟨x,dx,_,_,_,_,_,_,_,rfl,A3,λH13 k13 hx13=>⟨rfl,?_⟩⟩;obtain⟨dx2,hx13⟩:=hx13;have m13:=GW nx ndx k13;have s5:=s4.trans m13;have hds13:=s5 _ _ hds8;have hDo:ER a.c_Deed (BY a) H13 (.ref x) ⟨D.lp,tb,sp,t,D.pa++[D.la]⟩:=⟨x,dx2,t1,t2,t3,cp',t4,tv,ls8,hs8,rfl,hx13,m13 _ _ g1,m13 _ _ g2,pls8.mono λ_ _ z=>z.tk (Ae.tk s5),m13 _ _ g3,phs8.mono λ_ _ z=>z.tk (Ae.tk s5),hcp.tk (Ae.tk s5),BM.over s5 htv8,m13 _ _ g4⟩
 have pa13:H13 B.pl=some (.lst (D.pa.map V.int++[.int D.la])):=by rw[s5 _ _ pa8,AR];rfl
 have k13:=hD7.deed (s5 _ _ o8) (s5 _ _ nm8) (s5 _ _ hls8) (pls8.mono λ_ _ z=>z.tk (Ae.tk s5)) (s5 _ _ hhs8) (phs8.mono λ_ _ z=>z.tk (Ae.tk s5)) pa13 hds13 (pds8.mono λ_ _ z=>z.over s5) hDo (s5 _ _ ht8) hf8 (by rw[AJ]at ll8;lia);obtain⟨⟨a1,a2,a3,a4⟩,_⟩:=hD7.nds;obtain⟨_,_,_,_,n4,_,m1,m2,m3,m4,m5⟩:=hD7.ne;have o14:(upd H13 B.dl (.lst (ds8++[.ref x]))) B.d=_:=(Aa (Ne.symm n4)).trans (s5 _ _ o8);have p14:(upd H13 B.dl (.lst (ds8++[.ref x]))) B.pl=_:=(Aa (Ne.symm a4)).trans pa13;refine⟨B.dl,_,_,rfl,rfl,hds13,Cu (by rw[pds8.1];lia),?_⟩;refine⟨_,rfl,B.d,_,B.dx,_,_,rfl,o14,T.cl_Draft,T.n_Draft_path,rfl,_,rfl,B.pl,_,_,rfl,rfl,p14,_,_,rfl,rfl,B.pl,_,_,_,rfl,rfl,p14,Rd.ix_end _ _,?_⟩;rw[Rd.set_last];exact q tb sp t _ _ rfl ((Rd.Out.of (e13.trans e7)).trans (out8.trans ((Rd.Out.of s5).trans k13.1))) ⟨k13.2,by rw[Aa (Ne.symm m4),Aa (Ne.symm m5)];exact s5 _ _ ht8,nd8,by have e:(D.dd++[(⟨D.lp,tb,sp,t,D.pa++[D.la]⟩:Dw)]).length=D.dd.length+1:=An;show _<=2000*(D.dd++[_]).length;rw[e];rw[AJ]at ll8;lia⟩
theorem Xk (T:Tx w K mg a):AQ P w K mg base B3 9 a.f_I a.d_I ["draft","row"] (Rd.spTakF a.c_Draft a.c_Deed (BY a)):=by
 have G_x :=@WH P w K mg base a T;have G_F :=@UT P w K mg base a T;have G_G :=@Yl P w K mg base a T;have G_H :=@Vf P w K mg base a T;have G_E :=@V0 P w K mg base a T;refine T.F_I.ok Qn (λvs H Q E h=>?_) (λcdv A outer s H vs Q E hr h=>?_)
 .obtain⟨_,_,_,_,rfl,_⟩:=h;rfl
 obtain⟨B,D,tb,z,rfl,hT,zl,d6,l3,wne,qn,q⟩:=h;refine⟨_,(A5 (Ak (i:=2) Qn.nd rfl (.inl rfl) (AD G_x (hr.mono (by lia)) (by rfl) T.m_x T.F_x.kp T.b_x .nil Az (A0 (pv 1) A1)))
  (A5 (AM (Au EN (BH (pv 0) rfl) Cd (Ax _))
  (Af (Ay (AD G_F (hr.mono (by lia)) (by rfl) T.m_F T.F_F.kp T.b_F .nil Az (A0 (pv 0) (A0 (pv 2) A1)))))
  AS)
  (A5 (AM (Au Bs (Aj AX (pv 2) A2 (λ_ _=>rfl)) Ab (Ax _))
  (Af (Ay (AD G_G (hr.mono (by lia)) (by rfl) T.m_G T.F_G.kp T.b_G .nil Az (A0 (pv 0) (A0 (pv 2) A1)))))
  AS)
  (A5 (AM (Au Bs (Aj AX (pv 2) A2 (λ_ _=>rfl)) Ab (Ax _))
  (Af (Ay (AD G_H (hr.mono (by lia)) (by rfl) T.m_H T.F_H.kp T.b_H .nil Az (A0 (pv 0) (A0 (pv 2) A1)))))
  AS)
  (Af (Ay (Yr E9 (Aj AX (pv 2) A2 (λ_ _=>rfl)) (by rfl) (Ui G_E (hr.mono (by lia)) (by rfl) T.m_E T.F_E.kp T.b_E .nil Az (Wm (pv 0) (UY (Ye (c:=32) (by rfl) (by rfl) (by decide) (pv 1)))))))))))),?_⟩
 refine⟨_,rfl,z,rfl,by lia,λwl H1 ps e1 hsp hwl=>?_⟩;dsimp only[Am];rw[Rd.wdsF_is hsp]at hwl;have hT1:=hT.over e1;have hD1:=hT1.dr;have hlen:=cds_len z;obtain⟨wl1,wl2⟩:=Rd.wdsF_len (l:=cds z) (by lia);have o1:Rd.Out B H H1:=Rd.Out.of e1;unfold Rd.takF at q qn;generalize Rd.wdsF (cds z)=ws at q qn hwl wl1 wl2 wne;refine⟨_,rfl,B.d,_,B.dx,_,_,rfl,hD1.o,T.cl_Draft,T.n_Draft_size,rfl,rfl,_,rfl,?_⟩;cases hsz:D.sz with
 |
  none=>
  rw[hsz]at q qn;refine AG ?_;exact⟨_,rfl,_,rfl,B,D,tb,wl,ws,rfl,hT1,hwl,wl1,wl2,λhn H' o=>qn (by rw[hn];rfl) _ (o1.trans o),λn H' hn o d=>q (_,tb) _ (by rw[hn];rfl) (o1.trans o) d⟩
 |some m=>
 rw[hsz]at q qn;refine AL ?_;cases ws with
 |nil=>exact absurd rfl wne
 |cons w0 ws=>
 have at0:Bu ((w0::ws).map V.str) 0=some (.str w0):=D8 (j:=0) rfl;unfold Rd.takW at q qn;dsimp only at q qn;refine⟨_,rfl,wl,_,_,_,rfl,rfl,A4.of hwl,at0,rfl,_,rfl,?_⟩;rcases E3 (w0=Str.ofString "for") with e0|e0
 .rw[Bc (by rw[e0])];rw[Ac e0]at q qn;refine AG ?_;exact⟨_,rfl,_,rfl,B,D,tb,wl,_,rfl,hT1,hwl,l3,wl1,wl2,λhn H' o=>qn (by rw[hn];rfl) _ (o1.trans o),λt H' hn o d=>q (_,tb) _ (by rw[hn];rfl) (o1.trans o) d⟩
 rw[Bg λz=>e0 (V.str.inj z)];rw[A9 e0]at q qn;refine AL ?_;refine⟨_,rfl,wl,_,_,_,rfl,rfl,A4.of hwl,at0,rfl,_,rfl,?_⟩;rcases E3 (w0=Str.ofString "end") with e1'|e1'
 .rw[Bc (by rw[e1'])];rw[Ac e1']at q qn;refine AG ?_;refine⟨_,rfl,_,rfl,B,D,tb,wl,_,rfl,hT1,hwl,l3,wl1,λhn H' o=>qn ?_ _ (o1.trans o),λlp t pa m H' w1 h1 h2 h3 o d=>q (_,tb) _ ?_ (o1.trans o) d⟩
  .rw[Rd.endF_no hn];rfl
  .rw[Rd.endF_yes w1 h1 h2 h3];rfl
 rw[Bg λz=>e1' (V.str.inj z)];rw[A9 e1']at q qn;refine AL ?_;refine⟨_,rfl,wl,_,_,_,rfl,rfl,A4.of hwl,at0,rfl,_,rfl,?_⟩;rcases E3 (w0=Str.ofString "size") with e2'|e2'
 .rw[Bc (by rw[e2'])];rw[Ac e2']at qn;exact AL (qn rfl _ o1)
 rw[Bg λz=>e2' (V.str.inj z)];rw[A9 e2']at q qn;refine AG ?_;have ef:(cds z).filter (· != 32)=(cds z).filter (λc=>decide (c≠32)):=by
  congr 1
  funext c
  by_cases h:c=32
  .rw[h];rfl
  .rw[Bc h];exact F1.mpr h
 refine⟨_,rfl,_,rfl,rfl,z,rfl,by lia,B,D,tb,_,rfl,hT1,?_,d6,l3,?_,?_⟩
 .rw[Df];have:=Ju (· != 32) (cds z);lia
 .rw[Bl,ef];exact λhn H' o=>qn (by rw[hn];rfl) _ (o1.trans o)
 .rw[Bl,ef];exact λnm sp t tb' H' hn o d=>q (_,tb') _ (by rw[hn];rfl) (o1.trans o) d
theorem RM (T:Tx w K mg a):AQ P w K mg base B3 1 a.f_W a.d_W ["self","line"] (Rd.spNTi a.c_NoText):=by
 refine T.F_W.ok Wo (λvs H Q E h=>?_) (λcdv A outer s H vs Q E hr h=>?_)
 .obtain⟨_,_,rfl,_⟩:=h;rfl
 obtain⟨x,n,rfl,hx,n0,n1,q⟩:=h;refine⟨_,(A5 (BF (WK (by rfl) T.mc_FurrowError T.xb (A0 (pv 0) (A0 (VH Ab (SJ (pv 1))) A1))))
  (Af (Yz (pv 0) (pv 1) rfl))),?_⟩
 have lg:n.natAbs.log2<1920:=IP (by lia) (by lia);refine⟨_,rfl,_,rfl,BP Rd.tx_nt (by rw[FP];lia),_,rfl,n,rfl,lg,_,rfl,Rd.ln_nt Rd.tx_nt (Qp (by lia) (by lia)) (by lia),x,_,_,_,rfl,hx,T.xi_NoText.xc,?_⟩;exact⟨_,rfl,_,rfl,x,_,rfl,hx,T.xi_NoText.xc,T.n_NoText_line,λdx hd ne=>q dx hd ne⟩
theorem Nz (T:Tx w K mg a):AQ P w K mg base (HV P w) 10 a.f_e a.d_e ["text"] (Rd.spReadF a.c_Program a.c_Deed a.c_NoText (BY a)):=by
 have G_W :=@RM P w K mg base a T;have G_w :=@Su P w K mg base a T;have G_I :=@Xk P w K mg base a T;have G_3 :=@Vl P w K mg base a T;have G_2 :=@RN P w K mg base a T;refine T.F_e.okX HQ (λvs H Q E h=>?_) (λcdv A outer s H vs Q E hr h=>?_)
 .obtain⟨_,_,rfl,_⟩:=h;rfl
 obtain⟨z,rows,rfl,zl,hsp,rl,hrw,q,qx⟩:=h;refine⟨_,(A5 (Ak (i:=1) HQ.nd rfl (.inl rfl) (Bx E2 NV NW JK (pv 0) (A0 Ab A1)))
  (A5 (Ak (i:=2) HQ.nd rfl (.inl rfl) (UR T.mk_Draft G_3 (hr.mono (by lia)) (by rfl) T.mc_Draft T.b_3 .nil Az))
  (A5 (EI PassesOwn.leaving rfl (Xx (by rfl) T.z_enumerate (A0 (pv 1) A1)) (GP rfl (DO (BB (i:=3) HQ.nd rfl (.inl rfl)) (DO (BB (i:=4) HQ.nd rfl (.inl rfl)) Gu)))
  (A5 (Ak (i:=5) HQ.nd rfl (.inl rfl) (AD G_w (hr.mono (by lia)) (by rfl) T.m_w T.F_w.kp T.b_w .nil Az (A0 (pv 4) A1)))
  (Af (AM ((DG (Au E9 (pv 5) Ab (Ax _)) (E8 (E4 (CI (AD G_I (hr.mono (by lia)) (by rfl) T.m_I T.F_I.kp T.b_I .nil Az (A0 (pv 2) (A0 (pv 5) A1)))))))).pt
  (Af (Pr rfl P1 (Pt T.xm_NoText G_W (hr.mono (by lia)) (by rfl) T.mc_NoText T.b_W Az (A0 (pv 3) A1))))
  AS))))
  (A5 (AM ((Cg (Au EN (BH (pv 2) rfl) Cd (Ax _)) (Cg (Au (Kd (Fg hr)) (BH (pv 2) rfl) (Bh A1) (Ax _)) (D4 (Au (Hf (Fg hr)) (BH (pv 2) rfl) (Bh A1) (Ax _)))))).pt
  (Af (Pr rfl P1 (Pt T.xm_NoText G_W (hr.mono (by lia)) (by rfl) T.mc_NoText T.b_W Az (A0 (A8 BG (B6 Bw (by rfl) T.z_len Bq (A0 (pv 1) A1)) A2) A1))))
  AS)
  (Af (Ay (HJ T.mk_Program G_2 (hr.mono (by lia)) (by rfl) T.mc_Program T.b_2 .nil Az (A0 (BH (pv 2) rfl) (A0 (BH (pv 2) rfl) A1))))))))),?_⟩
 have ec:cds (Str.ofString "\n")=[10]:=by decide +kernel
 refine⟨_,rfl,rfl,z,_,rfl,rfl,by decide +kernel,?_,by lia,λl ps hl hs=>?_⟩
 .rw[ec];intro c hc;rw[Bt.mp hc];decide
 rw[ec]at hs;obtain rfl:ps=rows:=Rd.map_cds_inj (hs.fn hsp);have e1:=A6 hl (.lst (ps.map V.str));have hl1:(upd H l (.lst (ps.map V.str))) l=_:=A3;generalize upd H l (.lst (ps.map V.str))=H1 at e1 hl1;dsimp only[Am];refine λx dx nx ndx ne=>⟨x,dx,rfl,A3,λH2 B hBd k2 fr hD0=>⟨rfl,?_⟩⟩
 subst hBd;have e2:Ae H1 H2:=GW nx ndx k2;have fr1:∀b,B.own b->H1 b=none:=λb hb=>by
  by_cases hbx:b=B.d
  .rw[hbx];exact nx
  .cases hz:H1 b with
   |none=>rfl
   |
    some u=>
    have:=fr b hb hbx;rw[Aa hbx,Aa (B0 hz ndx),hz]at this;cases this
 have onto:∀{H' H'':Hp},Ae H1 H'->Rd.Out B H' H''->Ae H1 H'':=fun{H' H''} s o b u hb=>o b u (s b u hb) λhown=>by rw[fr1 b hown]at hb;cases hb
 dsimp only[Am];refine⟨_,rfl,l,rfl,⟨_,A4.of (e2 _ _ hl1)⟩,?_⟩;refine YF (xs:=ps.map V.str) (λi σ' H'=>(∃o3 o4 o5:Option V,σ'=[some (.str z),some (.ref l),some (.ref B.d),o3,o4,o5])/\Ae H1 H'/\∃D tb,Rd.DrT a.c_Draft a.c_Deed (BY a) H' B D tb/\D.dd.length<=6/\D.lp.length<=3/\Rd.rdF (ps.map cds) 0 Rd.D0 []=Rd.rdF ((ps.drop i).map cds) i D tb) ⟨⟨_,_,_,rfl⟩,e2,Rd.D0,[],Rd.drt0 (hD0 _),BI _,BI _,rfl⟩ (λi σ' H' _ pp=>A4.of (pp.2.1 _ _ hl1)) (λi y Tt σ' H' hy pp hT=>?_) (fun σ' H' pp=>?_)
 .obtain⟨⟨o3,o4,o5,rfl⟩,e3,D,tb,hD,h6,h3,hRi⟩:=pp;rw[Ce]at hy;cases hyi:ps[i]? with
  |none=>rw[hyi]at hy;cases hy
  |
   some u=>
   rw[hyi]at hy;cases hy;have ul:u.length<=1000:=hrw u (CU hyi);have hil:=(BQ.mp hyi).1;have ed:ps.drop i=u::ps.drop (i+1):=by
    rw[Gi hil];rw[BC hil]at hyi;rw[Co hyi]
   rw[ed,BE,Rd.rdF]at hRi;have sT:=A6 hT (.tup [V.int ((i:Int)+1),.str u]);have hD4:=hD.over sT;have e4:=e3.trans sT;refine⟨Tt,_,rfl,Aw.of A3,rfl,_,_,rfl,_,_,rfl,rfl,?_⟩;generalize upd H' Tt (.tup [V.int ((i:Int)+1),.str u])=H4 at hD4 e4;refine⟨_,rfl,u,rfl,by lia,λH5 e5=>?_⟩;dsimp only[Am];have hD5:=hD4.over e5;have e15:=e4.trans e5;refine⟨_,rfl,rfl,_,rfl,?_⟩;have kb:(V.str (AC (Rd.bare (cds u)))=V.str (Str.ofString ""))↔Rd.bare (cds u)=[]:=⟨λe=>by have e:=congrArg cds (V.str.inj e);rw[Bl]at e;exact e,λe=>by rw[e];rfl⟩
   rcases E3 (Rd.bare (cds u)=[]) with hb|hb
   .rw[Ac hb]at hRi;refine AB (λy=>?_) (λ_=>?_)
    .rw[Bc (kb.mpr hb)]at y;cases y
    .exact AL ⟨⟨_,_,_,rfl⟩,e15,D,tb,hD5,h6,h3,hRi⟩
   rw[A9 hb]at hRi;refine AB (λ_=>?_) (λy=>?_)
   .refine⟨_,rfl,_,rfl,B,D,tb,_,rfl,hD5,?_,h6,h3,?_,?_⟩
    .rw[Df];have:=Rd.bare_len (cds u);have:=cds_len u;lia
    .rw[Bl];exact Rd.wds_bare hb
    rw[Bl];cases hF:Rd.takF D tb (Rd.bare (cds u)) with
    |
     none=>
     rw[hF]at hRi;refine⟨λ_ H6 out=>⟨_,rfl,AG ?_⟩,λ_ _ h=>nomatch h⟩;have e6:=onto e15 out;refine⟨_,rfl,(by show 1<=1000;decide),λx hx=>⟨x,_,rfl,A3,?_,?_,λdx hd ne=>⟨rfl,x,_,some dx,rfl,A3,T.xi_NoText.xc,?_⟩⟩⟩
     .omega
     .omega
     rw[Aa ne]at hd;rw[JI];have sm:=Rd.same_put (o:=Dv x a.c_NoText (some dx)) (Rd.same_put (o:=.xd [("line",.int ((i:Int)+1))]) (A6 hx (DA x a.c_NoText none)) hd) hx;exact qx (i+1) x dx _ (.inl hRi) (e1.trans (e6.trans sm)) A3 (by rw[Aa ne,A3];rfl)
    |
     some e=>
     rw[hF]at hRi;refine⟨(λh=>nomatch h),λe' H6 he out hD6=>⟨_,rfl,AL ?_⟩⟩;cases he;obtain⟨k6,k3⟩:=Rd.takF_ok hF h6 h3;exact⟨⟨_,_,_,rfl⟩,onto e15 out,_,_,hD6,k6,k3,hRi⟩
   .exact absurd (show(!decide (V.str (AC (Rd.bare (cds u)))=V.str (Str.ofString "")))=true from by rw[Bg λe=>hb (kb.mp e)];rfl) y
 .obtain⟨⟨o3,o4,o5,rfl⟩,e3,EE,tb,hDT,d6,h3,hRi⟩:=pp;rw[Ag,NX]at hRi;have hRi:Rd.rdF (ps.map cds) 0 Rd.D0 [] = .inr (EE,tb):=hRi;have hD:=hDT.dr;obtain⟨ds,hds,pds⟩:=hD.dd;dsimp only;refine Dp (fun σ' H2=>Rd.Whl EE/\Ae H' H2/\∃(o3 o4 o5:Option V),σ'=[some (.str z),some (.ref l),some (.ref B.d),o3,o4,o5]) (fun σ' H5 pp=>?_) (λnx=>?_)
  .obtain⟨⟨w1,w2,w3⟩,s5,o3,o4,o5,rfl⟩:=pp;obtain⟨n,hE⟩:∃n,EE.sz=some n:=by
    cases h:EE.sz with
    |none=>exact absurd h w1
    |some n=>exact⟨n,rfl⟩
   have hD5:=hD.over s5;have hds5:=s5 _ _ hds;refine⟨_,rfl,B.d,_,B.dx,_,_,rfl,hD5.o,T.cl_Draft,T.n_Draft_size,rfl,_,rfl,B.d,_,B.dx,_,_,rfl,hD5.o,T.cl_Draft,T.n_Draft_deeds,rfl,?_⟩;intro x dx nx ndx ne;refine⟨x,dx,B.dl,_,ds,rfl,A3,(by rw[Aa (B0 hds5 nx),Aa (B0 hds5 ndx)];exact hds5),by rw[pds.1];lia,λH6 dl k6 hx6 hdl6=>⟨rfl,?_⟩⟩;obtain⟨dx6,hx6⟩:=hx6;have e56:=GW nx ndx k6;rw[hE]at hx6;exact q (EE,tb) n _ _ hRi ⟨w1,w2,w3⟩ hE (e1.trans (e3.trans (s5.trans e56))) ⟨x,dx6,dl,rfl,hx6,ds,hdl6,pds.mono λ_ _ w=>w.over (s5.trans e56)⟩
  refine Nj (λH2=>¬Rd.Whl EE/\Ae H' H2) (λH2 pp=>?_) (λAA=>?_)
  .obtain⟨nw,s2⟩:=pp;refine⟨_,rfl,l,_,rfl,.inl (A4.of (s2 _ _ (e3 _ _ hl1))),_,_,rfl,rfl,(by show 1<=1000;decide),λx hx=>⟨x,_,rfl,A3,?_,?_,λdx hd ne=>⟨rfl,x,_,some dx,rfl,A3,T.xi_NoText.xc,?_⟩⟩⟩
   .rw[Ag];lia
   .rw[Ag];lia
   rw[Aa ne]at hd;rw[JI,Ag];have sm:=Rd.same_put (o:=Dv x a.c_NoText (some dx)) (Rd.same_put (o:=.xd [("line",.int (((ps.length:Nat):Int)+1))]) (A6 hx (DA x a.c_NoText none)) hd) hx;exact qx (ps.length+1) x dx _ (.inr ⟨⟨_,hRi,nw⟩,rfl⟩) (e1.trans (e3.trans (s2.trans sm))) A3 (by rw[Aa ne,A3];rfl)
  refine⟨_,rfl,B.d,_,B.dx,_,_,rfl,hD.o,T.cl_Draft,T.n_Draft_size,rfl,rfl,_,rfl,?_⟩;cases hE:EE.sz with
  |
   none=>
   refine AG ?_;exact AG (AA _ ⟨λw=>w.1 hE,Ae.refl _⟩)
  |some n=>
  refine AL ?_;refine⟨_,rfl,B.d,_,B.dx,_,_,rfl,hD.o,T.cl_Draft,T.n_Draft_deeds,rfl,Al rfl,λen hen=>?_⟩;have s4:=A6 hen (.lst []);have he4:(upd H' en (.lst [])) en=_:=A3;generalize upd H' en (.lst [])=H4 at s4 he4;refine⟨B.dl,en,_,rfl,rfl,A4.of (s4 _ _ hds),A4.of he4,_,rfl,?_⟩;refine AB (λy=>?_) (λy=>?_)
  .have dn:EE.dd=[]:=Fm (by rw[←pds.1,R6.mp y];rfl);exact AG (AA _ ⟨λw=>w.2.1 dn,s4⟩)
  have dn:EE.dd≠[]:=λz=>y (R6.mpr (Fm (by rw[pds.1,z];rfl)));have hD4:=hD.over s4;refine⟨_,rfl,B.d,_,B.dx,_,_,rfl,hD4.o,T.cl_Draft,T.n_Draft_names,rfl,Al rfl,λen2 hen2=>?_⟩;have s5:=A6 hen2 (.lst []);have he5:(upd H4 en2 (.lst [])) en2=_:=A3;generalize upd H4 en2 (.lst [])=H5 at s5 he5;have hD5:=hD4.over s5;refine⟨B.nl,en2,_,rfl,rfl,A4.of hD5.nm,A4.of he5,_,rfl,?_⟩;change if(!(EE.lp.map λt=>V.str t.nm).isEmpty)=true then _ else _
  refine AB (λy=>?_) (λy=>?_)
  .refine AA _ ⟨λw=>?_,s4.trans s5⟩;rw[w.2.2]at y;cases y
  .refine nx _ _ ⟨⟨(by rw[hE];exact λz=>nomatch z),dn,?_⟩,s4.trans s5,_,_,_,rfl⟩;cases h:EE.lp with
   |nil=>rfl
   |cons t l=>rw[h]at y;exact absurd rfl y
theorem Pm (T:Tx w K mg a):AQ P w K mg base B3 1 a.f_b a.d_b ["_law_script","_law_k"] (Vb K):=by
 refine T.F_b.ok W5 (λvs H Q E h=>?_) (λcdv A outer s H vs Q E hr h=>?_)
 .obtain⟨_,_,_,rfl,_⟩:=h;rfl
 obtain⟨p,ns,k,rfl,hS,h0,q⟩:=h;refine⟨_,(A5 (AM (Au EK (pv 1) (B6 Bw (by rfl) T.z_len Bq (A0 (pv 0) A1)) (Ax _))
  (Af (Ay (Aj AX (pv 0) (pv 1) (λ_ _=>rfl))))
  AS)
  (Af (Ay A2))),?_⟩
 have hl:(ns.map V.int).length=ns.length:=Ag _;refine⟨_,rfl,_,rfl,p,_,rfl,.inl hS,_,_,rfl,rfl,_,rfl,?_⟩;refine AB (λc=>?_) (λc=>?_)
 .have c':=dT c;rw[hl]at c';exact⟨_,rfl,_,rfl,p,_,_,_,rfl,rfl,hS,GC h0 c',q⟩
 .have c':=dF c;rw[hl]at c';rw[Xo c']at q;exact q
theorem T4 (T:Tx w K mg a):AQ P w K mg base B3 1 a.f_J a.d_J ["_law_found"] Ut:=by
 refine T.F_J.ok Ti (λvs H Q E h=>?_) (λcdv A outer s H vs Q E hr h=>?_)
 .obtain⟨_,rfl,_⟩:=h;rfl
 obtain⟨x,rfl,hx,q⟩:=h;refine⟨_,(Af (Ay (K4 (B6 GK (by rfl) T.z_isinstance FT (A0 (pv 0) (A0 (Ot (v:=.ty "int") (by rfl) T.z_int HF rfl) A1))) (Gv (Ry (B6 GK (by rfl) T.z_isinstance FT (A0 (pv 0) (A0 (Ot (v:=.ty "bool") (by rfl) T.z_bool Y1 rfl) A1)))))))),?_⟩;cases x with
 |int i=>exact⟨_,rfl,_,_,_,_,_,rfl,rfl,.int i,rfl,_,rfl,_,rfl,_,_,_,_,_,rfl,rfl,.int i,rfl,_,rfl,q⟩
 |bl b=>exact⟨_,rfl,_,_,_,_,_,rfl,rfl,.bl b,rfl,_,rfl,_,rfl,_,_,_,_,_,rfl,rfl,.bl b,rfl,_,rfl,q⟩
 |non=>exact⟨_,rfl,_,_,_,_,_,rfl,rfl,.non,rfl,_,rfl,q⟩
 |str z=>exact⟨_,rfl,_,_,_,_,_,rfl,rfl,.str z,rfl,_,rfl,q⟩
 |_=>cases hx
theorem GT (T:Tx w K mg a):AQ P w K mg base B3 1 a.f_a a.d_a ["_law_cell_here","_law_many"] YI:=by
 refine T.F_a.ok Iu (λvs H Q E h=>?_) (λcdv A outer s H vs Q E hr h=>?_)
 .obtain⟨_,_,rfl,_⟩:=h;rfl
 obtain⟨c,n,rfl,h0,h1,q⟩:=h;refine⟨_,(A5 (Ak (i:=2) Iu.nd rfl (.inl rfl) (Bh A1))
  (A5 (Ak (i:=3) Iu.nd rfl (.inl rfl) (A8 BG (A8 Bm (pv 0) A2) A2))
  (A5 (EI PassesOwn.never rfl (KS (by rfl) T.z_range (A0 (A8 BG (pv 1) A2) A1)) (BB (i:=4) Iu.nd rfl (.inl rfl))
  (A5 (Ak (i:=3) Iu.nd rfl (.inl rfl) (A8 Bm (A8 BG (A8 BG (A8 G4 (pv 3) (pv 3)) (A8 G4 A2 (pv 3))) (pv 4)) A2))
  (Af (BF (Bx BJ CC CF Ct (pv 2) (A0 (pv 3) A1))))))
  (Af (Ay (C7 CH (pv 2) (BW A2) Cy)))))),?_⟩
 refine⟨Al rfl,λl hl=>?_⟩;refine⟨_,rfl,_,_,rfl,rfl,(by show(0:Int)<2147483647;decide),_,_,rfl,rfl,?_⟩;refine⟨_,rfl,_,_,rfl,rfl,n+1,rfl,by lia,by lia,?_⟩;refine MM (lo:=0) (n:=(n+1).toNat) (λi σ' H'=>(∃o1,σ'=[some (.int c),some (.int n),some (.ref l),some (.int (CQ (CZ c) 0 i)),o1])/\Ae H H'/\H' l=some (.lst ((Et (CZ c) 0 i).map V.int))) ?_ (λi σ' H' hi p=>?_) (fun σ' H' p=>?_)
 .exact⟨⟨_,rfl⟩,A6 hl _,A3⟩
 .obtain⟨⟨o1,rfl⟩,hs,hH⟩:=p;obtain⟨b0,b1⟩:=Wf c i;have bb:=UW b0 b1;have e1:(CQ (CZ c) 0 i*CQ (CZ c) 0 i+48271*CQ (CZ c) 0 i+(0+(i:Int)))%2147483647=CQ (CZ c) 0 (i+1):=by rw[Ox];rfl
  have hz:((Et (CZ c) 0 i).map V.int).length<sizeLine:=by rw[Ag,Of];exact Cu (by lia)
  refine⟨_,rfl,_,rfl,_,_,rfl,rfl,.inl bb,_,rfl,_,_,rfl,rfl,.inl ⟨by decide,by decide⟩,_,_,rfl,rfl,_,rfl,_,_,rfl,rfl,_,_,rfl,rfl,(by show(0:Int)<2147483647;decide),?_⟩;refine⟨_,rfl,.inl ⟨rfl,_,A4.of hH⟩,_,rfl,l,_,_,rfl,rfl,hH,hz,⟨_,congrArg (λv=>[some (V.int c),some (V.int n),some (V.ref l),some (V.int v),some (V.int (0+(i:Int)))]) e1⟩,?_,?_⟩
  .exact λb o e=>by rw[Aa (B0 e hl)];exact hs b o e
  .rw[A3,Rp,AR];show some (HO.lst (_++[V.int _]))=_;rw[e1];rfl
 .obtain⟨⟨o1,rfl⟩,hs,hH⟩:=p;refine⟨_,rfl,_,rfl,l,_,rfl,A4.of hH,λr hr'=>?_⟩;rw[Uz];refine q r _ (hs.trans (A6 hr' _)) ?_;rw[A3];unfold E5;rw[show(n+1).toNat=n.toNat+1 by lia]
theorem Uu (T:Tx w K mg a):AQ P w K mg base B3 2 a.f_K a.d_K ["_law_cell_here","_law_many"] Rd.spNames23:=by
 have G_a :=@GT P w K mg base a T;refine T.F_K.ok Ee (λvs H Q E h=>?_) (λcdv A outer s H vs Q E hr h=>?_)
 .obtain⟨_,rfl,_⟩:=h;rfl
 obtain⟨c,rfl,q⟩:=h;refine⟨_,(A5 (Ak (i:=2) Ee.nd rfl (.inr rfl) Ab)
  (A5 (Ak (i:=3) Ee.nd rfl (.inl rfl) (AD G_a (hr.mono (by lia)) (by rfl) T.m_a T.F_a.kp T.b_a .nil Az (A0 (pv 0) (A0 A2 A1))))
  (A5 (Ak (i:=4) Ee.nd rfl (.inl rfl) (Bx E2 NY NZ KJ Ab (A0 (Ef ["_law_x","_law_letters"] [none,some 2] (by rfl) (DD (C7 CH (pv 3) (BW A2) Cy)) Wv (λ_ _ _ _ _ _=>⟨(BB (i:=0) SU rfl (.inl rfl)),F7,(Aj Fh (pv 1) (A8 Bm (pv 0) A2) (λ_ _=>rfl))⟩)) A1)))
  (A5 (AM (Au Bs (A8 Bm (A8 CW (Aj AX (pv 3) A2 (λ_ _=>rfl)) A2) A2) A2 (Ax _))
  (Af (Ak (i:=4) Ee.nd rfl (.inl rfl) (C7 Hx (A8 Be (Aj AX (Dq (Ai Ab (Ai Ab (Ai Ab C8 Ar) Ar) Ar)) (A8 Bm (A8 CW (Aj AX (pv 3) A2 (λ_ _=>rfl)) A2) A2) (λ_ _=>rfl)) (pv 4)) Cy (BW A2))))
  AS)
  (A5 (Ak (i:=5) Ee.nd rfl (.inl rfl) (A8 BG A2 (A8 Bm (Aj AX (pv 3) A2 (λ_ _=>rfl)) A2)))
  (A5 (Ak (i:=6) Ee.nd rfl (.inl rfl) (A8 Bm (A8 CW (Aj AX (pv 3) A2 (λ_ _=>rfl)) A2) (pv 5)))
  (A5 (Ak (i:=7) Ee.nd rfl (.inl rfl) (Bh A1))
  (A5 (EI PassesOwn.never rfl (KS (by rfl) T.z_range (A0 (pv 1) A1)) (BB (i:=8) Ee.nd rfl (.inl rfl))
  (A5 (Ak (i:=9) Ee.nd rfl (.inl rfl) (Aj Fh (pv 2) (A8 Bm (A8 BG (Aj AX (pv 3) (A8 BG A2 (pv 6)) (λ_ _=>rfl)) (pv 8)) A2) (λ_ _=>rfl)))
  (A5 (Ak (i:=10) Ee.nd rfl (.inl rfl) (A8 Be (A8 Be (C7 Hx (pv 4) Cy (BW (pv 6))) (pv 9)) (C7 Hx (pv 4) (BW (A8 BG (pv 6) A2)) (BW (pv 5)))))
  (A5 (AM (Au Bs (A8 Bm (Aj AX (pv 3) A2 (λ_ _=>rfl)) A2) A2 (Ax _))
  (Af (Ak (i:=10) Ee.nd rfl (.inl rfl) (C7 Hx (pv 4) Cy (BW (A8 BG A2 (A8 Bm (A8 BG (pv 5) (A8 G4 A2 (pv 8))) A2))))))
  AS)
  (A5 (AM (Au GO (pv 10) (EJ (Ai Ab (Ai Ab (Ai Ab C8 Ar) Ar) Ar)) (by with_unfolding_all rfl))
  (Af (Ak (i:=10) Ee.nd rfl (.inl rfl) (A8 Be Ab (pv 10))))
  AS)
  (Af (BF (Bx BJ CC CF Ct (pv 7) (A0 (pv 10) A1)))))))))
  (Af (Ay (pv 7))))))))))),?_⟩
 refine⟨_,rfl,c,10,rfl,by decide,by decide,λrx H1 s1 hx=>?_⟩;rw[show(10:Int).toNat=10 from rfl]at hx;generalize hxs:E5 c 10=xs at hx;have xl:xs.length=10:=by rw[←hxs,GB]
 have xl':(xs.map V.int).length=10:=by rw[Ag,xl]
 have xm:∀y∈xs,0<=y/\y<2147483647:=λy hy=>IA (hxs▸hy);have atx:∀k:Nat,k<10->Bu (xs.map V.int) ((k:Nat):Int)=some (.int (xs.getD k 0)):=λk hk=>by
  have:=GC (ns:=xs) (k:=((k:Nat):Int)) (by lia) (by lia);exact this
 refine⟨rfl,_,rfl,_,rfl,rx,_,rfl,A4.of hx,λp2 hp2=>?_⟩;have hx2:(upd H1 p2 (.lst (Cr (xs.map V.int) (some 2) none))) rx=some (.lst (xs.map V.int)):=by rw[Aa (B0 hx hp2)];exact hx
 have cut2:Cr (xs.map V.int) (some 2) none=(xs.drop 2).map V.int:=by
  have:=NF (xs.map V.int) (i:=2) (by decide);rw[Jl];exact this
 rw[cut2]at hx2 ⊢;refine⟨p2,rfl,⟨_,A4.of A3⟩,?_⟩;refine G0 (xs:=(xs.drop 2).map V.int) (λi ys H'=>H'=upd H1 p2 (.lst ((xs.drop 2).map V.int))/\ys=((xs.drop 2).take i).map λx=>V.str ⟨#[DI x]⟩) ⟨rfl,by simp⟩ (Ap (by rw[Ag,BS];lia)) (λi ys H' hi p=>?_) (λi x ys H' hc p=>?_) (λys H' p r hr'=>?_)
 .obtain⟨rfl,rfl⟩:=p;exact⟨A4.of A3,by rw[Ag,Bb];lia⟩
 .obtain⟨rfl,rfl⟩:=p;rw[Ce]at hc;cases hy:(xs.drop 2)[i]? with
  |none=>rw[hy]at hc;cases hc
  |
   some y=>
   rw[hy]at hc;cases hc;refine⟨_,rfl,_,rfl,_,_,rfl,rfl,(by show(0:Int)<26;decide),_,_,_,rfl,rfl,O7,QQ y,rfl,?_⟩;rw[DB hy,AR];rfl
 obtain⟨rfl,rfl⟩:=p;have full:((xs.drop 2).take ((xs.drop 2).map V.int).length)=xs.drop 2:=by rw[Ag,El]
 rw[full];have e3:Ae H1 (upd (upd H1 p2 (.lst ((xs.drop 2).map V.int))) r (.lst ((xs.drop 2).map λx=>V.str ⟨#[DI x]⟩))):=(A6 hp2 _).trans (A6 hr' _);generalize hH3:upd (upd H1 p2 (.lst ((xs.drop 2).map V.int))) r (.lst ((xs.drop 2).map λx=>V.str ⟨#[DI x]⟩))=H3 at e3;have hr3:H3 r=some (.lst (((xs.drop 2).map λx=>(⟨#[DI x]⟩:Str)).map V.str)):=by rw[←hH3,A3,FO];rfl
 have ew:Txt.join "" ((xs.drop 2).map λx=>(⟨#[DI x]⟩:Str))=AC (Fv xs):=D2 (by
  rw[MI,Bl];unfold Fv;generalize xs.drop 2=l;induction l with
  |nil=>rfl
  |
   cons y l ih=>
   rw[BE,BE,Hd,ih];rfl)
 refine⟨_,r,_,rfl,rfl,.inl (A4.of hr3),?_,?_⟩
 .have:∀l:List Int,((l.map λx=>(⟨#[DI x]⟩:Str)).map (·.length)).sum=l.length:=λl=>by
   induction l with
   |nil=>rfl
   |cons y l ih=>rw[BE,BE,NQ,ih];show 1+l.length=l.length+1;lia
  rw[this,Ag,BS,xl];show 10-2+(10-2)*(Str.ofString "").length<=16777216;decide +kernel
 rw[ew];have hx3:=e3 _ _ hx;have wl:(Fv xs).length=8:=Ss xl;have wb:∀c∈Fv xs,97<=c/\c<=122:=Rd.nameW_abc xs;generalize Fv xs=wd at wl wb;obtain⟨lb0,lb1⟩:=J7 xs;obtain⟨ab0,ab1⟩:=Ld xs;dsimp only[Am];refine Dp (fun σ' H'=>Ae H1 H'/\∃wd:List Nat,wd.length=8/\(∀c∈wd,97<=c/\c<=122)/\σ'=[some (.int c),some (.int 8),some (.str EH),some (.ref rx),some (.str (AC wd)),none,none,none,none,none,none]) (fun σ' H4 pp=>?_) (λnx=>?_);rotate_left
 .refine⟨_,rfl,rx,_,_,_,rfl,rfl,A4.of hx3,atx 0 (by decide),_,_,rfl,rfl,⟨by decide,by decide⟩,_,_,rfl,rfl,(by show(0:Int)<8;decide),rfl,_,rfl,?_⟩;refine AB (λ_=>?_) (λ_=>nx _ _ ⟨e3,wd,wl,wb,rfl⟩);refine⟨Al rfl,λl3 hl3=>?_⟩;have s4:=A6 hl3 (.lst [V.str "for",V.str "end",V.str "size"]);have m0:=BU (xs.getD 0 0/16) (show(3:Int)≠0 by decide);have m1:=C0 (xs.getD 0 0/16) (show(0:Int)<3 by decide);obtain⟨rz,hrz,rl,rb⟩:∃rz:Str,Bu [V.str "for",V.str "end",V.str "size"] (xs.getD 0 0/16%3)=some (.str rz)/\rz.length<=4/\∀c∈cds rz,97<=c/\c<=122:=by
   generalize xs.getD 0 0/16%3=j at m0 m1;have:j=0\/j=1\/j=2:=by lia
   rcases this with rfl|rfl|rfl
   .exact⟨"for",rfl,by decide +kernel,by decide +kernel⟩
   .exact⟨"end",rfl,by decide +kernel,by decide +kernel⟩
   .exact⟨"size",rfl,by decide +kernel,by decide +kernel⟩
  refine⟨_,rfl,rx,_,_,_,rfl,rfl,A4.of (s4 _ _ hx3),atx 0 (by decide),_,_,rfl,rfl,⟨by decide,by decide⟩,_,_,rfl,rfl,(by show(0:Int)<3;decide),l3,_,_,_,rfl,rfl,A4.of A3,hrz,_,rfl,_,_,rfl,rfl,Ap (by rw[Df];lia),_,rfl,_,rfl,Ap (by rw[PK,Df];lia),?_⟩;refine nx _ _ ⟨e3.trans s4,_,?_,?_,rfl⟩
  .rw[F6 _ (by decide),Bb,B4,An,Bl,wl];show min 8 _=8;lia
  .rw[F6 _ (by decide)];intro c hc;have hc:=EZ hc;rw[B4,Bl]at hc;exact(By.mp hc).elim (rb c) (wb c)
 obtain⟨e4,wd,wl,wb,rfl⟩:=pp;have hx4:=e4 _ _ hx;refine⟨_,rfl,rx,_,_,_,rfl,rfl,A4.of hx4,atx 1 (by decide),_,_,rfl,rfl,(by show(0:Int)<8;decide),_,_,rfl,rfl,?_⟩;refine⟨_,rfl,rx,_,_,_,rfl,rfl,A4.of hx4,atx 1 (by decide),_,_,rfl,rfl,⟨by decide,by decide⟩,_,rfl,_,_,rfl,rfl,(by show(0:Int)<1+xs.getD 1 0%8;exact lb0),?_⟩;refine⟨Al rfl,λl hl=>?_⟩;have hl1:H1 l=none:=e4.free hl;dsimp only[Am];refine⟨_,rfl,8,rfl,by decide,by decide,?_⟩;have wz:(AC wd).length=8:=by rw[Df,wl]
 refine MM (lo:=0) (n:=8) (λi σ' H'=>∃(o1 o2 o3:Option V),σ'=[some (.int c),some (.int 8),some (.str EH),some (.ref rx),some (.str (AC wd)),some (.int (CA xs)),some (.int (CL xs)),some (.ref l),o1,o2,o3]/\Ae H1 H'/\H' l=some (.lst (((List.range i).map λk:Nat=>AC (DH xs wd (k:Int))).map V.str))) ?_ (λi σ' H' hi p=>?_) (fun σ' H' p=>?_)
 .exact⟨_,_,_,rfl,e4.trans (A6 hl _),A3⟩
 .obtain⟨o1,o2,o3,rfl,hs,hH⟩:=p;have hxx:=hs _ _ hx;refine⟨_,rfl,_,rfl,_,rfl,_,_,rfl,rfl,rx,_,_,(.int (xs.getD (2+CL xs).toNat 0)),rfl,rfl,A4.of hxx,GC (by lia) (by lia),_,rfl,_,_,rfl,rfl,_,_,rfl,rfl,(by show(0:Int)<26;decide),_,_,_,rfl,rfl,O7,QQ _,?_⟩;refine⟨_,rfl,_,rfl,_,rfl,_,rfl,Ap (by lia),_,rfl,_,_,rfl,rfl,?_,?_⟩
  .rw[Df,Bl,F6 _ ab0];exact Ap (by rw[Bb];show _+1<=1000000;lia)
  refine⟨_,rfl,_,rfl,_,_,rfl,rfl,_,rfl,_,rfl,_,rfl,_,rfl,Ap (by lia),?_⟩;have e0:(0:Int)+(i:Int)=(i:Int):=by lia
  rw[Bl,F6 _ ab0,Mg _ (by lia) (by lia) (by lia) (by lia),e0];have eA:AC (wd.take (CL xs).toNat)++(⟨#[DI (xs.getD (2+CL xs).toNat 0+(i:Int))]⟩:Str)++AC ((wd.drop (CL xs+1).toNat).take ((CA xs).toNat-(CL xs+1).toNat))=AC (GF xs wd (i:Int)):=
   D2 (by rw[B4,B4,Bl,Bl,Bl];rfl)
  refine⟨_,_,rfl,rfl,?_,?_⟩
  .rw[PK,Df,Df,Bb,Bb,BS];exact Ap (by show _+1+_<=1000000;lia)
  rw[eA];dsimp only[Am];refine Dp (fun σ2 H2=>H2=H'/\∃(o1 o2:Option V),σ2=[some (.int c),some (.int 8),some (.str EH),some (.ref rx),some (.str (AC wd)),some (.int (CA xs)),some (.int (CL xs)),some (.ref l),o1,o2,some (.str (AC (BO xs wd (i:Int))))]) (fun σ2 H2 m=>?_) (λrest=>?_)
  .obtain⟨rfl,o4,o5,rfl⟩:=m;refine Dp (fun σ3 H3'=>Ae H2 H3'/\∃(o1 o2:Option V),σ3=[some (.int c),some (.int 8),some (.str EH),some (.ref rx),some (.str (AC wd)),some (.int (CA xs)),some (.int (CL xs)),some (.ref l),o1,o2,some (.str (AC (DH xs wd (i:Int))))]) (fun σ3 H3' m=>?_) (λrest=>?_)
   .obtain⟨hs3,o6,o7,rfl⟩:=m;have hl3:=hs3 _ _ hH;refine⟨_,rfl,.inl ⟨rfl,_,A4.of hl3⟩,_,rfl,l,_,_,rfl,rfl,hl3,Cu (by rw[Ag,Ag,List.length_range];lia),_,_,_,rfl,?_,?_⟩
    .exact λb o e=>by rw[Aa (B0 e hl1)];exact hs3 _ _ (hs b o e)
    .rw[A3,List.range_succ,AR,AR];rfl
   .refine⟨_,rfl,Al rfl,λtp htp=>?_⟩;refine⟨tp,[.str "for",.str "end",.str "size"],rfl,.inr (Aw.of A3),rfl,rfl,_,rfl,?_⟩;show if Dd (V.str (AC (BO xs wd (i:Int)))) [.str "for",.str "end",.str "size"]=true then _ else _
    rw[Qr];have hlr:(BO xs wd (i:Int)).length<=10:=by
     have:=WG wl (xs:=xs) (i:Int);unfold DH at this;split at this
     .rw[An]at this;lia
     .exact this
    have hz2:(Str.ofString "zz").length=2:=by decide +kernel
    refine AB (λcc=>?_) (λcc=>?_)
    .have e:(Str.ofString "zz"++AC (BO xs wd (i:Int)))=AC (DH xs wd (i:Int)):=D2 (by
      rw[B4,Bl,Bl];unfold DH;rw[Ac (dT cc)];congr 1)
     refine⟨_,rfl,_,_,rfl,rfl,Ap (by rw[Df,hz2];lia),?_⟩;rw[e];exact rest _ _ ⟨A6 htp _,_,_,rfl⟩
    .have e:AC (BO xs wd (i:Int))=AC (DH xs wd (i:Int)):=by
      unfold DH;rw[A9 (dF cc)]
     rw[e];exact rest _ _ ⟨A6 htp _,_,_,rfl⟩
  .refine⟨_,rfl,rx,_,_,_,rfl,rfl,A4.of hxx,atx 0 (by decide),_,_,rfl,rfl,(by show(0:Int)<2;decide),rfl,_,rfl,?_⟩;have key:(V.int (xs.getD 0 0%2)=V.int 0)↔xs.getD 0 0%2=0:=⟨λe=>V.int.inj e,λe=>by rw[e]⟩
   refine AB (λcc=>?_) (λcc=>?_)
   .have c2:=key.mp (dT cc);refine⟨_,rfl,_,rfl,_,rfl,_,_,rfl,rfl,.inl ⟨by decide,by decide⟩,_,_,rfl,rfl,_,_,rfl,rfl,(by show(0:Int)<8;decide),_,_,rfl,rfl,_,rfl,_,rfl,Ap (by lia),?_⟩;have b0:=BU (CA xs+3*(i:Int)) (show(8:Int)≠0 by decide);have e:AC (CM (cds (AC wd)) none (some (1+(CA xs+3*(i:Int))%8)))=AC (BO xs wd (i:Int)):=by
     rw[Bl,F6 _ (by lia)];unfold BO;rw[Ac c2];unfold Hg;rfl
    exact rest _ _ ⟨rfl,_,_,congrArg (λz=>[some (V.int c),some (V.int 8),some (V.str EH),some (V.ref rx),some (V.str (AC wd)),some (V.int (CA xs)),some (V.int (CL xs)),some (V.ref l),_,_,some (V.str z)]) e⟩
   .have c2:=λz=>dF cc (key.mpr z);have e:AC (GF xs wd (i:Int))=AC (BO xs wd (i:Int)):=by
     unfold BO;rw[A9 c2]
    exact rest _ _ ⟨rfl,_,_,congrArg (λz=>[some (V.int c),some (V.int 8),some (V.str EH),some (V.ref rx),some (V.str (AC wd)),some (V.int (CA xs)),some (V.int (CL xs)),some (V.ref l),_,_,some (V.str z)]) e⟩
 .obtain⟨o1,o2,o3,rfl,hs,hH⟩:=p;refine⟨_,rfl,q l H' _ (s1.trans hs) ⟨hH,by rw[Ag,List.length_range],Wc wl,λz hz=>?_⟩⟩;obtain⟨k,_,rfl⟩:=CK.mp hz;rw[Bl];exact Rd.nameC_ok wl wb (k:Int)
theorem PM (T:Tx w K mg a):AQ P w K mg base B3 1 a.f_n a.d_n ["_law_cell_here","_law_far"] WV:=by
 refine T.F_n.ok S7 (λvs H Q E h=>?_) (λcdv A outer s H vs Q E hr h=>?_)
 .obtain⟨_,_,rfl,_⟩:=h;rfl
 obtain⟨c,far,rfl,h0,h1,q⟩:=h;refine⟨_,(A5 (AM (Au Bs (A8 Bm (pv 0) A2) A2 (Ax _))
  (Af (Ay (A8 Fb (A8 Bm (A8 CW (pv 0) A2) A2) A2)))
  AS)
  (Af (Ay (A8 Fb (A8 Bm (A8 CW (pv 0) A2) (A8 BG (A8 G4 A2 (pv 1)) A2)) (pv 1))))),?_⟩
 have key:(V.int (c%3)=V.int 0)↔c%3=0:=⟨λe=>V.int.inj e,λe=>by rw[e]⟩
 refine⟨_,rfl,_,_,rfl,rfl,(by show(0:Int)<3;decide),rfl,_,rfl,?_⟩;refine AB (λcc=>?_) (λcc=>?_)
 .refine⟨_,rfl,_,_,rfl,rfl,⟨by decide,by decide⟩,_,_,rfl,rfl,(by show(0:Int)<7;decide),_,_,rfl,rfl,?_⟩;unfold G6 at q;rw[Ac (key.mp (dT cc))]at q;exact q
 .refine⟨_,rfl,_,_,rfl,rfl,⟨by decide,by decide⟩,_,rfl,_,_,rfl,rfl,.inl ⟨by decide,by decide⟩,_,_,rfl,rfl,_,_,rfl,rfl,(by show(0:Int)<2*far+1;lia),_,rfl,_,_,rfl,rfl,?_⟩;unfold G6 at q;rw[A9 (λz=>dF cc (key.mpr z))]at q;exact q
theorem Qe (T:Tx w K mg a):AQ P w K mg base B3 1 a.f_g a.d_g ["_law_spot_here"] YB:=by
 refine T.F_g.ok RZ (λvs H Q E h=>?_) (λcdv A outer s H vs Q E hr h=>?_)
 .obtain⟨_,_,rfl,_⟩:=h;rfl
 obtain⟨x,s,rfl,⟨t,rfl,ht⟩,⟨b0,b1,b2⟩,q⟩:=h;refine⟨_,(A5 (AM (Au Bs (Aj B7 (pv 0) A2 (λ_ _=>rfl)) Ab (Ax _))
  (Af (Ay (Du Jz (by rfl) T.z_str Lj (A0 (Aj B7 (pv 0) A2 (λ_ _=>rfl)) A1))))
  AS)
  (A5 (AM (Au Bs (Aj B7 (pv 0) A2 (λ_ _=>rfl)) A2 (Ax _))
  (Af (Ay (Aj B7 (pv 0) A2 (λ_ _=>rfl))))
  AS)
  (Af (Ay (A8 Be (A8 Be (Aj B7 (pv 0) A2 (λ_ _=>rfl)) (Aj Fh Ab (Du Kf (by rfl) T.z_int HF (A0 (DY EK (Aj B7 (pv 0) A2 (λ_ _=>rfl)) A2 (Ax _)) A1)) (λ_ _=>rfl))) (Du Jz (by rfl) T.z_str Lj (A0 (B6 Oa (by rfl) T.z_abs PJ (A0 (Aj B7 (pv 0) A2 (λ_ _=>rfl)) A1)) A1))))))),?_⟩
 refine⟨_,rfl,t,_,0,_,rfl,rfl,Aw.of ht,rfl,rfl,_,rfl,?_⟩;by_cases c1:s.1=""
 .unfold AI at q;rw[Ac c1]at q;refine Eu (v:=true) (Bc (congrArg V.str c1)) (AG ?_);exact⟨_,rfl,t,_,1,_,rfl,rfl,Aw.of ht,rfl,_,rfl,IP b1 b2,q⟩
 refine Eu (v:=false) (dS c1) (AL ?_);refine⟨_,rfl,t,_,1,_,rfl,rfl,Aw.of ht,rfl,rfl,_,rfl,?_⟩;by_cases c2:s.2=0
 .unfold AI at q;rw[A9 c1,Ac c2]at q;refine Eu (v:=true) (Bc (congrArg V.int c2)) (AG ?_);exact⟨_,rfl,t,_,0,_,rfl,rfl,Aw.of ht,rfl,q⟩
 refine Eu (v:=false) (Bg λz=>c2 (V.int.inj z)) (AL ?_);rw[Yi c1 c2]at q;have nl:=L6 (i:=if s.2<0 then -s.2 else s.2) (by split<;>lia) (by split<;>lia);unfold nS at nl q;have lg:=IP (i:=if s.2<0 then -s.2 else s.2) (by split<;>lia) (by split<;>lia);have a1:Bu (cds (Str.ofString "+-")) (if decide (s.2<0)=true then 1 else 0)=some (if s.2<0 then 45 else 43):=by
  by_cases c:s.2<0
  .rw[Ac c,Ac (Bc c)];decide +kernel
  .rw[A9 c,A9 (λz=>c (Jw z))];decide +kernel
 have a2:(⟨#[if s.2<0 then 45 else 43]⟩:Str)=if s.2<0 then("-":Str) else"+":=by
  by_cases c:s.2<0
  .rw[Ac c,Ac c];decide +kernel
  .rw[A9 c,A9 c];decide +kernel
 have a3:(⟨#[if s.2<0 then 45 else 43]⟩:Str).length=1:=rfl;rw[←a2]at q;refine⟨_,rfl,t,_,0,_,rfl,rfl,Aw.of ht,rfl,_,rfl,t,_,1,_,rfl,rfl,Aw.of ht,rfl,_,_,rfl,rfl,.inr ⟨_,rfl,_,_,_,rfl,rfl,(by decide +kernel),a1,_,_,rfl,rfl,Ap (by lia),?_⟩⟩;exact⟨_,rfl,t,_,1,_,rfl,rfl,Aw.of ht,rfl,_,rfl,_,rfl,lg,_,_,rfl,rfl,Ap (by rw[AO];lia),q⟩
theorem QC (T:Tx w K mg a):AQ P w K mg base B3 2 a.f_h a.d_h ["_law_one","_law_other","_law_known"] Rd.spSpot23:=by
 have G_n :=@PM P w K mg base a T;refine T.F_h.ok Mm (λvs H Q E h=>?_) (λcdv A outer s H vs Q E hr h=>?_)
 .obtain⟨_,_,_,_,rfl,_⟩:=h;rfl
 obtain⟨x,y,kl,nms,rfl,x0,x1,y0,y1,hk,q⟩:=h;refine⟨_,(A5 (Ak (i:=3) Mm.nd rfl (.inl rfl) (AD G_n (hr.mono (by lia)) (by rfl) T.m_n T.F_n.kp T.b_n .nil Az (A0 (A8 G4 (A8 G4 (pv 0) (pv 1)) A2) (A0 (A8 Fb (A8 Mr A2 A2) A2) A1))))
  (A5 (AM (Au Bs (A8 Bm (pv 1) A2) A2 (Ax _))
  (Af (Ak (i:=3) Mm.nd rfl (.inl rfl) A2))
  AS)
  (Af (Ay (Cf (A0 (Aj AX (pv 2) (A8 Bm (pv 0) (B6 Bw (by rfl) T.z_len Bq (A0 (pv 2) A1))) (λ_ _=>rfl)) (A0 (pv 3) A1))))))),?_⟩
 have bx : -(2 ^ 64:Int)<x/\x<2 ^ 64:=⟨by lia,by lia⟩
 have bxy : -(2 ^ 64:Int)<x*y/\x*y<2 ^ 64:=by
  have h1:x*y<=2147483647*2147483647:=Int.mul_le_mul (by lia) (by lia) y0 (by decide);have h2:=Int.mul_nonneg x0 y0;exact⟨by lia,by lia⟩
 refine⟨_,rfl,_,rfl,_,_,rfl,rfl,.inl bx,_,_,rfl,rfl,.inl bxy,_,_,rfl,rfl,⟨by decide,by decide,by decide⟩,_,_,rfl,rfl,_,_,rfl,(by decide),(by decide),?_⟩;have nb:=P7 (x*y*7) (far:=10 ^ (18:Int).toNat-1) (by decide);dsimp only[Am];generalize G6 _ _=nn at nb ⊢;refine Dp (fun σ' H'=>H'=H/\∃n:Int,-999999999999999999<=n/\n<=999999999999999999/\σ'=[some (.int x),some (.int y),some (.ref kl),some (.int n)]) (fun σ' H' pp=>?_) (λnx=>?_)
 .obtain⟨rfl,n,n0,n1,rfl⟩:=pp;have lm:(((((("":Str)::nms).map V.str).length:Nat):Int))=((("":Str)::nms).length:Int):=by rw[Ag]
  have lp:(0:Int)<((("":Str)::nms).length:Int):=by rw[AJ];lia
  have f0:=BU x (show(((("":Str)::nms).map V.str).length:Int)≠0 by lia);have f1:=C0 x (show(0:Int)<(((("":Str)::nms).map V.str).length:Int) by lia);obtain⟨z,hz,hzi⟩:=Rd.strs_at (zs:=("":Str)::nms) f0 (by lia);have hzm:=CU hzi;refine⟨_,rfl,_,rfl,_,rfl,kl,_,rfl,.inl (A4.of hk.1),_,_,rfl,rfl,(by show(0:Int)<(((("":Str)::nms).map V.str).length:Int);lia),kl,_,_,_,rfl,rfl,A4.of hk.1,hz,_,rfl,Al rfl,λr hr'=>?_⟩;exact q _ _ (z,n) (A6 hr' _) ⟨r,rfl,A3⟩ (Rd.spn_of hk.2.2 hzm n0 n1).1 (Rd.spn_of hk.2.2 hzm n0 n1).2
 .refine⟨_,rfl,_,_,rfl,rfl,(by show(0:Int)<4;decide),rfl,_,rfl,?_⟩;refine AB (λ_=>nx _ _ ⟨rfl,0,by decide,by decide,rfl⟩) (λ_=>nx _ _ ⟨rfl,nn,nb.1,nb.2,rfl⟩)
theorem Qa (T:Tx w K mg a):AQ P w K mg base B3 3 a.f_o a.d_o ["_law_xs","_law_known","_law_names_here"] Rd.spCell23:=by
 have G_h :=@QC P w K mg base a T;have G_g :=@Qe P w K mg base a T;refine T.F_o.ok K6 (λvs H Q E h=>?_) (λcdv A outer s H vs Q E hr h=>?_)
 .obtain⟨_,_,_,_,_,_,rfl,_⟩:=h;rfl
 obtain⟨rx,kl,nl,xs,nms,ns,rfl,hx,xl,xm,hk,hn,q⟩:=h;refine⟨_,(A5 (Ak (i:=3) K6.nd rfl (.inl rfl) (A8 BG A2 (A8 Bm (Aj AX (pv 0) A2 (λ_ _=>rfl)) A2)))
  (A5 (Ak (i:=4) K6.nd rfl (.inl rfl) (Aj AX (pv 2) (A8 BG (A8 Fb (A8 G4 A2 (pv 3)) A2) (A8 Bm (A8 CW (Aj AX (pv 0) A2 (λ_ _=>rfl)) A2) A2)) (λ_ _=>rfl)))
  (A5 (Ak (i:=5) K6.nd rfl (.inl rfl) (Du GA (by rfl) T.z_tuple Gw (A0 (Ef ["_law_k","_law_known","_law_xs"] [none,some 1,some 0] (by rfl) (KS (by rfl) T.z_range (A0 (pv 3) A1)) YQ (λ_ _ _ _ _ _=>⟨(BB (i:=0) UG rfl (.inl rfl)),F7,(AD G_h (hr.mono (by lia)) (by rfl) T.m_h T.F_h.kp T.b_h .nil Az (A0 (Aj (show F2 _ (Na K) from AX) (pv 2) (A8 BG A2 (pv 0)) (λ_ _=>rfl)) (A0 (Aj (show F2 _ (Na K) from AX) (pv 2) (A8 BG A2 (pv 0)) (λ_ _=>rfl)) (A0 (pv 1) A1))))⟩)) A1)))
  (Af (Ay (EJ (Ai (pv 4) (Ai (pv 5) (Ai (A8 Be (pv 4) (Bx E2 NY NZ KJ Ab (A0 (Ef ["_law_spot_here"] [none] (by rfl) (Me (pv 5)) Tn (λ_ _ _ _ _ _=>⟨(BB (i:=0) Xu rfl (.inl rfl)),F7,(A8 Be (A8 Be Ab (AD G_g (hr.mono (by lia)) (by rfl) T.m_g T.F_g.kp T.b_g .nil Az (A0 (pv 0) A1))) Ab)⟩)) A1))) C8 Hh) FA) FA))))))),?_⟩
 have atx:∀k:Nat,k<5->Bu (xs.map V.int) ((k:Nat):Int)=some (.int (xs.getD k 0)):=λk hk=>GC (ns:=xs) (k:=((k:Nat):Int)) (by lia) (by lia);have xb:∀k:Nat,k<5->0<=xs.getD k 0/\xs.getD k 0<2147483647:=λk hk=>by
  have hm:xs.getD k 0∈xs:=by rw[Gf,BC (by lia)];exact EY _
  exact xm _ hm
 refine⟨_,rfl,rx,_,_,_,rfl,rfl,A4.of hx,atx 0 (by decide),_,_,rfl,rfl,(by show(0:Int)<3;decide),_,_,rfl,rfl,?_⟩;dsimp only[Am];have m0:=BU (xs.getD 0 0) (show(3:Int)≠0 by decide);have m1:=C0 (xs.getD 0 0) (show(0:Int)<3 by decide);obtain⟨m,em⟩:∃m:Nat,1+xs.getD 0 0%3=(m:Int):=⟨(1+xs.getD 0 0%3).toNat,by lia⟩
 rw[em];have mb:1<=m/\m<=3:=by lia
 have f0:=BU (xs.getD 0 0/3) (show(2:Int)≠0 by decide);have f1:=C0 (xs.getD 0 0/3) (show(0:Int)<2 by decide);obtain⟨tz,htz,tzi⟩:=Rd.strs_at (zs:=ns) (i:=2*(m:Int)-1+xs.getD 0 0/3%2) (by lia) (by have:=hn.2.1;lia);have tok:=hn.2.2.2 tz (CU tzi);have tl:tz.length<=20:=by have:=tok.2.1;rw[cds_len]at this;lia
 have tfz:Rd.tf ns tz=m:=by unfold Rd.tf;rw[Rd.idx_nodup hn.2.2.1 tzi];lia
 refine⟨_,rfl,_,rfl,_,_,rfl,rfl,.inl ⟨by decide,by decide⟩,_,_,rfl,rfl,_,rfl,rx,_,_,_,rfl,rfl,A4.of hx,atx 0 (by decide),_,_,rfl,rfl,⟨by decide,by decide⟩,_,_,rfl,rfl,(by show(0:Int)<2;decide),_,_,rfl,rfl,nl,_,_,_,rfl,rfl,A4.of hn.1,htz,?_⟩;dsimp only[Am];refine⟨_,rfl,_,rfl,by lia,by lia,?_⟩;rw[FL];refine Sn (lo:=0) (n:=m) (λi ys H'=>Ae H H'/\∃sp:List (Str×Int),AN (Ck H') ys sp/\sp.length=i/\∀s∈sp,Rd.SpN s/\Rd.knw nms s=true) ⟨Ae.refl _,[],.nil,rfl,λs hs=>by cases hs⟩ (Ap (by lia)) (λi ys H' hi pp=>by obtain⟨_,sp,h,h2,_⟩:=pp;rw[h.1];lia) (λi ys H' hi pp=>?_) (λys H1 pp r1 hr1=>?_)
 .obtain⟨e,sp,ay,sl,sb⟩:=pp;have e0:1+(0+(i:Int))=((1+i:Nat):Int):=by lia
  have e1:2+(0+(i:Int))=((2+i:Nat):Int):=by lia
  refine⟨_,rfl,_,rfl,_,_,rfl,rfl,rx,_,_,_,rfl,rfl,A4.of (e _ _ hx),(by rw[e0];exact atx (1+i) (by lia)),_,rfl,_,rfl,_,_,rfl,rfl,rx,_,_,_,rfl,rfl,A4.of (e _ _ hx),(by rw[e1];exact atx (2+i) (by lia)),_,rfl,_,_,kl,nms,rfl,(xb _ (by lia)).1,(xb _ (by lia)).2,(xb _ (by lia)).1,(xb _ (by lia)).2,hk.over e,λr H2 s e2 hs hb hkn=>?_⟩;refine⟨e.trans e2,sp++[s],(ay.mono λ_ _ z=>z.tk (Ae.tk e2)).snoc hs,by rw[An,sl];rfl,λs' hs'=>?_⟩;rcases By.mp hs' with c|c
  .exact sb s' c
  .rw[Bt.mp c];exact⟨hb,hkn⟩
 obtain⟨e,sp,ay,sl,sb⟩:=pp;refine⟨r1,_,rfl,.inl ⟨A4.of A3,λp hp=>?_⟩⟩;have s2:=(A6 hr1 (.lst ys)).trans (A6 hp (.tup ys));have hp2:(upd (upd H1 r1 (.lst ys)) p (.tup ys)) p=some (.tup ys):=A3;dsimp only[Am];have eH:=e.trans s2;have ay2:=ay.mono λ_ _ z=>z.tk (Ae.tk s2);generalize upd (upd H1 r1 (.lst ys)) p (.tup ys)=H2 at s2 hp2 eH ay2;have yl:=ay2.1;refine⟨_,rfl,_,rfl,_,rfl,rfl,_,rfl,p,rfl,⟨_,Aw.of hp2⟩,?_⟩;refine Mi (xs:=ys) (λi zs H'=>H'=H2/\zs=((sp.take i).map Do).map V.str) ⟨rfl,rfl⟩ (Ap (by lia)) (λi zs H' hi pp=>⟨by rw[pp.1];exact Aw.of hp2,by rw[pp.2,Ag,Ag,Bb];lia⟩) (λi x zs H' hx pp=>?_) (λzs H' pp r hr'=>?_)
 .obtain⟨rfl,rfl⟩:=pp;obtain⟨s1,hs,hsp⟩:=ay2.get' hx;have hb:=(sb s1 (CU hs)).1.2;have l1:=Hn hb;have l2:("[":Str).length=1:=by decide +kernel
  have l3:("]":Str).length=1:=by decide +kernel
  refine⟨_,rfl,x,s1,rfl,hsp,hb,_,_,rfl,rfl,Ap (by lia),_,_,rfl,rfl,Ap (by rw[AO];lia),rfl,?_⟩;rw[DB hs,AR,AR];rfl
 obtain⟨rfl,rfl⟩:=pp;rw[Gh (by lia)];have sb2:∀s∈sp,Ff s:=λs hs=>(sb s hs).1.2;have hs:=O9 (sp:=sp) (by lia) sb2;have cl:=Kj (sp:=sp) tl (by lia) sb2;unfold AY at cl;rw[AO]at cl;refine⟨_,r,_,rfl,rfl,.inl (A4.of A3),BP hs (by decide),_,_,rfl,rfl,Ap (by lia),Al rfl,λt ht=>?_⟩;have s3:=(A6 hr' (.lst ((sp.map Do).map V.str))).trans (A6 ht (.tup [V.str tz,V.ref p,V.str (tz++Txt.join "" (sp.map Do))]));exact q t p _ tz sp (eH.trans s3) A3 ⟨ys,s3 _ _ hp2,ay2.mono λ_ _ z=>z.tk (Ae.tk s3)⟩ ⟨⟨tok,(λz=>by rw[z]at sl;have:0=m:=sl;lia),by lia,λs hs=>(sb s hs).1⟩,EB.mpr λs hs=>(sb s hs).2,by show Rd.tf ns tz=sp.length;rw[tfz,sl]⟩
theorem VT (T:Tx w K mg a):AQ P w K mg base B3 4 a.f_q a.d_q ["_law_cell_here","_law_known","_law_names_here"] Rd.spLeaf23:=by
 have G_a :=@GT P w K mg base a T;have G_n :=@PM P w K mg base a T;have G_o :=@Qa P w K mg base a T;refine T.F_q.ok J6 (λvs H Q E h=>?_) (λcdv A outer s H vs Q E hr h=>?_)
 .obtain⟨_,_,_,_,_,rfl,_⟩:=h;rfl
 obtain⟨c,kl,nl,nms,ns,rfl,hk,hn,q⟩:=h;refine⟨_,(A5 (Ak (i:=3) J6.nd rfl (.inl rfl) (AD G_a (hr.mono (by lia)) (by rfl) T.m_a T.F_a.kp T.b_a .nil Az (A0 (A8 CW (pv 0) A2) (A0 A2 A1))))
  (A5 (AM (Au Bs (A8 Bm (pv 0) A2) A2 (Ax _))
  (A5 (Ak (i:=4) J6.nd rfl (.inl rfl) (B6 Oa (by rfl) T.z_abs PJ (A0 (AD G_n (hr.mono (by lia)) (by rfl) T.m_n T.F_n.kp T.b_n .nil Az (A0 (A8 G4 (Aj AX (pv 3) A2 (λ_ _=>rfl)) (Aj AX (pv 3) A2 (λ_ _=>rfl))) (A0 (A8 Fb (A8 Mr A2 A2) A2) A1))) A1)))
  (Af (Ay (EJ (Ai (Du Jz (by rfl) T.z_str Lj (A0 (pv 4) A1)) (Ai A2 (Ai (Cf (A0 Ab (A0 (pv 4) A1))) C8 HX) Ar) LZ)))))
  AS)
  (A5 (AM ((DG (Au Bs (A8 Bm (pv 0) A2) A2 (Ax _)) (E8 (Au FH (B6 Bw (by rfl) T.z_len Bq (A0 (pv 1) A1)) A2 (Ax _))))).pt
  (A5 (Ak (i:=5) J6.nd rfl (.inl rfl) (Aj AX (pv 1) (A8 BG A2 (A8 Bm (Aj AX (pv 3) A2 (λ_ _=>rfl)) (A8 Fb (B6 Bw (by rfl) T.z_len Bq (A0 (pv 1) A1)) A2))) (λ_ _=>rfl)))
  (Af (Ay (EJ (Ai (pv 5) (Ai A2 (Ai (Cf (A0 Ab (A0 (pv 5) A1))) C8 HX) Ar) FA)))))
  AS)
  (A5 (Ak (i:=6) J6.nd rfl (.inl rfl) (AD G_o (hr.mono (by lia)) (by rfl) T.m_o T.F_o.kp T.b_o .nil Az (A0 (pv 3) (A0 (pv 1) (A0 (pv 2) A1)))))
  (Af (Ay (EJ (Ai (Aj B7 (pv 6) A2 (λ_ _=>rfl)) (Ai A2 (Ai (EJ (Ai Ab (Ai (Aj B7 (pv 6) A2 (λ_ _=>rfl)) (Ai (Aj B7 (pv 6) A2 (λ_ _=>rfl)) C8 Gr) Gr) Ar)) C8 HX) Ar) Gr)))))))),?_⟩
 refine⟨_,rfl,_,_,rfl,rfl,⟨by decide,by decide⟩,_,5,rfl,by decide,by decide,λrx H1 s1 hx=>?_⟩;rw[show(5:Int).toNat=5 from rfl]at hx;generalize hxs:E5 (c/3) 5=xs at hx;have xl:xs.length=5:=by rw[←hxs,GB]
 have xm:∀y∈xs,0<=y/\y<2147483647:=λy hy=>IA (hxs▸hy);have atx:∀k:Nat,k<5->Bu (xs.map V.int) ((k:Nat):Int)=some (.int (xs.getD k 0)):=λk hk=>GC (ns:=xs) (k:=((k:Nat):Int)) (by lia) (by lia);have xb:∀k:Nat,k<5->-(2 ^ 64:Int)<xs.getD k 0/\xs.getD k 0<2 ^ 64:=λk hk=>by
  have hm:xs.getD k 0∈xs:=by rw[Gf,BC (by lia)];exact EY _
  obtain⟨h0,h1⟩:=xm _ hm;exact⟨by lia,by lia⟩
 have hk1:=hk.over s1;have hn1:=hn.over s1;dsimp only[Am];refine⟨_,rfl,_,_,rfl,rfl,(by show(0:Int)<3;decide),rfl,_,rfl,?_⟩;refine AB (λ_=>?_) (λ_=>?_)
 .refine⟨_,rfl,rx,_,_,_,rfl,rfl,A4.of hx,atx 0 (by decide),_,rfl,rx,_,_,_,rfl,rfl,A4.of hx,atx 1 (by decide),_,_,rfl,rfl,.inl (xb 0 (by decide)),_,_,rfl,rfl,⟨by decide,by decide,by decide⟩,_,_,rfl,rfl,_,_,rfl,(by decide),(by decide),?_⟩;have nb:=P7 (xs.getD 0 0*xs.getD 1 0) (far:=10 ^ (18:Int).toNat-1) (by decide);generalize G6 _ _=nn at nb ⊢;refine⟨_,rfl,?_⟩;obtain⟨n,en,n0,n1⟩:∃n:Int,(if nn<0 then -nn else nn)=n/\0<=n/\n<=999999999999999999:=⟨_,rfl,by have:=nb.1;have:=nb.2;split<;>lia,by have:=nb.1;have:=nb.2;split<;>lia⟩
  rw[en];dsimp only[Am];refine⟨_,rfl,_,rfl,IP (by lia) n1,_,rfl,Al rfl,λt1 ht1=>⟨Al rfl,λt2 ht2=>?_⟩⟩;have s2:=(A6 ht1 (.tup [V.str "n",V.int n])).trans (A6 ht2 (.tup [V.str (Str.ofString (toString n)),V.int 3,V.ref t1]));exact q _ _ (.n n) (s1.trans s2) ⟨t2,.ref t1,rfl,A3,t1,rfl,(A6 ht2 _) _ _ A3⟩ ⟨⟨n0,n1⟩,True.intro,True.intro⟩
 .dsimp only[M6];refine Dp (fun σ' H2=>H2=H1/\σ'=[some (.int c),some (.ref kl),some (.ref nl),some (.ref rx),none,none,none]) (fun σ' H2 pp=>?_) (λnx=>?_)
  .obtain⟨rfl,rfl⟩:=pp;refine⟨_,rfl,_,rfl,_,rfl,rx,kl,nl,xs,nms,ns,rfl,hx,xl,xm,hk1,hn1,λr p H3 z sp s3 hr3 hp3 ok=>?_⟩;dsimp only[Am];refine⟨_,rfl,r,_,2,_,rfl,rfl,Aw.of hr3,rfl,_,rfl,r,_,0,_,rfl,rfl,Aw.of hr3,rfl,_,rfl,r,_,1,_,rfl,rfl,Aw.of hr3,rfl,Al rfl,λt1 ht1=>⟨Al rfl,λt2 ht2=>?_⟩⟩;have s4:=(A6 ht1 (.tup [V.str "c",V.str z,V.ref p])).trans (A6 ht2 (.tup [V.str (AY z sp),V.int 3,V.ref t1]));exact q _ _ (.c z sp) (s1.trans (s3.trans s4)) ⟨t2,.ref t1,rfl,A3,t1,p,rfl,(A6 ht2 _) _ _ A3,hp3.tk (Ae.tk s4)⟩ ok
  .refine⟨_,rfl,_,_,rfl,rfl,(by show(0:Int)<3;decide),rfl,_,rfl,?_⟩;refine AB (λ_=>?_) (λ_=>AL (nx _ _ ⟨rfl,rfl⟩));refine⟨_,rfl,kl,_,rfl,.inl (A4.of hk1.1),_,_,rfl,rfl,_,rfl,?_⟩;have l4:((((("":Str)::nms).map V.str).length:Nat):Int)=(((("":Str)::nms).length:Nat):Int):=by rw[Ag]
   refine AB (λcm=>?_) (λ_=>nx _ _ ⟨rfl,rfl⟩);have cm:(1:Int)<((((("":Str)::nms).map V.str).length:Nat):Int):=dT cm;have m0:=BU (xs.getD 0 0) (show((((("":Str)::nms).map V.str).length:Nat):Int)-1≠0 by lia);have m1:=C0 (xs.getD 0 0) (show(0:Int)<((((("":Str)::nms).map V.str).length:Nat):Int)-1 by lia);obtain⟨z,hz,zi⟩:=Rd.strs_at (zs:=("":Str)::nms) (i:=1+xs.getD 0 0%(((((("":Str)::nms).map V.str).length:Nat):Int)-1)) (by lia) (by lia);have zm:z∈nms:=Rd.mem_behind (by lia) zi;refine⟨_,rfl,_,rfl,rx,_,_,_,rfl,rfl,A4.of hx,atx 0 (by decide),_,rfl,kl,_,rfl,.inl (A4.of hk1.1),_,_,rfl,rfl,_,_,rfl,rfl,(by show(0:Int)<((((("":Str)::nms).map V.str).length:Nat):Int)-1;lia),_,_,rfl,rfl,kl,_,_,_,rfl,rfl,A4.of hk1.1,hz,?_⟩;dsimp only[Am];refine⟨_,rfl,_,rfl,Al rfl,λt1 ht1=>⟨Al rfl,λt2 ht2=>?_⟩⟩;have s2:=(A6 ht1 (.tup [V.str "v",V.str z])).trans (A6 ht2 (.tup [V.str z,V.int 3,V.ref t1]));exact q _ _ (.v z) (s1.trans s2) ⟨t2,.ref t1,rfl,A3,t1,rfl,(A6 ht2 _) _ _ A3⟩ ⟨hk.2.2 z zm,zm,True.intro⟩
theorem XJ (T:Tx w K mg a):AQ P w K mg base B3 1 a.f_r a.d_r ["_law_sign","_law_left","_law_right"] SE:=by
 refine T.F_r.ok HH (λvs H Q E h=>?_) (λcdv A outer s H vs Q E hr h=>?_)
 .obtain⟨_,_,_,_,_,rfl,_⟩:=h;rfl
 obtain⟨z,x,y,l,r,rfl,hz3,⟨p,sx,rfl,hp,hsx⟩,⟨p2,sy,rfl,hp2,hsy⟩,okl,okr,szs,q⟩:=h;refine⟨_,(A5 (Ak (i:=3) HH.nd rfl (.inl rfl) (A8 BG A2 (Du Kf (by rfl) T.z_int HF (A0 (DY Bs (pv 0) Ab (Ax _)) A1))))
  (A5 (Ak (i:=4) HH.nd rfl (.inl rfl) (Aj B7 (pv 1) A2 (λ_ _=>rfl)))
  (A5 (Ak (i:=5) HH.nd rfl (.inl rfl) (Aj B7 (pv 2) A2 (λ_ _=>rfl)))
  (A5 (AM (Au EK (Aj B7 (pv 1) A2 (λ_ _=>rfl)) (pv 3) (Ax _))
  (Af (Ak (i:=4) HH.nd rfl (.inl rfl) (A8 Be (A8 Be Ab (pv 4)) Ab)))
  AS)
  (A5 (AM (Au RK (Aj B7 (pv 2) A2 (λ_ _=>rfl)) (pv 3) (Ax _))
  (Af (Ak (i:=5) HH.nd rfl (.inl rfl) (A8 Be (A8 Be Ab (pv 5)) Ab)))
  AS)
  (Af (Ay (EJ (Ai (A8 Be (A8 Be (pv 4) (pv 0)) (pv 5)) (Ai (pv 3) (Ai (EJ (Ai (pv 0) (Ai (Aj B7 (pv 1) A2 (λ_ _=>rfl)) (Ai (Aj B7 (pv 2) A2 (λ_ _=>rfl)) C8 Gr) Gr) FA)) C8 HX) FA) Hh))))))))),?_⟩
 have wl:=Tw.wr_len okl;have wR:=Tw.wr_len okr;have zl:=PY hz3;have l2:("(":Str).length=1:=by decide +kernel
 have l3:(")":Str).length=1:=by decide +kernel
 have eh:(1+if decide (V.str z=V.str (Str.ofString "*"))=true then(1:Int) else 0)=((hz z:Nat):Int):=by
  unfold hz;by_cases c:z="*"
  .rw[Ac c,Ac (Bc (congrArg V.str c))];rfl
  .rw[A9 c,A9 (λe=>c (V.str.inj (Jw e)))];rfl
 refine⟨_,rfl,rfl,.inr ⟨_,rfl,_,_,rfl,rfl,?_⟩⟩;dsimp only[Am];rw[eh];refine⟨_,rfl,p,_,0,_,rfl,rfl,Aw.of hp,rfl,?_⟩;dsimp only[Am];refine⟨_,rfl,p2,_,0,_,rfl,rfl,Aw.of hp2,rfl,?_⟩;dsimp only[Am];refine Dp (fun σ' H'=>H'=H/\σ'=[some (.str z),some (.ref p),some (.ref p2),some (.int ((hz z:Nat):Int)),some (.str (DW (decide (l.hld<hz z)) l.wr)),some (.str r.wr)]) (fun σ' H' pp=>?_) (λnx=>?_)
 .obtain⟨rfl,rfl⟩:=pp;have bl:=K8 (decide (l.hld<hz z)) l.wr;refine Dp (fun σ' H2=>H2=H'/\σ'=[some (.str z),some (.ref p),some (.ref p2),some (.int ((hz z:Nat):Int)),some (.str (DW (decide (l.hld<hz z)) l.wr)),some (.str (DW (decide (r.hld<=hz z)) r.wr))]) (fun σ' H2 pp=>?_) (λnx=>?_)
  .obtain⟨rfl,rfl⟩:=pp;have br:=K8 (decide (r.hld<=hz z)) r.wr;refine⟨_,rfl,_,rfl,_,_,rfl,rfl,Ap (by lia),_,rfl,_,_,rfl,rfl,Ap (by rw[AO];lia),_,rfl,_,rfl,_,rfl,p,_,2,_,rfl,rfl,Aw.of hp,rfl,_,rfl,p2,_,2,_,rfl,rfl,Aw.of hp2,rfl,Al rfl,λt1 ht1=>⟨Al rfl,λt2 ht2=>?_⟩⟩;have s1:=A6 ht1 (.tup [V.str z,sx,sy]);have s2:=s1.trans (A6 ht2 (.tup [V.str (Tw.wr (.j z l r)),V.int ((hz z:Nat):Int),V.ref t1]));exact q _ _ s2 ⟨t2,.ref t1,rfl,A3,t1,sx,sy,rfl,(A6 ht2 _) _ _ A3,hsx.tk (Ae.tk s2),hsy.tk (Ae.tk s2)⟩
  .refine⟨_,rfl,p2,_,1,_,rfl,rfl,Aw.of hp2,rfl,_,rfl,_,_,rfl,rfl,_,rfl,?_⟩;refine AB (λc=>?_) (λc=>?_)
   .have c:r.hld<=hz z:=Int.ofNat_le.mp (dT c);refine⟨_,rfl,_,_,rfl,rfl,Ap (by lia),_,_,rfl,rfl,Ap (by rw[AO];lia),nx _ _ ⟨rfl,?_⟩⟩;rw[Bc c];rfl
   .have c:¬r.hld<=hz z:=λe=>dF c (Int.ofNat_le.mpr e);refine nx _ _ ⟨rfl,?_⟩;rw[Bg c];rfl
 .refine⟨_,rfl,p,_,1,_,rfl,rfl,Aw.of hp,rfl,_,rfl,_,_,rfl,rfl,_,rfl,?_⟩;refine AB (λc=>?_) (λc=>?_)
  .have c:l.hld<hz z:=Int.ofNat_lt.mp (dT c);refine⟨_,rfl,_,_,rfl,rfl,Ap (by lia),_,_,rfl,rfl,Ap (by rw[AO];lia),nx _ _ ⟨rfl,?_⟩⟩;rw[Bc c];rfl
  .have c:¬l.hld<hz z:=λe=>dF c (Int.ofNat_lt.mpr e);refine nx _ _ ⟨rfl,?_⟩;rw[Bg c];rfl
theorem UO (T:Tx w K mg a):AQ P w K mg base B3 5 a.f_L a.d_L ["_law_cell_here","_law_known","_law_names_here"] Rd.spTerm28:=by
 have G_a :=@GT P w K mg base a T;have G_q :=@VT P w K mg base a T;have G_r :=@XJ P w K mg base a T;refine T.F_L.ok FS (λvs H Q E h=>?_) (λcdv A outer s H vs Q E hr h=>?_)
 .obtain⟨_,_,_,_,_,rfl,_⟩:=h;rfl
 obtain⟨seed,kl,nl,nms,ns,rfl,hk,hn,q⟩:=h;refine⟨_,(A5 (Ak (i:=3) FS.nd rfl (.inl rfl) (AD G_a (hr.mono (by lia)) (by rfl) T.m_a T.F_a.kp T.b_a .nil Az (A0 (pv 0) (A0 A2 A1))))
  (A5 (Ak (i:=4) FS.nd rfl (.inl rfl) (Bh (A0 (AD G_q (hr.mono (by lia)) (by rfl) T.m_q T.F_q.kp T.b_q .nil Az (A0 (Aj AX (pv 3) A2 (λ_ _=>rfl)) (A0 (pv 1) (A0 (pv 2) A1)))) A1)))
  (A5 (EI PassesOwn.never rfl (DD (C7 CH (pv 3) (BW A2) (BW (A8 BG A2 (A8 Bm (pv 0) A2))))) (BB (i:=5) FS.nd rfl (.inl rfl))
  (Af (AM ((DG (Au EK (A8 Bm (pv 5) A2) A2 (Ax _)) (E8 (Au FH (B6 Bw (by rfl) T.z_len Bq (A0 (pv 4) A1)) A2 (Ax _))))).pt
  (A5 (Ak (i:=6) FS.nd rfl (.inl rfl) (Ed BJ EC ED Eg (pv 4)))
  (A5 (Ak (i:=7) FS.nd rfl (.inl rfl) (Ed BJ EC ED Eg (pv 4)))
  (Af (BF (Bx BJ CC CF Ct (pv 4) (A0 (AD G_r (hr.mono (by lia)) (by rfl) T.m_r T.F_r.kp T.b_r .nil Az (A0 (Aj Fh Ab (A8 Bm (A8 CW (pv 5) A2) A2) (λ_ _=>rfl)) (A0 (pv 7) (A0 (pv 6) A1)))) A1))))))
  (Af (BF (Bx BJ CC CF Ct (pv 4) (A0 (AD G_q (hr.mono (by lia)) (by rfl) T.m_q T.F_q.kp T.b_q .nil Az (A0 (A8 CW (pv 5) A2) (A0 (pv 1) (A0 (pv 2) A1)))) A1)))))))
  (A5 (IT PassesOwn.never (Au FH (B6 Bw (by rfl) T.z_len Bq (A0 (pv 4) A1)) A2 (Ax _))
  (A5 (Ak (i:=6) FS.nd rfl (.inl rfl) (Ed BJ EC ED Eg (pv 4)))
  (A5 (Ak (i:=7) FS.nd rfl (.inl rfl) (Ed BJ EC ED Eg (pv 4)))
  (Af (BF (Bx BJ CC CF Ct (pv 4) (A0 (AD G_r (hr.mono (by lia)) (by rfl) T.m_r T.F_r.kp T.b_r .nil Az (A0 (Aj Fh Ab (A8 Bm (A8 CW (pv 0) A2) A2) (λ_ _=>rfl)) (A0 (pv 7) (A0 (pv 6) A1)))) A1)))))))
  (Af (Ay (Aj AX (pv 4) A2 (λ_ _=>rfl)))))))),?_⟩
 refine⟨_,rfl,seed,5,rfl,by decide,by decide,λrx H3 e3 hx=>?_⟩;rw[show(5:Int).toNat=5 from rfl]at hx;generalize hxs:E5 seed 5=xs0 at hx;have xl:xs0.length=5:=by rw[←hxs,GB]
 have at0:Bu (xs0.map V.int) (0:Int)=some (.int (xs0.getD 0 0)):=GC (ns:=xs0) (k:=0) (by decide) (by rw[xl];decide);have hk3:=hk.over e3;have hn3:=hn.over e3;dsimp only[Am];refine⟨_,rfl,rx,_,_,_,rfl,rfl,A4.of hx,at0,_,rfl,_,rfl,_,kl,nl,nms,ns,rfl,hk3,hn3,λv H4 t e4 tp ok=>⟨Al rfl,λl hl=>?_⟩⟩;obtain⟨tp,st⟩:=Rd.leaf_tp ok tp;have ok:=ok.twk;have e04:=e3.trans e4;have hl0:H l=none:=e04.free hl;have kl0:H3 l=none:=e4.free hl;have s5:=A6 hl (.lst [v]);have hl5:(upd H4 l (.lst [v])) l=some (.lst [v]):=A3;have S5:Rd.StK (upd H4 l (.lst [v])) nms ns [v] [t] 1:=Rd.StK.push (xs:=[]) (ts:=[]) (N:=0) ⟨.nil,λt ht=>(by cases ht),Aq _⟩ (tp.tk (Ae.tk s5)) ok (by lia);have e05:=e04.trans s5;dsimp only[Am];generalize upd H4 l (.lst [v])=H5 at s5 hl5 S5 e05;have f50:=BU seed (show(5:Int)≠0 by decide);have f51:=C0 seed (show(0:Int)<5 by decide);refine⟨_,rfl,_,rfl,_,rfl,_,_,rfl,rfl,(by show(0:Int)<5;decide),_,_,rfl,rfl,_,rfl,rx,_,rfl,A4.of ((e4.trans s5) _ _ hx),λcl hcl=>?_⟩;rw[Oq];obtain⟨cs,ecs,hcs4⟩:∃cs:List Int,CM xs0 (some 1) (some (1+seed%5))=cs/\cs.length<=4:=⟨_,rfl,by
  rw[Mg xs0 (by decide) (by lia) (by lia) (by lia),Bb,BS];lia⟩
 rw[ecs];have s6:=A6 hcl (.lst (cs.map V.int));have hC:(upd H5 cl (.lst (cs.map V.int))) cl=some (.lst (cs.map V.int)):=A3;have hl6:=s6 _ _ hl5;have S6:=S5.tk (Ae.tk s6);have ncl:cl≠l:=(B0 hl5 hcl).symm;have e06:=e05.trans s6;have e36:=(e4.trans s5).trans s6;generalize upd H5 cl (.lst (cs.map V.int))=H6 at s6 hC hl6 S6 e06 e36;refine⟨cl,rfl,⟨_,A4.of hC⟩,?_⟩;refine GY (xs:=cs.map V.int) (λi σ' H'=>Ae H H'/\Ae H3 H'/\(H' cl=some (.lst (cs.map V.int))/\∃o5 o6 o7,σ'=[some (.int seed),some (.ref kl),some (.ref nl),some (.ref rx),some (.ref l),o5,o6,o7])/\∃xs ts N,H' l=some (.lst xs)/\Rd.StK H' nms ns xs ts N/\N<=i+1/\0<xs.length) ⟨e06,e36,⟨hC,_,_,_,rfl⟩,[v],[t],1,hl6,S6,Aq _,Ge _⟩ (λi σ' H' _ p=>A4.of p.2.2.1.1) (λi x σ' H' hx p=>?_) (fun σ' H' p=>?_)
 .obtain⟨eH,e3H,⟨hcl',o5,o6,o7,rfl⟩,xs,ts,N,hxs,hS,hNi,hpos⟩:=p;obtain⟨c,rfl⟩:∃c,x=V.int c:=by
   rw[Ce]at hx;cases e:cs[i]? with
   |none=>rw[e]at hx;cases hx
   |some z=>rw[e]at hx;exact⟨z,(Co hx).symm⟩
  have hi:i<cs.length:=by have:=(BQ.mp hx).1;rwa [Ag]at this
  have sl:=hS.len;dsimp only[Am];refine MQ (λH2=>H2=H') (λH2 e=>?_) (λels=>?_)
  .subst e;refine⟨_,rfl,.inl ⟨rfl,_,A4.of hxs⟩,_,rfl,_,_,rfl,rfl,⟨by decide,by decide⟩,_,rfl,_,rfl,_,kl,nl,nms,ns,rfl,hk.over eH,hn.over eH,λv2 H6 t2 e6 p6 ok2=>?_⟩;obtain⟨p6,sz2⟩:=Rd.leaf_tp ok2 p6;have ok2:=ok2.twk;have hxs6:=e6 _ _ hxs;refine⟨l,_,_,rfl,rfl,hxs6,Cu (by lia),?_⟩;have tk:TK H6 (upd H6 l (.lst (xs++[v2]))):=TK.upd hxs6;refine⟨λb ob eb=>by rw[Aa (B0 eb hl0)];exact e6 _ _ (eH _ _ eb),λb ob eb=>by rw[Aa (B0 eb kl0)];exact e6 _ _ (e3H _ _ eb),⟨by rw[Aa ncl];exact e6 _ _ hcl',_,_,_,rfl⟩,xs++[v2],ts++[t2],N+1,A3,((hS.tk (Ae.tk e6)).tk tk).push (p6.tk tk) ok2 (by lia),by lia,by rw[An];lia⟩
  .refine⟨_,rfl,_,_,rfl,rfl,(by show(0:Int)<5;decide),_,_,rfl,rfl,_,rfl,?_⟩;refine AB (λ_=>?_) (λ_=>AL (els _ rfl));refine⟨_,rfl,l,_,rfl,.inl (A4.of hxs),_,_,rfl,rfl,_,rfl,?_⟩;refine AB (λc2=>?_) (λ_=>els _ rfl);have c2:=dT c2;obtain⟨ys,x1,us,t1,M1,rfl,rfl,hS1,px,okx,m1⟩:=hS.pop hpos;rw[An,Bf]at c2;obtain⟨zs',x2,us2,t2,M2,rfl,rfl,hS2,py,oky,m2⟩:=hS1.pop (by lia);refine⟨_,rfl,.inl ⟨rfl,_,A4.of hxs⟩,l,_,x1,rfl,rfl,hxs,Cj.1,?_⟩;rw[Cj.2];dsimp only[Am];refine⟨_,rfl,.inl ⟨rfl,_,A4.of A3⟩,l,_,x2,rfl,rfl,A3,Cj.1,?_⟩;rw[Cj.2];dsimp only[Am];have tk0:TK H' (upd (upd H' l (.lst (zs'++[x2]))) l (.lst zs')):=(TK.upd hxs).trans (TK.upd A3);have hz:(upd (upd H' l (.lst (zs'++[x2]))) l (.lst zs')) l=some (.lst zs'):=A3;have u2:∀b,b≠l->(upd (upd H' l (.lst (zs'++[x2]))) l (.lst zs')) b=H' b:=λb hb=>by rw[Aa hb,Aa hb]
   generalize upd (upd H' l (.lst (zs'++[x2]))) l (.lst zs')=H2 at tk0 hz u2;have eH2:Ae H H2:=λb ob eb=>by rw[u2 _ (B0 eb hl0)];exact eH _ _ eb
   have e3H2:Ae H3 H2:=λb ob eb=>by rw[u2 _ (B0 eb kl0)];exact e3H _ _ eb
   have f0:=BU (c/5) (show(3:Int)≠0 by decide);have f1:=C0 (c/5) (show(0:Int)<3 by decide);obtain⟨ch,hch,h3⟩:=PV f0 f1;have sl2:=hS2.len;refine⟨_,rfl,.inl ⟨rfl,_,A4.of hz⟩,_,rfl,_,_,rfl,rfl,⟨by decide,by decide⟩,_,_,rfl,rfl,(by show(0:Int)<3;decide),_,_,ch,rfl,rfl,(by decide +kernel),hch,_,rfl,_,rfl,_,x2,x1,t2,t1,rfl,h3,py.tk tk0,px.tk tk0,oky.ok,okx.ok,by lia,λv3 H6 e6 p6=>?_⟩;have hz6:=e6 _ _ hz;refine⟨l,_,_,rfl,rfl,hz6,Cu (by lia),?_⟩;have tk:TK H6 (upd H6 l (.lst (zs'++[v3]))):=TK.upd hz6;refine⟨λb ob eb=>by rw[Aa (B0 eb hl0)];exact e6 _ _ (eH2 _ _ eb),λb ob eb=>by rw[Aa (B0 eb kl0)];exact e6 _ _ (e3H2 _ _ eb),⟨by rw[Aa ncl];exact e6 _ _ (by rw[u2 _ ncl];exact hcl'),_,_,_,rfl⟩,zs'++[v3],us2++[.j ⟨#[ch]⟩ t2 t1],N,A3,(((hS2.tk tk0).tk (Ae.tk e6)).tk tk).push (p6.tk tk) ⟨h3,oky,okx⟩ (by show M2+(t2.sz+t1.sz)<=N;lia),by lia,by rw[An];exact Ge _⟩
 .obtain⟨eH,e3H,⟨_,o5,o6,o7,rfl⟩,xs,ts,N,hxs,hS,hNi,hpos⟩:=p;rw[Ag]at hNi;have sl:=hS.len;show Dt (Ls _ _) (G9 _) _ _ _;refine Dp (fun σ' H2=>Ae H H2/\(∃o5 o6 o7,σ'=[some (.int seed),some (.ref kl),some (.ref nl),some (.ref rx),some (.ref l),o5,o6,o7])/\∃x t,H2 l=some (.lst [x])/\DP H2 x t/\Rd.Twk nms ns t/\t.sz<=5) (fun σ' H2 pp=>?_) (λnx=>?_)
  .obtain⟨e2,⟨o5,o6,o7,rfl⟩,x,t,hx,tx,okt,st⟩:=pp;exact⟨_,rfl,l,_,_,_,rfl,rfl,A4.of hx,rfl,q x _ t e2 tx okt st⟩
  refine PD 5 (λj σ' H2=>Ae H H2/\(∃o5 o6 o7,σ'=[some (.int seed),some (.ref kl),some (.ref nl),some (.ref rx),some (.ref l),o5,o6,o7])/\∃xs ts,H2 l=some (.lst xs)/\Rd.StK H2 nms ns xs ts 5/\xs.length+j<=5/\0<xs.length) ⟨eH,⟨_,_,_,rfl⟩,xs,ts,hxs,⟨hS.at',hS.ok,by have:=hS.sum;lia⟩,by lia,hpos⟩ (λj σ' H' hj pp=>?_) (MT.test (ME.op (MR.i0 _) (ME.cb MB.len (MA.cons (ME.var _) MA.nil)) (ME.c _)));obtain⟨eH,⟨o5,o6,o7,rfl⟩,xs,ts,hxs,hS,hNi,hpos⟩:=pp;refine⟨_,rfl,l,_,rfl,.inl (A4.of hxs),_,_,rfl,rfl,_,rfl,?_⟩;refine AB (λc2=>?_) (λc2=>?_)
  .have c2:=dT c2;refine⟨by lia,?_⟩;obtain⟨ys,x1,us,t1,M1,rfl,rfl,hS1,px,okx,m1⟩:=hS.pop hpos;rw[An,Bf]at c2 hNi;obtain⟨zs',x2,us2,t2,M2,rfl,rfl,hS2,py,oky,m2⟩:=hS1.pop (by lia);rw[An,Bf]at hNi;refine⟨_,rfl,.inl ⟨rfl,_,A4.of hxs⟩,l,_,x1,rfl,rfl,hxs,Cj.1,?_⟩;rw[Cj.2];dsimp only[Am];refine⟨_,rfl,.inl ⟨rfl,_,A4.of A3⟩,l,_,x2,rfl,rfl,A3,Cj.1,?_⟩;rw[Cj.2];dsimp only[Am];have tk0:TK H' (upd (upd H' l (.lst (zs'++[x2]))) l (.lst zs')):=(TK.upd hxs).trans (TK.upd A3);have hz:(upd (upd H' l (.lst (zs'++[x2]))) l (.lst zs')) l=some (.lst zs'):=A3;have u2:∀b,b≠l->(upd (upd H' l (.lst (zs'++[x2]))) l (.lst zs')) b=H' b:=λb hb=>by rw[Aa hb,Aa hb]
   generalize upd (upd H' l (.lst (zs'++[x2]))) l (.lst zs')=H2 at tk0 hz u2;have eH2:Ae H H2:=λb ob eb=>by rw[u2 _ (B0 eb hl0)];exact eH _ _ eb
   have sl2:=hS2.len;have f0:=BU (seed/5) (show(3:Int)≠0 by decide);have f1:=C0 (seed/5) (show(0:Int)<3 by decide);obtain⟨ch,hch,h3⟩:=PV f0 f1;refine⟨_,rfl,.inl ⟨rfl,_,A4.of hz⟩,_,rfl,_,_,rfl,rfl,⟨by decide,by decide⟩,_,_,rfl,rfl,(by show(0:Int)<3;decide),_,_,ch,rfl,rfl,(by decide +kernel),hch,_,rfl,_,rfl,_,x2,x1,t2,t1,rfl,h3,py.tk tk0,px.tk tk0,oky.ok,okx.ok,by lia,λv3 H6 e6 p6=>?_⟩;have hz6:=e6 _ _ hz;refine⟨l,_,_,rfl,rfl,hz6,Cu (by lia),?_⟩;have tk:TK H6 (upd H6 l (.lst (zs'++[v3]))):=TK.upd hz6;exact⟨λb ob eb=>by rw[Aa (B0 eb hl0)];exact e6 _ _ (eH2 _ _ eb),⟨_,_,_,rfl⟩,zs'++[v3],us2++[.j ⟨#[ch]⟩ t2 t1],A3,(((hS2.tk tk0).tk (Ae.tk e6)).tk tk).push (p6.tk tk) ⟨h3,oky,okx⟩ (by show M2+(t2.sz+t1.sz)<=5;lia),by rw[An,Bf];lia,by rw[An];exact Ge _⟩
  .have c2:=dF c2;obtain⟨ys,x1,us,t1,M1,rfl,rfl,hS1,px,okx,m1⟩:=hS.pop hpos;have y0:ys=[]:=by
    rw[An,Bf]at c2;exact Fm (by lia)
   subst y0;exact nx _ _ ⟨eH,⟨_,_,_,rfl⟩,x1,t1,hxs,px,okx,by lia⟩
theorem SS (T:Tx w K mg a):AQ P w K mg base B3 3 a.f_M a.d_M ["_law_cell_here","_law_names_here","_law_opened_here","_law_last"] Rd.spLoop28:=by
 have G_a :=@GT P w K mg base a T;have G_h :=@QC P w K mg base a T;refine T.F_M.ok Jg (λvs H Q E h=>?_) (λcdv A outer s H vs Q E hr h=>?_)
 .obtain⟨_,_,_,_,_,_,_,rfl,_⟩:=h;rfl
 obtain⟨c,nl,o,la,ns,ts,tl,rfl,hn,⟨vs,hO0,aO⟩,hol,⟨_,hok⟩,hla,okl,okh,q⟩:=h;have hnd:=hn.2.2.1;refine⟨_,(A5 (Ak (i:=4) Jg.nd rfl (.inl rfl) (AD G_a (hr.mono (by lia)) (by rfl) T.m_a T.F_a.kp T.b_a .nil Az (A0 (pv 0) (A0 A2 A1))))
  (A5 (Ak (i:=5) Jg.nd rfl (.inr rfl) (A8 BK (Bh (A0 Ab A1)) (Ef ["_law_one"] [none] (by rfl) (DD (pv 2)) YJ (λ_ _ _ _ _ _=>⟨(BB (i:=0) VW rfl (.inl rfl)),F7,(Aj (show F2 _ (IY K) from B7) (pv 0) A2 (λ_ _=>rfl))⟩))))
  (A5 (VS (i:=6) ["_law_name","_law_known"] [none,some 5] Jg.nd rfl (.inl rfl) (by rfl) (DD (C7 CH (pv 1) Cy (BW A2))) Tb (λ_ _ _ _ _ _=>⟨(BB (i:=0) Xj rfl (.inl rfl)),(Kq (Au (show BL _ _ (Io K true) from Jy) (pv 0) (pv 1) (by with_unfolding_all rfl))),(pv 0)⟩))
  (A5 (AM ((DG (Au Bs (A8 Bm (Aj AX (pv 4) A2 (λ_ _=>rfl)) A2) A2 (Ax _)) (DG (Au GO (Aj B7 (pv 3) A2 (λ_ _=>rfl)) (pv 6) (by with_unfolding_all rfl)) (DG (Au GO (Aj B7 (Aj B7 (pv 3) A2 (λ_ _=>rfl)) A2 (λ_ _=>rfl)) (pv 5) (by with_unfolding_all rfl)) (E8 (Au GO (Aj B7 (Aj B7 (pv 3) A2 (λ_ _=>rfl)) A2 (λ_ _=>rfl)) (pv 5) (by with_unfolding_all rfl))))))).pt
  (Af (Ay (pv 3)))
  AS)
  (A5 (Ak (i:=7) Jg.nd rfl (.inl rfl) (AD G_h (hr.mono (by lia)) (by rfl) T.m_h T.F_h.kp T.b_h .nil Az (A0 (Aj AX (pv 4) A2 (λ_ _=>rfl)) (A0 (Aj AX (pv 4) A2 (λ_ _=>rfl)) (A0 (pv 5) A1)))))
  (Af (Ay (EJ (Ai (Aj AX (pv 6) (A8 Bm (Aj AX (pv 4) A2 (λ_ _=>rfl)) (B6 Bw (by rfl) T.z_len Bq (A0 (pv 6) A1))) (λ_ _=>rfl)) (Ai (pv 7) (Ai (AD G_h (hr.mono (by lia)) (by rfl) T.m_h T.F_h.kp T.b_h .nil Az (A0 (Aj AX (pv 4) A2 (λ_ _=>rfl)) (A0 (Aj AX (pv 4) A2 (λ_ _=>rfl)) (A0 (pv 5) A1)))) C8 LZ) FA) Gr))))))))),?_⟩
 refine⟨_,rfl,c,6,rfl,by decide,by decide,λrx H1 s1 hx=>?_⟩;rw[show(6:Int).toNat=6 from rfl]at hx;generalize hxs:E5 c 6=xs at hx;have xl:xs.length=6:=by rw[←hxs,GB]
 have xm:∀y∈xs,0<=y/\y<2147483647:=λy hy=>IA (hxs▸hy);have atx:∀k:Nat,k<6->Bu (xs.map V.int) ((k:Nat):Int)=some (.int (xs.getD k 0)):=λk hk=>GC (ns:=xs) (k:=((k:Nat):Int)) (by lia) (by lia);have xb:∀k:Nat,k<6->0<=xs.getD k 0/\xs.getD k 0<2147483647:=λk hk=>by
  have hm:xs.getD k 0∈xs:=by rw[Gf,BC (by lia)];exact EY _
  exact xm _ hm
 dsimp only[Am];have vl:=aO.1;refine⟨Al rfl,λr1 hr1=>?_⟩;have s2:=A6 hr1 (.lst [V.str ""]);have e2:=s1.trans s2;have hO2:=e2 _ _ hO0;refine⟨_,rfl,o,rfl,⟨_,A4.of hO2⟩,?_⟩;refine G0 (xs:=vs) (λi ys H'=>H'=upd H1 r1 (.lst [V.str ""])/\ys=((ts.take i).map As.nm).map V.str) ⟨rfl,rfl⟩ (Ap (by lia)) (λi ys H' hi pp=>⟨by rw[pp.1];exact A4.of hO2,by rw[pp.2,Ag,Ag,Bb];lia⟩) (λi x ys H' hc pp=>?_) (λys H' pp r2 hr2=>?_)
 .obtain⟨rfl,rfl⟩:=pp;obtain⟨t,ht,p,xa,xb',rfl,hp,_,_⟩:=aO.get' hc;refine⟨_,rfl,p,_,0,_,rfl,rfl,Aw.of (e2 _ _ hp),rfl,rfl,?_⟩;rw[DB ht,AR,AR];rfl
 obtain⟨rfl,rfl⟩:=pp;rw[vl,El];have s3:=A6 hr2 (.lst ((ts.map As.nm).map V.str));refine⟨r1,r2,_,_,rfl,rfl,s3 _ _ A3,A3,Ap (by rw[Ag,Ag,Bf];lia),λkl hkl=>?_⟩;have s4:=A6 hkl (.lst ([V.str ""]++(ts.map As.nm).map V.str));have hk:Rd.KnAt (upd (upd (upd H1 r1 (.lst [V.str ""])) r2 (.lst ((ts.map As.nm).map V.str))) kl (.lst ([V.str ""]++(ts.map As.nm).map V.str))) kl (Rd.lnm ts):=⟨A3,by unfold Rd.lnm;rw[Ag];lia,λz hz=>by
  obtain⟨t,ht,rfl⟩:=CK.mp hz;exact(hok t ht).1⟩
 have e4:=(e2.trans s3).trans s4;have hx4:=(s2.trans (s3.trans s4)) _ _ hx;dsimp only[Am];generalize upd (upd (upd H1 r1 (.lst [V.str ""])) r2 (.lst ((ts.map As.nm).map V.str))) kl (.lst ([V.str ""]++(ts.map As.nm).map V.str))=H4 at s4 hk e4 hx4;obtain⟨kn,hkn⟩:∃kn,("":Str)::Rd.lnm ts=kn:=⟨_,rfl⟩
 have hkv:H4 kl=some (.lst (kn.map V.str)):=by rw[←hkn];exact hk.1
 have knl:kn.length<=3:=by rw[←hkn,AJ];unfold Rd.lnm;rw[Ag];lia
 have hn4:=hn.over e4;have ct:Cr (ns.map V.str) none (some 4)=(ns.take 4).map V.str:=by
  have:=F6 (ns.map V.str) (k:=4) (by decide);rw[Jq];exact this
 refine⟨_,rfl,_,rfl,nl,_,rfl,A4.of hn4.1,λp1 hp1=>?_⟩;rw[ct];have s5:=A6 hp1 (.lst ((ns.take 4).map V.str));have hp15:(upd H4 p1 (.lst ((ns.take 4).map V.str))) p1=some (.lst ((ns.take 4).map V.str)):=A3;have hk5:=hk.over s5;have hkv5:=s5 _ _ hkv;generalize upd H4 p1 (.lst ((ns.take 4).map V.str))=H5 at s5 hp15 hk5 hkv5;have n4:(ns.take 4).length=4:=by rw[Bb,hn.2.1];rfl
 have nd4:(ns.take 4).Nodup:=List.Nodup.sublist (R1 _ _) hnd;have n20:∀z∈ns.take 4,AW (cds z):=λz hz=>hn.2.2.2 z (EZ hz);generalize ns.take 4=n4s at hp15 n4 nd4 n20;have fl:((kn.map V.str).all Eo)=true:=by rw[LM];exact EB.mpr λ_ _=>rfl
 refine⟨p1,rfl,⟨_,A4.of hp15⟩,?_⟩;refine G0 (xs:=n4s.map V.str) (λi ys H3=>H3=H5/\ys=((n4s.take i).filter λz=>!decide (z∈kn)).map V.str) ⟨rfl,rfl⟩ (Ap (by rw[Ag];lia)) (λi ys H3 hi p=>?_) (λi x ys H3 hc p=>?_) (λys H3 p r3 hr3=>?_)
 .obtain⟨rfl,rfl⟩:=p;refine⟨A4.of hp15,?_⟩;rw[Ag];exact BP (Ju _ _) (by rw[Bb];lia)
 .obtain⟨rfl,rfl⟩:=p;rw[Ce]at hc;cases hz:n4s[i]? with
  |none=>rw[hz]at hc;cases hc
  |
   some z=>
   rw[hz]at hc;cases hc;refine⟨_,rfl,_,rfl,kl,_,rfl,.inl (A4.of hkv5),rfl,fl,_,rfl,?_⟩;show if(!Dd (V.str z) (kn.map V.str))=true then _ else _
   rw[Qk,DB hz,Gj,AR];refine AB (λc2=>?_) (λc2=>?_)
   .refine⟨_,rfl,rfl,?_⟩;rw[show List.filter (λz=>!decide (z∈kn)) [z]=[z] from List.filter_cons_of_pos (p:=λz=>!decide (z∈kn)) c2];rfl
   .refine⟨rfl,?_⟩;rw[show List.filter (λz=>!decide (z∈kn)) [z]=[] from List.filter_cons_of_neg (p:=λz=>!decide (z∈kn)) c2];show _=_++[];rw[D6]
 obtain⟨rfl,rfl⟩:=p;rw[Ag,El];have rsub:∀z∈(n4s.filter λz=>!decide (z∈kn)),AW (cds z)/\z∉kn:=λz hz=>⟨n20 z (GZ.mp hz).1,by have:=(GZ.mp hz).2;simpa using this⟩
 generalize hrest:(n4s.filter λz=>!decide (z∈kn))=rest at rsub;have rne:0<rest.length:=by
  refine Nat.pos_of_ne_zero λh0=>?_;have hnil:=List.length_eq_zero_iff.mp h0;rw[←hrest]at hnil;have:=ND nd4 (k:=kn) λx hx=>by simpa using List.filter_eq_nil_iff.mp hnil x hx
  lia
 have rle:rest.length<=4:=by rw[←hrest,←n4];exact Ju _ _
 have s6:=A6 hr3 (.lst (rest.map V.str));have h6r:(upd H3 r3 (.lst (rest.map V.str))) r3=some (.lst (rest.map V.str)):=A3;have e6:=e4.trans (s5.trans s6);have hx6:=(s5.trans s6) _ _ hx4;have hk6:=hk5.over s6;dsimp only[Am];have hkv6:=s6 _ _ hkv5;generalize upd H3 r3 (.lst (rest.map V.str))=H6 at s6 h6r e6 hx6 hk6 hkv6;have flr:((rest.map V.str).all Eo)=true:=by rw[LM];exact EB.mpr λ_ _=>rfl
 obtain⟨q0,xa,xb2,rfl,g0,⟨q1,rfl,g1⟩,⟨q2,rfl,g2⟩⟩:=hla.tk (Ae.tk e6);have hla6:Ea H6 (.ref q0) tl:=⟨q0,.ref q1,.ref q2,rfl,g0,⟨q1,rfl,g1⟩,⟨q2,rfl,g2⟩⟩
 refine Dp (fun σ' H'=>H'=H6/\σ'=[some (.int c),some (.ref nl),some (.ref o),some (.ref q0),some (.ref rx),some (.ref kl),some (.ref r3),none]) (fun σ' H' m=>?_) (λgo=>?_)
 .obtain⟨rfl,rfl⟩:=m;refine⟨_,rfl,rx,_,_,_,rfl,rfl,A4.of hx6,atx 0 (by decide),_,rfl,rx,_,_,_,rfl,rfl,A4.of hx6,atx 1 (by decide),_,rfl,_,_,kl,_,rfl,(xb 0 (by decide)).1,(xb 0 (by decide)).2,(xb 1 (by decide)).1,(xb 1 (by decide)).2,hk6,λrl H7 sl e7 hsl bl kl1=>?_⟩;dsimp only[Am];have h7r:=e7 _ _ h6r;have hx7:=e7 _ _ hx6;have lr:(((rest.map V.str).length:Nat):Int)=(rest.length:Int):=by rw[Ag]
  have m0:=BU (xs.getD 4 0) (show(((rest.map V.str).length:Nat):Int)≠0 by lia);have m1:=C0 (xs.getD 4 0) (show(0:Int)<(((rest.map V.str).length:Nat):Int) by lia);obtain⟨nz,hnz,nzi⟩:=Rd.strs_at (zs:=rest) m0 (by lia);obtain⟨nz1,nz2⟩:=rsub nz (CU nzi);refine⟨_,rfl,_,rfl,rx,_,_,_,rfl,rfl,A4.of hx7,atx 4 (by decide),_,rfl,r3,_,rfl,.inl (A4.of h7r),_,_,rfl,rfl,(by show(0:Int)<(((rest.map V.str).length:Nat):Int);lia),r3,_,_,_,rfl,rfl,A4.of h7r,hnz,_,rfl,?_⟩;refine⟨_,rfl,rx,_,_,_,rfl,rfl,A4.of hx7,atx 2 (by decide),_,rfl,rx,_,_,_,rfl,rfl,A4.of hx7,atx 3 (by decide),_,rfl,_,_,kl,_,rfl,(xb 2 (by decide)).1,(xb 2 (by decide)).2,(xb 3 (by decide)).1,(xb 3 (by decide)).2,hk6.over e7,λrh H8 sh e8 hsh bh kh1=>⟨Al rfl,λt ht=>?_⟩⟩;have s9:=A6 ht (.tup [V.str nz,rl,rh]);exact q _ _ ⟨nz,sl,sh⟩ (((e6.trans e7).trans e8).trans s9) ⟨t,rl,rh,rfl,A3,(hsl.tk (Ae.tk e8)).tk (Ae.tk s9),hsh.tk (Ae.tk s9)⟩ ⟨nz1,λz=>nz2 (by rw[←hkn];exact B5 _ z),bl,bh,kl1,kh1⟩
 .refine⟨_,rfl,rx,_,_,_,rfl,rfl,A4.of hx6,atx 5 (by decide),_,_,rfl,rfl,(by show(0:Int)<3;decide),rfl,_,rfl,?_⟩;refine AB (λ_=>?_) (λ_=>AL (go _ _ ⟨rfl,rfl⟩));refine⟨_,rfl,q0,_,0,_,rfl,rfl,Aw.of g0,rfl,_,rfl,r3,_,rfl,.inl (A4.of h6r),rfl,flr,_,rfl,?_⟩;refine AB (λy1=>?_) (λ_=>AL (go _ _ ⟨rfl,rfl⟩));refine⟨_,rfl,q0,_,1,_,rfl,rfl,Aw.of g0,rfl,q1,_,0,_,rfl,rfl,Aw.of g1,rfl,_,rfl,kl,_,rfl,.inl (A4.of hkv6),rfl,fl,_,rfl,?_⟩;refine AB (λy2=>?_) (λ_=>AL (go _ _ ⟨rfl,rfl⟩));refine⟨_,rfl,q0,_,2,_,rfl,rfl,Aw.of g0,rfl,q2,_,0,_,rfl,rfl,Aw.of g2,rfl,_,rfl,kl,_,rfl,.inl (A4.of hkv6),rfl,fl,_,rfl,?_⟩;refine AB (λy3=>?_) (λ_=>go _ _ ⟨rfl,rfl⟩);have inr:∀{z:Str} {l:List Str},Dd (V.str z) (l.map V.str)=true->z∈l:=fun{z l} h=>by rw[Rd.in_strs]at h;exact Jw h
  have kw:∀{s:Str×Int},s.1∈kn->Rd.knw (Rd.lnm ts) s=true:=fun{s} h=>by
   rw[←hkn]at h;unfold Rd.knw;rcases Av.mp h with h|h
   .rw[Bc h];rfl
   .rw[Bc h,NS]
  obtain⟨b1,b2⟩:=rsub _ (inr y1);exact⟨_,rfl,q _ _ tl e6 hla6 ⟨b1,λz=>b2 (by rw[←hkn];exact B5 _ z),okl,okh,kw (inr y2),kw (inr y3)⟩⟩
theorem XY (T:Tx w K mg a):AQ P w K mg base B3 6 a.f_s a.d_s ["_law_cell_here","_law_opened_here","_law_path","_law_names_here"] Rd.spDeed28:=by
 have G_a :=@GT P w K mg base a T;have G_o :=@Qa P w K mg base a T;have G_L :=@UO P w K mg base a T;refine T.F_s.ok Hl (λvs H Q E h=>?_) (λcdv A outer s H vs Q E hr h=>?_)
 .obtain⟨_,_,_,_,_,_,_,rfl,_⟩:=h;rfl
 obtain⟨c,o,pt,nl,ns,ts,path,rfl,hn,hO,⟨hol,hok⟩,hpt,hpl,q⟩:=h;refine⟨_,(A5 (Ak (i:=4) Hl.nd rfl (.inl rfl) (A8 BK (Bh (A0 Ab A1)) (Ef ["_law_one"] [none] (by rfl) (DD (pv 1)) UJ (λ_ _ _ _ _ _=>⟨(BB (i:=0) XR rfl (.inl rfl)),F7,(Aj (show F2 _ (IY K) from B7) (pv 0) A2 (λ_ _=>rfl))⟩))))
  (A5 (IZ (AD G_o (hr.mono (by lia)) (by rfl) T.m_o T.F_o.kp T.b_o .nil Az (A0 (AD G_a (hr.mono (by lia)) (by rfl) T.m_a T.F_a.kp T.b_a .nil Az (A0 (pv 0) (A0 A2 A1))) (A0 (pv 4) (A0 (pv 3) A1)))) (GP rfl (DO (BB (i:=5) Hl.nd rfl (.inl rfl)) (DO (BB (i:=6) Hl.nd rfl (.inl rfl)) (DO (BB (i:=7) Hl.nd rfl (.inl rfl)) Gu)))))
  (A5 (Ak (i:=8) Hl.nd rfl (.inl rfl) (AD G_L (hr.mono (by lia)) (by rfl) T.m_L T.F_L.kp T.b_L .nil Az (A0 (A8 CW (pv 0) A2) (A0 (pv 4) (A0 (pv 3) A1)))))
  (Af (Ay (EJ (Ai (pv 1) (Ai (pv 5) (Ai (pv 6) (Ai (Aj B7 (pv 8) A2 (λ_ _=>rfl)) (Ai (Du GA (by rfl) T.z_tuple Gw (A0 (pv 2) A1)) (Ai (A8 Be (A8 Be (pv 7) Ab) (Aj B7 (pv 8) A2 (λ_ _=>rfl))) C8 Hh) LZ) Gr) FA) FA) FA))))))),?_⟩
 obtain⟨vs,hO0,aO⟩:=id hO;have vl:=aO.1;refine⟨Al rfl,λr1 hr1=>?_⟩;have s2:=A6 hr1 (.lst [V.str ""]);have hO2:=s2 _ _ hO0;refine⟨_,rfl,o,rfl,⟨_,A4.of hO2⟩,?_⟩;refine G0 (xs:=vs) (λi ys H'=>H'=upd H r1 (.lst [V.str ""])/\ys=((ts.take i).map As.nm).map V.str) ⟨rfl,rfl⟩ (Ap (by lia)) (λi ys H' hi pp=>⟨by rw[pp.1];exact A4.of hO2,by rw[pp.2,Ag,Ag,Bb];lia⟩) (λi x ys H' hc pp=>?_) (λys H' pp r2 hr2=>?_)
 .obtain⟨rfl,rfl⟩:=pp;obtain⟨t,ht,p,xa,xb',rfl,hp,_,_⟩:=aO.get' hc;refine⟨_,rfl,p,_,0,_,rfl,rfl,Aw.of (s2 _ _ hp),rfl,rfl,?_⟩;rw[DB ht,AR,AR];rfl
 obtain⟨rfl,rfl⟩:=pp;rw[vl,El];have s3:=A6 hr2 (.lst ((ts.map As.nm).map V.str));refine⟨r1,r2,_,_,rfl,rfl,s3 _ _ A3,A3,Ap (by rw[Ag,Ag,Bf];lia),λkl hkl=>?_⟩;have s4:=A6 hkl (.lst ([V.str ""]++(ts.map As.nm).map V.str));have hk:Rd.KnAt (upd (upd (upd H r1 (.lst [V.str ""])) r2 (.lst ((ts.map As.nm).map V.str))) kl (.lst ([V.str ""]++(ts.map As.nm).map V.str))) kl (Rd.lnm ts):=⟨A3,by unfold Rd.lnm;rw[Ag];exact hol,λz hz=>by
  obtain⟨t,ht,rfl⟩:=CK.mp hz;exact(hok t ht).1⟩
 have e4:=(s2.trans s3).trans s4;dsimp only[Am];generalize upd (upd (upd H r1 (.lst [V.str ""])) r2 (.lst ((ts.map As.nm).map V.str))) kl (.lst ([V.str ""]++(ts.map As.nm).map V.str))=H4 at s4 hk e4;refine⟨_,rfl,c,5,rfl,by decide,by decide,λrx H5 e5 hx=>?_⟩;rw[show(5:Int).toNat=5 from rfl]at hx;have e05:=e4.trans e5;refine⟨_,rfl,_,rfl,rx,kl,nl,E5 c 5,_,ns,rfl,hx,GB c 5,λy hy=>IA hy,hk.over e5,hn.over e05,λr p H6 z sp e6 hr6 hp6 lk=>?_⟩;have ok:=lk.tok;refine⟨r,_,rfl,Aw.of hr6,rfl,_,_,rfl,_,_,rfl,_,_,rfl,rfl,?_⟩;have e06:=e05.trans e6;refine⟨_,rfl,_,_,rfl,rfl,⟨by decide,by decide⟩,_,rfl,_,rfl,_,kl,nl,_,ns,rfl,hk.over (e5.trans e6),hn.over e06,λx H7 t e7 tp okt st=>?_⟩;dsimp only[Am];obtain⟨tt,y,rfl,htt,hy⟩:=tp;have e07:=e06.trans e7;have cl:=Kj ok.1 ok.2.1 ok.2.2;have wl:=Tw.wr_len okt.ok;have e3:(" = ":Str).length=3:=by decide +kernel
 refine⟨_,rfl,_,rfl,_,rfl,_,rfl,tt,_,2,_,rfl,rfl,Aw.of htt,rfl,_,rfl,pt,_,rfl,.inl ⟨A4.of (e07 _ _ hpt),λtp htp=>?_⟩⟩;have s8:=A6 htp (.tup (path.map V.int));refine⟨_,rfl,_,_,rfl,rfl,Ap (by lia),_,rfl,tt,_,0,_,rfl,rfl,Aw.of (s8 _ _ htt),rfl,_,_,rfl,rfl,Ap (by rw[AO];lia),Al rfl,λu hu=>?_⟩;have s9:=A6 hu (.tup [V.ref o,V.str z,V.ref p,y,V.ref tp,V.str (AY z sp++" = "++t.wr)]);have e89:=s8.trans s9;exact q _ _ ⟨ts,z,sp,t,path⟩ (e07.trans e89) ⟨u,p,tp,y,rfl,A3,hO.over (e07.trans e89),(hp6.tk (Ae.tk e7)).tk (Ae.tk e89),hy.tk (Ae.tk e89),s9 _ _ A3⟩ ⟨lk,okt,st⟩ rfl rfl
theorem Xz (T:Tx w K mg a):AQ P w K mg base B3 7 a.f_N a.d_N ["_law_cells_here","_law_names_here"] (Rd.spProg28 K):=by
 have G_M :=@SS P w K mg base a T;have G_g :=@Qe P w K mg base a T;have G_s :=@XY P w K mg base a T;refine T.F_N.ok DF (λvs H Q E h=>?_) (λcdv A outer s H vs Q E hr h=>?_)
 .obtain⟨_,_,_,_,rfl,_⟩:=h;rfl
 obtain⟨cl,nl,cs,ns,rfl,hC,hcl,hn,q⟩:=h;refine⟨_,(A5 (Ak (i:=2) DF.nd rfl (.inl rfl) (Bh A1))
  (A5 (Ak (i:=3) DF.nd rfl (.inl rfl) (Bh (A0 A2 A1)))
  (A5 (Ak (i:=4) DF.nd rfl (.inl rfl) (Bh A1))
  (A5 (Ak (i:=5) DF.nd rfl (.inl rfl) (Bh A1))
  (A5 (Ak (i:=6) DF.nd rfl (.inl rfl) (EJ (Ai Ab (Ai (Cf (A0 Ab (A0 A2 A1))) (Ai (Cf (A0 Ab (A0 A2 A1))) C8 HX) HX) Ar)))
  (A5 (EI PassesOwn.never rfl (DD (pv 0)) (BB (i:=7) DF.nd rfl (.inl rfl))
  (A5 (AM (Au Bs (B6 Bw (by rfl) T.z_len Bq (A0 (pv 5) A1)) A2 (Ax _))
  (Af Sx)
  AS)
  (Af (AM ((DG (Au EK (A8 Bm (pv 7) A2) A2 (Ax _)) (E8 (Au EK (B6 Bw (by rfl) T.z_len Bq (A0 (pv 2) A1)) A2 (Ax _))))).pt
  (A5 (Ak (i:=8) DF.nd rfl (.inl rfl) (AD G_M (hr.mono (by lia)) (by rfl) T.m_M T.F_M.kp T.b_M .nil Az (A0 (A8 CW (pv 7) A2) (A0 (pv 1) (A0 (pv 2) (A0 (pv 6) A1))))))
  (A5 (Ak (i:=9) DF.nd rfl (.inl rfl) (A8 Be (A8 Be (A8 Be Ab (Aj B7 (pv 8) A2 (λ_ _=>rfl))) Ab) (AD G_g (hr.mono (by lia)) (by rfl) T.m_g T.F_g.kp T.b_g .nil Az (A0 (Aj B7 (pv 8) A2 (λ_ _=>rfl)) A1))))
  (A5 (BF (Bx BJ CC CF Ct (pv 4) (A0 (Cf (A0 (B6 Bw (by rfl) T.z_len Bq (A0 (pv 2) A1)) (A0 (A8 Be (A8 Be (pv 9) Ab) (AD G_g (hr.mono (by lia)) (by rfl) T.m_g T.F_g.kp T.b_g .nil Az (A0 (Aj B7 (pv 8) A2 (λ_ _=>rfl)) A1))) A1))) A1)))
  (A5 (Ak (i:=2) DF.nd rfl (.inl rfl) (A8 BK (pv 2) (Bh (A0 (pv 8) A1))))
  (Af (Ak (i:=3) DF.nd rfl (.inl rfl) (A8 BK (pv 3) (Bh (A0 A2 A1)))))))))
  (Af (AM ((DG (Au Bs (A8 Bm (pv 7) A2) A2 (Ax _)) (DG (Au (Hf (Fg hr)) (pv 2) (Bh A1) (Ax _)) (E8 (Au FH (Aj AX (pv 3) (Dh Dj A2) (λ_ _=>rfl)) A2 (Ax _)))))).pt
  (A5 (Ak (i:=6) DF.nd rfl (.inl rfl) (Aj AX (pv 2) (Dh Dj A2) (λ_ _=>rfl)))
  (A5 (Ak (i:=2) DF.nd rfl (.inl rfl) (C7 CH (pv 2) Cy (BW (Dh Dj A2))))
  (A5 (Ak (i:=3) DF.nd rfl (.inl rfl) (A8 BK (C7 CH (pv 3) Cy (BW (Dh Dj A2))) (Bh (A0 (A8 BG (Aj AX (pv 3) (Dh Dj A2) (λ_ _=>rfl)) A2) A1))))
  (Af (BF (Bx BJ CC CF Ct (pv 4) (A0 (Cf (A0 (B6 Bw (by rfl) T.z_len Bq (A0 (pv 2) A1)) (A0 Ab A1))) A1)))))))
  (A5 (BF (Bx BJ CC CF Ct (pv 5) (A0 (AD G_s (hr.mono (by lia)) (by rfl) T.m_s T.F_s.kp T.b_s .nil Az (A0 (A8 CW (pv 7) A2) (A0 (pv 2) (A0 (pv 3) (A0 (pv 1) A1))))) A1)))
  (A5 (BF (Bx BJ CC CF Ct (pv 4) (A0 (Cf (A0 (B6 Bw (by rfl) T.z_len Bq (A0 (pv 2) A1)) (A0 (Aj B7 (Aj AX (pv 5) (Dh Dj A2) (λ_ _=>rfl)) A2 (λ_ _=>rfl)) A1))) A1)))
  (Af (Ak (i:=3) DF.nd rfl (.inl rfl) (A8 BK (C7 CH (pv 3) Cy (BW (Dh Dj A2))) (Bh (A0 (A8 BG (Aj AX (pv 3) (Dh Dj A2) (λ_ _=>rfl)) A2) A1)))))))))))))
  (A5 (AM (Au Bs (Aj AX (pv 3) (Dh Dj A2) (λ_ _=>rfl)) A2 (Ax _))
  (A5 (BF (Bx BJ CC CF Ct (pv 5) (A0 (AD G_s (hr.mono (by lia)) (by rfl) T.m_s T.F_s.kp T.b_s .nil Az (A0 (B6 Bw (by rfl) T.z_len Bq (A0 (pv 0) A1)) (A0 (pv 2) (A0 (pv 3) (A0 (pv 1) A1))))) A1)))
  (Af (BF (Bx BJ CC CF Ct (pv 4) (A0 (Cf (A0 (B6 Bw (by rfl) T.z_len Bq (A0 (pv 2) A1)) (A0 (Aj B7 (Aj AX (pv 5) (Dh Dj A2) (λ_ _=>rfl)) A2 (λ_ _=>rfl)) A1))) A1)))))
  AS)
  (A5 (IT PassesOwn.never (Au (Hf (Fg hr)) (pv 2) (Bh A1) (Ax _))
  (A5 (Ak (i:=2) DF.nd rfl (.inl rfl) (C7 CH (pv 2) Cy (BW (Dh Dj A2))))
  (Af (BF (Bx BJ CC CF Ct (pv 4) (A0 (Cf (A0 (B6 Bw (by rfl) T.z_len Bq (A0 (pv 2) A1)) (A0 Ab A1))) A1))))))
  (Af (Ay (Cf (A0 (pv 4) (A0 (pv 5) A1))))))))))))),?_⟩
 have f4:("for ":Str).length=4:=by decide +kernel
 have f1:(" ":Str).length=1:=by decide +kernel
 have fe:("end":Str).length=3:=by decide +kernel
 refine⟨Al rfl,λo0 ho0=>?_⟩;refine⟨Al rfl,λpt0 hpt0=>?_⟩;refine⟨Al rfl,λrl hrl=>?_⟩;refine⟨Al rfl,λdl hdl=>?_⟩;refine⟨Al rfl,λq1 hq1=>?_⟩;refine⟨Al rfl,λq2 hq2=>?_⟩;refine⟨Al rfl,λla0 hla0=>?_⟩;have start:Cc H _ rl dl o0 pt0 (.ref la0) [] [0] [] [] ⟨"",("",0),("",0)⟩:=Cc.start ho0 hpt0 hrl hdl hq1 hq2 hla0;dsimp only[Am];generalize upd (upd (upd (upd (upd (upd (upd H o0 (HO.lst [])) pt0 (HO.lst [V.int 0])) rl (HO.lst [])) dl (HO.lst [])) q1 (HO.tup [V.str (Str.ofString ""),V.int 0])) q2 (HO.tup [V.str (Str.ofString ""),V.int 0])) la0 (HO.tup [V.str (Str.ofString ""),V.ref q1,V.ref q2])=HS at start;have ok0:Rd.SpN ("",0):=Rd.spn9.1;refine Dp (fun σ' H'=>∃(o pt:Addr) (la:V) (ts:List As) (path:List Int) (R:Pw.Rw As Str) (Ds:List Dw) (tl:As) (o7 o8 o9:Option V),σ'=[some (.ref cl),some (.ref nl),some (.ref o),some (.ref pt),some (.ref rl),some (.ref dl),some la,o7,o8,o9]/\Cc H H' rl dl o pt la ts path R Ds tl/\(∃ks pa y,Rd.Rn ns R ts path Ds ks pa y)/\Ds.length<=6/\R.length<=63) (fun σ' H' m=>?_) (λrest=>?_)
 .obtain⟨o,pt,la,ts,path,R,Ds,tl,o7,o8,o9,rfl,N,⟨ks,p,y,C⟩,d6,r60⟩:=m;obtain rfl:=C.pe;have t3:=C.nm.1;have hpt:=Cn _ _ N.pa;rw[AR]at hpt;refine Dp (fun σ' H'=>∃(o pt:Addr) (la:V) (ts:List As) (path:List Int) (R:Pw.Rw As Str) (Ds:List Dw) (tl:As) (o7 o8 o9:Option V),σ'=[some (.ref cl),some (.ref nl),some (.ref o),some (.ref pt),some (.ref rl),some (.ref dl),some la,o7,o8,o9]/\Cc H H' rl dl o pt la ts path R Ds tl/\(∃ks pa y,Rd.Rn ns R ts (pa++[y]) Ds ks pa y/\0<y)/\Ds≠[]/\R.length<=64) (fun σ' H' m=>?_) (λrest=>?_)
  .obtain⟨o,pt,la,ts,path,R,Ds,tl,o7,o8,o9,rfl,N,⟨ks,pa,y,C,y0⟩,dne,r61⟩:=m;have t3:=C.nm.1;show Dt (Ls _ _) (G9 _) _ _ _;refine Dp (fun σ' H'=>∃(o pt:Addr) (la:V) (path:List Int) (R':Pw.Rw As Str) (tl:As) (o7 o8 o9:Option V),σ'=[some (.ref cl),some (.ref nl),some (.ref o),some (.ref pt),some (.ref rl),some (.ref dl),some la,o7,o8,o9]/\Cc H H' rl dl o pt la [] path R' Ds tl/\(∃ks y,Rd.Rn ns R' [] [y] Ds ks [] y)/\R'.length<=70) (fun σ' H' m=>?_) (λnx=>?_)
   .obtain⟨o,pt,la,path,R',tl,o7,o8,o9,rfl,N,⟨ks,y,C⟩,r70⟩:=m;refine⟨_,rfl,_,rfl,Al rfl,λt ht=>?_⟩;have N2:=N.over (A6 ht (.tup [V.ref rl,V.ref dl]));obtain⟨xs,hxs,ax⟩:=N2.rows;obtain⟨ys,hys,ay⟩:=N2.deeds;exact q t rl dl _ xs ys _ Ds ks y N2.same A3 hxs ax hys (ay.mono λ_ _ z=>z.over Cn) C dne r70
   refine PD 4 (λj σ' H'=>∃(o pt:Addr) (la:V) (us:List As) (path:List Int) (R':Pw.Rw As Str) (tl:As) (o7 o8 o9:Option V),σ'=[some (.ref cl),some (.ref nl),some (.ref o),some (.ref pt),some (.ref rl),some (.ref dl),some la,o7,o8,o9]/\Cc H H' rl dl o pt la us path R' Ds tl/\us.length+j<=3/\R'.length<=64+j/\(∃ks pa y,Rd.Rn ns R' us (pa++[y]) Ds ks pa y/\0<y)) ⟨o,pt,la,ts,path,R,tl,o7,o8,o9,rfl,N,by lia,by lia,ks,pa,y,C,y0⟩ (λj σ' H' hj pp=>?_) (MT.test (ME.op (Rd.mr_eqE _ _) (ME.var _) (ME.lst MA.nil)));obtain⟨o,pt,la,us,path,R',tl,o7,o8,o9,rfl,N,uj,rj,ks,pa,y,C,y0⟩:=pp;refine⟨_,rfl,Al rfl,λp0 hp0=>?_⟩;have sp:=A6 hp0 (.lst []);have N2:=N.over sp;obtain⟨tr,htr0,htra⟩:=N2.op.over Cn;have htl:=htra.1;refine⟨o,p0,tr,rfl,rfl,A4.of htr0,A4.of A3,_,rfl,?_⟩;change if(!tr.isEmpty)=true then _ else _
   refine AB (λc3=>?_) (λc3=>?_)
   .have hne:0<us.length:=by
     have:¬tr=[]:=by simpa using c3
     have:=O0.mpr this;lia
    obtain⟨us',x,rfl,hu⟩:=Fc (l:=us) (n:=us.length-1) (by lia);refine⟨by lia,?_⟩;obtain⟨vs,h0,a0⟩:=N2.op;have vl:=a0.1;rw[An,Bf]at vl;obtain⟨vs',v,rfl,hv'⟩:=Fc vl;refine⟨_,rfl,_,rfl,_,rfl,o,_,rfl,A4.of (Cn _ _ h0),λp1 hp1=>?_⟩;have cv:Cr (vs'++[v]) none (some (-1))=vs':=Lr vs' [v] (Ge _) rfl;rw[cv];have a1:AN (Ea _) vs' us':=⟨hv',λi y t a b=>(a0.2 i y t (by rw[Ej (BQ.mp a).1];exact a) (by rw[Ej (BQ.mp b).1];exact b)).tk (Ae.tk Cn)⟩
    have N3:=N2.newO hp1 a1;obtain⟨vs2,h2,_⟩:=N3.op;have hp1':(upd (upd H' p0 (.lst [])) p1 (.lst vs')) p1=some (.lst vs'):=A3;dsimp only[Am];generalize upd (upd H' p0 (.lst [])) p1 (.lst vs')=H3 at N3 hp1' h2;obtain⟨xs,hxs,ax⟩:=N3.rows;have xl:=ax.1;refine⟨_,rfl,.inl ⟨rfl,_,A4.of hxs⟩,_,rfl,p1,_,rfl,.inl (A4.of hp1'),Al rfl,λt ht=>?_⟩;have s4:=A6 ht (.tup [V.int ((vs'.length:Nat):Int),V.str "end"]);refine⟨rl,_,_,rfl,rfl,s4 _ _ hxs,Cu (by lia),?_⟩;have N4:=(N3.over s4).row (p:=(us'.length,.fin)) (s4 _ _ hxs) (by rw[A3,hv'];rfl);rw[An,Bf]at uj;refine⟨p1,pt,la,us',path,R'++[(us'.length,.fin)],tl,_,_,_,rfl,N4,by lia,by rw[An,Bf];lia,?_⟩;have pl:=C.pl;rw[An,Bf]at pl;obtain⟨pa',m,rfl,_⟩:=Fc pl;have m0:0<=m:=C.p0.1 m (by simp);exact⟨_,pa',m+1,C.fin (by lia) us'.length,by lia⟩
   .have u0:us=[]:=by
     have:tr=[]:=by simpa using c3
     rw[this]at htl;exact Fm htl.symm
    subst u0;obtain rfl:pa=[]:=Fm C.pl;exact nx _ _ ⟨o,pt,la,path,R',tl,_,_,_,rfl,N2,⟨ks,y,C⟩,by lia⟩
  .refine⟨_,rfl,_,rfl,pt,_,_,_,rfl,rfl,A4.of hpt,GQ _ _ [] rfl,rfl,_,rfl,?_⟩;refine AB (λcy=>?_) (λcz=>?_)
   .have hlen:=(N.op).over Cn;refine⟨_,rfl,.inl ⟨rfl,_,A4.of (N.deeds.choose_spec.1)⟩,_,rfl,cl,_,rfl,.inl (N.same.seq hC),_,rfl,_,rfl,_,rfl,_,o,pt,nl,ns,ts,p++[y],rfl,hn.over N.same,hlen,C.nm,Cn _ _ N.pa,C.len,λr H2 D e2 hD okD eL eP=>?_⟩;have N2:=N.over e2;obtain⟨ys,hys,ay⟩:=N2.deeds;obtain⟨xs,hxs,ax⟩:=N2.rows;have yl:=ay.1;have xl:=ax.1;refine⟨dl,_,_,rfl,rfl,hys,Cu (by lia),?_⟩;have hDw:DZ (wo2 H2 rl dl) r D:=hD.wo2' hxs hys N2.op eL;have N3:=N2.deed hys hDw;obtain⟨oD,pD,psD,ptD,shD,rfl,hpD,_⟩:=id hDw;have hpD3:(upd H2 dl (.lst (ys++[.ref pD]))) pD=some (.tup [.ref oD,.str D.tbl,.ref psD,shD,.ref ptD,.str D.txt]):=(TK.upd hys) _ _ (Cn _ _ hpD);have hdl3:(upd H2 dl (.lst (ys++[.ref pD]))) dl=some (.lst (ys++[.ref pD])):=A3;generalize upd H2 dl (.lst (ys++[.ref pD]))=H3 at N3 hpD3 hdl3;obtain⟨xs,hxs,ax⟩:=N3.rows;obtain⟨vs,hvs,av⟩:=N3.op;have vl:=av.1;have xl:=ax.1;refine⟨_,rfl,.inl ⟨rfl,_,A4.of hxs⟩,_,rfl,o,_,rfl,.inl (A4.of (Cn _ _ hvs)),_,rfl,_,rfl,dl,_,_,_,rfl,rfl,A4.of hdl3,GQ _ _ [] rfl,pD,_,5,_,rfl,rfl,Aw.of hpD3,rfl,Al rfl,λt ht=>?_⟩;have s4:=A6 ht (.tup [V.int ((vs.length:Nat):Int),V.str D.txt]);refine⟨rl,_,_,rfl,rfl,s4 _ _ hxs,Cu (by lia),?_⟩;have N4:=(N3.over s4).row (p:=(ts.length,.row D.txt)) (s4 _ _ hxs) (by rw[A3,vl];rfl);have y0:y=0:=V.int.inj (dT cy);have d5:Ds.length<=5:=C.l6.resolve_right (by lia);exact rest _ _ ⟨o,pt,la,ts,p++[y],R++[(ts.length,.row D.txt)],Ds++[D],tl,_,_,_,rfl,N4,⟨_,p,y+1,C.ded okD eL eP d5 ts.length,by lia⟩,by simp,by rw[An,Bf];lia⟩
   .have y0:y≠0:=λe=>dF cz (congrArg V.int e);have y1:0<y:=by have:=C.p0.2;lia
    exact rest _ _ ⟨o,pt,la,ts,p++[y],R,Ds,tl,_,_,_,rfl,N,⟨ks,p,y,C,y1⟩,C.dn y1,by lia⟩
 .refine⟨_,rfl,cl,rfl,⟨_,start.same.seq hC⟩,?_⟩;refine GY (xs:=cs.map V.int) (λi σ' H'=>∃(o pt:Addr) (la:V) (ts:List As) (path:List Int) (R:Pw.Rw As Str) (Ds:List Dw) (tl:As) (o7 o8 o9:Option V),σ'=[some (.ref cl),some (.ref nl),some (.ref o),some (.ref pt),some (.ref rl),some (.ref dl),some la,o7,o8,o9]/\Cc H H' rl dl o pt la ts path R Ds tl/\(∃ks pa y,Rd.Rn ns R ts path Ds ks pa y)/\Ds.length<=6/\R.length<=i/\Rd.SpN tl.lo/\Rd.SpN tl.hi) ⟨o0,pt0,.ref la0,[],[0],[],[],_,_,_,_,rfl,start,⟨_,_,_,Rd.Rn.start ns⟩,BI _,Aq _,ok0,ok0⟩ (λi σ' H' _ p=>by obtain⟨_,_,_,_,_,_,_,_,_,_,_,_,N,_⟩:=p;exact N.same.seq hC) (λi x σ' H' hx p=>?_) (fun σ' H' p=>?_);rotate_left
  .obtain⟨o,pt,la,ts,path,R,Ds,tl,o7,o8,o9,rfl,N,⟨ks,pa,la1,C⟩,d6,ri,lok,hok⟩:=p;rw[Ag]at ri;exact rest _ _ ⟨o,pt,la,ts,path,R,Ds,tl,_,_,_,rfl,N,⟨_,_,_,C⟩,d6,by lia⟩
  obtain⟨o,pt,la,ts,path,R,Ds,tl,o7,o8,o9,rfl,N,⟨ks,pa,la1,C⟩,d6,ri,lok,hok⟩:=p;have t3:=C.nm.1;have hi:i<cs.length:=by have:=(BQ.mp hx).1;rwa [Ag]at this
  obtain⟨c,rfl⟩:∃c,x=V.int c:=by
   rw[Ce]at hx;cases e:cs[i]? with
   |none=>rw[e]at hx;cases hx
   |some z=>rw[e]at hx;exact⟨z,(Co hx).symm⟩
  obtain⟨ys0,hys0,ay0⟩:=N.deeds;have yl0:=ay0.1;dsimp only[Am];refine⟨_,rfl,dl,_,rfl,.inl (A4.of hys0),rfl,_,rfl,?_⟩;refine AB (λ_=>rest _ _ ⟨o,pt,la,ts,path,R,Ds,tl,_,_,_,rfl,N,⟨_,_,_,C⟩,d6,by lia⟩) (λc6=>?_);have D5:Ds.length<=5:=by
   have:=dF c6;have h2:¬((ys0.length:Nat):Int)=6:=λz=>this (congrArg V.int z);lia
  dsimp only[M6];refine MQ (λH2=>H2=H') (λH2 e=>?_) (λels=>?_)
  .subst e;refine MQ (λH3=>Ae H2 H3) (λH3 e2=>?_) (λels2=>?_)
   ·
    have N2:=N.over e2;obtain rfl:=C.pe;have hp:=C.pl;obtain⟨ys1,hys1,_⟩:=N2.deeds;refine⟨_,rfl,.inl ⟨rfl,_,A4.of hys1⟩,_,rfl,_,_,rfl,rfl,⟨by decide,by decide⟩,_,rfl,_,rfl,_,rfl,_,o,pt,nl,ns,ts,pa++[la1],rfl,hn.over N2.same,N2.op.over Cn,C.nm,Cn _ _ N2.pa,C.len,λr H4 D e4 hD okD eL eP=>?_⟩;have N4:=N2.over e4;obtain⟨ys,hys,ay⟩:=N4.deeds;obtain⟨xs,hxs,ax⟩:=N4.rows;have yl:=ay.1;refine⟨dl,_,_,rfl,rfl,hys,Cu (by lia),?_⟩;have hDw:DZ (wo2 H4 rl dl) r D:=hD.wo2' hxs hys N4.op eL;have N5:=N4.deed hys hDw;obtain⟨oD,pD,psD,ptD,shD,rfl,hpD,_⟩:=id hDw;have hpD3:(upd H4 dl (.lst (ys++[.ref pD]))) pD=some (.tup [.ref oD,.str D.tbl,.ref psD,shD,.ref ptD,.str D.txt]):=(TK.upd hys) _ _ (Cn _ _ hpD);have hdl3:(upd H4 dl (.lst (ys++[.ref pD]))) dl=some (.lst (ys++[.ref pD])):=A3;generalize upd H4 dl (.lst (ys++[.ref pD]))=H5 at N5 hpD3 hdl3;obtain⟨xs,hxs,ax⟩:=N5.rows;obtain⟨vs,hvs,av⟩:=N5.op;have vl:=av.1;have xl:=ax.1;refine⟨_,rfl,.inl ⟨rfl,_,A4.of hxs⟩,_,rfl,o,_,rfl,.inl (A4.of (Cn _ _ hvs)),_,rfl,_,rfl,dl,_,_,_,rfl,rfl,A4.of hdl3,GQ _ _ [] rfl,pD,_,5,_,rfl,rfl,Aw.of hpD3,rfl,Al rfl,λt ht=>?_⟩;have s6:=A6 ht (.tup [V.int ((vs.length:Nat):Int),V.str D.txt]);refine⟨rl,_,_,rfl,rfl,s6 _ _ hxs,Cu (by lia),?_⟩;have N6:=(N5.over s6).row (p:=(ts.length,.row D.txt)) (s6 _ _ hxs) (by rw[A3,vl];rfl);have C2:=C.ded okD eL eP D5 ts.length;generalize upd (upd H5 t (.tup [V.int ((vs.length:Nat):Int),V.str D.txt])) rl (.lst (xs++[.ref t]))=H6 at N6;have hpt:=Cn _ _ N6.pa;rw[AR]at hpt;refine⟨_,rfl,_,rfl,_,rfl,pt,_,rfl,A4.of hpt,λp1 hp1=>?_⟩;have cc:Cr (List.map V.int pa++List.map V.int [la1]) none (some (-1))=pa.map V.int:=Lr (pa.map V.int) [V.int la1] (Ge _) rfl;rw[cc];have s7:=A6 hp1 (.lst (pa.map V.int));refine⟨_,rfl,_,rfl,pt,_,_,_,rfl,rfl,A4.of (s7 _ _ hpt),GQ _ _ [] rfl,_,_,rfl,rfl,Al rfl,λp2 hp2=>?_⟩;have s8:=A6 hp2 (.lst [V.int (la1+1)]);refine⟨p1,p2,_,_,rfl,rfl,s8 _ _ A3,A3,Ap (by rw[Ag,hp];show ts.length+1<=1000000;lia),λp3 hp3=>?_⟩;have N9:=((N6.over s7).over s8).newP (path':=pa++[la1+1]) hp3;rw[AR]at N9;exact⟨o,p3,la,ts,pa++[la1+1],_,_,tl,_,_,_,rfl,N9,⟨_,_,_,C2⟩,by rw[An,Bf];lia,by rw[An,Bf];lia,lok,hok⟩
   .refine⟨_,rfl,_,_,rfl,rfl,(by show(0:Int)<5;decide),rfl,_,rfl,?_⟩;refine AB (λ_=>?_) (λ_=>AL (els2 _ (Ae.refl _)));refine⟨_,rfl,Al rfl,λp0 hp0=>?_⟩;have sp:=A6 hp0 (.lst []);have N2:=N.over sp;obtain⟨tr,htr0,htra⟩:=N2.op.over Cn;have htl:=htra.1;refine⟨o,p0,tr,rfl,rfl,A4.of htr0,A4.of A3,_,rfl,?_⟩;change if(!tr.isEmpty)=true then _ else _
    refine AB (λc3=>?_) (λ_=>AL (els2 _ sp));have hne:0<ts.length:=by
     have:¬tr=[]:=by simpa using c3
     have:=O0.mpr this;lia
    obtain⟨ts',x,rfl,hu⟩:=Fc (l:=ts) (n:=ts.length-1) (by lia);have pl:=C.pl;rw[An,Bf]at pl;obtain⟨p,y,rfl,hp⟩:=Fc pl;obtain rfl:=C.pe;have z0':=C.p0.2;have C':=C;rw[Br]at N N2;obtain⟨z,rfl⟩:∃z,z=la1:=⟨_,rfl⟩
    have N2:Cc H _ rl dl o pt la (ts'++[x]) (p++[y,z]) R Ds tl:=N2;have hpt:=Cn _ _ N2.pa;rw[AR]at hpt;have hat1:Bu (p.map V.int++List.map V.int [y,z]) (-1)=some (V.int z):=by
     have:=GQ (p.map V.int++[V.int y]) (V.int z) [] (n := -1) rfl;rw[Br]at this;exact this
    have hat2:Bu (p.map V.int++List.map V.int [y,z]) (-2)=some (V.int y):=GQ (p.map V.int) (V.int y) [V.int z] rfl;have hcut:Cr (p.map V.int++List.map V.int [y,z]) none (some (-2))=p.map V.int:=Lr (p.map V.int) [V.int y,V.int z] (Ge _) rfl;refine⟨_,rfl,_,rfl,pt,_,_,_,rfl,rfl,A4.of hpt,hat1,_,_,rfl,rfl,_,rfl,?_⟩;refine AB (λcz=>?_) (λ_=>els2 _ sp);have z0:z≠0:=by have:=dT cz;lia
    obtain⟨vs,h0,a0⟩:=N2.op;have vl:=a0.1;rw[An,Bf]at vl;obtain⟨vs',v,rfl,hv'⟩:=Fc vl;have hLv:Ea _ v x:=(a0.2 ts'.length v x (by rw[←hv',EA (Aq _),Fk];rfl) (by rw[EA (Aq _),Fk];rfl)).tk (Ae.tk Cn);have okx:=C'.nm.2 x (by simp);rw[An,Bf]at t3;refine⟨_,rfl,_,rfl,o,_,_,_,rfl,rfl,A4.of (Cn _ _ h0),GQ _ _ [] rfl,?_⟩;dsimp only[Am];refine⟨_,rfl,_,rfl,_,rfl,o,_,rfl,A4.of (Cn _ _ h0),λp1 hp1=>?_⟩;have cv:Cr (vs'++[v]) none (some (-1))=vs':=Lr vs' [v] (Ge _) rfl;rw[cv];have a1:AN (Ea _) vs' ts':=⟨hv',λi y t a b=>(a0.2 i y t (by rw[Ej (BQ.mp a).1];exact a) (by rw[Ej (BQ.mp b).1];exact b)).tk (Ae.tk Cn)⟩
    have N2':Cc H _ rl dl o pt v (ts'++[x]) (p++[y,z]) R Ds x:=⟨N2.same,N2.op,N2.pa,hLv,N2.rows,N2.deeds,N2.rne,N2.h0r,N2.h0d⟩
    have s7:=A6 hp1 (.lst vs');have N3:=N2'.newO hp1 a1;have hpt3:=s7 _ _ hpt;have hp1':(upd (upd H2 p0 (.lst [])) p1 (.lst vs')) p1=some (.lst vs'):=A3;dsimp only[Am];generalize upd (upd H2 p0 (.lst [])) p1 (.lst vs')=H3 at N3 hp1' hpt3;refine⟨_,rfl,_,rfl,_,rfl,pt,_,rfl,A4.of hpt3,λp2 hp2=>?_⟩;rw[hcut];have s8:=A6 hp2 (.lst (p.map V.int));refine⟨_,rfl,_,rfl,pt,_,_,_,rfl,rfl,A4.of (s8 _ _ hpt3),hat2,_,_,rfl,rfl,Al rfl,λp3 hp3=>?_⟩;have s9:=A6 hp3 (.lst [V.int (y+1)]);refine⟨p2,p3,_,_,rfl,rfl,s9 _ _ A3,A3,Ap (by rw[Ag];show p.length+1<=1000000;lia),λp4 hp4=>?_⟩;have N4:Cc H (upd (upd (upd H3 p2 (.lst (p.map V.int))) p3 (.lst [V.int (y+1)])) p4 (.lst (List.map V.int p++[V.int (y+1)]))) rl dl p1 p4 v ts' (p++[y+1]) R Ds x:=by
     have:=((N3.over s8).over s9).newP (path':=p++[y+1]) hp4;rw[AR]at this;exact this
    have hp14:=((s8.trans s9).trans (A6 hp4 (.lst (List.map V.int p++[V.int (y+1)])))) _ _ hp1';dsimp only[Am];generalize upd (upd (upd H3 p2 (.lst (p.map V.int))) p3 (.lst [V.int (y+1)])) p4 (.lst (List.map V.int p++[V.int (y+1)]))=H5 at N4 hp14;obtain⟨xs,hxs,ax⟩:=N4.rows;have xl:=ax.1;refine⟨_,rfl,.inl ⟨rfl,_,A4.of hxs⟩,_,rfl,p1,_,rfl,.inl (A4.of hp14),Al rfl,λt ht=>?_⟩;have s10:=A6 ht (.tup [V.int ((vs'.length:Nat):Int),V.str "end"]);refine⟨rl,_,_,rfl,rfl,s10 _ _ hxs,Cu (by lia),?_⟩;have N6:=(N4.over s10).row (p:=(ts'.length,.fin)) (s10 _ _ hxs) (by rw[A3,hv'];rfl);exact⟨p1,p4,v,ts',p++[y+1],_,Ds,x,_,_,_,rfl,N6,⟨_,_,_,C'.fin z0 ts'.length⟩,by lia,by rw[An,Bf];lia,okx.2.1,okx.2.2⟩
  .refine⟨_,rfl,_,_,rfl,rfl,(by show(0:Int)<5;decide),_,_,rfl,rfl,_,rfl,?_⟩;refine AB (λ_=>?_) (λ_=>AL (els _ rfl));obtain⟨vs,h0,a0⟩:=N.op;have vl:=a0.1;refine⟨_,rfl,o,_,rfl,.inl (A4.of (Cn _ _ h0)),_,_,rfl,rfl,_,rfl,?_⟩;refine AB (λc3=>?_) (λ_=>els _ rfl);have hi3:ts.length<3:=by have:=dT c3;lia
   refine⟨_,rfl,_,_,rfl,rfl,⟨by decide,by decide⟩,_,rfl,_,rfl,_,rfl,_,nl,o,la,ns,ts,tl,rfl,hn.over N.same,N.op.over Cn,by lia,C.nm,N.la,lok,hok,λr H2 t e2 hL lpk=>?_⟩;have okt:=lpk.ok;dsimp only[Am];obtain⟨pr,xa,xb,rfl,hpr,⟨qa,rfl,hqa⟩,⟨qb,rfl,hqb⟩⟩:=id hL;obtain⟨o1,o2,o3⟩:=id okt;have l2:=Hn o2;have l3:=Hn o3;refine⟨_,rfl,pr,_,0,_,rfl,rfl,Aw.of hpr,rfl,_,_,rfl,rfl,Ap (by lia),_,_,rfl,rfl,Ap (by rw[AO];lia),_,rfl,pr,_,1,_,rfl,rfl,Aw.of hpr,rfl,.ref qa,t.lo,rfl,⟨qa,rfl,hqa⟩,o2,_,_,rfl,rfl,Ap (by rw[AO,AO];lia),?_⟩;dsimp only[Am];have N2:=N.over e2;obtain⟨xs,hxs,ax⟩:=N2.rows;obtain⟨vs2,hvs2,a2⟩:=N2.op;have vl2:=a2.1;have xl:=ax.1;refine⟨_,rfl,.inl ⟨rfl,_,A4.of hxs⟩,_,rfl,o,_,rfl,.inl (A4.of (Cn _ _ hvs2)),_,rfl,_,_,rfl,rfl,Ap (by rw[AO,AO,AO];lia),_,rfl,pr,_,2,_,rfl,rfl,Aw.of hpr,rfl,.ref qb,t.hi,rfl,⟨qb,rfl,hqb⟩,o3,_,_,rfl,rfl,Ap (by rw[AO,AO,AO,AO];lia),Al rfl,λu hu=>?_⟩;have s3:=A6 hu (.tup [V.int ((vs2.length:Nat):Int),V.str (("for ":Str)++t.nm++" "++AI t.lo++" "++AI t.hi)]);refine⟨rl,_,_,rfl,rfl,s3 _ _ hxs,Cu (by lia),?_⟩;have N3:=(N2.over s3).row (p:=(ts.length,.opn t)) (s3 _ _ hxs) (by rw[A3,vl2];rfl);have hL3:Ea (upd (upd H2 u (.tup [V.int ((vs2.length:Nat):Int),V.str (("for ":Str)++t.nm++" "++AI t.lo++" "++AI t.hi)])) rl (.lst (xs++[.ref u]))) (.ref pr) t:=hL.tk ((Ae.tk s3).trans (TK.upd (s3 _ _ hxs)));generalize upd (upd H2 u (.tup [V.int ((vs2.length:Nat):Int),V.str (("for ":Str)++t.nm++" "++AI t.lo++" "++AI t.hi)])) rl (.lst (xs++[.ref u]))=H3 at N3 hL3;refine⟨_,rfl,_,rfl,Al rfl,λp1 hp1=>?_⟩;have s4:=A6 hp1 (.lst [V.ref pr]);have N4:=N3.over s4;obtain⟨vs4,hvs4,a4⟩:=N4.op;have vl4:=a4.1;refine⟨o,p1,vs4,[.ref pr],rfl,rfl,Cn _ _ hvs4,A3,Ap (by show vs4.length+1<=1000000;lia),λp2 hp2=>?_⟩;have N5:=N4.newO (ts':=ts++[t]) hp2 ((a4.mono λ_ _ z=>z.tk (Ae.tk Cn)).snoc (hL3.tk (Ae.tk s4)));dsimp only[Am];generalize upd (upd H3 p1 (.lst [V.ref pr])) p2 (.lst (vs4++[.ref pr]))=H5 at N5;refine⟨_,rfl,Al rfl,λp3 hp3=>?_⟩;have N6:=N5.over (A6 hp3 (.lst [V.int 0]));have hpt:=Cn _ _ N6.pa;have pb:=C.len;refine⟨pt,p3,_,_,rfl,rfl,hpt,A3,Ap (by rw[Ag];show path.length+1<=1000000;lia),λp4 hp4=>?_⟩;have N7:=N6.newP (path':=path++[0]) hp4;rw[AR]at N7;exact⟨p2,p4,la,_,_,_,Ds,tl,_,_,_,rfl,N7,⟨_,_,_,C.opn hi3 lpk D5 ts.length⟩,d6,by rw[An,Bf];lia,lok,hok⟩
theorem TU (T:Tx w K mg a):AQ P w K mg base B3 1 a.f_O a.d_O ["_law_texts"] Rd.spOpened:=by
 refine T.F_O.ok Kr (λvs H Q E h=>?_) (λcdv A outer s H vs Q E hr h=>?_)
 .obtain⟨_,_,_,_,_,rfl,_⟩:=h;rfl
 obtain⟨f,l,ks,D,ns,rfl,hl,hS,hok,kl,q⟩:=h;refine⟨_,(A5 (Ak (i:=1) Kr.nd rfl (.inl rfl) (Bh A1))
  (A5 (EI PassesOwn.never rfl (DD (pv 0)) (BB (i:=2) Kr.nd rfl (.inl rfl))
  (A5 (Ak (i:=3) Kr.nd rfl (.inl rfl) (Bx E2 NV NW JK (pv 2) (A0 Ab A1)))
  (A5 (AM (Au Bs (Aj AX (pv 3) A2 (λ_ _=>rfl)) Ab (Ax _))
  (Af (BF (Bx BJ CC CF Ct (pv 1) (A0 (Aj AX (pv 3) A2 (λ_ _=>rfl)) A1))))
  AS)
  (Af (AM (Au Bs (Aj AX (pv 3) A2 (λ_ _=>rfl)) Ab (Ax _))
  (Af (BF (Ed BJ EC ED Eg (pv 1))))
  AS)))))
  (Af (Ay (pv 1))))),?_⟩
 refine⟨Al rfl,λfo hfo=>?_⟩;have e0:=A6 hfo (.lst []);have hf0:(upd H fo (.lst [])) fo=some (.lst []):=A3;dsimp only[Am];generalize upd H fo (.lst [])=H0 at e0 hf0;have b32:cds (Str.ofString " ")=[32]:=by decide +kernel
 refine⟨_,rfl,l,rfl,⟨_,A4.of (e0 _ _ hl)⟩,?_⟩;refine GY (xs:=(ks.map Rd.rkS).map V.str) (λi σ' H'=>Ae H H'/\(∃o2 o3:Option V,σ'=[some (.ref l),some (.ref fo),o2,o3])/\∃Di,Rd.Stps f Di (ks.drop i) D/\H' fo=some (.lst ((Rd.lnm Di.lp).map V.str))/\Di.lp.length<=i) ⟨e0,⟨_,_,rfl⟩,Rd.D0,hS,hf0,Aq _⟩ (λi σ' H' _ p=>A4.of (p.1 _ _ hl)) (λi x σ' H' hx p=>?_) (fun σ' H' p=>?_)
 .obtain⟨e1,⟨o2,o3,rfl⟩,Di,hSi,hf1,li⟩:=p;rw[Ce,Ce]at hx;cases hk:ks[i]? with
  |none=>rw[hk]at hx;cases hx
  |
   some k=>
   rw[hk]at hx;cases hx;have hil:=(BQ.mp hk).1;have ed:ks.drop i=k::ks.drop (i+1):=by
    rw[Gi hil];rw[BC hil]at hk;rw[Co hk]
   rw[ed]at hSi;have okk:=hok k (CU hk);have kl2:=Rd.rk_len okk;dsimp only[Am];refine⟨_,rfl,rfl,_,_,rfl,rfl,by decide +kernel,?_,by lia,λwl ps hwl hs=>?_⟩
   .rw[b32];intro c hc;rw[Bt.mp hc];decide
   rw[b32]at hs;obtain rfl:ps=Rd.rkW k:=Rd.map_cds_inj (hs.fn (Rd.rk_split okk));have e2:=A6 hwl (.lst ((Rd.rkW k).map V.str));have hw2:(upd H' wl (.lst ((Rd.rkW k).map V.str))) wl=some (.lst ((Rd.rkW k).map V.str)):=A3;have hf2:=e2 _ _ hf1;have e12:=e1.trans e2;dsimp only[Am];generalize upd H' wl (.lst ((Rd.rkW k).map V.str))=H2 at e2 hw2 hf2 e12;have put:∀{u:HO},Ae H (upd H2 fo u):=fun{u} b o eb=>by rw[Aa (B0 eb hfo)];exact e12 b o eb
   cases hSi with
   |@cons _ D' _ _ _ st rest=>
   cases k with
   |
    sz n=>
    obtain⟨_,_,_,rfl⟩:=st;refine⟨_,rfl,wl,_,_,_,rfl,rfl,A4.of hw2,rfl,rfl,_,rfl,AL ?_⟩;exact⟨_,rfl,wl,_,_,_,rfl,rfl,A4.of hw2,rfl,rfl,_,rfl,AL ⟨e12,⟨_,_,rfl⟩,_,rest,hf2,LI li⟩⟩
   |
    opn t=>
    obtain⟨_,_,_,_,_,_,_,_,rfl⟩:=st;refine⟨_,rfl,wl,_,_,_,rfl,rfl,A4.of hw2,rfl,rfl,_,rfl,AG ?_⟩;have lb:((Rd.lnm Di.lp).map V.str).length<=1000:=by unfold Rd.lnm;rw[Ag,Ag];lia
    refine⟨_,rfl,.inl ⟨rfl,_,A4.of hf2⟩,_,rfl,wl,_,_,_,rfl,rfl,A4.of hw2,rfl,fo,_,_,rfl,rfl,hf2,Cu (by lia),?_⟩;have hw3:(upd H2 fo (.lst ((Rd.lnm Di.lp).map V.str++[.str t.nm]))) wl=_:=(Aa (Ne.symm (B0 hf1 hwl))).trans hw2;refine⟨_,rfl,wl,_,_,_,rfl,rfl,A4.of hw3,rfl,rfl,_,rfl,AL ⟨put,⟨_,_,rfl⟩,_,rest,?_,?_⟩⟩
    .rw[A3];show _=some (HO.lst ((Rd.lnm (Di.lp++[t])).map V.str));unfold Rd.lnm;rw[AR,AR];rfl
    .show(Di.lp++[t]).length<=i+1;rw[An,Bf];lia
   |
    fin=>
    obtain⟨_,lp,t,pa,m,el,_,_,rfl⟩:=st;refine⟨_,rfl,wl,_,_,_,rfl,rfl,A4.of hw2,rfl,rfl,_,rfl,AL ?_⟩;refine⟨_,rfl,wl,_,_,_,rfl,rfl,A4.of hw2,rfl,rfl,_,rfl,AG ?_⟩;have hf3:H2 fo=some (.lst ((Rd.lnm lp).map V.str++[.str t.nm])):=by
     rw[hf2,el];unfold Rd.lnm;rw[AR,AR];rfl
    refine⟨_,rfl,.inl ⟨rfl,_,A4.of hf3⟩,fo,_,_,rfl,rfl,hf3,Cj.1,?_⟩;rw[Cj.2];rw[el,An]at li;exact⟨put,⟨_,_,rfl⟩,_,rest,A3,by show lp.length<=i+1;lia⟩
   |
    ded tb sp es t=>
    obtain⟨_,_,_,_,_,_,_,_,_,rfl⟩:=st;obtain⟨nms,lk,_,_,_⟩:=okk;have ne:∀{u:Str},91∉cds u->decide (V.str (AY tb sp)=V.str u)=false:=fun{u} h=>Bg λe=>h (by
     rw[←V.str.inj e,Rd.cel_cds lk.ok.2.1];exact Cz _ AH)
    refine⟨_,rfl,wl,_,_,_,rfl,rfl,A4.of hw2,rfl,rfl,_,rfl,?_⟩;rw[ne (by decide +kernel)];refine AL ?_;refine⟨_,rfl,wl,_,_,_,rfl,rfl,A4.of hw2,rfl,rfl,_,rfl,?_⟩;rw[ne (by decide +kernel)];exact AL ⟨e12,⟨_,_,rfl⟩,_,rest,hf2,LI li⟩
 .obtain⟨e1,⟨o2,o3,rfl⟩,Di,hSi,hf1,li⟩:=p;rw[Ag,Ag,NX]at hSi;cases hSi;exact⟨_,rfl,q fo _ e1 hf1⟩
theorem PN (T:Tx w K mg a):AQ P w K mg base B3 2 a.f_p a.d_p ["_law_cell_here"] Rd.spOdd:=by
 have G_a :=@GT P w K mg base a T;refine T.F_p.ok DT (λvs H Q E h=>?_) (λcdv A outer s H vs Q E hr h=>?_)
 .obtain⟨_,rfl,_⟩:=h;rfl
 obtain⟨c,rfl,q⟩:=h;refine⟨_,(A5 (Ak (i:=1) DT.nd rfl (.inl rfl) (Dq (Ai Ab (Ai Ab (Ai Ab (Ai Ab (Ai Ab (Ai Ab (Ai Ab (Ai Ab C8 Ar) Ar) Ar) Ar) Ar) Ar) Ar) Ar)))
  (A5 (Ak (i:=1) DT.nd rfl (.inl rfl) (A8 BK (pv 1) (Dq (Ai Ab (Ai Ab (Ai Ab (Ai Ab (Ai Ab (Ai Ab C8 Ar) Ar) Ar) Ar) Ar) Ar))))
  (A5 (Ak (i:=1) DT.nd rfl (.inl rfl) (A8 BK (pv 1) (Dq (Ai Ab (Ai Ab (Ai Ab (Ai Ab (Ai Ab (Ai Ab (Ai Ab (Ai Ab (Ai Ab (Ai Ab C8 Ar) Ar) Ar) Ar) Ar) Ar) Ar) Ar) Ar) Ar))))
  (A5 (Ak (i:=1) DT.nd rfl (.inl rfl) (A8 BK (pv 1) (Dq (Ai Ab (Ai Ab (Ai Ab (Ai Ab (Ai Ab (Ai Ab (Ai Ab (Ai Ab C8 Ar) Ar) Ar) Ar) Ar) Ar) Ar) Ar))))
  (A5 (Ak (i:=1) DT.nd rfl (.inl rfl) (A8 BK (pv 1) (Dq (Ai Ab (Ai Ab (Ai Ab (Ai Ab (Ai Ab (Ai Ab (Ai Ab C8 Ar) Ar) Ar) Ar) Ar) Ar) Ar))))
  (A5 (Ak (i:=1) DT.nd rfl (.inl rfl) (A8 BK (pv 1) (Dq (Ai Ab (Ai Ab (Ai Ab (Ai Ab (Ai Ab (Ai Ab (Ai Ab C8 Ar) Ar) Ar) Ar) Ar) Ar) Ar))))
  (A5 (Ak (i:=1) DT.nd rfl (.inl rfl) (A8 BK (pv 1) (Dq (Ai Ab (Ai Ab (Ai Ab (Ai Ab (Ai Ab (Ai Ab (Ai Ab C8 Ar) Ar) Ar) Ar) Ar) Ar) Ar))))
  (A5 (Ak (i:=1) DT.nd rfl (.inl rfl) (A8 BK (pv 1) (Dq (Ai Ab (Ai Ab (Ai Ab (Ai Ab (Ai Ab (Ai Ab (Ai Ab C8 Ar) Ar) Ar) Ar) Ar) Ar) Ar))))
  (A5 (Ak (i:=1) DT.nd rfl (.inl rfl) (A8 BK (pv 1) (Dq (Ai Ab (Ai Ab (Ai Ab (Ai Ab (Ai Ab (Ai Ab (Ai Ab C8 Ar) Ar) Ar) Ar) Ar) Ar) Ar))))
  (A5 (Ak (i:=1) DT.nd rfl (.inl rfl) (A8 BK (pv 1) (Dq (Ai Ab (Ai Ab (Ai Ab (Ai Ab (Ai Ab C8 Ar) Ar) Ar) Ar) Ar))))
  (A5 (Ak (i:=1) DT.nd rfl (.inl rfl) (A8 BK (pv 1) (Dq (Ai Ab (Ai Ab (Ai Ab (Ai Ab (Ai Ab (Ai Ab (Ai Ab C8 Ar) Ar) Ar) Ar) Ar) Ar) Ar))))
  (A5 (Ak (i:=1) DT.nd rfl (.inl rfl) (A8 BK (pv 1) (Dq (Ai Ab (Ai Ab (Ai Ab (Ai Ab (Ai Ab (Ai Ab C8 Ar) Ar) Ar) Ar) Ar) Ar))))
  (A5 (Ak (i:=1) DT.nd rfl (.inl rfl) (A8 BK (pv 1) (Dq (Ai Ab (Ai Ab (Ai Ab (Ai Ab C8 Ar) Ar) Ar) Ar))))
  (Af (Ay (Aj AX (pv 1) (A8 Bm (Aj AX (AD G_a (hr.mono (by lia)) (by rfl) T.m_a T.F_a.kp T.b_a .nil Az (A0 (pv 0) (A0 A2 A1))) A2 (λ_ _=>rfl)) (B6 Bw (by rfl) T.z_len Bq (A0 (pv 1) A1))) (λ_ _=>rfl))))))))))))))))),?_⟩
 refine⟨Al rfl,λl0 h0=>?_⟩;dsimp only[Am];refine⟨_,rfl,Al rfl,λd1 e1=>⟨l0,d1,_,_,rfl,rfl,A6 e1 _ _ _ A3,A3,Al rfl,λl1 h1=>?_⟩⟩;dsimp only[Am];refine⟨_,rfl,Al rfl,λd2 e2=>⟨l1,d2,_,_,rfl,rfl,A6 e2 _ _ _ A3,A3,Al rfl,λl2 h2=>?_⟩⟩;dsimp only[Am];refine⟨_,rfl,Al rfl,λd3 e3=>⟨l2,d3,_,_,rfl,rfl,A6 e3 _ _ _ A3,A3,Al rfl,λl3 h3=>?_⟩⟩;dsimp only[Am];refine⟨_,rfl,Al rfl,λd4 e4=>⟨l3,d4,_,_,rfl,rfl,A6 e4 _ _ _ A3,A3,Al rfl,λl4 h4=>?_⟩⟩;dsimp only[Am];refine⟨_,rfl,Al rfl,λd5 e5=>⟨l4,d5,_,_,rfl,rfl,A6 e5 _ _ _ A3,A3,Al rfl,λl5 h5=>?_⟩⟩;dsimp only[Am];refine⟨_,rfl,Al rfl,λd6 e6=>⟨l5,d6,_,_,rfl,rfl,A6 e6 _ _ _ A3,A3,Al rfl,λl6 h6=>?_⟩⟩;dsimp only[Am];refine⟨_,rfl,Al rfl,λd7 e7=>⟨l6,d7,_,_,rfl,rfl,A6 e7 _ _ _ A3,A3,Al rfl,λl7 h7=>?_⟩⟩;dsimp only[Am];refine⟨_,rfl,Al rfl,λd8 e8=>⟨l7,d8,_,_,rfl,rfl,A6 e8 _ _ _ A3,A3,Al rfl,λl8 h8=>?_⟩⟩;dsimp only[Am];refine⟨_,rfl,Al rfl,λd9 e9=>⟨l8,d9,_,_,rfl,rfl,A6 e9 _ _ _ A3,A3,Al rfl,λl9 h9=>?_⟩⟩;dsimp only[Am];refine⟨_,rfl,Al rfl,λd10 e10=>⟨l9,d10,_,_,rfl,rfl,A6 e10 _ _ _ A3,A3,Al rfl,λl10 h10=>?_⟩⟩;dsimp only[Am];refine⟨_,rfl,Al rfl,λd11 e11=>⟨l10,d11,_,_,rfl,rfl,A6 e11 _ _ _ A3,A3,Al rfl,λl11 h11=>?_⟩⟩;dsimp only[Am];refine⟨_,rfl,Al rfl,λd12 e12=>⟨l11,d12,_,_,rfl,rfl,A6 e12 _ _ _ A3,A3,Al rfl,λl12 h12=>?_⟩⟩;dsimp only[Am];have fin:∀(H1:Hp),Ae H H1->H1 l12=some (.lst (Rd.oddL.map V.str))->∀(r:Addr) (H2:Hp) (i:Int),Ae H1 H2->∃z∈Rd.oddL,Bu (Rd.oddL.map V.str) (i%89)=some (.str z)/\Q (.str z) H2:=λH1 s1 g1 r H2 i s2=>by
  have i0:=BU i (show(89:Int)≠0 by decide);have i1:=C0 i (show(0:Int)<89 by decide);obtain⟨j,hj⟩:∃j:Nat,i%89=(j:Int):=⟨(i%89).toNat,by lia⟩
  have hl:Rd.oddL.length=89:=rfl;have jl:j<Rd.oddL.length:=by lia
  exact⟨Rd.oddL[j],EY jl,by rw[hj];exact D8 (by rw[Ce,BC jl];rfl),q _ _ (s1.trans s2) (EY jl)⟩
 have fin:=fin _ (((((((((((((A6 h0 _).trans ((A6 e1 _).trans (A6 h1 _))).trans ((A6 e2 _).trans (A6 h2 _))).trans ((A6 e3 _).trans (A6 h3 _))).trans ((A6 e4 _).trans (A6 h4 _))).trans ((A6 e5 _).trans (A6 h5 _))).trans ((A6 e6 _).trans (A6 h6 _))).trans ((A6 e7 _).trans (A6 h7 _))).trans ((A6 e8 _).trans (A6 h8 _))).trans ((A6 e9 _).trans (A6 h9 _))).trans ((A6 e10 _).trans (A6 h10 _))).trans ((A6 e11 _).trans (A6 h11 _))).trans ((A6 e12 _).trans (A6 h12 _))) A3;refine⟨_,rfl,_,rfl,c,1,rfl,by decide,by decide,λr H2 e2 hr2=>?_⟩;obtain⟨y,hy⟩:∃y,E5 c (Int.toNat 1)=[y]:=by
  have:=GB c (Int.toNat 1)
  match E5 c (Int.toNat 1),this with
  |[y],_=>exact⟨y,rfl⟩
 rw[hy]at hr2;have g2:=e2 _ _ (A3);obtain⟨z,_,h1,h2⟩:=fin r H2 y e2;refine⟨r,_,0,_,rfl,rfl,A4.of hr2,rfl,_,rfl,l12,_,rfl,.inl (A4.of g2),_,_,rfl,rfl,(by show(0:Int)<89;decide),?_⟩;exact⟨l12,_,_,_,rfl,rfl,A4.of g2,h1,h2⟩
theorem UP (T:Tx w K mg a):AQ P w K mg base B3 11 a.f_t a.d_t ["_law_text"] Rd.spLine:=by
 have G_e :=@Nz P w K mg base a T;refine T.F_t.ok Km (λvs H Q E h=>?_) (λcdv A outer s H vs Q E hr h=>?_)
 .obtain⟨_,_,_,rfl,_⟩:=h;rfl
 obtain⟨z,rows,i,rfl,zl,hsp,rl,hrw,hi,q⟩:=h;refine⟨_,(A5 (Ak (i:=1) Km.nd rfl (.inl rfl) A2)
  (A5 (Qy (λpn xe Ek hP hR=>(Af (BF (MC G_e (hr.mono (by lia)) (by rfl) T.m_e T.F_e.kp T.b_e .nil hP (A0 (pv 0) A1)))))
  (Qh (i:=2) Km.nd rfl rfl (by rfl) T.mc_NoText T.xi_NoText.xc (λea=>(Af (Ak (i:=1) Km.nd rfl (.inl rfl) (Yh (pv 2) rfl))))
  OD))
  (Af (Ay (pv 1))))),?_⟩
 refine Jc ?_;refine⟨_,rfl,z,rows,rfl,zl,hsp,rl,hrw,λe n v H' h1 hw=>?_,λj xx dx H' hj e1 hxx hdx=>?_⟩
 .rcases hi with h|⟨⟨e',h,nw⟩,_⟩
  .rw[h]at h1;cases h1
  .rw[h]at h1;cases h1;exact absurd hw nw
 .obtain rfl:j=i:=by
   rcases hi with h|⟨⟨e',h,nw⟩,h'⟩
   .rcases hj with g|⟨⟨e',g,nw⟩,g'⟩
    .rw[h]at g;cases g;rfl
    .rw[h]at g;cases g
   .rcases hj with g|⟨⟨e',g,nw⟩,g'⟩
    .rw[h]at g;cases g
    .rw[h',g']
  obtain⟨N,ct⟩:=T.ct_NoText;have ix:G3 H' xx a.c_NoText (some dx):=⟨.inr hxx,.inr ⟨dx,_,rfl,hdx⟩⟩
  refine⟨xx,_,some dx,rfl,hxx,N,_,true,ct,by rw[Oi];exact Bc (.inl rfl),AG ?_⟩;refine⟨_,rfl,xx,_,dx,_,_,rfl,ix,hdx,T.xi_NoText.xc,T.n_NoText_line,rfl,?_⟩;exact⟨_,rfl,q _ e1⟩
theorem SN (T:Tx w K mg a):AQ P w K mg base B3 11 a.f_U a.d_U ["_law_text"] Rd.spByB:=by
 have G_e :=@Nz P w K mg base a T;refine T.F_U.ok JV (λvs H Q E h=>?_) (λcdv A outer s H vs Q E hr h=>?_)
 .obtain⟨_,_,_,rfl,_⟩:=h;rfl
 obtain⟨z,rows,i,rfl,zl,hsp,rl,hrw,hi,q⟩:=h;refine⟨_,(A5 (Ak (i:=1) JV.nd rfl (.inl rfl) Cw)
  (A5 (Qy (λpn xe Ek hP hR=>(Af (BF (MC G_e (hr.mono (by lia)) (by rfl) T.m_e T.F_e.kp T.b_e .nil hP (A0 (pv 0) A1)))))
  (Qh (i:=2) JV.nd rfl rfl (by rfl) T.mc_FurrowError T.xi_FurrowError.xc (λea=>(Af (Ak (i:=1) JV.nd rfl (.inl rfl) (B6 RW (by rfl) T.z_isinstance FT (A0 (pv 2) (A0 (CJ (v:=.ref a.c_NoText) (by rfl) T.mc_NoText rfl) A1))))))
  OD))
  (Af (Ay (pv 1))))),?_⟩
 refine Jc ?_;refine⟨_,rfl,z,rows,rfl,zl,hsp,rl,hrw,λe n v H' h1 hw=>?_,λj xx dx H' hj e1 hxx hdx=>?_⟩
 .rcases hi with h|⟨⟨e',h,nw⟩,_⟩
  .rw[h]at h1;cases h1
  .rw[h]at h1;cases h1;exact absurd hw nw
 .obtain rfl:j=i:=by
   rcases hi with h|⟨⟨e',h,nw⟩,h'⟩
   .rcases hj with g|⟨⟨e',g,nw⟩,g'⟩
    .rw[h]at g;cases g;rfl
    .rw[h]at g;cases g
   .rcases hj with g|⟨⟨e',g,nw⟩,g'⟩
    .rw[h]at g;cases g
    .rw[h',g']
  obtain⟨N,ct⟩:=T.ct_NoText;have ix:G3 H' xx a.c_NoText (some dx):=⟨.inr hxx,.inr ⟨dx,_,rfl,hdx⟩⟩
  refine⟨xx,_,some dx,rfl,hxx,N,_,true,ct,by rw[Oi];exact Bc (.inr AH),AG ?_⟩;refine⟨_,rfl,xx,a.c_NoText,some dx,_,_,true,rfl,rfl,ix,T.xi_NoText,T.is_NoText_NoText,?_⟩;exact⟨_,rfl,q _ e1⟩
theorem Xa (T:Tx w K mg a):AQ P w K mg base B3 1 a.f_P a.d_P ["_law_cell_here","_law_name","_law_rest"] Rd.spStrange:=by
 refine T.F_P.ok Lq (λvs H Q E h=>?_) (λcdv A outer s H vs Q E hr h=>?_)
 .obtain⟨_,_,_,rfl,_⟩:=h;rfl
 obtain⟨c,n,r,rfl,nl,rl,q⟩:=h;refine⟨_,(A5 (Ak (i:=3) Lq.nd rfl (.inl rfl) (Dq (Ai (A8 Be (A8 Be (A8 Be Ab (pv 2)) Ab) (pv 2)) (Ai (A8 Be (A8 Be (A8 Be (A8 Be Ab (pv 2)) Ab) (pv 2)) Ab) (Ai (A8 Be (A8 Be (A8 Be (pv 1) Ab) (pv 2)) Ab) C8 Hh) Hh) Hh)))
  (A5 (Ak (i:=3) Lq.nd rfl (.inl rfl) (A8 BK (pv 3) (Bh (A0 (A8 Be (A8 Be (pv 1) Ab) (pv 2)) (A0 (A8 Be (A8 Be (A8 Be (A8 Be (A8 Be (pv 1) Ab) (pv 1)) Ab) (pv 2)) Ab) A1)))))
  (A5 (Ak (i:=3) Lq.nd rfl (.inl rfl) (A8 BK (pv 3) (Bh (A0 (A8 Be (A8 Be (A8 Be (pv 1) Ab) (pv 2)) Ab) A1))))
  (Af (Ay (Aj AX (pv 3) (A8 Bm (pv 0) A2) (λ_ _=>rfl))))))),?_⟩
 have k0:(Str.ofString "for ").length=4:=by decide +kernel
 have k1:(Str.ofString " 0 ").length=3:=by decide +kernel
 have k2:(Str.ofString " ").length=1:=by decide +kernel
 have k3:(Str.ofString "+1 5").length=4:=by decide +kernel
 have k4:(Str.ofString "[").length=1:=by decide +kernel
 have k5:(Str.ofString "] = 1").length=5:=by decide +kernel
 have k6:(Str.ofString "[0] = 1+").length=8:=by decide +kernel
 have k7:(Str.ofString "[0] = ").length=6:=by decide +kernel
 have k8:(Str.ofString "-2]").length=3:=by decide +kernel
 have k9:(Str.ofString "[0][").length=4:=by decide +kernel
 have k10:(Str.ofString "] = 3").length=5:=by decide +kernel
 refine⟨_,rfl,_,_,rfl,rfl,Ap (by simp only[AO,k0,k1,k2,k3,k4,k5,k6,k7,k8,k9,k10];lia),_,_,rfl,rfl,Ap (by simp only[AO,k0,k1,k2,k3,k4,k5,k6,k7,k8,k9,k10];lia),_,rfl,_,_,rfl,rfl,Ap (by simp only[AO,k0,k1,k2,k3,k4,k5,k6,k7,k8,k9,k10];lia),_,rfl,_,_,rfl,rfl,Ap (by simp only[AO,k0,k1,k2,k3,k4,k5,k6,k7,k8,k9,k10];lia),_,_,rfl,rfl,Ap (by simp only[AO,k0,k1,k2,k3,k4,k5,k6,k7,k8,k9,k10];lia),_,rfl,_,_,rfl,rfl,Ap (by simp only[AO,k0,k1,k2,k3,k4,k5,k6,k7,k8,k9,k10];lia),_,_,rfl,rfl,Ap (by simp only[AO,k0,k1,k2,k3,k4,k5,k6,k7,k8,k9,k10];lia),_,rfl,_,_,rfl,rfl,Ap (by simp only[AO,k0,k1,k2,k3,k4,k5,k6,k7,k8,k9,k10];lia),_,rfl,_,_,rfl,rfl,Ap (by simp only[AO,k0,k1,k2,k3,k4,k5,k6,k7,k8,k9,k10];lia),_,_,rfl,rfl,Ap (by simp only[AO,k0,k1,k2,k3,k4,k5,k6,k7,k8,k9,k10];lia),Al rfl,λl0 h0=>?_⟩;dsimp only[Am];refine⟨_,rfl,_,rfl,_,_,rfl,rfl,Ap (by simp only[AO,k0,k1,k2,k3,k4,k5,k6,k7,k8,k9,k10];lia),_,rfl,_,_,rfl,rfl,Ap (by simp only[AO,k0,k1,k2,k3,k4,k5,k6,k7,k8,k9,k10];lia),_,rfl,_,_,rfl,rfl,Ap (by simp only[AO,k0,k1,k2,k3,k4,k5,k6,k7,k8,k9,k10];lia),_,rfl,_,_,rfl,rfl,Ap (by simp only[AO,k0,k1,k2,k3,k4,k5,k6,k7,k8,k9,k10];lia),_,_,rfl,rfl,Ap (by simp only[AO,k0,k1,k2,k3,k4,k5,k6,k7,k8,k9,k10];lia),_,rfl,_,_,rfl,rfl,Ap (by simp only[AO,k0,k1,k2,k3,k4,k5,k6,k7,k8,k9,k10];lia),_,_,rfl,rfl,Ap (by simp only[AO,k0,k1,k2,k3,k4,k5,k6,k7,k8,k9,k10];lia),Al rfl,λd1 e1=>⟨l0,d1,_,_,rfl,rfl,A6 e1 _ _ _ A3,A3,Al rfl,λl1 h1=>?_⟩⟩;dsimp only[Am];refine⟨_,rfl,_,rfl,_,_,rfl,rfl,Ap (by simp only[AO,k0,k1,k2,k3,k4,k5,k6,k7,k8,k9,k10];lia),_,rfl,_,_,rfl,rfl,Ap (by simp only[AO,k0,k1,k2,k3,k4,k5,k6,k7,k8,k9,k10];lia),_,_,rfl,rfl,Ap (by simp only[AO,k0,k1,k2,k3,k4,k5,k6,k7,k8,k9,k10];lia),Al rfl,λd2 e2=>⟨l1,d2,_,_,rfl,rfl,A6 e2 _ _ _ A3,A3,Al rfl,λl2 h2=>?_⟩⟩;dsimp only[Am];refine⟨_,rfl,_,rfl,_,_,rfl,rfl,(by show(0:Int)<6;decide),?_⟩;have i0:=BU c (show(6:Int)≠0 by decide);have i1:=C0 c (show(0:Int)<6 by decide);obtain⟨j,hj⟩:∃j:Nat,c%6=(j:Int):=⟨(c%6).toNat,by lia⟩
 have jl:j<(Rd.strL n r).length:=by show j<6;lia
 refine⟨l2,_,_,.str (Rd.strL n r)[j],rfl,rfl,A4.of A3,?_,q _ _ ((A6 h0 _).trans ((A6 e1 _).trans ((A6 h1 _).trans ((A6 e2 _).trans (A6 h2 _))))) (EY jl)⟩;show Bu ((Rd.strL n r).map V.str) (c%6)=_;rw[hj];exact D8 (by rw[Ce,BC jl];rfl)
theorem Um (T:Tx w K mg a):AQ P w K mg base B3 3 a.f_S a.d_S ["_law_lines","_law_due","_law_cell_here"] Rd.spMore:=by
 have G_p :=@PN P w K mg base a T;refine T.F_S.ok QN (λvs H Q E h=>?_) (λcdv A outer s H vs Q E hr h=>?_)
 .obtain⟨_,_,_,_,rfl,_⟩:=h;rfl
 obtain⟨l,Ln,d,c,rfl,hl,dl,ll,q⟩:=h;refine⟨_,(A5 (AM (Au Bs (A8 Bm (pv 2) A2) A2 (Ax _))
  (Af (Ay (pv 0)))
  AS)
  (A5 (Ak (i:=3) QN.nd rfl (.inl rfl) (A8 BG (pv 1) (A8 Bm (A8 CW (pv 2) A2) (A8 BG (A8 Fb (B6 Bw (by rfl) T.z_len Bq (A0 (pv 0) A1)) (pv 1)) A2))))
  (Af (Ay (A8 BK (A8 BK (C7 CH (pv 0) Cy (BW (pv 3))) (Bh (A0 (AD G_p (hr.mono (by lia)) (by rfl) T.m_p T.F_p.kp T.b_p .nil Az (A0 (A8 CW (pv 2) A2) A1)) A1))) (C7 CH (pv 0) (BW (pv 3)) Cy)))))),?_⟩
 refine⟨_,rfl,_,_,rfl,rfl,(by show(0:Int)<2;decide),rfl,_,rfl,?_⟩;refine AB (λ_=>?_) (λ_=>?_)
 .exact⟨_,rfl,q l H (Ln.drop d) (Ae.refl _) (by rw[LH];exact hl) (by rw[BS];lia) (λy hy=>.inl (Gg hy))⟩
 refine⟨_,rfl,_,rfl,_,_,rfl,rfl,⟨by decide,by decide⟩,_,rfl,l,_,rfl,.inl (A4.of hl),_,rfl,_,_,rfl,rfl,_,_,rfl,rfl,_,_,rfl,rfl,?_,_,_,rfl,rfl,?_⟩
 .show(0:Int)<(((Ln.map V.str).length:Nat):Int)-(d:Int)+1;rw[Ag];lia
 rw[Ag];dsimp only[Am];have m0:=BU (c/2) (show((Ln.length:Nat):Int)-(d:Int)+1≠0 by lia);have m1:=C0 (c/2) (show(0:Int)<((Ln.length:Nat):Int)-(d:Int)+1 by lia);obtain⟨j,hj⟩:∃j:Nat,(d:Int)+c/2%(((Ln.length:Nat):Int)-(d:Int)+1)=(j:Int):=⟨((d:Int)+c/2%(((Ln.length:Nat):Int)-(d:Int)+1)).toNat,by lia⟩
 rw[hj];have dj:d<=j:=by lia
 have jl:j<=Ln.length:=by lia
 have ct:Cr (Ln.map V.str) none (some (j:Int))=(Ln.take j).map V.str:=by
  have:=F6 (Ln.map V.str) (k:=(j:Int)) (by lia);rw[FL,←Jq]at this;exact this
 have cf:Cr (Ln.map V.str) (some (j:Int)) none=(Ln.drop j).map V.str:=by
  have:=NF (Ln.map V.str) (i:=(j:Int)) (by lia);rw[FL,←Jl]at this;exact this
 refine⟨_,rfl,_,rfl,_,rfl,l,_,rfl,A4.of hl,λa1 h1=>?_⟩;rw[ct];have s1:=A6 h1 (.lst ((Ln.take j).map V.str));have g1:(upd H a1 (.lst ((Ln.take j).map V.str))) a1=_:=A3;generalize upd H a1 (.lst ((Ln.take j).map V.str))=H1 at s1 g1;refine⟨_,rfl,_,_,rfl,rfl,⟨by decide,by decide⟩,_,rfl,λz H2 e2 hz=>⟨Al rfl,λa2 h2=>?_⟩⟩;have s2:=e2.trans (A6 h2 (.lst [V.str z]));refine⟨a1,a2,_,_,rfl,rfl,s2 _ _ g1,A3,Ap (by rw[Ag,Bb,Bf];lia),λa3 h3=>?_⟩;have s3:=s1.trans (s2.trans (A6 h3 (.lst ((Ln.take j).map V.str++[V.str z]))));have g3:(upd (upd H2 a2 (.lst [V.str z])) a3 (.lst ((Ln.take j).map V.str++[V.str z]))) a3=_:=A3;generalize upd (upd H2 a2 (.lst [V.str z])) a3 (.lst ((Ln.take j).map V.str++[V.str z]))=H3 at s3 g3;refine⟨_,rfl,_,rfl,_,rfl,l,_,rfl,A4.of (s3 _ _ hl),λa4 h4=>?_⟩;rw[cf];have s4:=A6 h4 (.lst ((Ln.drop j).map V.str));refine⟨a3,a4,_,_,rfl,rfl,s4 _ _ g3,A3,Ap (by rw[An,Ag,Ag,Bb,BS,Bf];lia),λa5 h5=>?_⟩;refine q _ _ ((Ln.drop d).take (j-d)++z::Ln.drop j) (s3.trans (s4.trans (A6 h5 _))) ?_ ?_ ?_
 .rw[A3];have e1:Ln.take j=Ln.take d++(Ln.drop d).take (j-d):=by
   rw[←List.take_add];congr 1;lia
  rw[e1,AR,AR,AR,BE,Br,Br];rfl
 .rw[An,AJ,Bb,BS,BS];lia
 .intro y hy;rcases By.mp hy with hy|hy
  .exact .inl (Gg (EZ hy))
  .rcases Av.mp hy with rfl|hy
   .exact .inr hz
   .exact .inl (Gg hy)
theorem Wl (T:Tx w K mg a):AQ P w K mg base B3 2 a.f_T a.d_T ["_law_lines","_law_due","_law_cell_here"] Rd.spSpaced:=by
 have G_a :=@GT P w K mg base a T;refine T.F_T.ok Hj (λvs H Q E h=>?_) (λcdv A outer s H vs Q E hr h=>?_)
 .obtain⟨_,_,_,_,rfl,_⟩:=h;rfl
 obtain⟨l,Ln,d,c,rfl,hl,ll,q⟩:=h;refine⟨_,(A5 (Ak (i:=3) Hj.nd rfl (.inl rfl) (AD G_a (hr.mono (by lia)) (by rfl) T.m_a T.F_a.kp T.b_a .nil Az (A0 (pv 2) (A0 (A8 BG (B6 Bw (by rfl) T.z_len Bq (A0 (pv 0) A1)) A2) A1))))
  (A5 (Ak (i:=4) Hj.nd rfl (.inl rfl) (Bh A1))
  (A5 (Ak (i:=5) Hj.nd rfl (.inl rfl) A2)
  (A5 (EI PassesOwn.never rfl (KS (by rfl) T.z_range (A0 (B6 Bw (by rfl) T.z_len Bq (A0 (pv 0) A1)) A1)) (BB (i:=6) Hj.nd rfl (.inl rfl))
  (A5 (AM ((DG (Au Bs (A8 Bm (pv 6) A2) (A8 Bm (Aj AX (pv 3) (Dh Dj A2) (λ_ _=>rfl)) A2) (Ax _)) (E8 (Au FH (A8 Bm (Aj AX (pv 3) (pv 6) (λ_ _=>rfl)) A2) A2 (Ax _))))).pt
  (A5 (BF (Bx BJ CC CF Ct (pv 4) (A0 (Aj AX (Dq (Ai Ab (Ai Ab (Ai Ab (Ai Ab C8 Ar) Ar) Ar) Ar)) (A8 Bm (A8 CW (Aj AX (pv 3) (pv 6) (λ_ _=>rfl)) A2) A2) (λ_ _=>rfl)) A1)))
  (Af (Ak (i:=5) Hj.nd rfl (.inl rfl) (A8 BG (pv 5) (Du Kf (by rfl) T.z_int HF (A0 (DY EK (pv 6) (pv 1) (Ax _)) A1))))))
  AS)
  (Af (BF (Bx BJ CC CF Ct (pv 4) (A0 (Aj AX (pv 0) (pv 6) (λ_ _=>rfl)) A1))))))
  (Af (Ay (Cf (A0 (pv 4) (A0 (A8 BG (pv 1) (pv 5)) A1))))))))),?_⟩
 refine⟨_,rfl,_,rfl,l,_,rfl,.inl (A4.of hl),_,_,rfl,rfl,c,_,rfl,?_,?_,λxl H1 e1 hx=>?_⟩
 .rw[Ag];lia
 .rw[Ag];lia
 rw[Ag,show(((Ln.length:Nat):Int)+1).toNat=Ln.length+1 by lia]at hx;dsimp only[Am];obtain⟨xs,y,hxs,xsl⟩:∃xs y,E5 c (Ln.length+1)=xs++[y]/\xs.length=Ln.length:=by
  have h:=GB c (Ln.length+1);obtain⟨us,x,e,ul⟩:=Fc h;exact⟨us,x,e,ul⟩
 have xm:∀u∈xs,0<=u:=λu hu=>(IA (c:=c) (n:=Ln.length+1) (by rw[hxs];exact Eh _ hu)).1;rw[hxs,AR]at hx;refine⟨Al rfl,λfo hfo=>?_⟩;dsimp only[Am];have s2:=A6 hfo (.lst []);have g2:(upd H1 fo (.lst [])) fo=some (.lst []):=A3;have fo0:H fo=none:=e1.free hfo;generalize upd H1 fo (.lst [])=H2 at s2 g2;have e2:=e1.trans s2;have hl2:=e2 _ _ hl;have hx2:=s2 _ _ hx;refine Jc ?_;refine⟨_,rfl,l,_,rfl,.inl (A4.of hl2),_,rfl,by lia,by rw[Ag];lia,?_⟩;rw[Ag,FL];refine MM (lo:=0) (n:=Ln.length) (λi σ' H'=>∃(P:List (Option Str×Str)) (o6:Option V),σ'=[some (.ref l),some (.int (d:Int)),some (.int c),some (.ref xl),some (.ref fo),some (.int ((Rd.cntS P d:Nat):Int)),o6]/\Ae H H'/\(∀b o,H2 b=some o->b≠fo->H' b=some o)/\H' fo=some (.lst ((Rd.spFS P).map V.str))/\P.map (·.2)=Ln.take i/\(∀p∈P,Rd.BlkOk p.1)/\(Rd.spFS P).length<=2*i) ?_ (λi σ' H' hi pp=>?_) (fun σ' H' pp=>?_)
 .exact⟨[],_,by rw[show Rd.cntS [] d=0 from by cases d<;>rfl];rfl,e2,λ_ _ h _=>h,g2,rfl,(λ_ h=>nomatch h),Aq _⟩
 .obtain⟨P',o6,rfl,eH,eF,hf,hP,hB,hL⟩:=pp;have nf:∀{b:Addr} {o:HO},H b=some o->b≠fo:=λh z=>by rw[z,fo0]at h;cases h
  have xf:xl≠fo:=B0 hx hfo;have hx3:=eF _ _ hx2 xf;have hl3:=eH _ _ hl;dsimp only[Am];have lge:Ln[i]?=some (Ln.getD i ""):=by rw[Gf,BC hi];rfl
  have atL:Bu (Ln.map V.str) (0+(i:Int))=some (.str (Ln.getD i "")):=by rw[Int.zero_add];exact D8 (by rw[Ce,lge];rfl)
  have takeL:Ln.take (i+1)=Ln.take i++[Ln.getD i ""]:=DB lge;have xge:xs[i]?=some (xs.getD i 0):=by rw[Gf,BC (by lia)];rfl
  have atX:Bu (xs.map V.int++[V.int y]) (0+(i:Int))=some (.int (xs.getD i 0)):=by
   rw[Int.zero_add];exact D8 (by rw[Ej (by rw[Ag];lia),Ce,xge];rfl)
  have x0:0<=xs.getD i 0:=xm _ (CU xge);have pl:P'.length=i:=by have:=congrArg List.length hP;rw[Ag,Bb]at this;lia
  have c0:Rd.cntS (P'++[(none,Ln.getD i "")]) d=Rd.cntS P' d:=by rw[Rd.cntS_snoc,A9 (λz=>nomatch z.1)];rfl
  refine Dp (fun σ' H3=>∃(b:Option Str),σ'=[some (.ref l),some (.int (d:Int)),some (.int c),some (.ref xl),some (.ref fo),some (.int ((Rd.cntS (P'++[(b,Ln.getD i "")]) d:Nat):Int)),some (.int (0+(i:Int)))]/\Ae H H3/\(∀b o,H2 b=some o->b≠fo->H3 b=some o)/\H3 fo=some (.lst ((Rd.spFS P'++b.toList).map V.str))/\Rd.BlkOk b) (fun σ' H3 pp=>?_) (λnx=>?_)
  .obtain⟨b,rfl,eH3,eF3,hf3,hB3⟩:=pp;refine⟨_,rfl,.inl ⟨rfl,_,A4.of hf3⟩,_,rfl,_,rfl,l,_,_,_,rfl,rfl,A4.of (eH3 _ _ hl),atL,fo,_,_,rfl,rfl,hf3,Cu (by rw[Ag,An];cases b<;>simp<;>lia),?_⟩;refine⟨P'++[(b,Ln.getD i "")],_,rfl,λb' o' e'=>by rw[Aa (nf e')];exact eH3 _ _ e',λb' o' e' n'=>by rw[Aa n'];exact eF3 _ _ e' n',?_,?_,?_,?_⟩
   .rw[A3,Rd.spFS_app,AR (l₁:=Rd.spFS P'),AR (l₁:=Rd.spFS P'),Br];cases b<;>rfl
   .rw[AR,hP,takeL];rfl
   .intro p hp;rcases By.mp hp with hp|hp
    .exact hB p hp
    .rw[Bt.mp hp];exact hB3
   .rw[Rd.spFS_app,An];cases b with
    |none=>show _+1<=_;lia
    |some x=>show _+2<=_;lia
  .refine⟨_,rfl,_,_,rfl,rfl,(by show(0:Int)<5;decide),_,rfl,_,rfl,xl,_,_,_,rfl,rfl,A4.of hx3,JL _ _,_,_,rfl,rfl,(by show(0:Int)<5;decide),rfl,_,rfl,?_⟩;refine AB (λ_=>?_) (λ_=>nx _ _ ⟨none,by rw[c0];rfl,eH,eF,by rw[show Option.toList (none:Option Str)=[] from rfl,D6];exact hf,λx e=>nomatch e⟩);refine⟨_,rfl,_,rfl,xl,_,_,_,rfl,rfl,A4.of hx3,atX,_,_,rfl,rfl,(by show(0:Int)<3;decide),_,_,rfl,rfl,_,rfl,?_⟩;refine AB (λ_=>?_) (λ_=>nx _ _ ⟨none,by rw[c0];rfl,eH,eF,by rw[show Option.toList (none:Option Str)=[] from rfl,D6];exact hf,λx e=>nomatch e⟩);have h0:=BU (xs.getD i 0/3) (show(4:Int)≠0 by decide);have h1:=C0 (xs.getD i 0/3) (show(0:Int)<4 by decide);obtain⟨u,hu,ub⟩:=Rd.pick27 h0 h1;refine⟨_,rfl,.inl ⟨rfl,_,A4.of hf⟩,Al rfl,λq4 hq4=>?_⟩;have sq:=A6 hq4 (.lst [V.str "",V.str "  ",V.str ";",V.str "; end"]);refine⟨_,rfl,_,rfl,xl,_,_,_,rfl,rfl,A4.of (sq _ _ hx3),atX,_,_,rfl,rfl,⟨by decide,by decide⟩,_,_,rfl,rfl,(by show(0:Int)<4;decide),q4,_,_,_,rfl,rfl,A4.of A3,hu,fo,_,_,rfl,rfl,sq _ _ hf,Cu (by rw[Ag];lia),?_⟩;have cS:Rd.cntS (P'++[(some u,Ln.getD i "")]) d=Rd.cntS P' d+(if i<d then 1 else 0):=by
    rw[Rd.cntS_snoc,pl];congr 1;by_cases h:i<d
    .rw[Ac h,Ac ⟨rfl,h⟩]
    .rw[A9 h,A9 (λz=>h z.2)]
   refine⟨_,rfl,_,rfl,_,rfl,_,_,rfl,rfl,.inr ⟨_,rfl,_,_,rfl,rfl,?_⟩⟩;refine nx _ _ ⟨some u,?_,λb' o' e'=>by rw[Aa (nf e')];exact sq _ _ (eH _ _ e'),λb' o' e' n'=>by rw[Aa n'];exact sq _ _ (eF _ _ e' n'),?_,ub⟩
   .rw[cS];dsimp only[Am];by_cases h:i<d
    .rw[Ac h,show decide ((0:Int)+(i:Int)<(d:Int))=true from Bc (by lia)];rfl
    .rw[A9 h,show decide ((0:Int)+(i:Int)<(d:Int))=false from Bg (by lia)];rfl
   .rw[A3,AR];rfl
 .obtain⟨P',o6,rfl,eH,eF,hf,hP,hB,hL⟩:=pp;refine⟨_,rfl,_,rfl,_,rfl,_,_,rfl,rfl,Al rfl,λtp htp=>?_⟩;have s4:=A6 htp (.tup [.ref fo,.int ((d:Int)+((Rd.cntS P' d:Nat):Int))]);exact q tp fo _ P' (eH.trans s4) (by rw[hP,El]) hB (by rw[A3];rfl) (s4 _ _ hf)
theorem Pi (T:Tx w K mg a):∀n:Nat,AQ P w K mg base B3 (n+2) a.f_i a.d_i ["_law_shape"] (Rd.spCells n)
 |
  0=>by
  have no:∀vs H Q E,¬Rd.spCells 0 vs H Q E:=λvs H Q E h=>by
   obtain⟨x,t,_,_,_,hm,_⟩:=h;have:=t.sz_pos;lia
  exact⟨λvs H Q E h=>absurd h (no vs H Q E),λA outer s H args us vs Q E _ _ _ _ h=>absurd h (no vs H Q E)⟩
 |
  n+1=>by
  have G_i:=Pi T n;refine T.F_i.ok Ue (λvs H Q E h=>?_) (λcdv A outer s H vs Q E hr h=>?_)
  .obtain⟨_,_,rfl,_⟩:=h;rfl
  obtain⟨x,tm,rfl,hs,ok,hm,hm2,q⟩:=h;refine⟨_,(A5 (AM (Au Bs (Aj B7 (pv 0) A2 (λ_ _=>rfl)) Ab (Ax _))
  (Af (Ay (Bh (A0 (Cf (A0 (Aj B7 (pv 0) A2 (λ_ _=>rfl)) (A0 (Aj B7 (pv 0) A2 (λ_ _=>rfl)) A1))) A1))))
  AS)
  (A5 (AM (Au GO (Aj B7 (pv 0) A2 (λ_ _=>rfl)) (Cf (A0 Ab (A0 Ab A1))) (by with_unfolding_all rfl))
  (Af (Ay (Bh A1)))
  AS)
  (Af (Ay (A8 BK (AD G_i (hr.mono (by lia)) (by rfl) T.m_i T.F_i.kp T.b_i .nil Az (A0 (Aj B7 (pv 0) A2 (λ_ _=>rfl)) A1)) (AD G_i (hr.mono (by lia)) (by rfl) T.m_i T.F_i.kp T.b_i .nil Az (A0 (Aj B7 (pv 0) A2 (λ_ _=>rfl)) A1))))))),?_⟩
  cases tm with
  |
   c z sp=>
   obtain⟨t,p,rfl,h,hsp⟩:=hs;refine⟨_,rfl,t,_,0,_,rfl,rfl,Aw.of h,rfl,rfl,_,rfl,Eu (v:=true) (Bc rfl) (AG ?_)⟩;refine⟨_,rfl,t,_,1,_,rfl,rfl,Aw.of h,rfl,_,rfl,t,_,2,_,rfl,rfl,Aw.of h,rfl,Al rfl,λtp htp=>⟨Al rfl,λl hl=>?_⟩⟩;have s1:=A6 htp (.tup [.str z,.ref p]);have s2:=A6 hl (.lst [.ref tp]);refine q l [.ref tp] _ (s1.trans s2) A3 (AN.cons ⟨tp,p,rfl,s2 _ _ A3,hsp.tk (Ae.tk (s1.trans s2))⟩ ⟨rfl,λ_ _ _ x=>nomatch x⟩)
  |
   n i=>
   obtain⟨t,rfl,h⟩:=hs;refine⟨_,rfl,t,_,0,_,rfl,rfl,Aw.of h,rfl,rfl,_,rfl,Eu (v:=false) (dS (by decide +kernel)) (AL ?_)⟩;refine⟨_,rfl,t,_,0,_,rfl,rfl,Aw.of h,rfl,Al rfl,λtp htp=>⟨tp,_,rfl,.inr (Aw.of A3),rfl,rfl,_,rfl,Eu (v:=true) (by decide +kernel) (AG ?_)⟩⟩;exact⟨Al rfl,λl hl=>q l [] _ ((A6 htp _).trans (A6 hl _)) A3 ⟨rfl,λ_ _ _ x=>nomatch x⟩⟩
  |
   v z=>
   obtain⟨t,rfl,h⟩:=hs;refine⟨_,rfl,t,_,0,_,rfl,rfl,Aw.of h,rfl,rfl,_,rfl,Eu (v:=false) (dS (by decide +kernel)) (AL ?_)⟩;refine⟨_,rfl,t,_,0,_,rfl,rfl,Aw.of h,rfl,Al rfl,λtp htp=>⟨tp,_,rfl,.inr (Aw.of A3),rfl,rfl,_,rfl,Eu (v:=true) (by decide +kernel) (AG ?_)⟩⟩;exact⟨Al rfl,λl hl=>q l [] _ ((A6 htp _).trans (A6 hl _)) A3 ⟨rfl,λ_ _ _ x=>nomatch x⟩⟩
  |
   j z l r=>
   obtain⟨t,sx,sy,rfl,h,tl,tr⟩:=hs;obtain⟨hz,okl,okr⟩:=ok;obtain⟨z1,z2,z3⟩:=XO hz;have:=l.sz_pos;have:=r.sz_pos;have hm:l.sz+r.sz<=n+1:=hm;have hm2:l.sz+r.sz<=1000:=hm2;refine⟨_,rfl,t,_,0,_,rfl,rfl,Aw.of h,rfl,rfl,_,rfl,Eu (v:=false) (dS z3) (AL ?_)⟩;refine⟨_,rfl,t,_,0,_,rfl,rfl,Aw.of h,rfl,Al rfl,λtp htp=>⟨tp,_,rfl,.inr (Aw.of A3),rfl,rfl,_,rfl,Eu (v:=false) ?_ (AL ?_)⟩⟩
   .have e1:=Rd.in_strs [Str.ofString "n",Str.ofString "v"] z;have e2:decide (z∈[Str.ofString "n",Str.ofString "v"])=false:=Bg λe=>by
     rcases Av.mp e with e|e
     .exact z1 e
     .exact z2 (Bt.mp e)
    exact e1.trans e2
   have s0:=A6 htp (.tup [V.str (Str.ofString "n"),V.str (Str.ofString "v")]);have h0:=s0 _ _ h;have tl0:=tl.tk (Ae.tk s0);have tr0:=tr.tk (Ae.tk s0);generalize upd H tp (.tup [V.str (Str.ofString "n"),V.str (Str.ofString "v")])=H0 at s0 h0 tl0 tr0;refine⟨_,rfl,t,_,1,_,rfl,rfl,Aw.of h0,rfl,sx,l,rfl,tl0,okl,by lia,by lia,λr1 xs1 H1 e1 g1 p1=>?_⟩;refine⟨_,rfl,t,_,2,_,rfl,rfl,Aw.of (e1 _ _ h0),rfl,sy,r,rfl,tr0.tk (Ae.tk e1),okr,by lia,by lia,λr2 xs2 H2 e2 g2 p2=>?_⟩;have l1:=Rd.csT_len l;have l2:=Rd.csT_len r;refine⟨r1,r2,_,_,rfl,rfl,e2 _ _ g1,g2,Ap (by rw[p1.1,p2.1];lia),λr3 h3=>?_⟩;have s3:=A6 h3 (.lst (xs1++xs2));exact q r3 _ _ (s0.trans (e1.trans (e2.trans s3))) A3 ((p1.mono λ_ _ y=>y.over (e2.trans s3)).app (p2.mono λ_ _ y=>y.over s3))
theorem Ys (T:Tx w K mg a):AQ P w K mg base B3 8 a.f_Q a.d_Q ["_law_cell_here","_law_deeds","_law_above"] Rd.spTable:=by
 have G_i :=@Pi P w K mg base a T 5;refine T.F_Q.ok GG (λvs H Q E h=>?_) (λcdv A outer s H vs Q E hr h=>?_)
 .obtain⟨_,_,_,_,_,_,_,rfl,_⟩:=h;rfl
 obtain⟨c,dl,al,ys,Ds,kt,ns,rfl,hdl,hD,d6,hal,ktl,okt,tok,hC,q⟩:=h;refine⟨_,(A5 (Ak (i:=3) GG.nd rfl (.inl rfl) (Bh A1))
  (A5 (EI PassesOwn.never rfl (DD (C7 CH (pv 1) Cy (BW (B6 Bw (by rfl) T.z_len Bq (A0 (Ef ["_law_text"] [none] (by rfl) (DD (pv 2)) WO (λ_ _ _ _ _ _=>⟨(BB (i:=0) U5 rfl (.inl rfl)),(Kq (Au IG Ab (pv 0) (by with_unfolding_all rfl))),(pv 0)⟩)) A1))))) (BB (i:=4) GG.nd rfl (.inl rfl))
  (Af (Ak (i:=3) GG.nd rfl (.inl rfl) (A8 BK (A8 BK (pv 3) (Bh (A0 (Cf (A0 (Aj B7 (pv 4) A2 (λ_ _=>rfl)) (A0 (Aj B7 (pv 4) A2 (λ_ _=>rfl)) A1))) A1))) (A8 Pd (AD G_i (hr.mono (by lia)) (by rfl) T.m_i T.F_i.kp T.b_i .nil Az (A0 (Aj B7 (pv 4) A2 (λ_ _=>rfl)) A1)) A2)))))
  (A5 (AM ((Cg (Au (Kd (Fg hr)) (pv 3) (Bh A1) (Ax _)) (D4 (Au Bs (A8 Bm (pv 0) A2) A2 (Ax _))))).pt
  (Af (Ay (Aj AX (Dq (Ai Ab (Ai Ab (Ai Ab C8 Ar) Ar) Ar)) (A8 Bm (A8 CW (pv 0) A2) A2) (λ_ _=>rfl))))
  AS)
  (A5 (IZ (Aj AX (pv 3) (A8 Bm (A8 CW (pv 0) A2) (B6 Bw (by rfl) T.z_len Bq (A0 (pv 3) A1))) (λ_ _=>rfl)) (GP rfl (DO (BB (i:=5) GG.nd rfl (.inl rfl)) (DO (BB (i:=6) GG.nd rfl (.inl rfl)) Gu))))
  (A5 (Ak (i:=7) GG.nd rfl (.inl rfl) (A8 Be (pv 5) (A8 QB Ab (A8 BG (A8 Bm (B6 Bw (by rfl) T.z_len Bq (A0 (pv 6) A1)) A2) A2))))
  (Af (Ay (Aj AX (Bh (A0 (A8 Be (pv 7) Ab) (A0 (A8 Be (A8 Be Ab (pv 7)) Ab) A1))) (A8 Bm (pv 0) A2) (λ_ _=>rfl))))))))),?_⟩
 refine⟨Al rfl,λso hso=>?_⟩;dsimp only[Am];have s1:=A6 hso (.lst []);have g1:(upd H so (.lst [])) so=some (.lst []):=A3;generalize upd H so (.lst [])=H1 at s1 g1;have hal1:=s1 _ _ hal;refine⟨_,rfl,_,rfl,al,rfl,⟨_,A4.of hal1⟩,?_⟩;refine G0 (xs:=(kt.map Rd.rkS).map V.str) (λi ys H'=>H'=H1/\ys.length=((kt.take i).filter Rd.isD).length/\ys.length<=i) ⟨rfl,rfl,Aq _⟩ (Ap (by rw[Ag,Ag];lia)) (λi ys H' hi pp=>⟨by rw[pp.1];exact A4.of hal1,pp.2.2⟩) (λi x ys H' hc pp=>?_) (λcy H' pp r3 hr3=>?_)
 .obtain⟨rfl,yl,yi⟩:=pp;rw[Ce,Ce]at hc;cases hk:kt[i]? with
  |none=>rw[hk]at hc;cases hc
  |
   some k=>
   rw[hk]at hc;cases hc;have kq:=Rd.rk_eq (okt k (CU hk));refine⟨_,rfl,_,_,rfl,rfl,_,rfl,?_⟩;change if(!(Builtin.Str.occurrences (Rd.rkS k) ⟨#[61]⟩ 0 (Rd.rkS k).length 1).isEmpty)=true then _ else _
   rw[Lh,DB hk,Gj,An];refine AB (λy=>?_) (λy=>?_)
   .have hd:=kq.mp (Jw y);refine⟨_,rfl,rfl,?_,by rw[An,Bf];lia⟩;rw[An,Fl,Ac hd,yl];rfl
   .have hd:¬Rd.isD k=true:=λz=>y (Bc (kq.mpr z));refine⟨rfl,?_,by lia⟩;rw[Fl,A9 hd,yl];rfl
 obtain⟨rfl,yl,_⟩:=pp;rw[Ag,Ag,El]at yl;have s2:=A6 hr3 (.lst cy);refine⟨r3,cy,rfl,.inl (A4.of A3),?_⟩;rw[yl];have g2:=s2 _ _ g1;have hdl2:=(s1.trans s2) _ _ hdl;generalize upd H' r3 (.lst cy)=H2 at s2 g2 hdl2;generalize (kt.filter Rd.isD).length=m at hC;refine⟨_,rfl,dl,_,rfl,A4.of hdl2,λl2 hl2=>?_⟩;rw[show Cr ys none (some (m:Int))=ys.take m from by
  have:=F6 ys (k:=(m:Int)) (by lia);rw[FL]at this;exact this]
 have s3:=A6 hl2 (.lst (ys.take m));have g3:=s3 _ _ g2;have hl3:(upd H2 l2 (.lst (ys.take m))) l2=some (.lst (ys.take m)):=A3;generalize upd H2 l2 (.lst (ys.take m))=H3 at s3 g3 hl3;have s03:=s1.trans (s2.trans s3);have yl6:ys.length<=6:=by rw[hD.1];exact d6
 refine⟨l2,rfl,⟨_,A4.of hl3⟩,?_⟩;refine GY (xs:=ys.take m) (λi σ' H'=>∃(so':Addr) (xs:List V) (ps:List (Str×List (Str×Int))) (o4:Option V),σ'=[some (.int c),some (.ref dl),some (.ref al),some (.ref so'),o4,none,none,none]/\Ae H3 H'/\H' so'=some (.lst xs)/\AN (Rd.CcAt H') xs ps/\(∀p∈ps,Rd.Cok ns kt p)/\xs.length<=11*i) ?_ (λi σ' H' hi pp=>?_) (λi x σ' H' hx pp=>?_) (fun σ' H' pp=>?_)
 .exact⟨so,[],[],none,rfl,Ae.refl _,g3,⟨rfl,λ_ _ _ x=>nomatch x⟩,(λ_ h=>nomatch h),Aq _⟩
 .obtain⟨so',xs,ps,o4,rfl,e4,_⟩:=pp;exact A4.of (e4 _ _ hl3)
 .obtain⟨so',xs,ps,o4,rfl,e4,hs',ax,ck,xl⟩:=pp;dsimp only[Am];have im:i<m:=by
   have:=(BQ.mp hx).1;rw[Bb]at this;lia
  have i6:i<=6:=by
   have:=(BQ.mp hx).1;rw[Bb]at this;lia
  rw[List.getElem?_take,Ac im]at hx;obtain⟨D,hDi,ho⟩:=hD.get' hx;obtain⟨o,t,psp,pt,sh,rfl,ht,_,hsp,hsh,_⟩:=DZ.over (s03.trans e4) ho;have dm:D∈Ds.take m:=CU (i:=i) (by rw[List.getElem?_take,Ac im];exact hDi);have hcD:=hC D dm;obtain⟨tk1,tk2⟩:=tok D (CU hDi);refine⟨_,rfl,_,rfl,t,_,1,_,rfl,rfl,Aw.of ht,rfl,_,rfl,t,_,2,_,rfl,rfl,Aw.of ht,rfl,Al rfl,λtp htp=>⟨Al rfl,λl5 hl5=>?_⟩⟩;have s5:=A6 htp (.tup [.str D.tbl,.ref psp]);have s6:=A6 hl5 (.lst [.ref tp]);refine⟨so',l5,_,_,rfl,rfl,(s5.trans s6) _ _ hs',A3,Ap (by rw[Bf];lia),λl7 hl7=>?_⟩;have s7:=A6 hl7 (.lst (xs++[.ref tp]));have tp7:=(s6.trans s7) _ _ (A3 (H:=H') (a:=tp) (o:=.tup [.str D.tbl,.ref psp]));have g7:(upd (upd (upd H' tp (.tup [.str D.tbl,.ref psp])) l5 (.lst [.ref tp])) l7 (.lst (xs++[.ref tp]))) l7=some (.lst (xs++[.ref tp])):=A3;have s47:=s5.trans (s6.trans s7);generalize upd (upd (upd H' tp (.tup [.str D.tbl,.ref psp])) l5 (.lst [.ref tp])) l7 (.lst (xs++[.ref tp]))=H7 at tp7 g7 s47;refine⟨_,rfl,t,_,3,_,rfl,rfl,Aw.of (s47 _ _ ht),rfl,sh,D.tm,rfl,hsh.tk (Ae.tk s47),tk1,tk2,by lia,λr8 x8 H8 e8 hr8 a8=>?_⟩;have cl8:x8.length<=5:=by rw[a8.1];exact BP (Rd.csT_len _) tk2
  refine⟨r8,2,x8,rfl,rfl,hr8,by decide,by decide,Ap (by show x8.length*2<=1000000;lia),λl9 hl9=>?_⟩;have e9:(List.replicate (2:Int).toNat x8).flatten=x8++x8:=by
   show x8++(x8++[])=_;rw[D6]
  rw[e9];have s9:=A6 hl9 (.lst (x8++x8));refine⟨l7,l9,_,_,rfl,rfl,(e8.trans s9) _ _ g7,A3,Ap (by rw[An,An,Bf];lia),λla hla=>?_⟩;have sa:=A6 hla (.lst (xs++[.ref tp]++(x8++x8)));have s4a:=s47.trans (e8.trans (s9.trans sa));refine⟨la,_,ps++[(D.tbl,D.sp)]++(Rd.csT D.tm++Rd.csT D.tm),_,rfl,e4.trans s4a,A3,?_,?_,?_⟩
  .have b8:=a8.mono λ_ _ z=>Rd.CcAt.over (s9.trans sa) z;exact((ax.mono λ_ _ z=>Rd.CcAt.over s4a z).snoc ⟨tp,psp,rfl,(e8.trans (s9.trans sa)) _ _ tp7,hsp.tk (Ae.tk s4a)⟩).app (b8.app b8)
  .intro p hp;rcases By.mp hp with hp|hp
   .rcases By.mp hp with hp|hp
    .exact ck p hp
    .exact hcD p (by rw[Bt.mp hp];exact AH)
   .exact hcD p (B5 _ (by rcases By.mp hp with h|h<;>exact h))
  .rw[An,An,An,Bf];lia
 obtain⟨so',xs,ps,o4,rfl,e4,hs',ax,ck,xl⟩:=pp;have e04:=s03.trans e4;dsimp only[Am];refine Nj (λH'=>Ae H H') (λH5 e5=>?_) (λgo=>?_)
 .refine⟨Al rfl,λl6 hl6=>?_⟩;have m0:=BU (c/4) (show(3:Int)≠0 by decide);have m1:=C0 (c/4) (show(0:Int)<3 by decide);obtain⟨j,hj⟩:∃j:Nat,c/4%3=(j:Int):=⟨(c/4%3).toNat,by lia⟩
  have jl:j<Rd.qTab.length:=by show j<3;lia
  refine⟨_,rfl,_,_,rfl,rfl,⟨by decide,by decide⟩,_,_,rfl,rfl,(by show(0:Int)<3;decide),l6,_,_,.str Rd.qTab[j],rfl,rfl,A4.of A3,?_,q _ _ (e5.trans (A6 hl6 _)) λD h0=>Rd.q_bad h0 (EY jl)⟩;show Bu (Rd.qTab.map V.str) (c/4%3)=_;rw[hj];exact D8 (by rw[Ce,BC jl];rfl)
 refine⟨_,rfl,Al rfl,λen hen=>?_⟩;have s5:=A6 hen (.lst []);refine⟨so',en,_,rfl,rfl,A4.of (s5 _ _ hs'),A4.of A3,_,rfl,?_⟩;refine AB (λy=>AG (go _ (e04.trans s5))) (λy=>?_);refine⟨_,rfl,_,_,rfl,rfl,(by show(0:Int)<4;decide),rfl,_,rfl,?_⟩;refine AB (λ_=>go _ (e04.trans s5)) (λ_=>?_);have xne:xs≠[]:=λz=>y (by rw[z];rfl);have xpos:0<xs.length:=O0.mpr xne;have hs5:=s5 _ _ hs';have ax5:=ax.mono λ_ _ z=>Rd.CcAt.over s5 z;have e05:=e04.trans s5;generalize upd H' en (.lst [])=H5 at hs5 ax5 e05;have m0:=BU (c/4) (show((xs.length:Nat):Int)≠0 by lia);have m1:=C0 (c/4) (show(0:Int)<((xs.length:Nat):Int) by lia);obtain⟨j,hj⟩:∃j:Nat,c/4%((xs.length:Nat):Int)=(j:Int):=⟨(c/4%((xs.length:Nat):Int)).toNat,by lia⟩
 have jl:j<xs.length:=by lia
 obtain⟨p,hp,tq,psp,ex,htq,hsp⟩:=ax5.get' (BC jl);have okp:=ck p (CU hp);refine⟨_,rfl,_,rfl,_,_,rfl,rfl,⟨by decide,by decide⟩,_,rfl,so',_,rfl,.inl (A4.of hs5),_,_,rfl,rfl,(by show(0:Int)<((xs.length:Nat):Int);lia),so',_,_,xs[j],rfl,rfl,A4.of hs5,?_,?_⟩
 .show Bu xs (c/4%((xs.length:Nat):Int))=_;rw[hj];exact D8 (BC jl)
 rw[ex];refine⟨tq,_,rfl,Aw.of htq,rfl,_,_,rfl,_,_,rfl,rfl,?_⟩;obtain⟨us,hus,aus⟩:=hsp;have nl:=okp.1.1.2.1;rw[cds_len]at nl;have m30:=BU ((us.length:Nat):Int) (show(3:Int)≠0 by decide);have m31:=C0 ((us.length:Nat):Int) (show(0:Int)<3 by decide);have tl:(Txt.mul (Str.ofString "[0]") (((us.length:Nat):Int)%3+1)).length<=9:=by
  have hh:((us.length:Nat):Int)%3=0\/((us.length:Nat):Int)%3=1\/((us.length:Nat):Int)%3=2:=by lia
  rcases hh with h|h|h<;>rw[h]<;>decide +kernel
 refine⟨_,rfl,_,rfl,psp,_,rfl,.inr (Aw.of hus),_,_,rfl,rfl,(by show(0:Int)<3;decide),_,_,rfl,rfl,_,_,rfl,rfl,(by show -(2 ^ 63:Int)<=((us.length:Nat):Int)%3+1;lia),(by show((us.length:Nat):Int)%3+1<=4096;lia),by decide +kernel,_,_,rfl,rfl,Ap (by show p.1.length+(Txt.mul (Str.ofString "[0]") (((us.length:Nat):Int)%3+1)).length<=1000000;lia),?_⟩;dsimp only[Am];have eT:p.1++Txt.mul (Str.ofString "[0]") (((us.length:Nat):Int)%3+1)=Rd.tbT p.1 p.2.length:=by rw[aus.1];rfl
 have tl2:(Rd.tbT p.1 p.2.length).length<=20:=by rw[←eT,AO];lia
 have k1:(Str.ofString " = 1").length=4:=by decide +kernel
 have k2:(Str.ofString "q[1] = 3*(").length=10:=by decide +kernel
 have k3:(Str.ofString "-2)").length=3:=by decide +kernel
 change G9 _ _ [some (.int c),some (.ref dl),some (.ref al),some (.ref so'),o4,some (.str p.1),some (.ref psp),some (.str (p.1++Txt.mul (Str.ofString "[0]") (((us.length:Nat):Int)%3+1)))] _;rw[eT];generalize hz:Rd.tbT p.1 p.2.length=zz at tl2;refine⟨_,rfl,_,_,rfl,rfl,Ap (by lia),_,rfl,_,_,rfl,rfl,Ap (by lia),_,_,rfl,rfl,Ap (by rw[AO];lia),Al rfl,λl6 hl6=>?_⟩;have n0:=BU c (show(2:Int)≠0 by decide);have n1:=C0 c (show(0:Int)<2 by decide);obtain⟨j2,hj2⟩:∃j:Nat,c%2=(j:Int):=⟨(c%2).toNat,by lia⟩
 have jl2:j2<[zz++" = 1","q[1] = 3*("++zz++"-2)"].length:=by show j2<2;lia
 refine⟨_,rfl,_,_,rfl,rfl,(by show(0:Int)<2;decide),l6,_,_,.str [zz++" = 1","q[1] = 3*("++zz++"-2)"][j2],rfl,rfl,A4.of A3,?_,q _ _ (e05.trans (A6 hl6 _)) λD h0=>Rd.tab_bad h0 okp (by rw[hz];exact EY jl2)⟩;show Bu ([zz++" = 1","q[1] = 3*("++zz++"-2)"].map V.str) (c%2)=_;rw[hj2];exact D8 (by rw[Ce,BC jl2];rfl)
theorem RI (T:Tx w K mg a):AQ P w K mg base B3 9 a.f_R a.d_R ["_law_lines","_law_deeds","_law_script","_law_names_here"] (Rd.spSpoilt K):=by
 have G_b :=@Pm P w K mg base a T;have G_p :=@PN P w K mg base a T;have G_O :=@TU P w K mg base a T;have G_P :=@Xa P w K mg base a T;have G_Q :=@Ys P w K mg base a T;refine T.F_R.ok Ec (λvs H Q E h=>?_) (λcdv A outer s H vs Q E hr h=>?_)
 .obtain⟨_,_,_,_,_,_,_,_,_,_,_,rfl,_⟩:=h;rfl
 obtain⟨l,dl,p,nl,cs,ns,ys,Ds,ks,n,la,rfl,hp,hnl,hdl,hD,hl,kl,dne,d6,dk,okk,hS,q⟩:=h;obtain⟨n0,n1⟩:=okk _ AH;have hkk:=Rd.stps_sz n0 n1 hS;obtain⟨kk,ekk⟩:∃kk,Rd.Rk.sz n::ks=kk:=⟨_,rfl⟩
 rw[ekk]at hkk okk hl;have kkl:kk.length=ks.length+1:=by rw[←ekk];rfl
 have dzz:∀{m:Nat} {D:Rd.Dr},1<=m->Rd.Stps (Rd.tf ns) Rd.D0 (kk.take m) D->D.sz≠none:=fun{m D} hm h=>by
  obtain⟨m,rfl⟩:∃j,m=j+1:=⟨m-1,by lia⟩
  rw[←ekk,List.take_succ_cons]at h;cases h with
  |cons s r=>obtain⟨_,_,_,rfl⟩:=s;exact Rd.stps_sm r (λz=>nomatch z)
 have cutA:∀m:Nat,Cr ((kk.map Rd.rkS).map V.str) none (some (m:Int))=((kk.take m).map Rd.rkS).map V.str:=λm=>by
  have:=F6 ((kk.map Rd.rkS).map V.str) (k:=(m:Int)) (by lia);rw[FL]at this;rw[Jq,Jq];exact this
 have cutB:∀m:Nat,Cr ((kk.map Rd.rkS).map V.str) (some (m:Int)) none=((kk.drop m).map Rd.rkS).map V.str:=λm=>by
  have:=NF ((kk.map Rd.rkS).map V.str) (i:=(m:Int)) (by lia);rw[FL]at this;rw[Jl,Jl];exact this
 have okt:∀m:Nat,∀k∈kk.take m,Rd.Rok ns k:=λm k hk=>okk k (EZ hk);have okd:∀m:Nat,∀k∈kk.drop m,Rd.Rok ns k:=λm k hk=>okk k (Gg hk);have put:∀{m:Nat} {z:Str} {D:Rd.Dr},m<=kk.length->Rd.Stps (Rd.tf ns) Rd.D0 (kk.take m) D->Rd.Bdr (Rd.tf ns) (kk.take m) D z->Rd.Bd ((kk.take m).map Rd.rkS++z::(kk.drop m).map Rd.rkS) (m+1):=fun{m z D} hm h hz=>by
  have:=Rd.bd_of h (okt m) hz rfl (Rd.rk_fine (okd m)) (by rw[Ag,Bb,BS];lia)
  rwa [Bb,Jm hm]at this
 refine⟨_,(A5 (Ak (i:=4) Ec.nd rfl (.inl rfl) (A8 Bm (AD G_b (hr.mono (by lia)) (by rfl) T.m_b T.F_b.kp T.b_b .nil Az (A0 (pv 2) (A0 A2 A1))) A2))
  (A5 (Ak (i:=5) Ec.nd rfl (.inl rfl) (AD G_b (hr.mono (by lia)) (by rfl) T.m_b T.F_b.kp T.b_b .nil Az (A0 (pv 2) (A0 A2 A1))))
  (A5 (Ak (i:=6) Ec.nd rfl (.inl rfl) (A8 Bm (AD G_b (hr.mono (by lia)) (by rfl) T.m_b T.F_b.kp T.b_b .nil Az (A0 (pv 2) (A0 A2 A1))) (A8 BG (B6 Bw (by rfl) T.z_len Bq (A0 (pv 0) A1)) A2)))
  (A5 (AM ((Cg (Au Bs (pv 4) A2 (Ax _)) (D4 (Au Bs (pv 4) A2 (Ax _))))).pt
  (Af (Ay (Cf (A0 (A8 BK (A8 BK (C7 CH (pv 0) Cy (BW (pv 6))) (Bh (A0 (AD G_p (hr.mono (by lia)) (by rfl) T.m_p T.F_p.kp T.b_p .nil Az (A0 (pv 5) A1)) A1))) (C7 CH (pv 0) (BW (pv 6)) Cy)) (A0 (A8 BG (pv 6) A2) A1)))))
  AS)
  (A5 (AM (Au Bs (pv 4) A2 (Ax _))
  (Af (Ay (Cf (A0 (C7 CH (pv 0) (BW A2) Cy) (A0 A2 A1)))))
  AS)
  (A5 (AM (Au Bs (pv 4) A2 (Ax _))
  (A5 (Ak (i:=7) Ec.nd rfl (.inl rfl) (A8 Be (A8 Be (Aj B7 (Aj AX (pv 1) A2 (λ_ _=>rfl)) A2 (λ_ _=>rfl)) (A8 QB Ab (B6 Bw (by rfl) T.z_len Bq (A0 (Aj B7 (Aj AX (pv 1) A2 (λ_ _=>rfl)) A2 (λ_ _=>rfl)) A1)))) Ab))
  (Af (Ay (Cf (A0 (A8 BK (pv 0) (A8 Pd (Bh (A0 (pv 7) A1)) (A8 Fb A2 (B6 Bw (by rfl) T.z_len Bq (A0 (pv 1) A1))))) (A0 (A8 Fb (A8 BG (B6 Bw (by rfl) T.z_len Bq (A0 (pv 0) A1)) A2) (B6 Bw (by rfl) T.z_len Bq (A0 (pv 1) A1))) A1))))))
  AS)
  (A5 (Ak (i:=6) Ec.nd rfl (.inl rfl) (B6 (WJ rfl) (by rfl) T.z_max RB (A0 A2 (A0 (pv 6) A1))))
  (A5 (Ak (i:=8) Ec.nd rfl (.inr rfl) (AD G_O (hr.mono (by lia)) (by rfl) T.m_O T.F_O.kp T.b_O .nil Az (A0 (C7 CH (pv 0) Cy (BW (pv 6))) A1)))
  (A5 (Ak (i:=9) Ec.nd rfl (.inl rfl) (Aj AX (Ef ["_law_name","_law_opened_here"] [none,some 8] (by rfl) (DD (C7 CH (pv 3) Cy (BW A2))) UU (λ_ _ _ _ _ _=>⟨(BB (i:=0) Vi rfl (.inl rfl)),(Kq (Au (show BL _ _ (Io K true) from Jy) (pv 0) (pv 1) (by with_unfolding_all rfl))),(pv 0)⟩)) A2 (λ_ _=>rfl)))
  (A5 (Ak (i:=10) Ec.nd rfl (.inl rfl) Ab)
  (A5 (AM (Au Bs (pv 4) A2 (Ax _))
  (A5 (Ak (i:=10) Ec.nd rfl (.inl rfl) Ab)
  (Af (AM (Au (Hf (Fg hr)) (pv 8) (Bh A1) (Ax _))
  (Af (Ak (i:=10) Ec.nd rfl (.inl rfl) (A8 Be (A8 Be Ab (Aj AX (pv 8) (A8 Bm (pv 5) (B6 Bw (by rfl) T.z_len Bq (A0 (pv 8) A1))) (λ_ _=>rfl))) Ab)))
  AS)))
  AS)
  (A5 (AM (Au Bs (pv 4) A2 (Ax _))
  (Af (Ak (i:=10) Ec.nd rfl (.inl rfl) (AD G_P (hr.mono (by lia)) (by rfl) T.m_P T.F_P.kp T.b_P .nil Az (A0 (pv 5) (A0 (Aj AX (pv 3) (A8 Bm (A8 CW (pv 5) A2) A2) (λ_ _=>rfl)) (A0 (pv 9) A1))))))
  AS)
  (A5 (AM (Au Bs (pv 4) A2 (Ax _))
  (Af (Ak (i:=10) Ec.nd rfl (.inl rfl) (AD G_Q (hr.mono (by lia)) (by rfl) T.m_Q T.F_Q.kp T.b_Q .nil Az (A0 (pv 5) (A0 (pv 1) (A0 (C7 CH (pv 0) Cy (BW (pv 6))) A1))))))
  AS)
  (A5 (AM (Au Bs (pv 4) A2 (Ax _))
  (Af (Ay (Cf (A0 (A8 BK (A8 BK (C7 CH (pv 0) Cy (BW (pv 6))) (Bh (A0 (A8 Be (A8 Be Ab (pv 9)) Ab) (A0 Ab A1)))) (C7 CH (pv 0) (BW (pv 6)) Cy)) (A0 (A8 BG (A8 BG (pv 6) A2) (Du Kf (by rfl) T.z_int HF (A0 (DY EK (B6 Bw (by rfl) T.z_len Bq (A0 (pv 8) A1)) A2 (Ax _)) A1))) A1)))))
  AS)
  (Af (Ay (Cf (A0 (A8 BK (A8 BK (C7 CH (pv 0) Cy (BW (pv 6))) (Bh (A0 (pv 10) A1))) (C7 CH (pv 0) (BW (pv 6)) Cy)) (A0 (A8 BG (pv 6) A2) A1))))))))))))))))))),?_⟩
 refine⟨_,rfl,p,cs,2,rfl,hp,by decide,_,_,rfl,rfl,(by show(0:Int)<9;decide),?_⟩;dsimp only[Am];generalize cs.getD (Int.toNat 2) 0%9=wy;refine⟨_,rfl,p,cs,3,rfl,hp,by decide,?_⟩;dsimp only[Am];generalize cs.getD (Int.toNat 3) 0=c;refine⟨_,rfl,p,cs,4,rfl,hp,by decide,_,rfl,l,_,rfl,.inl (A4.of hl),_,_,rfl,rfl,_,_,rfl,rfl,(by show(0:Int)<((((kk.map Rd.rkS).map V.str).length:Nat):Int)+1;lia),?_⟩;dsimp only[Am];rw[Ag,Ag];generalize cs.getD (Int.toNat 4) 0=c4;have f0:=BU c4 (show((kk.length:Nat):Int)+1≠0 by lia);have f1:=C0 c4 (show(0:Int)<((kk.length:Nat):Int)+1 by lia);obtain⟨m,em⟩:∃m:Nat,c4%(((kk.length:Nat):Int)+1)=(m:Int):=⟨(c4%(((kk.length:Nat):Int)+1)).toNat,by lia⟩
 rw[em];have mk':m<=kk.length:=by lia
 change Dt _ _ _ [some (.ref l),some (.ref dl),some (.ref p),some (.ref nl),some (.int wy),some (.int c),some (.int (m:Int)),none,none,none,none] _;refine Nj (λH'=>H'=H) (λH5 e5=>?_) (λgo=>?_)
 .subst e5;refine⟨_,rfl,_,rfl,_,rfl,l,_,rfl,A4.of hl,λa1 h1=>?_⟩;rw[cutA m];have s1:=A6 h1 (.lst (((kk.take m).map Rd.rkS).map V.str));have g1:(upd H5 a1 (.lst (((kk.take m).map Rd.rkS).map V.str))) a1=_:=A3;generalize upd H5 a1 (.lst (((kk.take m).map Rd.rkS).map V.str))=H1 at s1 g1;refine⟨_,rfl,_,rfl,λz H2 e2 hz=>⟨Al rfl,λa2 h2=>?_⟩⟩;have s2:=e2.trans (A6 h2 (.lst [V.str z]));refine⟨a1,a2,_,_,rfl,rfl,s2 _ _ g1,A3,Ap (by rw[Ag,Ag,Bb,Bf];lia),λa3 h3=>?_⟩;have s3:=s1.trans (s2.trans (A6 h3 (.lst (((kk.take m).map Rd.rkS).map V.str++[V.str z]))));have g3:(upd (upd H2 a2 (.lst [V.str z])) a3 (.lst (((kk.take m).map Rd.rkS).map V.str++[V.str z]))) a3=_:=A3;generalize upd (upd H2 a2 (.lst [V.str z])) a3 (.lst (((kk.take m).map Rd.rkS).map V.str++[V.str z]))=H3 at s3 g3;refine⟨_,rfl,_,rfl,_,rfl,l,_,rfl,A4.of (s3 _ _ hl),λa4 h4=>?_⟩;rw[cutB m];have s4:=A6 h4 (.lst (((kk.drop m).map Rd.rkS).map V.str));refine⟨a3,a4,_,_,rfl,rfl,s4 _ _ g3,A3,Ap (by simp only[An,Ag,Bb,BS,Bf];lia),λa5 h5=>?_⟩;have s5:=A6 h5 (.lst (((kk.take m).map Rd.rkS).map V.str++[V.str z]++((kk.drop m).map Rd.rkS).map V.str));refine⟨_,rfl,_,_,rfl,rfl,Al rfl,λtp htp=>?_⟩;obtain⟨D,hSD,_⟩:=Rd.stps_cut hkk m;refine q tp a5 _ ((kk.take m).map Rd.rkS++z::(kk.drop m).map Rd.rkS) (m+1) (s3.trans (s4.trans (s5.trans (A6 htp _)))) A3 (A6 htp _ _ _ (A3.trans ?_)) (put mk' hSD (Rd.odd_bad hz));rw[AR,BE,Br];rfl
 refine⟨_,rfl,rfl,_,rfl,?_⟩;refine AB (λy=>AG (go _ rfl)) (λy0=>?_);refine⟨_,rfl,rfl,_,rfl,?_⟩;refine AB (λy=>go _ rfl) (λy8=>?_);clear go;refine⟨_,rfl,rfl,_,rfl,?_⟩;refine AB (λ_=>?_) (λy1=>?_)
 .refine⟨_,rfl,_,rfl,l,_,rfl,A4.of hl,λa1 h1=>?_⟩;have c1:Cr ((kk.map Rd.rkS).map V.str) (some 1) none=(ks.map Rd.rkS).map V.str:=by
   have:=cutB 1;rw[←ekk]at this ⊢;exact this
  rw[c1];refine⟨Al rfl,λtp htp=>?_⟩;exact q tp a1 _ (ks.map Rd.rkS) 1 ((A6 h1 _).trans (A6 htp _)) A3 (A6 htp _ _ _ A3) (Rd.bd_first hS dne (λk hk=>okk k (by rw[←ekk];exact B5 _ hk)) kl)
 refine⟨_,rfl,rfl,_,rfl,?_⟩;refine AB (λ_=>?_) (λy2=>?_)
 .obtain⟨D1,Dr,rfl⟩:∃a b,Ds=a::b:=by
   cases Ds with
   |nil=>exact absurd rfl dne
   |cons a b=>exact⟨a,b,rfl⟩
  obtain⟨x0,yr,rfl⟩:∃a b,ys=a::b:=by
   cases ys with
   |nil=>exact absurd hD.1 (by simp)
   |cons a b=>exact⟨a,b,rfl⟩
  obtain⟨o,t,psp,pt,sh,rfl,ht,_,⟨us,hus,aus⟩,_,_⟩:=hD.2 0 x0 D1 rfl rfl;have hx0:Bu (V.ref t::yr) (0:Int)=some (.ref t):=D8 (j:=0) rfl;have dk1:=dk D1 AH;have nl8:=dk1.c.ok.1.2.1;rw[cds_len]at nl8;have u3:us.length<=3:=by rw[aus.1];exact dk1.c.ok.2.2.1
  have tl:(Txt.mul (Str.ofString "[1]") ((us.length:Nat):Int)).length<=9:=by
   have hh:us.length=0\/us.length=1\/us.length=2\/us.length=3:=by lia
   rcases hh with h|h|h|h<;>rw[h]<;>decide +kernel
  have k4:(Str.ofString " = 2").length=4:=by decide +kernel
  refine⟨_,rfl,dl,_,0,_,rfl,rfl,A4.of hdl,hx0,t,_,1,_,rfl,rfl,Aw.of ht,rfl,_,rfl,dl,_,0,_,rfl,rfl,A4.of hdl,hx0,t,_,2,_,rfl,rfl,Aw.of ht,rfl,psp,_,rfl,.inr (Aw.of hus),_,_,rfl,rfl,(by show -(2 ^ 63:Int)<=((us.length:Nat):Int);lia),(by show((us.length:Nat):Int)<=4096;lia),by decide +kernel,_,_,rfl,rfl,Ap (by show D1.tbl.length+(Txt.mul (Str.ofString "[1]") ((us.length:Nat):Int)).length<=1000000;lia),_,_,rfl,rfl,Ap (by rw[AO];lia),?_⟩;have eT:D1.tbl++Txt.mul (Str.ofString "[1]") ((us.length:Nat):Int)++Str.ofString " = 2"=Rd.rkS (Rd.on7 D1):=by
   rw[Rd.on7_txt dk1,aus.1]
  dsimp only[Am];rw[eT];change G9 _ _ [some (.ref l),some (.ref dl),some (.ref p),some (.ref nl),some (.int wy),some (.int c),some (.int (m:Int)),some (.str (Rd.rkS (Rd.on7 D1))),none,none,none] _;have dl6:(V.ref t::yr).length<=6:=by rw[hD.1];exact d6
  refine⟨_,rfl,_,rfl,Al rfl,λa1 h1=>?_⟩;have s1:=A6 h1 (.lst [V.str (Rd.rkS (Rd.on7 D1))]);refine⟨_,rfl,dl,_,rfl,.inl (A4.of (s1 _ _ hdl)),_,_,rfl,rfl,a1,_,_,rfl,rfl,A3,(by show -(2 ^ 63:Int)<=7-(((V.ref t::yr).length:Nat):Int);lia),(by show 7-(((V.ref t::yr).length:Nat):Int)<2 ^ 63;lia),Ap (by show 1*(7-(((V.ref t::yr).length:Nat):Int)).toNat<=1000000;lia),λa2 h2=>?_⟩;have eR:(List.replicate (7-(((V.ref t::yr).length:Nat):Int)).toNat [V.str (Rd.rkS (Rd.on7 D1))]).flatten=(List.replicate (7-(D1::Dr).length) (Rd.rkS (Rd.on7 D1))).map V.str:=by
   rw[hD.1,List.map_replicate];have:(7-(((D1::Dr).length:Nat):Int)).toNat=7-(D1::Dr).length:=by lia
   rw[this];generalize 7-(D1::Dr).length=j;induction j with
   |zero=>rfl
   |succ j ih=>rw[Ib,Hd,ih,Ib];rfl
  rw[eR];have s2:=A6 h2 (.lst ((List.replicate (7-(D1::Dr).length) (Rd.rkS (Rd.on7 D1))).map V.str));refine⟨l,a2,_,_,rfl,rfl,(s1.trans s2) _ _ hl,A3,Ap (by rw[Ag,Ag,Ag,Fj];lia),λa3 h3=>?_⟩;have s3:=A6 h3 (.lst ((kk.map Rd.rkS).map V.str++(List.replicate (7-(D1::Dr).length) (Rd.rkS (Rd.on7 D1))).map V.str));have s03:=s1.trans (s2.trans s3);refine⟨_,rfl,l,_,rfl,.inl (A4.of (s03 _ _ hl)),_,_,rfl,rfl,_,rfl,dl,_,rfl,.inl (A4.of (s03 _ _ hdl)),_,_,rfl,rfl,Al rfl,λtp htp=>?_⟩;refine q tp a3 _ (kk.map Rd.rkS++List.replicate (7-(D1::Dr).length) (Rd.rkS (Rd.on7 D1))) (kk.length+7-(D1::Dr).length) (s03.trans (A6 htp _)) (A3.trans ?_) (A6 htp _ _ _ (A3.trans (by rw[AR]))) (Rd.bd_seven hkk okk dk1 (λz=>nomatch z) d6 (by lia));have:(((kk.map Rd.rkS).map V.str).length:Int)+7-(((V.ref t::yr).length:Nat):Int)=((kk.length+7-(D1::Dr).length:Nat):Int):=by rw[Ag,Ag,hD.1];lia
  exact congrArg (λz=>some (HO.tup [V.ref a3,V.int z])) this
 refine⟨_,rfl,_,_,rfl,?_⟩;obtain⟨m',em',m1',mk2⟩:∃j:Nat,(if(m:Int)>1 then(m:Int) else 1)=(j:Int)/\1<=j/\j<=kk.length:=by
  by_cases h:(m:Int)>1
  .exact⟨m,Ac h,by lia,mk'⟩
  .exact⟨1,A9 h,Aq _,by lia⟩
 dsimp only[Am];rw[em'];clear em mk' f0 f1;obtain⟨D,hSD,hSr⟩:=Rd.stps_cut hkk m';have h0:=dzz m1' hSD;have lp3:=Rd.stps_lp hSD ⟨BI _,λ_ h=>nomatch h⟩;change Dt _ _ _ [some (.ref l),some (.ref dl),some (.ref p),some (.ref nl),some (.int wy),some (.int c),some (.int (m':Int)),none,none,none,none] _;refine⟨_,rfl,_,rfl,_,rfl,l,_,rfl,A4.of hl,λa1 h1=>?_⟩;rw[cutA m'];have ktl:(kk.take m').length=m':=by rw[Bb,Jm mk2]
 refine⟨Rd.tf ns,a1,kk.take m',D,ns,rfl,A3,hSD,okt m',by lia,λr8 H8 e8 h8=>?_⟩;have e08:=(A6 h1 (.lst (((kk.take m').map Rd.rkS).map V.str))).trans e8;clear e8 h1;dsimp only[Am];have ol:(Rd.lnm D.lp).length<=3:=by unfold Rd.lnm;rw[Ag];exact lp3.1
 have hn8:=hnl.over e08;have ct:Cr (ns.map V.str) none (some 4)=(ns.take 4).map V.str:=by
  have:=F6 (ns.map V.str) (k:=4) (by decide);rw[Jq];exact this
 refine⟨_,rfl,_,rfl,nl,_,rfl,A4.of hn8.1,λp1 hp1=>?_⟩;rw[ct];have s9:=A6 hp1 (.lst ((ns.take 4).map V.str));have hp9:(upd H8 p1 (.lst ((ns.take 4).map V.str))) p1=some (.lst ((ns.take 4).map V.str)):=A3;have h89:=s9 _ _ h8;have e09:=e08.trans s9;generalize upd H8 p1 (.lst ((ns.take 4).map V.str))=H9 at s9 hp9 h89 e09;have n4:(ns.take 4).length=4:=by rw[Bb,hnl.2.1];rfl
 have nd4:(ns.take 4).Nodup:=List.Nodup.sublist (R1 _ _) hnl.2.2.1;have n20:∀z∈ns.take 4,AW (cds z):=λz hz=>hnl.2.2.2 z (EZ hz);generalize ns.take 4=n4s at hp9 n4 nd4 n20;generalize hkn:Rd.lnm D.lp=kn at h89 ol;have fl:((kn.map V.str).all Eo)=true:=by rw[LM];exact EB.mpr λ_ _=>rfl
 refine⟨p1,rfl,⟨_,A4.of hp9⟩,?_⟩;refine G0 (xs:=n4s.map V.str) (λi ys H3=>H3=H9/\ys=((n4s.take i).filter λz=>!decide (z∈kn)).map V.str) ⟨rfl,rfl⟩ (Ap (by rw[Ag];lia)) (λi ys H3 hi p=>?_) (λi x ys H3 hc p=>?_) (λys H3 p r3 hr3=>?_)
 .obtain⟨rfl,rfl⟩:=p;refine⟨A4.of hp9,?_⟩;rw[Ag];exact BP (Ju _ _) (by rw[Bb];lia)
 .obtain⟨rfl,rfl⟩:=p;rw[Ce]at hc;cases hz:n4s[i]? with
  |none=>rw[hz]at hc;cases hc
  |
   some z=>
   rw[hz]at hc;cases hc;refine⟨_,rfl,_,rfl,r8,_,rfl,.inl (A4.of h89),rfl,fl,_,rfl,?_⟩;show if(!Dd (V.str z) (kn.map V.str))=true then _ else _
   rw[Qk,DB hz,Gj,AR];refine AB (λc2=>?_) (λc2=>?_)
   .refine⟨_,rfl,rfl,?_⟩;rw[show List.filter (λz=>!decide (z∈kn)) [z]=[z] from List.filter_cons_of_pos (p:=λz=>!decide (z∈kn)) c2];rfl
   .refine⟨rfl,?_⟩;rw[show List.filter (λz=>!decide (z∈kn)) [z]=[] from List.filter_cons_of_neg (p:=λz=>!decide (z∈kn)) c2];show _=_++[];rw[D6]
 obtain⟨rfl,rfl⟩:=p;rw[Ag,El];have rsub:∀z∈(n4s.filter λz=>!decide (z∈kn)),AW (cds z)/\z∉kn:=λz hz=>⟨n20 z (GZ.mp hz).1,by have:=(GZ.mp hz).2;simpa using this⟩
 obtain⟨rs,rr,hrest⟩:∃a b,(n4s.filter λz=>!decide (z∈kn))=a::b:=by
  cases hnil:(n4s.filter λz=>!decide (z∈kn)) with
  |cons a b=>exact⟨a,b,rfl⟩
  |
   nil=>
   have:=ND nd4 (k:=kn) λx hx=>by simpa using List.filter_eq_nil_iff.mp hnil x hx
   lia
 rw[hrest]at rsub ⊢;obtain⟨rok,rno⟩:=rsub rs AH;have rl8:=rok.2.1;rw[cds_len]at rl8;refine⟨r3,_,_,.str rs,rfl,rfl,A4.of A3,D8 (j:=0) rfl,?_⟩;have s10:=A6 hr3 (.lst ((rs::rr).map V.str));have h8A:=s10 _ _ h89;have e0A:=e09.trans s10;dsimp only[Am];generalize upd H3 r3 (.lst ((rs::rr).map V.str))=HA at s10 h8A e0A;refine Jc ?_;dsimp only[List.set];have nrD:rs∉D.lp.map (·.nm):=by rw[←hkn]at rno;exact rno
 clear hp9 h89 s10 s9;refine Dp (fun σ' H'=>∃z:Str,σ'=[some (.ref l),some (.ref dl),some (.ref p),some (.ref nl),some (.int wy),some (.int c),some (.int (m':Int)),none,some (.ref r8),some (.str rs),some (.str z)]/\Ae HA H'/\Rd.Bdr (Rd.tf ns) (kk.take m') D z) (fun σ' HB pp=>?_) (λnx=>?_);rotate_left
 .refine⟨_,rfl,rfl,_,rfl,?_⟩;refine AB (λ_=>?_) (λ_=>nx _ _ ⟨_,rfl,Ae.refl _,Rd.size_bad h0⟩);refine Jc ?_;refine⟨_,rfl,Al rfl,λen hen=>?_⟩;have s11:=A6 hen (.lst []);refine⟨r8,en,_,rfl,rfl,A4.of (s11 _ _ h8A),A4.of A3,_,rfl,?_⟩;refine AB (λy=>?_) (λy=>?_)
  .have kne:kn≠[]:=λz=>by rw[z]at y;cases y
   have kpos:0<kn.length:=O0.mpr kne;have q0:=BU c (show((kn.length:Nat):Int)≠0 by lia);have q1:=C0 c (show(0:Int)<((kn.length:Nat):Int) by lia);obtain⟨j,hj⟩:∃j:Nat,c%((kn.length:Nat):Int)=(j:Int):=⟨(c%((kn.length:Nat):Int)).toNat,by lia⟩
   have jl:j<kn.length:=by lia
   have kall:∀u∈kn,u∈D.lp.map (·.nm):=by rw[←hkn];exact λu h=>h
   have kmem:kn[j]∈D.lp.map (·.nm):=kall _ (EY jl);have kok:AW (cds kn[j]):=by
    obtain⟨t,ht,e⟩:=CK.mp kmem;rw[←e];exact lp3.2 t ht
   have kl8:=kok.2.1;rw[cds_len]at kl8;have k4:(Str.ofString "for ").length=4:=by decide +kernel
   have k5:(Str.ofString " 0 1").length=4:=by decide +kernel
   refine⟨_,rfl,_,rfl,_,rfl,r8,_,rfl,.inl (A4.of (s11 _ _ h8A)),_,_,rfl,rfl,(by show(0:Int)<(((kn.map V.str).length:Nat):Int);rw[Ag];lia),r8,_,_,.str kn[j],rfl,rfl,A4.of (s11 _ _ h8A),?_,_,_,rfl,rfl,Ap (by lia),_,_,rfl,rfl,Ap (by rw[AO];lia),?_⟩
   .show Bu (kn.map V.str) (c%(((kn.map V.str).length:Nat):Int))=_;rw[Ag,hj];exact D8 (by rw[Ce,BC jl];rfl)
   .exact nx _ _ ⟨_,rfl,s11,Rd.again_bad h0 kok kmem⟩
  .have kne:D.lp=[]:=by
    have:kn=[]:=by
     cases kn with
     |nil=>rfl
     |cons a b=>exact absurd rfl y
    rw[this]at hkn;exact Jt.mp hkn
   exact nx _ _ ⟨_,rfl,s11,Rd.end_bad h0 (.inl kne)⟩
 obtain⟨z1,rfl,eB,bz1⟩:=pp;refine Dp (fun σ' H'=>∃z:Str,σ'=[some (.ref l),some (.ref dl),some (.ref p),some (.ref nl),some (.int wy),some (.int c),some (.int (m':Int)),none,some (.ref r8),some (.str rs),some (.str z)]/\Ae HA H'/\Rd.Bdr (Rd.tf ns) (kk.take m') D z) (fun σ' HC pp=>?_) (λnx=>?_);rotate_left
 .refine⟨_,rfl,rfl,_,rfl,?_⟩;refine AB (λ_=>?_) (λ_=>nx _ _ ⟨_,rfl,eB,bz1⟩);have q0:=BU (c/6) (show(8:Int)≠0 by decide);have q1:=C0 (c/6) (show(0:Int)<8 by decide);obtain⟨j,hj⟩:∃j:Nat,c/6%8=(j:Int):=⟨(c/6%8).toNat,by lia⟩
  have jl:j<ns.length:=by rw[hnl.2.1];lia
  have nok:=hnl.2.2.2 _ (EY jl);have nl8:=nok.2.1;rw[cds_len]at nl8;have hnB:=hnl.over (e0A.trans eB);refine⟨_,rfl,_,rfl,_,rfl,_,_,rfl,rfl,⟨by decide,by decide⟩,_,_,rfl,rfl,(by show(0:Int)<8;decide),nl,_,_,.str ns[j],rfl,rfl,A4.of hnB.1,?_,_,rfl,c,_,_,rfl,by lia,by lia,λz HC eC hz=>nx _ _ ⟨z,rfl,eB.trans eC,Rd.str_bad nok rok nrD h0 hz⟩⟩;show Bu (ns.map V.str) (c/6%8)=_;rw[hj];exact D8 (by rw[Ce,BC jl];rfl)
 obtain⟨z2,rfl,eC,bz2⟩:=pp;clear eB bz1;refine Dp (fun σ' H'=>∃z:Str,σ'=[some (.ref l),some (.ref dl),some (.ref p),some (.ref nl),some (.int wy),some (.int c),some (.int (m':Int)),none,some (.ref r8),some (.str rs),some (.str z)]/\Ae HA H'/\Rd.Bdr (Rd.tf ns) (kk.take m') D z) (fun σ' HD pp=>?_) (λnx=>?_);rotate_left
 .refine⟨_,rfl,rfl,_,rfl,?_⟩;refine AB (λ_=>?_) (λ_=>nx _ _ ⟨_,rfl,eC,bz2⟩);have e0C:=e0A.trans eC;refine⟨_,rfl,_,rfl,_,rfl,_,rfl,_,rfl,l,_,rfl,A4.of (e0C _ _ hl),λa5 h5=>?_⟩;rw[cutA m'];have s5:=A6 h5 (.lst (((kk.take m').map Rd.rkS).map V.str));have hcnt:Ds.take ((kk.take m').filter Rd.isD).length=D.dd:=by
   obtain⟨lx,hlx⟩:=Rd.stps_pre hSr;have hlx:Ds=D.dd++lx:=hlx;have:=Rd.stps_dd hSD;have:D.dd.length=0+((kk.take m').filter Rd.isD).length:=this;rw[hlx,←Js ((kk.take m').filter Rd.isD).length,←this,FN]
  refine⟨c,dl,a5,ys,Ds,kk.take m',ns,rfl,(e0C.trans s5) _ _ hdl,hD.mono λ_ _ z=>DZ.over (e0C.trans s5) z,d6,A3,by lia,okt m',λE hE=>⟨(dk E hE).t.ok,(dk E hE).s⟩,?_,λz HD eD hz=>nx _ _ ⟨z,rfl,eC.trans (s5.trans eD),hz D h0⟩⟩;rw[hcnt];exact Rd.cok_all hSD (okt m')
 obtain⟨z3,rfl,eD,bz3⟩:=pp;clear eC bz2;have e0D:=e0A.trans eD;have hlD:=e0D _ _ hl;refine⟨_,rfl,rfl,_,rfl,?_⟩;refine AB (λ_=>?_) (λ_=>?_)
 .have k4:(Str.ofString "for ").length=4:=by decide +kernel
  have k5:(Str.ofString " 0 1").length=4:=by decide +kernel
  refine⟨_,rfl,_,rfl,_,rfl,l,_,rfl,A4.of hlD,λa1 h1=>?_⟩;rw[cutA m'];have s1:=A6 h1 (.lst (((kk.take m').map Rd.rkS).map V.str));have g1:(upd HD a1 (.lst (((kk.take m').map Rd.rkS).map V.str))) a1=_:=A3;generalize upd HD a1 (.lst (((kk.take m').map Rd.rkS).map V.str))=H1 at s1 g1;refine⟨_,rfl,_,_,rfl,rfl,Ap (by lia),_,_,rfl,rfl,Ap (by rw[AO];lia),Al rfl,λa2 h2=>?_⟩;generalize hzz:Str.ofString "for "++rs++Str.ofString " 0 1"=zz;have s2:=A6 h2 (.lst [V.str zz,V.str "end"]);refine⟨a1,a2,_,_,rfl,rfl,s2 _ _ g1,A3,Ap (by rw[Ag,Ag,Bb];show _+2<=_;lia),λa3 h3=>?_⟩;have s3:=s1.trans (s2.trans (A6 h3 (.lst (((kk.take m').map Rd.rkS).map V.str++[V.str zz,V.str "end"]))));have g3:(upd (upd H1 a2 (.lst [V.str zz,V.str "end"])) a3 (.lst (((kk.take m').map Rd.rkS).map V.str++[V.str zz,V.str "end"]))) a3=_:=A3;generalize upd (upd H1 a2 (.lst [V.str zz,V.str "end"])) a3 (.lst (((kk.take m').map Rd.rkS).map V.str++[V.str zz,V.str "end"]))=H3 at s3 g3;refine⟨_,rfl,_,rfl,_,rfl,l,_,rfl,A4.of (s3 _ _ hlD),λa4 h4=>?_⟩;rw[cutB m'];have s4:=A6 h4 (.lst (((kk.drop m').map Rd.rkS).map V.str));refine⟨a3,a4,_,_,rfl,rfl,s4 _ _ g3,A3,Ap (by simp only[An,Ag,Bb,BS,AJ,Jj];lia),λa5 h5=>?_⟩;have s5:=A6 h5 (.lst (((kk.take m').map Rd.rkS).map V.str++[V.str zz,V.str "end"]++((kk.drop m').map Rd.rkS).map V.str));have h85:=(eD.trans (s3.trans (s4.trans s5))) _ _ h8A;refine⟨_,rfl,_,_,rfl,rfl,_,rfl,r8,_,rfl,.inl (A4.of h85),_,_,rfl,rfl,.inr ⟨_,rfl,_,_,rfl,rfl,Al rfl,λtp htp=>?_⟩⟩;have bd:=Rd.bd_loop hSD (okt m') h0 rok nrD (Rd.rk_fine (okd m')) (by rw[Ag,Bb,BS];lia);rw[ktl,show("for ":Str)++rs++" 0 1"=zz from hzz]at bd;refine q tp a5 _ _ _ (e0D.trans (s3.trans (s4.trans (s5.trans (A6 htp _))))) (A3.trans ?_) (A6 htp _ _ _ (A3.trans ?_)) bd
  .have hll:(((kn.map V.str).length:Nat):Int)=((D.lp.length:Nat):Int):=by rw[Ag,←hkn];unfold Rd.lnm;rw[Ag]
   show some (HO.tup [V.ref a5,V.int ((m':Int)+1+if decide ((((kn.map V.str).length:Nat):Int)<3)=true then 1 else 0)])=_;rw[hll];by_cases h3:D.lp.length<3
   .rw[Ac h3,Ac (Bc (by lia))];rfl
   .rw[A9 h3,A9 (λz=>h3 (by have:=Jw z;lia))];rfl
  .rw[AR,BE,BE,Br];rfl
 refine⟨_,rfl,_,rfl,_,rfl,l,_,rfl,A4.of hlD,λa1 h1=>?_⟩;rw[cutA m'];have s1:=A6 h1 (.lst (((kk.take m').map Rd.rkS).map V.str));have g1:(upd HD a1 (.lst (((kk.take m').map Rd.rkS).map V.str))) a1=_:=A3;generalize upd HD a1 (.lst (((kk.take m').map Rd.rkS).map V.str))=H1 at s1 g1;refine⟨_,rfl,Al rfl,λa2 h2=>?_⟩;have s2:=A6 h2 (.lst [V.str z3]);refine⟨a1,a2,_,_,rfl,rfl,s2 _ _ g1,A3,Ap (by rw[Ag,Ag,Bb,Bf];lia),λa3 h3=>?_⟩;have s3:=s1.trans (s2.trans (A6 h3 (.lst (((kk.take m').map Rd.rkS).map V.str++[V.str z3]))));have g3:(upd (upd H1 a2 (.lst [V.str z3])) a3 (.lst (((kk.take m').map Rd.rkS).map V.str++[V.str z3]))) a3=_:=A3;generalize upd (upd H1 a2 (.lst [V.str z3])) a3 (.lst (((kk.take m').map Rd.rkS).map V.str++[V.str z3]))=H3 at s3 g3;refine⟨_,rfl,_,rfl,_,rfl,l,_,rfl,A4.of (s3 _ _ hlD),λa4 h4=>?_⟩;rw[cutB m'];have s4:=A6 h4 (.lst (((kk.drop m').map Rd.rkS).map V.str));refine⟨a3,a4,_,_,rfl,rfl,s4 _ _ g3,A3,Ap (by simp only[An,Ag,Bb,BS,Bf];lia),λa5 h5=>?_⟩;have s5:=A6 h5 (.lst (((kk.take m').map Rd.rkS).map V.str++[V.str z3]++((kk.drop m').map Rd.rkS).map V.str));refine⟨_,rfl,_,_,rfl,rfl,Al rfl,λtp htp=>?_⟩;refine q tp a5 _ ((kk.take m').map Rd.rkS++z3::(kk.drop m').map Rd.rkS) (m'+1) (e0D.trans (s3.trans (s4.trans (s5.trans (A6 htp _))))) A3 (A6 htp _ _ _ (A3.trans ?_)) (put mk2 hSD bz3);rw[AR,BE,Br];rfl
theorem ok_law (T:Tx w K mg a):AQ P w K mg base B3 90 a.f_V a.d_V ["_law_script"] (Mh K):=by
 have G_b :=@Pm P w K mg base a T;have G_K :=@Uu P w K mg base a T;have G_N :=@Xz P w K mg base a T;have G_R :=@RI P w K mg base a T;have G_S :=@Um P w K mg base a T;have G_T :=@Wl P w K mg base a T;have G_t :=@UP P w K mg base a T;have G_U :=@SN P w K mg base a T;have G_J :=@T4 P w K mg base a T;have G_e :=@Nz P w K mg base a T;refine T.F_V.ok Ey (λvs H Q E h=>?_) (λcdv A outer s H vs Q E hr h=>?_)
 .obtain⟨_,_,rfl,_⟩:=h;rfl
 obtain⟨p,ns,rfl,hp,h63,_,q⟩:=h;refine⟨_,(A5 (Ak (i:=1) Ey.nd rfl (.inl rfl) (AD G_K (hr.mono (by lia)) (by rfl) T.m_K T.F_K.kp T.b_K .nil Az (A0 (AD G_b (hr.mono (by lia)) (by rfl) T.m_b T.F_b.kp T.b_b .nil Az (A0 (pv 0) (A0 A2 A1))) (A0 A2 A1))))
  (A5 (IZ (AD G_N (hr.mono (by lia)) (by rfl) T.m_N T.F_N.kp T.b_N .nil Az (A0 (C7 CH (pv 0) (BW A2) (BW A2)) (A0 (pv 1) A1))) (GP rfl (DO (BB (i:=2) Ey.nd rfl (.inl rfl)) (DO (BB (i:=3) Ey.nd rfl (.inl rfl)) Gu))))
  (A5 (Ak (i:=4) Ey.nd rfl (.inl rfl) (A8 BK (Bh (A0 (A8 Be Ab (Du Jz (by rfl) T.z_str Lj (A0 (A8 BG A2 (A8 Bm (AD G_b (hr.mono (by lia)) (by rfl) T.m_b T.F_b.kp T.b_b .nil Az (A0 (pv 0) (A0 A2 A1))) (A8 Fb (A8 Mr A2 A2) A2))) A1))) A1)) (Ef ["_law_deep","_law_text"] [none,none] (by rfl) (DD (pv 2)) YD (λ_ _ _ _ _ _=>⟨(show PG _ _ (OI K 2 _) from(GP rfl (DO (BB (i:=0) Q8 rfl (.inl rfl)) (DO (BB (i:=1) Q8 rfl (.inl rfl)) Gu)))),F7,(pv 1)⟩))))
  (A5 (IZ (AD G_R (hr.mono (by lia)) (by rfl) T.m_R T.F_R.kp T.b_R .nil Az (A0 (pv 4) (A0 (pv 3) (A0 (pv 0) (A0 (pv 1) A1))))) (GP rfl (DO (BB (i:=5) Ey.nd rfl (.inl rfl)) (DO (BB (i:=6) Ey.nd rfl (.inl rfl)) Gu))))
  (A5 (Ak (i:=5) Ey.nd rfl (.inl rfl) (AD G_S (hr.mono (by lia)) (by rfl) T.m_S T.F_S.kp T.b_S .nil Az (A0 (pv 5) (A0 (pv 6) (A0 (AD G_b (hr.mono (by lia)) (by rfl) T.m_b T.F_b.kp T.b_b .nil Az (A0 (pv 0) (A0 A2 A1))) A1)))))
  (A5 (IZ (AD G_T (hr.mono (by lia)) (by rfl) T.m_T T.F_T.kp T.b_T .nil Az (A0 (pv 5) (A0 (pv 6) (A0 (A8 BG (AD G_b (hr.mono (by lia)) (by rfl) T.m_b T.F_b.kp T.b_b .nil Az (A0 (pv 0) (A0 A2 A1))) (AD G_b (hr.mono (by lia)) (by rfl) T.m_b T.F_b.kp T.b_b .nil Az (A0 (pv 0) (A0 A2 A1)))) A1)))) (GP rfl (DO (BB (i:=5) Ey.nd rfl (.inl rfl)) (DO (BB (i:=6) Ey.nd rfl (.inl rfl)) Gu))))
  (A5 (Ak (i:=7) Ey.nd rfl (.inl rfl) (Bx E2 NY NZ KJ Ab (A0 (pv 5) A1)))
  (A5 (Ak (i:=8) Ey.nd rfl (.inl rfl) (AD G_t (hr.mono (by lia)) (by rfl) T.m_t T.F_t.kp T.b_t .nil Az (A0 (pv 7) A1)))
  (A5 (AM ((Cg (E4 (CI (AD G_J (hr.mono (by lia)) (by rfl) T.m_J T.F_J.kp T.b_J .nil Az (A0 (pv 8) A1)))) (Cg (Au E9 (pv 8) (pv 6) (Ax _)) (D4 (E4 (CI (AD G_U (hr.mono (by lia)) (by rfl) T.m_U T.F_U.kp T.b_U .nil Az (A0 (pv 7) A1)))))))).pt
  (Af (Ay Cw))
  AS)
  (Af (Ay (K4 (DY Bs (B6 Bw (by rfl) T.z_len Bq (A0 (BH (MC G_e (hr.mono (by lia)) (by rfl) T.m_e T.F_e.kp T.b_e .nil SY (A0 (Bx E2 NY NZ KJ Ab (A0 (pv 4) A1)) A1)) rfl) A1)) (B6 Bw (by rfl) T.z_len Bq (A0 (pv 3) A1)) (Ax _)) (Gv (DY Bs (AD G_t (hr.mono (by lia)) (by rfl) T.m_t T.F_t.kp T.b_t .nil Az (A0 (pv 7) A1)) (pv 6) (Ax _))))))))))))))),?_⟩
 refine⟨_,rfl,p,ns,0,rfl,hp,by decide,_,rfl,λnl H1 zs e1 hn=>?_⟩;dsimp only[Am];refine⟨_,rfl,_,rfl,_,rfl,p,_,rfl,e1.seq hp,λp1 hp1=>?_⟩;rw[Oq];have s2:=A6 hp1 (.lst ((CM ns (some 6) (some 59)).map V.int));have cl:(CM ns (some 6) (some 59)).length<=63:=BP (by unfold CM;rw[Bb,BS];lia) h63;refine⟨_,rfl,p1,nl,CM ns (some 6) (some 59),zs,rfl,A4.of A3,cl,hn.over s2,λt rl dl H3 xs ys R Ds ks la e3 ht hrl ax hdl ay C dne r70=>?_⟩;refine⟨t,_,rfl,Aw.of ht,rfl,_,_,rfl,_,_,rfl,rfl,?_⟩;have e13:=e1.trans (s2.trans e3);refine⟨_,rfl,p,ns,1,rfl,e13.seq hp,by decide,?_⟩;generalize ns.getD (Int.toNat 1) 0=c1;have k18:(10 ^ (18:Int).toNat-2:Int)=999999999999999998:=by decide
 have m0:=BU c1 (show(10 ^ (18:Int).toNat-2:Int)≠0 by decide);have m1:=C0 c1 (show(0:Int)<(10 ^ (18:Int).toNat-2:Int) by decide);obtain⟨n,en⟩:∃n:Int,2+c1%(10 ^ (18:Int).toNat-2:Int)=n:=⟨_,rfl⟩
 have n0:2<=n:=by lia
 have n1:n<=999999999999999999:=by lia
 have l5:("size ":Str).length=5:=by decide +kernel
 have nl9:=L6 (i:=n) (by lia) n1;refine⟨_,_,rfl,rfl,⟨by decide,by decide,by decide⟩,_,_,rfl,rfl,_,_,rfl,rfl,(by show(0:Int)<(10 ^ (18:Int).toNat-2:Int);decide),_,_,rfl,rfl,n,congrArg (λz=>[V.int z]) en,IP (by lia) n1,_,_,rfl,rfl,Ap (by unfold nS at nl9;lia),Al rfl,λa1 ha1=>?_⟩;have s4:=A6 ha1 (.lst [V.str (Rd.rkS (.sz n))]);have ha4:(upd H3 a1 (.lst [V.str (Rd.rkS (.sz n))])) a1=some (.lst [V.str (Rd.rkS (.sz n))]):=A3;change HE _ _ _ _ _ _ (upd H3 a1 (.lst [V.str (Rd.rkS (.sz n))])) _;generalize upd H3 a1 (.lst [V.str (Rd.rkS (.sz n))])=H4 at s4 ha4;have hrl4:=s4 _ _ hrl;have xl:=ax.1;have klen:ks.length=R.length:=by have:=congrArg List.length C.tx;rw[Ag,Ag]at this;exact this.symm
 refine⟨_,rfl,rl,rfl,⟨_,A4.of hrl4⟩,?_⟩;refine Yq (xs:=xs) (λi ys H'=>H'=H4/\ys=((R.take i).map λp=>Kh p.2).map V.str) ⟨rfl,rfl⟩ (Ap (by lia)) (λi ys H' hi pp=>⟨by rw[pp.1];exact A4.of hrl4,by rw[pp.2,Ag,Ag,Bb];lia⟩) (λi x ys H' hx pp=>?_) (λys H' pp r2 hr2=>?_)
 .obtain⟨rfl,rfl⟩:=pp;obtain⟨pr,hpr,t0,rfl,ht0⟩:=ax.get' hx;refine⟨t0,_,rfl,Aw.of (s4 _ _ ht0),rfl,_,_,rfl,_,_,rfl,rfl,X7 (ρ:=[]) _ _,?_⟩;refine⟨_,rfl,rfl,?_⟩;rw[DB hpr,AR,AR];rfl
 obtain⟨rfl,rfl⟩:=pp;rw[Gh (by lia),C.tx];have s5:=A6 hr2 (.lst ((ks.map Rd.rkS).map V.str));refine⟨a1,r2,_,_,rfl,rfl,s5 _ _ ha4,A3,Ap (by rw[Ag,Ag,Bf];lia),λl hl=>?_⟩;have okk:∀k∈Rd.Rk.sz n::ks,Rd.Rok zs k:=λk hk=>by
  rcases Av.mp hk with rfl|hk
  .exact⟨n0,n1⟩
  .exact C.ok k hk
 have eL:[V.str (Rd.rkS (.sz n))]++(ks.map Rd.rkS).map V.str=((Rd.Rk.sz n::ks).map Rd.rkS).map V.str:=rfl;rw[eL];have s6:=s5.trans (A6 hl (.lst (((Rd.Rk.sz n::ks).map Rd.rkS).map V.str)));have hl6:(upd (upd H' r2 (.lst ((ks.map Rd.rkS).map V.str))) l (.lst (((Rd.Rk.sz n::ks).map Rd.rkS).map V.str))) l=some (.lst (((Rd.Rk.sz n::ks).map Rd.rkS).map V.str)):=A3;dsimp only[Am];generalize upd (upd H' r2 (.lst ((ks.map Rd.rkS).map V.str))) l (.lst (((Rd.Rk.sz n::ks).map Rd.rkS).map V.str))=H6 at s6 hl6;have e36:=s4.trans s6;have e16:=e13.trans e36;have hdl6:=e36 _ _ hdl;have ay6:=ay.mono λ_ _ z=>DZ.over e36 z;have hn6:=(hn.over (s2.trans e3)).over e36;have d6:Ds.length<=6:=Rd.Rds.six (Rd.stps_rds (C.st n) C.ok) (BI _);refine⟨_,rfl,_,rfl,_,rfl,_,rfl,l,dl,p,nl,ns,zs,ys,Ds,ks,n,la,rfl,e16.seq hp,hn6,hdl6,ay6,hl6,by lia,dne,d6,(λD hD=>(C.dk D hD).1),okk,C.st n,λt2 q2 H7 Ln d e7 ht2 hq2 bd=>?_⟩;refine⟨t2,_,rfl,Aw.of ht2,rfl,_,_,rfl,_,_,rfl,rfl,?_⟩;have e17:=e16.trans e7;change Dt _ _ _ [some (.ref p),some (.ref nl),some (.ref rl),some (.ref dl),some (.ref l),some (.ref q2),some (.int (d:Int)),none,none] _;refine⟨_,rfl,_,rfl,_,rfl,p,ns,5,rfl,e17.seq hp,by decide,q2,Ln,d,_,rfl,hq2,bd.1,bd.2.1,λq3 H8 b e8 hq3 bl bm=>?_⟩;dsimp only[Am];have e18:=e17.trans e8;change Dt _ _ _ [some (.ref p),some (.ref nl),some (.ref rl),some (.ref dl),some (.ref l),some (.ref q3),some (.int (d:Int)),none,none] _;have l3:(Ln.take d++b).length<=300:=by
  have:=bd.2.1;rw[An,Bb];lia
 refine⟨_,rfl,_,rfl,_,rfl,p,ns,4,rfl,e18.seq hp,by decide,_,rfl,p,ns,5,rfl,e18.seq hp,by decide,_,_,rfl,rfl,q3,_,d,_,rfl,hq3,l3,λt4 q4 H9 PP e9 hP hB ht4 hq4=>?_⟩;refine⟨t4,_,rfl,Aw.of ht4,rfl,_,_,rfl,_,_,rfl,rfl,?_⟩;have e19:=e18.trans e9;have e69:=e7.trans (e8.trans e9);obtain⟨x1,x2,x3,x4,x5⟩:=Rd.line_of bd bl bm hP hB;generalize d+Rd.cntS PP d=due at x5;change Dt _ _ _ [some (.ref p),some (.ref nl),some (.ref rl),some (.ref dl),some (.ref l),some (.ref q4),some (.int (due:Int)),none,none] _;generalize Rd.spFS PP=rows at x1 x2 x3 x4 x5 hq4;have nl1:("\n":Str).length=1:=by decide +kernel
 have sl1:=Rd.sum_le (n:=1000) x4 (l:=rows);refine⟨rfl,_,rfl,_,q4,_,rfl,rfl,.inl (A4.of hq4),?_,?_⟩
 .rw[nl1];exact BP (Nat.add_le_add_right sl1 _) (by lia)
 dsimp only[Am];refine⟨_,rfl,_,rows,due,rfl,x1,x2,x3,x4,.inl x5,λHA eA=>?_⟩;dsimp only[Am];change Dt _ _ _ [some (.ref p),some (.ref nl),some (.ref rl),some (.ref dl),some (.ref l),some (.ref q4),some (.int (due:Int)),some (.str (Txt.join "\n" rows)),some (.int (due:Int))] _;refine⟨_,rfl,_,rfl,rfl,_,rfl,?_⟩;refine AL ?_;refine⟨_,rfl,_,rfl,rfl,_,rfl,?_⟩;refine AB (λy=>absurd y (by simp)) (λ_=>?_);refine⟨_,rfl,_,rows,due,rfl,x1,x2,x3,x4,.inl x5,λHB eB=>⟨_,rfl,AL ?_⟩⟩;have e6B:=e69.trans (eA.trans eB);have hlB:=e6B _ _ hl6;have hkk:=Rd.stps_sz n0 n1 (C.st n);obtain⟨w1,w2,w3,w4,tb,w5⟩:=Rd.read_of hkk okk (Cq _ _) (by rw[AJ];lia);have whl:Rd.Whl ⟨some n,Ds,[],[],la⟩:=⟨(λz=>nomatch z),dne,rfl⟩
 have sl2:=Rd.sum_le (n:=1000) w4 (l:=(Rd.Rk.sz n::ks).map Rd.rkS);refine⟨rfl,_,rfl,_,l,_,rfl,rfl,.inl (A4.of hlB),?_,_,_,rfl,w1,w2,w3,w4,λe n' v HC h1 hw hn' eC hPr=>?_,λi x dx HC hi=>?_⟩
 .rw[nl1];exact BP (Nat.add_le_add_right sl2 _) (by lia)
 rotate_left
 .exfalso;rcases hi with h|⟨⟨e,h,nw⟩,_⟩
  .rw[w5]at h;cases h
  .rw[w5]at h;cases h;exact nw whl
 rw[w5]at h1;cases h1;obtain⟨x,dx,dl',rfl,hx,ds,hds,pds⟩:=hPr;have hdlC:=(e6B.trans eC) _ _ hdl6;refine⟨x,_,dx,_,_,rfl,hx,T.cl_Program,T.n_Program_deeds,rfl,dl',_,rfl,.inl (A4.of hds),_,rfl,dl,_,rfl,.inl (A4.of hdlC),rfl,?_⟩;refine⟨_,rfl,Eu (v:=true) (Bc (by rw[pds.1,ay.1])) (AG ?_)⟩;refine⟨_,rfl,_,rows,due,rfl,x1,x2,x3,x4,.inl x5,λHD eD=>⟨_,rfl,rfl,?_⟩⟩;rw[show decide (V.int (due:Int)=V.int (due:Int))=true from Bc rfl];exact q _
end
theorem CO {us:List Value}(h:us.length=1):∃x0,us=[x0]:=by
 rcases us with _|⟨x0,us⟩
 .cases h
 rcases us with _|⟨y,us⟩
 .exact⟨x0,rfl⟩
 .simp only[AJ]at h;lia
theorem Dg {us:List Value}(h:us.length=2):∃x0 x1,us=[x0,x1]:=by
 rcases us with _|⟨x0,us⟩
 .cases h
 rcases us with _|⟨x1,us⟩
 .cases h
 rcases us with _|⟨y,us⟩
 .exact⟨x0,x1,rfl⟩
 .simp only[AJ]at h;lia
theorem En {us:List Value}(h:us.length=3):∃x0 x1 x2,us=[x0,x1,x2]:=by
 rcases us with _|⟨x0,us⟩
 .cases h
 rcases us with _|⟨x1,us⟩
 .cases h
 rcases us with _|⟨x2,us⟩
 .cases h
 rcases us with _|⟨y,us⟩
 .exact⟨x0,x1,x2,rfl⟩
 .simp only[AJ]at h;lia
theorem Ku {us:List Value}(h:us.length=4):∃x0 x1 x2 x3,us=[x0,x1,x2,x3]:=by
 rcases us with _|⟨x0,us⟩
 .cases h
 rcases us with _|⟨x1,us⟩
 .cases h
 rcases us with _|⟨x2,us⟩
 .cases h
 rcases us with _|⟨x3,us⟩
 .cases h
 rcases us with _|⟨y,us⟩
 .exact⟨x0,x1,x2,x3,rfl⟩
 .simp only[AJ]at h;lia
theorem Vp {us:List Value}(h:us.length=8):∃x0 x1 x2 x3 x4 x5 x6 x7,us=[x0,x1,x2,x3,x4,x5,x6,x7]:=by
 rcases us with _|⟨x0,us⟩
 .cases h
 rcases us with _|⟨x1,us⟩
 .cases h
 rcases us with _|⟨x2,us⟩
 .cases h
 rcases us with _|⟨x3,us⟩
 .cases h
 rcases us with _|⟨x4,us⟩
 .cases h
 rcases us with _|⟨x5,us⟩
 .cases h
 rcases us with _|⟨x6,us⟩
 .cases h
 rcases us with _|⟨x7,us⟩
 .cases h
 rcases us with _|⟨y,us⟩
 .exact⟨x0,x1,x2,x3,x4,x5,x6,x7,rfl⟩
 .simp only[AJ]at h;lia
theorem Rt:B8 "__init__" "NoText.__init__" JF ["self","line"]:=λ_ _ _ _ _ _ _ h=>by obtain⟨_,_,rfl⟩:=Dg h;rfl
theorem Xq:B8 "__init__" "Number.__init__" JC ["self","n"]:=λ_ _ _ _ _ _ _ h=>by obtain⟨_,_,rfl⟩:=Dg h;rfl
theorem VJ:B8 "__init__" "Value.__init__" Kc ["self","name"]:=λ_ _ _ _ _ _ _ h=>by obtain⟨_,_,rfl⟩:=Dg h;rfl
theorem WX:B8 "__init__" "Cell.__init__" Ke ["self","table","spots"]:=λ_ _ _ _ _ _ _ h=>by obtain⟨_,_,_,rfl⟩:=En h;rfl
theorem W7:B8 "__init__" "Joined.__init__" KE ["self","sign","left","right"]:=λ_ _ _ _ _ _ _ h=>by obtain⟨_,_,_,_,rfl⟩:=Ku h;rfl
theorem Y5:B8 "__init__" "Deed.__init__" JP ["self","names","lows","highs","table","spots","term","path"]:=λ_ _ _ _ _ _ _ h=>by obtain⟨_,_,_,_,_,_,_,_,rfl⟩:=Vp h;rfl
theorem VF:B8 "__init__" "Program.__init__" Ky ["self","size","deeds"]:=λ_ _ _ _ _ _ _ h=>by obtain⟨_,_,_,rfl⟩:=En h;rfl
theorem YS:B8 "made_of" "made_of" IF ["text","signs"]:=λ_ _ _ _ _ _ _ h=>by obtain⟨_,_,rfl⟩:=Dg h;rfl
theorem WW:B8 "number_of" "number_of" Lv ["text"]:=λ_ _ _ _ _ _ _ h=>by obtain⟨_,rfl⟩:=CO h;rfl
theorem Xw:B8 "is_name" "is_name" K9 ["text"]:=λ_ _ _ _ _ _ _ h=>by obtain⟨_,rfl⟩:=CO h;rfl
theorem Vv:B8 "risen" "risen" Kb ["parts"]:=λ_ _ _ _ _ _ _ h=>by obtain⟨_,rfl⟩:=CO h;rfl
theorem RL:B8 "fallen" "fallen" Kx ["parts"]:=λ_ _ _ _ _ _ _ h=>by obtain⟨_,rfl⟩:=CO h;rfl
theorem Yv:B8 "spot_of" "spot_of" JQ ["text"]:=λ_ _ _ _ _ _ _ h=>by obtain⟨_,rfl⟩:=CO h;rfl
theorem UZ:B8 "bare_row" "bare_row" Ll ["row"]:=λ_ _ _ _ _ _ _ h=>by obtain⟨_,rfl⟩:=CO h;rfl
theorem Sf:B8 "words_of" "words_of" Iy ["row"]:=λ_ _ _ _ _ _ _ h=>by obtain⟨_,rfl⟩:=CO h;rfl
theorem TC:B8 "part_end" "part_end" KU ["text","at"]:=λ_ _ _ _ _ _ _ h=>by obtain⟨_,_,rfl⟩:=Dg h;rfl
theorem Wi:B8 "cell_of" "cell_of" HM ["text"]:=λ_ _ _ _ _ _ _ h=>by obtain⟨_,rfl⟩:=CO h;rfl
theorem VE:B8 "part_of" "part_of" Kl ["text"]:=λ_ _ _ _ _ _ _ h=>by obtain⟨_,rfl⟩:=CO h;rfl
theorem RG:B8 "parts_of" "parts_of" KP ["text"]:=λ_ _ _ _ _ _ _ h=>by obtain⟨_,rfl⟩:=CO h;rfl
theorem YE:B8 "join_waiting" "join_waiting" Ka ["terms","signs","least"]:=λ_ _ _ _ _ _ _ h=>by obtain⟨_,_,_,rfl⟩:=En h;rfl
theorem V1:B8 "term_of" "term_of" Ki ["parts"]:=λ_ _ _ _ _ _ _ h=>by obtain⟨_,rfl⟩:=CO h;rfl
theorem Uw:B8 "__init__" "Draft.__init__" KW ["self"]:=λ_ _ _ _ _ _ _ h=>by obtain⟨_,rfl⟩:=CO h;rfl
theorem XG:B8 "spots_known" "spots_known" J4 ["draft","spots"]:=λ_ _ _ _ _ _ _ h=>by obtain⟨_,_,rfl⟩:=Dg h;rfl
theorem WI:B8 "names_known" "names_known" Kg ["draft","parts"]:=λ_ _ _ _ _ _ _ h=>by obtain⟨_,_,rfl⟩:=Dg h;rfl
theorem Rq:B8 "tables_kept" "tables_kept" Lf ["draft","parts"]:=λ_ _ _ _ _ _ _ h=>by obtain⟨_,_,rfl⟩:=Dg h;rfl
theorem Z5:B8 "deed_taken" "deed_taken" Kk ["draft","row"]:=λ_ _ _ _ _ _ _ h=>by obtain⟨_,_,rfl⟩:=Dg h;rfl
theorem YX:B8 "size_taken" "size_taken" JO ["draft","words"]:=λ_ _ _ _ _ _ _ h=>by obtain⟨_,_,rfl⟩:=Dg h;rfl
theorem Wg:B8 "loop_taken" "loop_taken" Lx ["draft","words"]:=λ_ _ _ _ _ _ _ h=>by obtain⟨_,_,rfl⟩:=Dg h;rfl
theorem RE:B8 "end_taken" "end_taken" L4 ["draft","words"]:=λ_ _ _ _ _ _ _ h=>by obtain⟨_,_,rfl⟩:=Dg h;rfl
theorem V5:B8 "taken" "taken" Lc ["draft","row"]:=λ_ _ _ _ _ _ _ h=>by obtain⟨_,_,rfl⟩:=Dg h;rfl
theorem RO:B8 "read" "read" Kn ["text"]:=λ_ _ _ _ _ _ _ h=>by obtain⟨_,rfl⟩:=CO h;rfl
theorem Sk:B8 "_law_cell_at" "_law_cell_at" Ks ["_law_script","_law_k"]:=λ_ _ _ _ _ _ _ h=>by obtain⟨_,_,rfl⟩:=Dg h;rfl
theorem Xd:B8 "_law_whole" "_law_whole" Ko ["_law_found"]:=λ_ _ _ _ _ _ _ h=>by obtain⟨_,rfl⟩:=CO h;rfl
theorem Wj:B8 "_law_stream" "_law_stream" KL ["_law_cell_here","_law_many"]:=λ_ _ _ _ _ _ _ h=>by obtain⟨_,_,rfl⟩:=Dg h;rfl
theorem WM:B8 "_law_names" "_law_names" Jd ["_law_cell_here","_law_many"]:=λ_ _ _ _ _ _ _ h=>by obtain⟨_,_,rfl⟩:=Dg h;rfl
theorem SR:B8 "_law_number" "_law_number" K0 ["_law_cell_here","_law_far"]:=λ_ _ _ _ _ _ _ h=>by obtain⟨_,_,rfl⟩:=Dg h;rfl
theorem Sr:B8 "_law_spot_text" "_law_spot_text" K5 ["_law_spot_here"]:=λ_ _ _ _ _ _ _ h=>by obtain⟨_,rfl⟩:=CO h;rfl
theorem RA:B8 "_law_spot" "_law_spot" Lw ["_law_one","_law_other","_law_known"]:=λ_ _ _ _ _ _ _ h=>by obtain⟨_,_,_,rfl⟩:=En h;rfl
theorem Wb:B8 "_law_cell" "_law_cell" HK ["_law_xs","_law_known","_law_names_here"]:=λ_ _ _ _ _ _ _ h=>by obtain⟨_,_,_,rfl⟩:=En h;rfl
theorem VY:B8 "_law_leaf" "_law_leaf" KA ["_law_cell_here","_law_known","_law_names_here"]:=λ_ _ _ _ _ _ _ h=>by obtain⟨_,_,_,rfl⟩:=En h;rfl
theorem WS:B8 "_law_both" "_law_both" KZ ["_law_sign","_law_left","_law_right"]:=λ_ _ _ _ _ _ _ h=>by obtain⟨_,_,_,rfl⟩:=En h;rfl
theorem RD:B8 "_law_term" "_law_term" L8 ["_law_cell_here","_law_known","_law_names_here"]:=λ_ _ _ _ _ _ _ h=>by obtain⟨_,_,_,rfl⟩:=En h;rfl
theorem XU:B8 "_law_loop" "_law_loop" Ht ["_law_cell_here","_law_names_here","_law_opened_here","_law_last"]:=λ_ _ _ _ _ _ _ h=>by obtain⟨_,_,_,_,rfl⟩:=Ku h;rfl
theorem RY:B8 "_law_deed" "_law_deed" IB ["_law_cell_here","_law_opened_here","_law_path","_law_names_here"]:=λ_ _ _ _ _ _ _ h=>by obtain⟨_,_,_,_,rfl⟩:=Ku h;rfl
theorem W9:B8 "_law_program" "_law_program" KI ["_law_cells_here","_law_names_here"]:=λ_ _ _ _ _ _ _ h=>by obtain⟨_,_,rfl⟩:=Dg h;rfl
theorem Xb:B8 "_law_opened" "_law_opened" JA ["_law_texts"]:=λ_ _ _ _ _ _ _ h=>by obtain⟨_,rfl⟩:=CO h;rfl
theorem Te:B8 "_law_odd" "_law_odd" JE ["_law_cell_here"]:=λ_ _ _ _ _ _ _ h=>by obtain⟨_,rfl⟩:=CO h;rfl
theorem WN:B8 "_law_strange" "_law_strange" Le ["_law_cell_here","_law_name","_law_rest"]:=λ_ _ _ _ _ _ _ h=>by obtain⟨_,_,_,rfl⟩:=En h;rfl
theorem XE:B8 "_law_cells" "_law_cells" Lu ["_law_shape"]:=λ_ _ _ _ _ _ _ h=>by obtain⟨_,rfl⟩:=CO h;rfl
theorem YL:B8 "_law_table" "_law_table" IX ["_law_cell_here","_law_deeds","_law_above"]:=λ_ _ _ _ _ _ _ h=>by obtain⟨_,_,_,rfl⟩:=En h;rfl
theorem Sl:B8 "_law_spoilt" "_law_spoilt" Ja ["_law_lines","_law_deeds","_law_script","_law_names_here"]:=λ_ _ _ _ _ _ _ h=>by obtain⟨_,_,_,_,rfl⟩:=Ku h;rfl
theorem UN:B8 "_law_more" "_law_more" Lp ["_law_lines","_law_due","_law_cell_here"]:=λ_ _ _ _ _ _ _ h=>by obtain⟨_,_,_,rfl⟩:=En h;rfl
theorem To:B8 "_law_spaced" "_law_spaced" JU ["_law_lines","_law_due","_law_cell_here"]:=λ_ _ _ _ _ _ _ h=>by obtain⟨_,_,_,rfl⟩:=En h;rfl
theorem TN:B8 "_law_line" "_law_line" KD ["_law_text"]:=λ_ _ _ _ _ _ _ h=>by obtain⟨_,rfl⟩:=CO h;rfl
theorem UD:B8 "_law_by_base" "_law_by_base" KR ["_law_text"]:=λ_ _ _ _ _ _ _ h=>by obtain⟨_,rfl⟩:=CO h;rfl
theorem TZ:B8 "law" "law" IM ["_law_script"]:=λ_ _ _ _ _ _ _ h=>by obtain⟨_,rfl⟩:=CO h;rfl
theorem txt_mk {w:World}{K:Zc}{h:Heap}{mg:Str->Option Value}{fa:Addr}(X:K.In h)(G:h.Ns mainGlobals mg)(hfa:mg "law"=some (.ref fa))
  {C_Term:Addr} {C_Number:Addr} {C_Value:Addr} {C_Cell:Addr} {C_Joined:Addr} {C_Deed:Addr} {C_Program:Addr} {C_Draft:Addr} {C_FurrowError:Addr} {C_NoText:Addr} {f1 f2 f3 f4 f5 f6 f7 f8 f9 f10 f11 f12 f13 f14 f15 f16 f17 f18 f19 f20 f21 f22 f23 f24 f25 f26 f27 f28 f29 f30 f31 f32 f33 f34 f35 f36 f37 f38 f39 f40 f41 f42 f43 f44 f45 f46 f47 f48 f49 f50 f51 f52 f53 f54 f55 f56:Addr} {d1 d2 d3 d4 d5 d6 d7 d8 d9 d10 d11 d12 d13 d14 d15 d16 d17 d18 d19 d20 d21 d22 d23 d24 d25 d26 d27 d28 d29 d30 d31 d32 d33 d34 d35 d36 d37 d38 d39 d40 d41 d42 d43 d44 d45 d46 d47 d48 d49 d50 d51 d52 d53 d54 d55 d56:FuncData} {t_FIGURES:Tok} {t_LEAST_SIZE:Tok} {t_LETTERS:Tok} {t_MOST_DEEDS:Tok} {t_MOST_FIGURES:Tok} {t_MOST_LETTERS:Tok} {t_MOST_LOOPS:Tok} {t_MOST_SPOTS:Tok} {u_ROW_WORDS:Addr} {e_ROW_WORDS:Option Addr} {n_ROW_WORDS:Nat} {b_ROW_WORDS:Array (Option Value)} {t_ROW_WORDS0:Tok} {t_ROW_WORDS1:Tok} {t_ROW_WORDS2:Tok} {t_SIGNS:Tok} {u_STRENGTHS:Addr} {n_STRENGTHS:Nat} {h_STRENGTHS0:Int} {k_STRENGTHS0 s_STRENGTHS0:Tok} {h_STRENGTHS1:Int} {k_STRENGTHS1 s_STRENGTHS1:Tok} {h_STRENGTHS2:Int} {k_STRENGTHS2 s_STRENGTHS2:Tok} {h_STRENGTHS3:Int} {k_STRENGTHS3 s_STRENGTHS3:Tok}
  (a_Term:ClA K C_Term "Term")
  (a_Number:ClA K C_Number "Number")
  (a_Value:ClA K C_Value "Value")
  (a_Cell:ClA K C_Cell "Cell")
  (a_Joined:ClA K C_Joined "Joined")
  (a_Deed:ClA K C_Deed "Deed")
  (a_Program:ClA K C_Program "Program")
  (a_Draft:ClA K C_Draft "Draft")
  (a_FurrowError:PySem.W.nsIn K mainGlobals "FurrowError"=some (some (.ref C_FurrowError)))
  (a_NoText:PySem.W.nsIn K mainGlobals "NoText"=some (some (.ref C_NoText)))
  (h1:G8 K C_NoText "__init__" "NoText.__init__" JF f1 d1)
  (h2:G8 K C_Number "__init__" "Number.__init__" JC f2 d2)
  (h3:G8 K C_Value "__init__" "Value.__init__" Kc f3 d3)
  (h4:G8 K C_Cell "__init__" "Cell.__init__" Ke f4 d4)
  (h5:G8 K C_Joined "__init__" "Joined.__init__" KE f5 d5)
  (h6:G8 K C_Deed "__init__" "Deed.__init__" JP f6 d6)
  (h7:G8 K C_Program "__init__" "Program.__init__" Ky f7 d7)
  (h8:Bk K "made_of" IF f8 d8)
  (h9:Bk K "number_of" Lv f9 d9)
  (h10:Bk K "is_name" K9 f10 d10)
  (h11:Bk K "risen" Kb f11 d11)
  (h12:Bk K "fallen" Kx f12 d12)
  (h13:Bk K "spot_of" JQ f13 d13)
  (h14:Bk K "bare_row" Ll f14 d14)
  (h15:Bk K "words_of" Iy f15 d15)
  (h16:Bk K "part_end" KU f16 d16)
  (h17:Bk K "cell_of" HM f17 d17)
  (h18:Bk K "part_of" Kl f18 d18)
  (h19:Bk K "parts_of" KP f19 d19)
  (h20:Bk K "join_waiting" Ka f20 d20)
  (h21:Bk K "term_of" Ki f21 d21)
  (h22:G8 K C_Draft "__init__" "Draft.__init__" KW f22 d22)
  (h23:Bk K "spots_known" J4 f23 d23)
  (h24:Bk K "names_known" Kg f24 d24)
  (h25:Bk K "tables_kept" Lf f25 d25)
  (h26:Bk K "deed_taken" Kk f26 d26)
  (h27:Bk K "size_taken" JO f27 d27)
  (h28:Bk K "loop_taken" Lx f28 d28)
  (h29:Bk K "end_taken" L4 f29 d29)
  (h30:Bk K "taken" Lc f30 d30)
  (h31:Bk K "read" Kn f31 d31)
  (h32:Bk K "_law_cell_at" Ks f32 d32)
  (h33:Bk K "_law_whole" Ko f33 d33)
  (h34:Bk K "_law_stream" KL f34 d34)
  (h35:Bk K "_law_names" Jd f35 d35)
  (h36:Bk K "_law_number" K0 f36 d36)
  (h37:Bk K "_law_spot_text" K5 f37 d37)
  (h38:Bk K "_law_spot" Lw f38 d38)
  (h39:Bk K "_law_cell" HK f39 d39)
  (h40:Bk K "_law_leaf" KA f40 d40)
  (h41:Bk K "_law_both" KZ f41 d41)
  (h42:Bk K "_law_term" L8 f42 d42)
  (h43:Bk K "_law_loop" Ht f43 d43)
  (h44:Bk K "_law_deed" IB f44 d44)
  (h45:Bk K "_law_program" KI f45 d45)
  (h46:Bk K "_law_opened" JA f46 d46)
  (h47:Bk K "_law_odd" JE f47 d47)
  (h48:Bk K "_law_strange" Le f48 d48)
  (h49:Bk K "_law_cells" Lu f49 d49)
  (h50:Bk K "_law_table" IX f50 d50)
  (h51:Bk K "_law_spoilt" Ja f51 d51)
  (h52:Bk K "_law_more" Lp f52 d52)
  (h53:Bk K "_law_spaced" JU f53 d53)
  (h54:Bk K "_law_line" KD f54 d54)
  (h55:Bk K "_law_by_base" KR f55 d55)
  (h56:Bk K "law" IM f56 d56)
  (n_Number_n:PySem.W.findIn K (.ref C_Number) "n"=some none)
  (n_Value_name:PySem.W.findIn K (.ref C_Value) "name"=some none)
  (n_Cell_table:PySem.W.findIn K (.ref C_Cell) "table"=some none)
  (n_Cell_spots:PySem.W.findIn K (.ref C_Cell) "spots"=some none)
  (n_Joined_sign:PySem.W.findIn K (.ref C_Joined) "sign"=some none)
  (n_Joined_left:PySem.W.findIn K (.ref C_Joined) "left"=some none)
  (n_Joined_right:PySem.W.findIn K (.ref C_Joined) "right"=some none)
  (n_Deed_names:PySem.W.findIn K (.ref C_Deed) "names"=some none)
  (n_Deed_lows:PySem.W.findIn K (.ref C_Deed) "lows"=some none)
  (n_Deed_highs:PySem.W.findIn K (.ref C_Deed) "highs"=some none)
  (n_Deed_table:PySem.W.findIn K (.ref C_Deed) "table"=some none)
  (n_Deed_spots:PySem.W.findIn K (.ref C_Deed) "spots"=some none)
  (n_Deed_term:PySem.W.findIn K (.ref C_Deed) "term"=some none)
  (n_Deed_path:PySem.W.findIn K (.ref C_Deed) "path"=some none)
  (n_Program_size:PySem.W.findIn K (.ref C_Program) "size"=some none)
  (n_Program_deeds:PySem.W.findIn K (.ref C_Program) "deeds"=some none)
  (n_Draft_size:PySem.W.findIn K (.ref C_Draft) "size"=some none)
  (n_Draft_deeds:PySem.W.findIn K (.ref C_Draft) "deeds"=some none)
  (n_Draft_tables:PySem.W.findIn K (.ref C_Draft) "tables"=some none)
  (n_Draft_names:PySem.W.findIn K (.ref C_Draft) "names"=some none)
  (n_Draft_lows:PySem.W.findIn K (.ref C_Draft) "lows"=some none)
  (n_Draft_highs:PySem.W.findIn K (.ref C_Draft) "highs"=some none)
  (n_Draft_path:PySem.W.findIn K (.ref C_Draft) "path"=some none)
  (hn0:PySem.W.specialIn K (.builtin "object.__class__") "__get__"=some (some (.builtin "getset_descriptor.__get__"))) (ht0:PySem.W.takesIn K (.builtin "object.__class__")=some true)
  (ha_Number:PySem.W.findIn K (.ref C_Number) "__class__"=some (some (.builtin "object.__class__"))) (hm_Number:PySem.W.mroIn K C_Number (.type "object")=some true)
  (is_Number_Term:PySem.W.kitOne K (.ref C_Number) (.ref C_Term)=some true)
  (is_Number_Number:PySem.W.kitOne K (.ref C_Number) (.ref C_Number)=some true)
  (is_Number_Value:PySem.W.kitOne K (.ref C_Number) (.ref C_Value)=some false)
  (is_Number_Cell:PySem.W.kitOne K (.ref C_Number) (.ref C_Cell)=some false)
  (is_Number_Joined:PySem.W.kitOne K (.ref C_Number) (.ref C_Joined)=some false)
  (is_Number_Deed:PySem.W.kitOne K (.ref C_Number) (.ref C_Deed)=some false)
  (is_Number_Program:PySem.W.kitOne K (.ref C_Number) (.ref C_Program)=some false)
  (is_Number_Draft:PySem.W.kitOne K (.ref C_Number) (.ref C_Draft)=some false)
  (ha_Value:PySem.W.findIn K (.ref C_Value) "__class__"=some (some (.builtin "object.__class__"))) (hm_Value:PySem.W.mroIn K C_Value (.type "object")=some true)
  (is_Value_Term:PySem.W.kitOne K (.ref C_Value) (.ref C_Term)=some true)
  (is_Value_Number:PySem.W.kitOne K (.ref C_Value) (.ref C_Number)=some false)
  (is_Value_Value:PySem.W.kitOne K (.ref C_Value) (.ref C_Value)=some true)
  (is_Value_Cell:PySem.W.kitOne K (.ref C_Value) (.ref C_Cell)=some false)
  (is_Value_Joined:PySem.W.kitOne K (.ref C_Value) (.ref C_Joined)=some false)
  (is_Value_Deed:PySem.W.kitOne K (.ref C_Value) (.ref C_Deed)=some false)
  (is_Value_Program:PySem.W.kitOne K (.ref C_Value) (.ref C_Program)=some false)
  (is_Value_Draft:PySem.W.kitOne K (.ref C_Value) (.ref C_Draft)=some false)
  (ha_Cell:PySem.W.findIn K (.ref C_Cell) "__class__"=some (some (.builtin "object.__class__"))) (hm_Cell:PySem.W.mroIn K C_Cell (.type "object")=some true)
  (is_Cell_Term:PySem.W.kitOne K (.ref C_Cell) (.ref C_Term)=some true)
  (is_Cell_Number:PySem.W.kitOne K (.ref C_Cell) (.ref C_Number)=some false)
  (is_Cell_Value:PySem.W.kitOne K (.ref C_Cell) (.ref C_Value)=some false)
  (is_Cell_Cell:PySem.W.kitOne K (.ref C_Cell) (.ref C_Cell)=some true)
  (is_Cell_Joined:PySem.W.kitOne K (.ref C_Cell) (.ref C_Joined)=some false)
  (is_Cell_Deed:PySem.W.kitOne K (.ref C_Cell) (.ref C_Deed)=some false)
  (is_Cell_Program:PySem.W.kitOne K (.ref C_Cell) (.ref C_Program)=some false)
  (is_Cell_Draft:PySem.W.kitOne K (.ref C_Cell) (.ref C_Draft)=some false)
  (ha_Joined:PySem.W.findIn K (.ref C_Joined) "__class__"=some (some (.builtin "object.__class__"))) (hm_Joined:PySem.W.mroIn K C_Joined (.type "object")=some true)
  (is_Joined_Term:PySem.W.kitOne K (.ref C_Joined) (.ref C_Term)=some true)
  (is_Joined_Number:PySem.W.kitOne K (.ref C_Joined) (.ref C_Number)=some false)
  (is_Joined_Value:PySem.W.kitOne K (.ref C_Joined) (.ref C_Value)=some false)
  (is_Joined_Cell:PySem.W.kitOne K (.ref C_Joined) (.ref C_Cell)=some false)
  (is_Joined_Joined:PySem.W.kitOne K (.ref C_Joined) (.ref C_Joined)=some true)
  (is_Joined_Deed:PySem.W.kitOne K (.ref C_Joined) (.ref C_Deed)=some false)
  (is_Joined_Program:PySem.W.kitOne K (.ref C_Joined) (.ref C_Program)=some false)
  (is_Joined_Draft:PySem.W.kitOne K (.ref C_Joined) (.ref C_Draft)=some false)
  (is_str_Term:PySem.W.kitOne K (.type "str") (.ref C_Term)=some false)
  (is_str_Number:PySem.W.kitOne K (.type "str") (.ref C_Number)=some false)
  (is_str_Value:PySem.W.kitOne K (.type "str") (.ref C_Value)=some false)
  (is_str_Cell:PySem.W.kitOne K (.type "str") (.ref C_Cell)=some false)
  (is_str_Joined:PySem.W.kitOne K (.type "str") (.ref C_Joined)=some false)
  (is_str_Deed:PySem.W.kitOne K (.type "str") (.ref C_Deed)=some false)
  (is_str_Program:PySem.W.kitOne K (.type "str") (.ref C_Program)=some false)
  (is_str_Draft:PySem.W.kitOne K (.type "str") (.ref C_Draft)=some false)
  (ha_Deed:PySem.W.findIn K (.ref C_Deed) "__class__"=some (some (.builtin "object.__class__"))) (hm_Deed:PySem.W.mroIn K C_Deed (.type "object")=some true)
  (is_Deed_Term:PySem.W.kitOne K (.ref C_Deed) (.ref C_Term)=some false)
  (is_Deed_Number:PySem.W.kitOne K (.ref C_Deed) (.ref C_Number)=some false)
  (is_Deed_Value:PySem.W.kitOne K (.ref C_Deed) (.ref C_Value)=some false)
  (is_Deed_Cell:PySem.W.kitOne K (.ref C_Deed) (.ref C_Cell)=some false)
  (is_Deed_Joined:PySem.W.kitOne K (.ref C_Deed) (.ref C_Joined)=some false)
  (is_Deed_Deed:PySem.W.kitOne K (.ref C_Deed) (.ref C_Deed)=some true)
  (is_Deed_Program:PySem.W.kitOne K (.ref C_Deed) (.ref C_Program)=some false)
  (is_Deed_Draft:PySem.W.kitOne K (.ref C_Deed) (.ref C_Draft)=some false)
  (ha_Program:PySem.W.findIn K (.ref C_Program) "__class__"=some (some (.builtin "object.__class__"))) (hm_Program:PySem.W.mroIn K C_Program (.type "object")=some true)
  (is_Program_Term:PySem.W.kitOne K (.ref C_Program) (.ref C_Term)=some false)
  (is_Program_Number:PySem.W.kitOne K (.ref C_Program) (.ref C_Number)=some false)
  (is_Program_Value:PySem.W.kitOne K (.ref C_Program) (.ref C_Value)=some false)
  (is_Program_Cell:PySem.W.kitOne K (.ref C_Program) (.ref C_Cell)=some false)
  (is_Program_Joined:PySem.W.kitOne K (.ref C_Program) (.ref C_Joined)=some false)
  (is_Program_Deed:PySem.W.kitOne K (.ref C_Program) (.ref C_Deed)=some false)
  (is_Program_Program:PySem.W.kitOne K (.ref C_Program) (.ref C_Program)=some true)
  (is_Program_Draft:PySem.W.kitOne K (.ref C_Program) (.ref C_Draft)=some false)
  (ha_Draft:PySem.W.findIn K (.ref C_Draft) "__class__"=some (some (.builtin "object.__class__"))) (hm_Draft:PySem.W.mroIn K C_Draft (.type "object")=some true)
  (is_Draft_Term:PySem.W.kitOne K (.ref C_Draft) (.ref C_Term)=some false)
  (is_Draft_Number:PySem.W.kitOne K (.ref C_Draft) (.ref C_Number)=some false)
  (is_Draft_Value:PySem.W.kitOne K (.ref C_Draft) (.ref C_Value)=some false)
  (is_Draft_Cell:PySem.W.kitOne K (.ref C_Draft) (.ref C_Cell)=some false)
  (is_Draft_Joined:PySem.W.kitOne K (.ref C_Draft) (.ref C_Joined)=some false)
  (is_Draft_Deed:PySem.W.kitOne K (.ref C_Draft) (.ref C_Deed)=some false)
  (is_Draft_Program:PySem.W.kitOne K (.ref C_Draft) (.ref C_Program)=some false)
  (is_Draft_Draft:PySem.W.kitOne K (.ref C_Draft) (.ref C_Draft)=some true)
  (xga_FurrowError:PySem.W.findIn K (.ref C_FurrowError) "__getattribute__"=some (some (.builtin "BaseException.__getattribute__"))) (xgh_FurrowError:PySem.W.findIn K (.ref C_FurrowError) "__getattr__"=some none) (xbe_FurrowError:PySem.W.mroIn K C_FurrowError (.type "BaseException")=some true) (xsa_FurrowError:PySem.W.findIn K (.ref C_FurrowError) "__setattr__"=some (some (.builtin "object.__setattr__"))) (xhd_FurrowError:PySem.W.hasDictIn K C_FurrowError=true) (qmt_FurrowError:EX.mroTail K C_FurrowError=true) (xob_FurrowError:PySem.W.mroIn K C_FurrowError (.type "object")=some true) (qct_FurrowError:JX K C_FurrowError []=true) (xca_FurrowError:PySem.W.findIn K (.ref C_FurrowError) "__class__"=some (some (.builtin "object.__class__"))) (kc_FurrowError:PySem.W.keepIn K (.ref C_FurrowError)=true)
  (xin_FurrowError:PySem.W.findIn K (.ref C_FurrowError) "__init__"=some (some (.builtin "ValueError.__init__")))
  (is_FurrowError_FurrowError:PySem.W.kitOne K (.ref C_FurrowError) (.ref C_FurrowError)=some true)
  (is_FurrowError_NoText:PySem.W.kitOne K (.ref C_FurrowError) (.ref C_NoText)=some false)
  (is_FurrowError_VE:PySem.W.kitOne K (.ref C_FurrowError) (.type "ValueError")=some true)
  (xga_NoText:PySem.W.findIn K (.ref C_NoText) "__getattribute__"=some (some (.builtin "BaseException.__getattribute__"))) (xgh_NoText:PySem.W.findIn K (.ref C_NoText) "__getattr__"=some none) (xbe_NoText:PySem.W.mroIn K C_NoText (.type "BaseException")=some true) (xsa_NoText:PySem.W.findIn K (.ref C_NoText) "__setattr__"=some (some (.builtin "object.__setattr__"))) (xhd_NoText:PySem.W.hasDictIn K C_NoText=true) (qmt_NoText:EX.mroTail K C_NoText=true) (xob_NoText:PySem.W.mroIn K C_NoText (.type "object")=some true) (qct_NoText:JX K C_NoText [C_FurrowError]=true) (xca_NoText:PySem.W.findIn K (.ref C_NoText) "__class__"=some (some (.builtin "object.__class__"))) (kc_NoText:PySem.W.keepIn K (.ref C_NoText)=true)
  (n_NoText_line:PySem.W.findIn K (.ref C_NoText) "line"=some none)
  (is_NoText_FurrowError:PySem.W.kitOne K (.ref C_NoText) (.ref C_FurrowError)=some true)
  (is_NoText_NoText:PySem.W.kitOne K (.ref C_NoText) (.ref C_NoText)=some true)
  (is_NoText_VE:PySem.W.kitOne K (.ref C_NoText) (.type "ValueError")=some true)
  (dnd:([C_FurrowError,C_NoText]:List Addr).Nodup)
  (xbg:PySem.W.specialIn K (.ref C_FurrowError) "__getattribute__"=some (some (.builtin "type.__getattribute__"))) (xbr:PySem.W.readsIn K C_FurrowError (.type "type")=true) (xbf:PySem.W.findCls K (.ref C_FurrowError) (.type "type") "__init__"=some (.val (.builtin "ValueError.__init__")))
  (z_abs:PySem.W.nsIn K mainGlobals "abs"=some none)
  (z_all:PySem.W.nsIn K mainGlobals "all"=some none)
  (z_bool:PySem.W.nsIn K mainGlobals "bool"=some none)
  (z_enumerate:PySem.W.nsIn K mainGlobals "enumerate"=some none)
  (z_int:PySem.W.nsIn K mainGlobals "int"=some none)
  (z_isinstance:PySem.W.nsIn K mainGlobals "isinstance"=some none)
  (z_len:PySem.W.nsIn K mainGlobals "len"=some none)
  (z_list:PySem.W.nsIn K mainGlobals "list"=some none)
  (z_max:PySem.W.nsIn K mainGlobals "max"=some none)
  (z_range:PySem.W.nsIn K mainGlobals "range"=some none)
  (z_str:PySem.W.nsIn K mainGlobals "str"=some none)
  (z_tuple:PySem.W.nsIn K mainGlobals "tuple"=some none)
  (g_FIGURES:PySem.W.nsIn K mainGlobals "FIGURES"=some (some (.str "0123456789" t_FIGURES)))
  (g_LEAST_SIZE:PySem.W.nsIn K mainGlobals "LEAST_SIZE"=some (some (.int 2 t_LEAST_SIZE)))
  (g_LETTERS:PySem.W.nsIn K mainGlobals "LETTERS"=some (some (.str "abcdefghijklmnopqrstuvwxyz" t_LETTERS)))
  (g_MOST_DEEDS:PySem.W.nsIn K mainGlobals "MOST_DEEDS"=some (some (.int 6 t_MOST_DEEDS)))
  (g_MOST_FIGURES:PySem.W.nsIn K mainGlobals "MOST_FIGURES"=some (some (.int 18 t_MOST_FIGURES)))
  (g_MOST_LETTERS:PySem.W.nsIn K mainGlobals "MOST_LETTERS"=some (some (.int 8 t_MOST_LETTERS)))
  (g_MOST_LOOPS:PySem.W.nsIn K mainGlobals "MOST_LOOPS"=some (some (.int 3 t_MOST_LOOPS)))
  (g_MOST_SPOTS:PySem.W.nsIn K mainGlobals "MOST_SPOTS"=some (some (.int 3 t_MOST_SPOTS)))
  (g_ROW_WORDS:PySem.W.nsIn K mainGlobals "ROW_WORDS"=some (some (.ref u_ROW_WORDS)))
  (q_ROW_WORDS:K.lookup u_ROW_WORDS=some ⟨.type "tuple",e_ROW_WORDS,.seq #[.str "for" t_ROW_WORDS0,.str "end" t_ROW_WORDS1,.str "size" t_ROW_WORDS2] n_ROW_WORDS,b_ROW_WORDS⟩)
  (g_SIGNS:PySem.W.nsIn K mainGlobals "SIGNS"=some (some (.str "+-*()" t_SIGNS)))
  (g_STRENGTHS:PySem.W.nsIn K mainGlobals "STRENGTHS"=some (some (.ref u_STRENGTHS)))
  (q_STRENGTHS:K.lookup u_STRENGTHS=some ⟨.type "dict",none,.dict #[⟨h_STRENGTHS0,.str "(" k_STRENGTHS0,.int 0 s_STRENGTHS0⟩,⟨h_STRENGTHS1,.str "+" k_STRENGTHS1,.int 1 s_STRENGTHS1⟩,⟨h_STRENGTHS2,.str "-" k_STRENGTHS2,.int 1 s_STRENGTHS2⟩,⟨h_STRENGTHS3,.str "*" k_STRENGTHS3,.int 2 s_STRENGTHS3⟩] n_STRENGTHS,#[]⟩)
  (hh_STRENGTHS0:h_STRENGTHS0=hashStr w "(")
  (hh_STRENGTHS1:h_STRENGTHS1=hashStr w "+")
  (hh_STRENGTHS2:h_STRENGTHS2=hashStr w "-")
  (hh_STRENGTHS3:h_STRENGTHS3=hashStr w "*")
  (qsm_STRENGTHS:(u_STRENGTHS==sysModules)=false) :
  ∃a:Ad,Tx w K mg a/\fa=a.f_V/\(∀(s:Shared) (v:Value),BindsTo s a.d_V ⟨[v],[]⟩ [("_law_script",v)]):=by
 have e:=hfa.symm.trans (AU X G h56.a);cases e;obtain⟨_,_,_,_,_,_,_,_,_,rfl,_⟩:=h56.F.ex;exact⟨⟨f1,d1,f2,d2,f3,d3,f4,d4,f5,d5,f6,d6,f7,d7,f8,d8,f9,d9,f10,d10,f11,d11,f12,d12,f13,d13,f14,d14,f15,d15,f16,d16,f17,d17,f18,d18,f19,d19,f20,d20,f21,d21,f22,d22,f23,d23,f24,d24,f25,d25,f26,d26,f27,d27,f28,d28,f29,d29,f30,d30,f31,d31,f32,d32,f33,d33,f34,d34,f35,d35,f36,d36,f37,d37,f38,d38,f39,d39,f40,d40,f41,d41,f42,d42,f43,d43,f44,d44,f45,d45,f46,d46,f47,d47,f48,d48,f49,d49,f50,d50,f51,d51,f52,d52,f53,d53,f54,d54,f55,d55,fa,_,C_Term,C_Number,C_Value,C_Cell,C_Joined,C_Deed,C_Program,C_Draft,C_FurrowError,C_NoText,.str "0123456789" t_FIGURES,.int 2 t_LEAST_SIZE,.str "abcdefghijklmnopqrstuvwxyz" t_LETTERS,.int 6 t_MOST_DEEDS,.int 18 t_MOST_FIGURES,.int 8 t_MOST_LETTERS,.int 3 t_MOST_LOOPS,.int 3 t_MOST_SPOTS,u_ROW_WORDS,.str "+-*()" t_SIGNS,u_STRENGTHS⟩,⟨h1.F,
  h1.F.binds Rt,
  h2.F,
  h2.F.binds Xq,
  h3.F,
  h3.F.binds VJ,
  h4.F,
  h4.F.binds WX,
  h5.F,
  h5.F.binds W7,
  h6.F,
  h6.F.binds Y5,
  h7.F,
  h7.F.binds VF,
  h8.F,
  h8.F.binds YS,
  AU X G h8.a,
  h9.F,
  h9.F.binds WW,
  AU X G h9.a,
  h10.F,
  h10.F.binds Xw,
  AU X G h10.a,
  h11.F,
  h11.F.binds Vv,
  AU X G h11.a,
  h12.F,
  h12.F.binds RL,
  AU X G h12.a,
  h13.F,
  h13.F.binds Yv,
  AU X G h13.a,
  h14.F,
  h14.F.binds UZ,
  AU X G h14.a,
  h15.F,
  h15.F.binds Sf,
  AU X G h15.a,
  h16.F,
  h16.F.binds TC,
  AU X G h16.a,
  h17.F,
  h17.F.binds Wi,
  AU X G h17.a,
  h18.F,
  h18.F.binds VE,
  AU X G h18.a,
  h19.F,
  h19.F.binds RG,
  AU X G h19.a,
  h20.F,
  h20.F.binds YE,
  AU X G h20.a,
  h21.F,
  h21.F.binds V1,
  AU X G h21.a,
  h22.F,
  h22.F.binds Uw,
  h23.F,
  h23.F.binds XG,
  AU X G h23.a,
  h24.F,
  h24.F.binds WI,
  AU X G h24.a,
  h25.F,
  h25.F.binds Rq,
  AU X G h25.a,
  h26.F,
  h26.F.binds Z5,
  AU X G h26.a,
  h27.F,
  h27.F.binds YX,
  AU X G h27.a,
  h28.F,
  h28.F.binds Wg,
  AU X G h28.a,
  h29.F,
  h29.F.binds RE,
  AU X G h29.a,
  h30.F,
  h30.F.binds V5,
  AU X G h30.a,
  h31.F,
  h31.F.binds RO,
  AU X G h31.a,
  h32.F,
  h32.F.binds Sk,
  AU X G h32.a,
  h33.F,
  h33.F.binds Xd,
  AU X G h33.a,
  h34.F,
  h34.F.binds Wj,
  AU X G h34.a,
  h35.F,
  h35.F.binds WM,
  AU X G h35.a,
  h36.F,
  h36.F.binds SR,
  AU X G h36.a,
  h37.F,
  h37.F.binds Sr,
  AU X G h37.a,
  h38.F,
  h38.F.binds RA,
  AU X G h38.a,
  h39.F,
  h39.F.binds Wb,
  AU X G h39.a,
  h40.F,
  h40.F.binds VY,
  AU X G h40.a,
  h41.F,
  h41.F.binds WS,
  AU X G h41.a,
  h42.F,
  h42.F.binds RD,
  AU X G h42.a,
  h43.F,
  h43.F.binds XU,
  AU X G h43.a,
  h44.F,
  h44.F.binds RY,
  AU X G h44.a,
  h45.F,
  h45.F.binds W9,
  AU X G h45.a,
  h46.F,
  h46.F.binds Xb,
  AU X G h46.a,
  h47.F,
  h47.F.binds Te,
  AU X G h47.a,
  h48.F,
  h48.F.binds WN,
  AU X G h48.a,
  h49.F,
  h49.F.binds XE,
  AU X G h49.a,
  h50.F,
  h50.F.binds YL,
  AU X G h50.a,
  h51.F,
  h51.F.binds Sl,
  AU X G h51.a,
  h52.F,
  h52.F.binds UN,
  AU X G h52.a,
  h53.F,
  h53.F.binds To,
  AU X G h53.a,
  h54.F,
  h54.F.binds TN,
  AU X G h54.a,
  h55.F,
  h55.F.binds UD,
  AU X G h55.a,
  h56.F,
  h56.F.binds TZ,
  AU X G h56.a,
  ⟨a_Term.pg,a_Term.hd,a_Term.po,a_Term.sa⟩,
  AU X G a_Term.a,
  ⟨a_Number.pg,a_Number.hd,a_Number.po,a_Number.sa⟩,
  AU X G a_Number.a,
  ⟨a_Number.mi,h2.a,h2.i,a_Number.kc⟩,
  n_Number_n,
  ⟨a_Value.pg,a_Value.hd,a_Value.po,a_Value.sa⟩,
  AU X G a_Value.a,
  ⟨a_Value.mi,h3.a,h3.i,a_Value.kc⟩,
  n_Value_name,
  ⟨a_Cell.pg,a_Cell.hd,a_Cell.po,a_Cell.sa⟩,
  AU X G a_Cell.a,
  ⟨a_Cell.mi,h4.a,h4.i,a_Cell.kc⟩,
  n_Cell_table,
  n_Cell_spots,
  ⟨a_Joined.pg,a_Joined.hd,a_Joined.po,a_Joined.sa⟩,
  AU X G a_Joined.a,
  ⟨a_Joined.mi,h5.a,h5.i,a_Joined.kc⟩,
  n_Joined_sign,
  n_Joined_left,
  n_Joined_right,
  ⟨a_Deed.pg,a_Deed.hd,a_Deed.po,a_Deed.sa⟩,
  AU X G a_Deed.a,
  ⟨a_Deed.mi,h6.a,h6.i,a_Deed.kc⟩,
  n_Deed_names,
  n_Deed_lows,
  n_Deed_highs,
  n_Deed_table,
  n_Deed_spots,
  n_Deed_term,
  n_Deed_path,
  ⟨a_Program.pg,a_Program.hd,a_Program.po,a_Program.sa⟩,
  AU X G a_Program.a,
  ⟨a_Program.mi,h7.a,h7.i,a_Program.kc⟩,
  n_Program_size,
  n_Program_deeds,
  ⟨a_Draft.pg,a_Draft.hd,a_Draft.po,a_Draft.sa⟩,
  AU X G a_Draft.a,
  ⟨a_Draft.mi,h22.a,h22.i,a_Draft.kc⟩,
  n_Draft_size,
  n_Draft_deeds,
  n_Draft_tables,
  n_Draft_names,
  n_Draft_lows,
  n_Draft_highs,
  n_Draft_path,
  λH x dx fs e=>.ins e ⟨a_Number.pg,a_Number.hd,a_Number.po,a_Number.sa⟩ ha_Number hn0 ht0 hm_Number,
  is_Number_Term,
  is_Number_Number,
  is_Number_Value,
  is_Number_Cell,
  is_Number_Joined,
  is_Number_Deed,
  is_Number_Program,
  is_Number_Draft,
  λH x dx fs e=>.ins e ⟨a_Value.pg,a_Value.hd,a_Value.po,a_Value.sa⟩ ha_Value hn0 ht0 hm_Value,
  is_Value_Term,
  is_Value_Number,
  is_Value_Value,
  is_Value_Cell,
  is_Value_Joined,
  is_Value_Deed,
  is_Value_Program,
  is_Value_Draft,
  λH x dx fs e=>.ins e ⟨a_Cell.pg,a_Cell.hd,a_Cell.po,a_Cell.sa⟩ ha_Cell hn0 ht0 hm_Cell,
  is_Cell_Term,
  is_Cell_Number,
  is_Cell_Value,
  is_Cell_Cell,
  is_Cell_Joined,
  is_Cell_Deed,
  is_Cell_Program,
  is_Cell_Draft,
  λH x dx fs e=>.ins e ⟨a_Joined.pg,a_Joined.hd,a_Joined.po,a_Joined.sa⟩ ha_Joined hn0 ht0 hm_Joined,
  is_Joined_Term,
  is_Joined_Number,
  is_Joined_Value,
  is_Joined_Cell,
  is_Joined_Joined,
  is_Joined_Deed,
  is_Joined_Program,
  is_Joined_Draft,
  is_str_Term,
  is_str_Number,
  is_str_Value,
  is_str_Cell,
  is_str_Joined,
  is_str_Deed,
  is_str_Program,
  is_str_Draft,
  λH x dx fs e=>.ins e ⟨a_Deed.pg,a_Deed.hd,a_Deed.po,a_Deed.sa⟩ ha_Deed hn0 ht0 hm_Deed,
  is_Deed_Term,
  is_Deed_Number,
  is_Deed_Value,
  is_Deed_Cell,
  is_Deed_Joined,
  is_Deed_Deed,
  is_Deed_Program,
  is_Deed_Draft,
  λH x dx fs e=>.ins e ⟨a_Program.pg,a_Program.hd,a_Program.po,a_Program.sa⟩ ha_Program hn0 ht0 hm_Program,
  is_Program_Term,
  is_Program_Number,
  is_Program_Value,
  is_Program_Cell,
  is_Program_Joined,
  is_Program_Deed,
  is_Program_Program,
  is_Program_Draft,
  λH x dx fs e=>.ins e ⟨a_Draft.pg,a_Draft.hd,a_Draft.po,a_Draft.sa⟩ ha_Draft hn0 ht0 hm_Draft,
  is_Draft_Term,
  is_Draft_Number,
  is_Draft_Value,
  is_Draft_Cell,
  is_Draft_Joined,
  is_Draft_Deed,
  is_Draft_Program,
  is_Draft_Draft,
  AU X G a_FurrowError,
  ⟨⟨xga_FurrowError,xgh_FurrowError,xbe_FurrowError,xsa_FurrowError,xhd_FurrowError,qmt_FurrowError,xob_FurrowError,(HN qct_FurrowError).elim λN z=>⟨N,_,z⟩⟩,xca_FurrowError,hn0,ht0⟩,
  HN qct_FurrowError,
  ⟨⟨xga_FurrowError,xgh_FurrowError,xbe_FurrowError,xsa_FurrowError,xhd_FurrowError,qmt_FurrowError,xob_FurrowError,(HN qct_FurrowError).elim λN z=>⟨N,_,z⟩⟩,xin_FurrowError,kc_FurrowError⟩,
  is_FurrowError_FurrowError,
  is_FurrowError_NoText,
  is_FurrowError_VE,
  AU X G a_NoText,
  ⟨⟨xga_NoText,xgh_NoText,xbe_NoText,xsa_NoText,xhd_NoText,qmt_NoText,xob_NoText,(HN qct_NoText).elim λN z=>⟨N,_,z⟩⟩,xca_NoText,hn0,ht0⟩,
  HN qct_NoText,
  ⟨⟨xga_NoText,xgh_NoText,xbe_NoText,xsa_NoText,xhd_NoText,qmt_NoText,xob_NoText,(HN qct_NoText).elim λN z=>⟨N,_,z⟩⟩,h1.a,h1.i,kc_NoText⟩,
  n_NoText_line,
  is_NoText_FurrowError,
  is_NoText_NoText,
  is_NoText_VE,
  dnd,
  ⟨xbg,xbr,xbf⟩,
  F0 X G z_abs,
  F0 X G z_all,
  F0 X G z_bool,
  F0 X G z_enumerate,
  F0 X G z_int,
  F0 X G z_isinstance,
  F0 X G z_len,
  F0 X G z_list,
  F0 X G z_max,
  F0 X G z_range,
  F0 X G z_str,
  F0 X G z_tuple,
  AU X G g_FIGURES,
  ⟨_,rfl⟩,
  AU X G g_LEAST_SIZE,
  ⟨_,rfl⟩,
  AU X G g_LETTERS,
  ⟨_,rfl⟩,
  AU X G g_MOST_DEEDS,
  ⟨_,rfl⟩,
  AU X G g_MOST_FIGURES,
  ⟨_,rfl⟩,
  AU X G g_MOST_LETTERS,
  ⟨_,rfl⟩,
  AU X G g_MOST_LOOPS,
  ⟨_,rfl⟩,
  AU X G g_MOST_SPOTS,
  ⟨_,rfl⟩,
  AU X G g_ROW_WORDS,
  rfl,
  λH=>.inr ⟨_,_,_,q_ROW_WORDS,rfl,rfl,Al rfl,(.cons ⟨_,rfl⟩ (.cons ⟨_,rfl⟩ (.cons ⟨_,rfl⟩ .nil)))⟩,
  AU X G g_SIGNS,
  ⟨_,rfl⟩,
  AU X G g_STRENGTHS,
  rfl,
  λP=>Wa q_STRENGTHS hh_STRENGTHS0 hh_STRENGTHS1 hh_STRENGTHS2 hh_STRENGTHS3 qsm_STRENGTHS (by decide +kernel)⟩,rfl,λs v=>.of_eq rfl⟩
end Fw
open PySem PySem.W PyProof.Rows
namespace PySem.W.Fast
def tw10021596680495503217:=True
def tw10042374053521422178:=True
def tw1004819686218563062:=True
def tw10092834078918662586:=True
def tw10169325692596474602:=True
def tw1017696382729708242:=True
def tw10186560446940380704:=True
def tw10244707851430200250:=True
def tw10259784725308296277:=True
def tw10301041896965555211:=True
def tw10339633537480946484:=True
def tw10353325244769974653:=True
def tw10377214304619812846:=True
def tw10391779229580484847:=True
def tw1040421572659891506:=True
def tw10453193327139924943:=True
def tw10464910829491136349:=True
def tw10466143492137996483:=True
def tw10469231779091276692:=True
def tw10471852159461999486:=True
def tw10509899615944512074:=True
def tw10614628498316076446:=True
def tw10622350410747236815:=True
def tw10627480953626482910:=True
def tw10635123321981921623:=True
def tw10706385785427964861:=True
def tw10771465503320816718:=True
def tw10793326907465230897:=True
def tw10803083871791667486:=True
def tw10830291076550633629:=True
def tw10886599864638964652:=True
def tw10917500079982662598:=True
def tw10941919519432082886:=True
def tw11005173908964334744:=True
def tw11028058598019434638:=True
def tw11079606810278464536:=True
def tw11080503973348151591:=True
def tw11120582149047733893:=True
def tw11130767427309954346:=True
def tw11193590697227201466:=True
def tw11200891852999465024:=True
def tw11204206435041911250:=True
def tw11245896504288174646:=True
def tw11418492821606933027:=True
def tw11433321769405465919:=True
def tw11480371042965566885:=True
def tw11490792009727093634:=True
def tw11491793884932562864:=True
def tw11524811429845318060:=True
def tw11622993648491288557:=True
def tw11702439071064432896:=True
def tw11771971912335357475:=True
def tw11795424545784819148:=True
def tw11806688341283544762:=True
def tw1187909143168267742:=True
def tw11906322131307587016:=True
def tw11956072619649727083:=True
def tw1199718367878551779:=True
def tw11998501773946586283:=True
def tw12012069747599052000:=True
def tw12092332590770317701:=True
def tw121092146096572962:=True
def tw12124701490361559187:=True
def tw1219410319543913941:=True
def tw12265884864305387407:=True
def tw12299575746515120839:=True
def tw12316300943698502481:=True
def tw1232190232597156192:=True
def tw12380380472961384296:=True
def tw1239111205058105996:=True
def tw12407103465300926647:=True
def tw12490507999844154344:=True
def tw12533284796216046571:=True
def tw12536943261354394218:=True
def tw1254462403672455863:=True
def tw12580394411183216480:=True
def tw12583114044173159447:=True
def tw12632622860715048309:=True
def tw12644022884718182037:=True
def tw12659526958802396375:=True
def tw12688770009961093989:=True
def tw12717736903408841632:=True
def tw12815263469946812370:=True
def tw1284355154599397462:=True
def tw12879455923879280853:=True
def tw12892798425620578179:=True
def tw1306122477064405564:=True
def tw13080857924691865268:=True
def tw13108947079119224888:=True
def tw13118247359944765447:=True
def tw13121788818192070555:=True
def tw13138469131454226798:=True
def tw13141640613292325706:=True
def tw13156332442213085380:=True
def tw1321114749875815463:=True
def tw13231120699185199318:=True
def tw13245189084348322934:=True
def tw13251378457587443447:=True
def tw13292458932651875773:=True
def tw133118621010082189:=True
def tw13366318049802851022:=True
def tw13394426516901252607:=True
def tw13417956149214758594:=True
def tw13445320105703363338:=True
def tw13481117619331681366:=True
def tw13507284608386880061:=True
def tw13527838079017828834:=True
def tw13528574439519358016:=True
def tw13646659978079808552:=True
def tw13663881310902596791:=True
def tw13679428796023078565:=True
def tw1369390637542740816:=True
def tw13730913674717928010:=True
def tw13748585234687271983:=True
def tw1375427246137353831:=True
def tw13762226747922391846:=True
def tw13866051030135960873:=True
def tw13895745105765531786:=True
def tw13899311095335654288:=True
def tw13918981182626213563:=True
def tw13929364584571212852:=True
def tw13935063943857490637:=True
def tw13974790721427577389:=True
def tw14015505905456224805:=True
def tw14051454004630138583:=True
def tw14077361356068757204:=True
def tw14101583095607102791:=True
def tw14108643895898426118:=True
def tw14117312133489475756:=True
def tw14125949835366185876:=True
def tw14132312012826892944:=True
def tw14136475982916140067:=True
def tw14150101944957819013:=True
def tw14209452424165526731:=True
def tw14227905573727675875:=True
def tw14290472397023805524:=True
def tw14298912568829621156:=True
def tw14330846981074531677:=True
def tw14339387168382709745:=True
def tw14354127039533385626:=True
def tw14368702273904390212:=True
def tw14389417934009154650:=True
def tw14479779359798339492:=True
def tw14490575070721566023:=True
def tw14561792704120742577:=True
def tw14569135843368662752:=True
def tw14578885793593372676:=True
def tw14584236468399407335:=True
def tw14588646209753948446:=True
def tw14629070712651681188:=True
def tw14632731017967417495:=True
def tw14665324857778239496:=True
def tw14688120447436757463:=True
def tw14706420102988753036:=True
def tw14712044110973320206:=True
def tw14741273350619251917:=True
def tw14769500150858942886:=True
def tw1477173944887306241:=True
def tw14777966520215550168:=True
def tw14891431654837508902:=True
def tw15008743303309451534:=True
def tw15017744677827022110:=True
def tw1507521502565522869:=True
def tw15089085843027855466:=True
def tw15107791309695389945:=True
def tw15121154575057032081:=True
def tw15127824771707218945:=True
def tw15157708845688977824:=True
def tw15240421134769416413:=True
def tw1525029913906696376:=True
def tw15255751890377283257:=True
def tw15395224771927201523:=True
def tw15419434210104437125:=True
def tw15454718406927206005:=True
def tw15504693484250072431:=True
def tw15542264921575094131:=True
def tw15593798698304332754:=True
def tw15669135899999818496:=True
def tw15671009057970124489:=True
def tw15690036175267439595:=True
def tw15702952460355490396:=True
def tw15712848958206127290:=True
def tw15742328074570653488:=True
def tw15816770117921613632:=True
def tw15819428914143845886:=True
def tw15835410725312706112:=True
def tw15849208006950374195:=True
def tw1588047479835970818:=True
def tw15906575825801942033:=True
def tw15964488514163789594:=True
def tw16016342364391224477:=True
def tw16021829519137341552:=True
def tw16023194525208540611:=True
def tw16052876398146721402:=True
def tw16067411612312602172:=True
def tw16120805026032638536:=True
def tw16131290861334544802:=True
def tw16136432745553661422:=True
def tw16171503829138147710:=True
def tw16173999598855990042:=True
def tw16246241252801796949:=True
def tw16250187348663413:=True
def tw16434219919138094424:=True
def tw16475598879446955515:=True
def tw16509388477270031934:=True
def tw16526286790988043995:=True
def tw16529459351293682833:=True
def tw16532654061178840699:=True
def tw16533365757670208886:=True
def tw16553193742162915419:=True
def tw16585952095014457352:=True
def tw16650450308621810836:=True
def tw16699855908832726523:=True
def tw16701569078402025294:=True
def tw16802132497825833507:=True
def tw16811840118887641307:=True
def tw1682798141571032948:=True
def tw16884008057490261194:=True
def tw16887052161404121806:=True
def tw1689868882215034677:=True
def tw16943096180422908674:=True
def tw16945954833937988377:=True
def tw16963242279873376880:=True
def tw16975311200040196587:=True
def tw16977525055670167149:=True
def tw16985293191473148534:=True
def tw16994528024220981719:=True
def tw1699461567093357308:=True
def tw17033982548615143408:=True
def tw17077702428908124387:=True
def tw17118073352627900341:=True
def tw17119737321273181407:=True
def tw17142294392038736877:=True
def tw17142565928377869419:=True
def tw17161782371306232411:=True
def tw17195591315683148545:=True
def tw17201281449759213910:=True
def tw1722486898929409982:=True
def tw17238814989283298219:=True
def tw17281863715498594193:=True
def tw17310251729623902329:=True
def tw17327854239325204210:=True
def tw17369141979222931519:=True
def tw17448911953824237962:=True
def tw17467044542632314012:=True
def tw17467175608149737812:=True
def tw17474584586702586755:=True
def tw17476067023702418326:=True
def tw17477099646408777079:=True
def tw17533880213053425140:=True
def tw17544539623177039839:=True
def tw17555532652960413001:=True
def tw17561749101918050428:=True
def tw1762249714369953053:=True
def tw17628201662168658749:=True
def tw17693271655787090941:=True
def tw17731862684223666438:=True
def tw1777198362861018544:=True
def tw17783899170783520939:=True
def tw17805069817476233179:=True
def tw17827925088047201854:=True
def tw17862884070275779107:=True
def tw17863108686455558398:=True
def tw17863530014522221451:=True
def tw17892276910061122422:=True
def tw17897362952080736003:=True
def tw17902336834662487058:=True
def tw17918899572125792750:=True
def tw17921699076305471548:=True
def tw17933341309247551497:=True
def tw17980780831909405551:=True
def tw17991761538519822860:=True
def tw18019061170591695787:=True
def tw18043281104701845924:=True
def tw18045377647884196282:=True
def tw18077853361778596965:=True
def tw18106891696314796970:=True
def tw1811026100891142744:=True
def tw18164873312453753336:=True
def tw18254492899475495977:=True
def tw18270161005371296362:=True
def tw1828764128174545382:=True
def tw18315271192718092326:=True
def tw1832177979782901215:=True
def tw18342667067434123333:=True
def tw18343221672213020655:=True
def tw18360583860857572584:=True
def tw18375343555126281736:=True
def tw18391350917845765147:=True
def tw18397985042098323464:=True
def tw18415120930244026944:=True
def tw18417379424886594014:=True
def tw18441613486910959956:=True
def tw185565306605004161:=True
def tw1859804810982498833:=True
def tw186565850951477109:=True
def tw1945903635615845162:=True
def tw1959306910830120937:=True
def tw200985896832741209:=True
def tw2028043117647608379:=True
def tw203103428623718012:=True
def tw2064130269440739381:=True
def tw207419520432585482:=True
def tw2158886949084691960:=True
def tw2228180739191457258:=True
def tw2283322674113494499:=True
def tw23085943443284268:=True
def tw2310821400965545020:=True
def tw2314705184894865697:=True
def tw2404221528253119587:=True
def tw2404339100796612238:=True
def tw2427266616863031513:=True
def tw2471128123741313082:=True
def tw2486575995572116367:=True
def tw2490764530542576652:=True
def tw2513141035401315022:=True
def tw2579071077505559542:=True
def tw2611865908605698527:=True
def tw2620977873135175428:=True
def tw2623471573524035095:=True
def tw2625838046270966545:=True
def tw2702003459517038261:=True
def tw2706514101579671269:=True
def tw2707981445149413234:=True
def tw2779547725425317160:=True
def tw2832188660350191120:=True
def tw2849608153012627248:=True
def tw2883901970570683279:=True
def tw2964102137916039153:=True
def tw2971705731058609762:=True
def tw3046192117212359905:=True
def tw3068393229567573189:=True
def tw3093084768671347873:=True
def tw3130184049449896270:=True
def tw3161334922138093370:=True
def tw317873470024597959:=True
def tw3182044554035481401:=True
def tw3182170999261029523:=True
def tw3186073340566824994:=True
def tw3221542246578864736:=True
def tw3255982744119785910:=True
def tw3270369587486497234:=True
def tw3283886276260424709:=True
def tw332375243260184273:=True
def tw3337011158413193267:=True
def tw3343558088953248539:=True
def tw3363925392556906198:=True
def tw3386486208311007227:=True
def tw3431025106977023348:=True
def tw3457747179476944524:=True
def tw3460583414198686559:=True
def tw3483422840658405406:=True
def tw3502930453117325661:=True
def tw3522740785677549932:=True
def tw3546069128285526018:=True
def tw356937695476045901:=True
def tw3581312689513634439:=True
def tw3611230600029419088:=True
def tw3625504662200063649:=True
def tw3631446866133031311:=True
def tw3704776074466117322:=True
def tw3743169844796634178:=True
def tw3769857789804751581:=True
def tw3774737289166387437:=True
def tw3930537934383027147:=True
def tw3986901033641349265:=True
def tw4061617580496548622:=True
def tw4096926501437814126:=True
def tw4131448898865401470:=True
def tw4167362844314622324:=True
def tw4189996561708228931:=True
def tw4239017245884106483:=True
def tw4294569661744875788:=True
def tw4314382694192773634:=True
def tw4335236385362172018:=True
def tw4342826205965063299:=True
def tw4354162031262821294:=True
def tw4421448034942251441:=True
def tw4452109941510902916:=True
def tw4602282150179536210:=True
def tw4615907439976632416:=True
def tw4630429120141325435:=True
def tw4633595943111055010:=True
def tw4697910187555094867:=True
def tw4715450836929075869:=True
def tw4719625980438037018:=True
def tw4725396005992512569:=True
def tw4831948158208382130:=True
def tw4841711116645842561:=True
def tw4872731707962778099:=True
def tw502743302811227182:=True
def tw508116958296221814:=True
def tw5123056590721483329:=True
def tw5128022909677438940:=True
def tw5130628253379826934:=True
def tw5206032807211501422:=True
def tw5225242807701096613:=True
def tw5245281475310805679:=True
def tw5270189825130437633:=True
def tw5320776736441511477:=True
def tw5346495954206566406:=True
def tw5352184051898438288:=True
def tw5381311243994608337:=True
def tw5389199801232520984:=True
def tw556073039531703368:=True
def tw5560829491947913319:=True
def tw5563199597125279823:=True
def tw5595763383205528914:=True
def tw5611429040727841628:=True
def tw5630710405177908245:=True
def tw5637755559227094617:=True
def tw5649212872364563772:=True
def tw5651882373838546513:=True
def tw5693050725131271939:=True
def tw5700389774893724291:=True
def tw5770604183443497212:=True
def tw5824575459698040389:=True
def tw5825553589956738482:=True
def tw5875245890786420813:=True
def tw5884262528566533620:=True
def tw6000885728327671762:=True
def tw6006233110458347721:=True
def tw6013991644113115924:=True
def tw601545089259379408:=True
def tw6037244172134505613:=True
def tw6090185203587251310:=True
def tw609883019307916335:=True
def tw6121601624215952927:=True
def tw6121854697463386415:=True
def tw6180234727669021982:=True
def tw6182642353124583319:=True
def tw6206114775432589030:=True
def tw6326143590479784579:=True
def tw634742257324379369:=True
def tw636387614411361270:=True
def tw63818360518410098:=True
def tw6386229189029741451:=True
def tw6419938796359262330:=True
def tw6438664632192443245:=True
def tw6451579152276042925:=True
def tw6473214947868717348:=True
def tw6497192069119934923:=True
def tw6533121865546285346:=True
def tw6560855224943891822:=True
def tw6563676374604613761:=True
def tw658506932281625360:=True
def tw6620277909882139729:=True
def tw6660853810587522955:=True
def tw6769892950430763923:=True
def tw678327164789487491:=True
def tw6786350253147752034:=True
def tw6797304240800235660:=True
def tw6833937926716490578:=True
def tw6842037699703858415:=True
def tw6868489977282077113:=True
def tw6870264578372583625:=True
def tw6957662630341211197:=True
def tw6964433082193597649:=True
def tw7013267773388637025:=True
def tw70241284863150376:=True
def tw702610199395821166:=True
def tw7065827667543601380:=True
def tw719973641367450105:=True
def tw7207219362098646964:=True
def tw7279231720038158395:=True
def tw7316771236707066077:=True
def tw7325828743649207663:=True
def tw7336125305730609115:=True
def tw737301621649581626:=True
def tw7376037677775353931:=True
def tw7435227965412030446:=True
def tw746374370505368976:=True
def tw7490153493723439215:=True
def tw7549630358599452931:=True
def tw7550257542059680437:=True
def tw7551600296773376142:=True
def tw7570982937792272463:=True
def tw757567299994008070:=True
def tw7596129320753038989:=True
def tw7603939677532744826:=True
def tw7613225669550304469:=True
def tw7708291610785513995:=True
def tw7741292898174388020:=True
def tw7742052782778119032:=True
def tw7768458073823613275:=True
def tw7824372351442804849:=True
def tw7864507127238204072:=True
def tw7864609650317360019:=True
def tw7870605720626330042:=True
def tw7905083642783734216:=True
def tw7942968088163439721:=True
def tw7996881763828954287:=True
def tw7999826630297219758:=True
def tw8015543266858595747:=True
def tw8017089658120796211:=True
def tw802429665548283820:=True
def tw8028795157231228034:=True
def tw8035319151025629381:=True
def tw8103579134448947971:=True
def tw8123762205146143523:=True
def tw8149918585515001802:=True
def tw8181113783512639068:=True
def tw8181637426392033927:=True
def tw8302604143428187524:=True
def tw8349810090328179385:=True
def tw8427982999879806662:=True
def tw845542856836633344:=True
def tw848451685865412575:=True
def tw8508165355016018869:=True
def tw8513003577285403226:=True
def tw8600962556648004025:=True
def tw8614175481974349122:=True
def tw8636281149856954485:=True
def tw8655358196702773476:=True
def tw873449538281223785:=True
def tw8773735223261645465:=True
def tw8857744051724145746:=True
def tw8909337119014328552:=True
def tw8914349067149200893:=True
def tw89465627101976440:=True
def tw8953291104391438453:=True
def tw9033780911429232207:=True
def tw910470540868842736:=True
def tw9234382331611280417:=True
def tw9252661974159309692:=True
def tw927527508999055601:=True
def tw9301586194187315375:=True
def tw9301779053254350931:=True
def tw9343580965686391941:=True
def tw938952975347626319:=True
def tw941567635005820149:=True
def tw9421504853487006321:=True
def tw9451345815895285695:=True
def tw945433115575454988:=True
def tw9581330236772680188:=True
def tw9623107073272668464:=True
def tw9645853233264045180:=True
def tw9659958919489837521:=True
def tw9678384387658845795:=True
def tw9706265554753271598:=True
def tw9710286912752168535:=True
def tw9778838039153102011:=True
def tw9817059763697190534:=True
def tw983320621318765517:=True
def tw9862188460288266740:=True
def tw9888770248630913752:=True
def tw9940501139031854587:=True
end PySem.W.Fast
set_option maxRecDepth 100000 in
set_option maxHeartbeats 0 in
theorem PySem.Challenge.cw_furrow_k27_the_first_row_that_is_wrong_holds : PySem.Challenge.rw_furrow_k27_the_first_row_that_is_wrong.Holds := by
 w_on;o_law;k_head;(case hw=>w_witness2)
 k_fill
 refine L2.law_walk (l:=PySem.Challenge.rw_furrow_k27_the_first_row_that_is_wrong) (x:="_law_script") 90 (by decide) rfl rfl (λw h Y=>PySem.W.kIn_of Y) ?F
 case F=>
  intro w mg fa h KX G hmg
  suffices hh:∃a:Fw.Ad,Fw.Tx w _ mg a/\fa=a.f_V/\(∀(s:Shared) (v:Value),BindsTo s a.d_V ⟨[v],[]⟩ [("_law_script",v)]) by
   obtain⟨a,T,e,b⟩:=hh;subst e;exact⟨a.d_V,b,λbase _ _=>Fw.ok_law T⟩
  refine' Fw.txt_mk KX G hmg ?a_Term ?a_Number ?a_Value ?a_Cell ?a_Joined ?a_Deed ?a_Program ?a_Draft ?a_FurrowError ?a_NoText ?h1 ?h2 ?h3 ?h4 ?h5 ?h6 ?h7 ?h8 ?h9 ?h10 ?h11 ?h12 ?h13 ?h14 ?h15 ?h16 ?h17 ?h18 ?h19 ?h20 ?h21 ?h22 ?h23 ?h24 ?h25 ?h26 ?h27 ?h28 ?h29 ?h30 ?h31 ?h32 ?h33 ?h34 ?h35 ?h36 ?h37 ?h38 ?h39 ?h40 ?h41 ?h42 ?h43 ?h44 ?h45 ?h46 ?h47 ?h48 ?h49 ?h50 ?h51 ?h52 ?h53 ?h54 ?h55 ?h56 ?n_Number_n ?n_Value_name ?n_Cell_table ?n_Cell_spots ?n_Joined_sign ?n_Joined_left ?n_Joined_right ?n_Deed_names ?n_Deed_lows ?n_Deed_highs ?n_Deed_table ?n_Deed_spots ?n_Deed_term ?n_Deed_path ?n_Program_size ?n_Program_deeds ?n_Draft_size ?n_Draft_deeds ?n_Draft_tables ?n_Draft_names ?n_Draft_lows ?n_Draft_highs ?n_Draft_path ?hn0 ?ht0 ?ha_Number ?hm_Number ?is_Number_Term ?is_Number_Number ?is_Number_Value ?is_Number_Cell ?is_Number_Joined ?is_Number_Deed ?is_Number_Program ?is_Number_Draft ?ha_Value ?hm_Value ?is_Value_Term ?is_Value_Number ?is_Value_Value ?is_Value_Cell ?is_Value_Joined ?is_Value_Deed ?is_Value_Program ?is_Value_Draft ?ha_Cell ?hm_Cell ?is_Cell_Term ?is_Cell_Number ?is_Cell_Value ?is_Cell_Cell ?is_Cell_Joined ?is_Cell_Deed ?is_Cell_Program ?is_Cell_Draft ?ha_Joined ?hm_Joined ?is_Joined_Term ?is_Joined_Number ?is_Joined_Value ?is_Joined_Cell ?is_Joined_Joined ?is_Joined_Deed ?is_Joined_Program ?is_Joined_Draft ?is_str_Term ?is_str_Number ?is_str_Value ?is_str_Cell ?is_str_Joined ?is_str_Deed ?is_str_Program ?is_str_Draft ?ha_Deed ?hm_Deed ?is_Deed_Term ?is_Deed_Number ?is_Deed_Value ?is_Deed_Cell ?is_Deed_Joined ?is_Deed_Deed ?is_Deed_Program ?is_Deed_Draft ?ha_Program ?hm_Program ?is_Program_Term ?is_Program_Number ?is_Program_Value ?is_Program_Cell ?is_Program_Joined ?is_Program_Deed ?is_Program_Program ?is_Program_Draft ?ha_Draft ?hm_Draft ?is_Draft_Term ?is_Draft_Number ?is_Draft_Value ?is_Draft_Cell ?is_Draft_Joined ?is_Draft_Deed ?is_Draft_Program ?is_Draft_Draft ?xga_FurrowError ?xgh_FurrowError ?xbe_FurrowError ?xsa_FurrowError ?xhd_FurrowError ?qmt_FurrowError ?xob_FurrowError ?qct_FurrowError ?xca_FurrowError ?kc_FurrowError ?xin_FurrowError ?is_FurrowError_FurrowError ?is_FurrowError_NoText ?is_FurrowError_VE ?xga_NoText ?xgh_NoText ?xbe_NoText ?xsa_NoText ?xhd_NoText ?qmt_NoText ?xob_NoText ?qct_NoText ?xca_NoText ?kc_NoText ?n_NoText_line ?is_NoText_FurrowError ?is_NoText_NoText ?is_NoText_VE ?dnd ?xbg ?xbr ?xbf ?z_abs ?z_all ?z_bool ?z_enumerate ?z_int ?z_isinstance ?z_len ?z_list ?z_max ?z_range ?z_str ?z_tuple ?g_FIGURES ?g_LEAST_SIZE ?g_LETTERS ?g_MOST_DEEDS ?g_MOST_FIGURES ?g_MOST_LETTERS ?g_MOST_LOOPS ?g_MOST_SPOTS ?g_ROW_WORDS ?q_ROW_WORDS ?g_SIGNS ?g_STRENGTHS ?q_STRENGTHS ?hh_STRENGTHS0 ?hh_STRENGTHS1 ?hh_STRENGTHS2 ?hh_STRENGTHS3 ?qsm_STRENGTHS
  any_goals first|refine'⟨?_,L2.fun_mk ?_ ?_ ?_⟩|refine'⟨?_,?_,L2.fun_mk ?_ ?_ ?_⟩|refine' Fw.ClA.mk ?_ ?_ ?_ ?_ ?_ ?_ ?_
  any_goals first|k_is|kit_is|exact rfl|kernel_rfl|decide
#print axioms PySem.Challenge.cw_furrow_k27_the_first_row_that_is_wrong_holds
