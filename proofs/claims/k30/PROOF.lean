import PyProof.Rows.All
import Wide.All
import OpenK.AllK
import Wide.FinOn
import Lean
import PyProof.EqAt
import PyProof.EqKinds
import PyProof.TupleCall
import PySem.Str
import PyProof.CompFree
import PySem.Challenge.RW_sharedways_k30_whole_fair
set_option Elab.async false
set_option linter.all false
set_option maxRecDepth 100000
set_option maxHeartbeats 5000000
abbrev cK1:=@Array.length_toList
abbrev cK2:=@Bool.and_eq_true
abbrev cK3:=@Bool.eq_iff_iff
abbrev cK4:=@Bool.false_and
abbrev cK5:=@Bool.false_eq_true
abbrev cK6:=@Bool.false_ne_true
abbrev cK7:=@Bool.not_eq_true'
abbrev cK8:=@Bool.or_eq_true
abbrev cK9:=@Bool.true_and
abbrev cL0:=@PySem.Heap.get?_push_of_some
abbrev cL1:=@PySem.Heap.get?_push_size
abbrev cL2:=@PySem.Heap.get?_update_other
abbrev cL3:=@PySem.Heap.get?_update_self
abbrev cL4:=@PySem.Heap.lt_size
abbrev cL5:=@PySem.Heap.size_push
abbrev cL6:=@Int.add_mul
abbrev cL7:=@Int.add_zero
abbrev cL8:=@Int.emod_lt_of_pos
abbrev cL9:=@Int.emod_nonneg
abbrev cM0:=@Int.eq_of_mul_eq_mul_right
abbrev cM1:=@Int.gcd_dvd_right
abbrev cM2:=@Int.lt_of_mul_lt_mul_right
abbrev cM3:=@Int.lt_or_le
abbrev cM4:=@Int.mul_assoc
abbrev cM5:=@Int.mul_comm
abbrev cM6:=@Int.mul_le_mul_of_nonneg_left
abbrev cM7:=@Int.mul_left_comm
abbrev cM8:=@Int.mul_lt_mul_of_pos_right
abbrev cM9:=@Int.mul_nonneg
abbrev cN0:=@Int.mul_one
abbrev cN1:=@Int.mul_pos
abbrev cN2:=@Int.mul_right_comm
abbrev cN3:=@Int.mul_zero
abbrev cN4:=@Int.natAbs_mul
abbrev cN5:=@Int.natAbs_of_nonneg
abbrev cN6:=@Int.neg_mul
abbrev cN7:=@Int.toNat_natCast
abbrev cN8:=@Int.toNat_of_nonneg
abbrev cN9:=@Int.zero_add
abbrev cO0:=@Int.zero_mul
abbrev cO1:=@List.all_cons
abbrev cO2:=@List.all_eq_true
abbrev cO3:=@List.all_map
abbrev cO4:=@List.any_cons
abbrev cO5:=@List.append_nil
abbrev cO6:=@List.contains_eq_mem
abbrev cO7:=@List.drop_eq_getElem_cons
abbrev cO8:=@List.drop_length
abbrev cO9:=@List.drop_of_length_le
abbrev cP0:=@List.drop_zero
abbrev cP1:=@List.filterMap_cons
abbrev cP2:=@List.filter_cons
abbrev cP3:=@List.flatMap_append
abbrev cP4:=@List.flatten_cons
abbrev cP5:=@List.forIn_cons
abbrev cP6:=@List.getElem?_append_left
abbrev cP7:=@List.getElem?_append_right
abbrev cP8:=@List.getElem?_eq_getElem
abbrev cP9:=@List.getElem?_eq_none
abbrev cQ0:=@List.getElem?_map
abbrev cQ1:=@List.getElem?_range
abbrev cQ2:=@List.getElem?_replicate
abbrev cQ3:=@List.getElem?_set_ne
abbrev cQ4:=@List.getElem?_set_self
abbrev cQ5:=@List.getElem?_zip_eq_some
abbrev cQ6:=@List.getElem_mem
abbrev cQ7:=@List.length_append
abbrev cQ8:=@List.length_map
abbrev cQ9:=@List.length_range
abbrev cR0:=@List.length_replicate
abbrev cR1:=@List.length_set
abbrev cR2:=@List.length_singleton
abbrev cR3:=@List.length_take
abbrev cR4:=@List.lookup_cons
abbrev cR5:=@List.map_append
abbrev cR6:=@List.map_congr_left
abbrev cR7:=@List.map_map
abbrev cR8:=@List.mem_append_left
abbrev cR9:=@List.mem_append_right
abbrev cS0:=@List.mem_cons
abbrev cS1:=@List.mem_cons_of_mem
abbrev cS2:=@List.mem_cons_self
abbrev cS3:=@List.mem_nil_iff
abbrev cS4:=@List.mem_of_getElem?
abbrev cS5:=@List.mem_of_mem_drop
abbrev cS6:=@List.mem_of_mem_take
abbrev cS7:=@List.mem_singleton
abbrev cS8:=@List.of_mem_zip
abbrev cS9:=@List.range_add
abbrev cT0:=@List.range_succ
abbrev cT1:=@List.range_succ_eq_map
abbrev cT2:=@List.replicate_succ
abbrev cT3:=@List.set_set
abbrev cT4:=@List.size_toArray
abbrev cT5:=@List.take_append_of_le_length
abbrev cT6:=@List.take_of_length_le
abbrev cT7:=@Nat.add_assoc
abbrev cT8:=@Nat.le_refl
abbrev cT9:=@Nat.le_succ
abbrev cU0:=@Nat.le_trans
abbrev cU1:=@Nat.lt_irrefl
abbrev cU2:=@Nat.lt_of_lt_of_le
abbrev cU3:=@Nat.lt_or_ge
abbrev cU4:=@Nat.lt_succ_of_lt
abbrev cU5:=@Nat.lt_succ_self
abbrev cU6:=@Nat.min_eq_left
abbrev cU7:=@Nat.mul_comm
abbrev cU8:=@Nat.mul_le_mul_right
abbrev cU9:=@Nat.ne_of_gt
abbrev cV0:=@Nat.ne_of_lt
abbrev cV1:=@Nat.not_lt_zero
abbrev cV2:=@Nat.pow_le_pow_right
abbrev cV3:=@Nat.pow_succ
abbrev cV4:=@Nat.succ_le_of_lt
abbrev cV5:=@Nat.succ_mul
abbrev cV6:=@Nat.zero_add
abbrev cV7:=@Nat.zero_le
abbrev cV8:=@Option.none
abbrev cV9:=@Option.some.inj
abbrev cW0:=@PySem.W.Frag
abbrev cW1:=@PySem.mem_of_lookup
abbrev cW2:=@beq_self_eq_true
abbrev cW3:=@decide_eq_false
abbrev cW4:=@decide_eq_true
abbrev cW5:=@decide_eq_true_eq
abbrev cW6:=@if_neg
abbrev cW7:=@if_pos
abbrev cW8:=@PySem.wpAny_bind
abbrev cW9:=@PySem.wpAny_call_entry
abbrev cX0:=@PySem.wpAny_field
abbrev cX1:=@PySem.wpAny_mono
abbrev cX2:=@PySem.wpAny_newObj_type
abbrev cX3:=@PySem.wpAny_pure
abbrev cX4:=@PySem.wpAny_pyIter_list
abbrev cX5:=@PySem.wpAny_seqItems
abbrev cX6:=@PySem.wpAny_setField_rec
abbrev cX7:=@PySem.wpAny_truthy_bool
theorem cI3 {f:B->C}(h:b∈List.map f l):∃a,a∈l/\f a=b:=List.mem_map.mp h
theorem cI4 (h:a∈b::l):a=b\/a∈l:=List.mem_cons.mp h
theorem cI5 (h:a∈List.range n):a<n:=List.mem_range.mp h
theorem cI6 [BEq B][LawfulBEq B]{a b:B}(h:a≠b):(a==b)=false:=beq_eq_false_iff_ne.mpr h
theorem cI7 {f:B->Option C}:(some a).bind f=f a:=rfl
theorem cI8 {a:B}{l:List B}:(a::l)[n+1]?=l[n]?:=rfl
theorem cI9 {f:B->C}:List.map f (a::l)=f a::List.map f l:=rfl
theorem cJ0 {f:B->C}:List.map f []=[]:=rfl
theorem cJ1 {f:B->C->B}:List.foldl f b (a::l)=List.foldl f (f b a) l:=rfl
theorem cJ2 {f:B->C->B}:List.foldl f b []=b:=rfl
theorem cJ3 {a:B}:(a::l).length=l.length+1:=rfl
theorem cJ4 :([]:List B).length=0:=rfl
theorem cJ5 {l:List B}:[]++l=l:=rfl
theorem cJ6 {a:B}{l:List B}:(a::l)[0]?=some a:=rfl
theorem cJ7 {a b:B}{l:List B}:(a::l).set 0 b=b::l:=rfl
theorem cJ8 {a b:B}{l:List B}:(a::l).set (n+1) b=a::l.set n b:=rfl
theorem cJ9 {a:B}{l m:List B}:(a::l)++m=a::(l++m):=rfl
theorem cK0 {l m:List B}(h:a∈l++m):a∈l\/a∈m:=List.mem_append.mp h
local macro_rules|`(tactic|erw[$[$x:term],*]$(l)?)=>`(tactic|simp only[$[$x:term],*]$(l)?)
set_option hygiene false in
local macro_rules|`(⋯)=>`(by omega)|`(∎)=>`(by decide)|`(∅)=>`(by simp)|`(⇑$x)=>`(some (.lst $x))|`(↥$x)=>`(some (.int $x))|`(↑$x)=>`(some (.bl $x))
noncomputable section
open PySem PySem.Spec PyProof.Rows
abbrev PySem.Shared.sz(s:PySem.Shared):=s.heap.objs.size
namespace L2
abbrev Key:=Sum Int Str
def cb0:Key->Value->Bool
 |.inl k,v=>Value.isInt k v
 |.inr x,v=>Value.isStrOf x v
def cD2(w:World):Key->Int
 |.inl k=>hashInt k
 |.inr x=>hashStr w x
theorem V5:∀{k:Key}{v:Value},cb0 k v=true->(∃i t,k=Sum.inl i/\v=Value.int i t)\/(∃x t,k=Sum.inr x/\v=Value.str x t)
 |.inl i,v,h=>by
  obtain⟨t,e⟩:=Value.isInt_shape (k:=i) (v:=v) h;exact .inl ⟨i,t,rfl,e⟩
 |.inr x,v,h=>by
  obtain⟨t,e⟩:=Value.isStrOf_shape (x:=x) (v:=v) h;exact .inr ⟨x,t,rfl,e⟩
theorem cr0(a b:Int):decide ((Sum.inl a:Key)=Sum.inl b)=(a==b):=by
 by_cases e:a=b
 .subst e;simp
 .have h:¬(Sum.inl a:Key)=Sum.inl b:=λq=>e (Sum.inl.inj q)
  rw[cW3 h];exact(cI6 e).symm
theorem cq7(a b:Str):decide ((Sum.inr a:Key)=Sum.inr b)=decide (a=b):=by
 by_cases e:a=b
 .subst e;simp
 .have h:¬(Sum.inr a:Key)=Sum.inr b:=λq=>e (Sum.inr.inj q)
  rw[cW3 h,cW3 e]
theorem cq9(a:Int)(b:Str):decide ((Sum.inl a:Key)=Sum.inr b)=false:=cW3 (λq=>nomatch q)
theorem cq8(a:Str)(b:Int):decide ((Sum.inr a:Key)=Sum.inl b)=false:=cW3 (λq=>nomatch q)
def bv7(prog:Program)(w:World):PySem.KeyKind prog w Key where
 is:=cb0
 hash:=cD2 w
 inj:=λv a b ha hb=>by
  rcases V5 ha with⟨i,t,rfl,rfl⟩|⟨x,t,rfl,rfl⟩
  .rcases V5 hb with⟨j,u,rfl,e⟩|⟨y,u,rfl,e⟩
   .injection e with e1 _;rw[e1]
   .exact nomatch e
  .rcases V5 hb with⟨j,u,rfl,e⟩|⟨y,u,rfl,e⟩
   .exact nomatch e
   .injection e with e1 _;rw[e1]
 byValue:=λk v h=>by
  rcases V5 h with⟨i,t,rfl,rfl⟩|⟨x,t,rfl,rfl⟩<;>rfl
 pyHash:=λhv h=>by
  rcases V5 hv with⟨i,t,rfl,rfl⟩|⟨x,t,rfl,rfl⟩
  .exact wpAny_pyHash_int h
  .exact wpAny_pyHash_str h
 eqBool:=λhu hv h=>by
  rcases V5 hu with⟨i,t,rfl,rfl⟩|⟨x,t,rfl,rfl⟩
  .rcases V5 hv with⟨j,u,rfl,rfl⟩|⟨y,u,rfl,rfl⟩
   .rw[cr0]at h;exact wpAny_eqBool_int h
   .rw[cq9]at h;exact SeqAt.EqAt.int_str i t y u _ _ _ _ h
  .rcases V5 hv with⟨j,u,rfl,rfl⟩|⟨y,u,rfl,rfl⟩
   .rw[cq8]at h;exact SeqAt.EqAt.str_int x t j u _ _ _ _ h
   .rw[cq7]at h;exact wpAny_eqBool_str h
 «strs»:=λk x t v h=>by
  rcases V5 h with⟨i,u,rfl,e⟩|⟨y,u,rfl,e⟩
  .exact nomatch e
  .injection e with e1 _
   subst e1;cases v<;>rfl
inductive V where
 |non|bl (b:Bool)|int (i:Int)|str (x:Str)|byt (b:Array UInt8)|flt (b:UInt64)|ref (a:Addr)|ty (n:String)
 deriving DecidableEq
def C9:V->Value->Prop
 |.non,u=>u=Value.none
 |.bl b,u=>u=Value.bool b
 |.int i,u=>∃t,u=Value.int i t
 |.str x,u=>∃t,u=Value.str x t
 |.byt b,u=>∃t,u=Value.bytes b t
 |.flt b,u=>∃t,u=Value.float b t
 |.ref a,u=>u=Value.ref a
 |.ty n,u=>u=Value.type n
abbrev B9:List V->List Value->Prop:=Paired C9
theorem B9.length(r:B9 x u):x.length=u.length:=Paired.length r
theorem B9.get:∀{X:List V}{U:List Value}{i:Nat}{x:V},B9 X U->X[i]?=some x->∃u,U[i]?=some u/\C9 x u
 |_,_,_,_,.nil,e=>by simp at e
 |_,_,0,_,.cons r _,e=>by simp at e;subst e;exact⟨_,rfl,r⟩
 |_,_,i+1,x,.cons _ t,e=>by
  obtain⟨u,h,H⟩:=B9.get (i:=i) (x:=x) t (by simpa using e);exact⟨u,by simpa using h,H⟩
theorem B9.set(r:C9 x u):∀{X:List V}{U:List Value}(i:Nat),B9 X U->B9 (X.set i x) (U.set i u)
 |_,_,_,.nil=>.nil
 |_,_,0,.cons _ t=>.cons r t
 |_,_,i+1,.cons q t=>.cons q (B9.set r i t)
theorem B9.append:∀{x y:List V}{u w:List Value},B9 x u->B9 y w->B9 (x++y) (u++w)
 |_,_,_,_,.nil,s=>s
 |_,_,_,_,.cons r t,s=>.cons r (B9.append t s)
theorem B9.take:∀{x:List V}{u:List Value}(n:Nat),B9 x u->B9 (x.take n) (u.take n)
 |_,_,0,_=>.nil
 |_,_,_+1,.nil=>.nil
 |_,_,n+1,.cons r t=>.cons r (B9.take n t)
theorem B9.drop:∀{x:List V}{u:List Value}(n:Nat),B9 x u->B9 (x.drop n) (u.drop n)
 |_,_,0,r=>r
 |_,_,_+1,.nil=>.nil
 |_,_,n+1,.cons _ t=>B9.drop n t
def aB6:Option V->Option Value->Prop
 |some v,some u=>C9 v u
 |none,none=>True
 |_,_=>False
def KV{B:Type}:List (B×V)->List (B×Value)->Prop:=Paired λ(p:B×V) (q:B×Value)=>p.1=q.1/\C9 p.2 q.2
def kV:Key->V
 |.inl i=>.int i
 |.inr x=>.str x
inductive HO where
 /--a list -/
 |lst (xs:List V)
 /--a tuple (never changes) -/
 |tup (xs:List V)
 /--a dict whose keys are ints and texts;one whose keys are tuples of ints and texts (the empty one is both) -/
 |dK (kvs:List (Key×V))|dT (kvs:List (List Key×V))
 /--a set of ints:its members,its size -/
 |set (S:Int->Bool) (n:Nat)
 /--an instance of the class at C,its dict at dx,its attributes -/
 |ins (C dx:Addr) (fs:List (Str×V))
 /--the dict of the instance at x -/
 |aB (x:Addr)
 /--the dict of an exception -/
 |xd (fs:List (Str×V))
 /--a bound method,f of x -/
 |met (f x:Addr)
 /--a range object lo,lo+1,.. below hi -/
 |rng (lo hi:Int)
 /--a thing that is known to the object (the script;a dict while a loop walks it):read,never written while it is so -/
 |frz (o:Obj) (u:HO)
 /--a code object's table -/
 |tbl (ps:Array Value)
 /--any other thing,by what is true of its one object (a def of one's aB:SetO a S n:=HO.ext λh=>..) -/
 |ext (φ:Heap->Prop)
abbrev Hp:=Addr->Option HO
def upd(H:Hp)(a:Addr)(o:HO):Hp:=λb=>if b=a then some o else H b
theorem t8:upd H a o a=some o:=by unfold upd;rw[cW7 rfl]
theorem n6(h:b≠a):upd H a o b=H b:=by unfold upd;rw[cW6 h]
theorem C5{H:Hp}{a b:Addr}{o:HO}(h:H a=some o)(B:H b=none):a≠b:=by
 intro e;subst e;rw[h]at B;cases B
section
variable (P:Program)(w:World)
def ae7(H:Hp)(h:Heap)(a:Addr):HO->Prop
 |.lst X=>X.length<=sizeLine/\∃(i:List Value) (n:Nat),B9 X i/\h.get? a=some {cls:=.type "list",data:=.seq i.toArray n}
 |.tup X=>X.length<=sizeLine/\∃i:List Value,B9 X i/\IsTup h a i.toArray
 |.dK k=>k.length<=sizeLine/\(a==sysModules)=false/\∃s,KV k s/\h.DictOf (bv7 P w) a s
 |.dT k=>k.length<=sizeLine/\(a==sysModules)=false/\∃X:List (List Key×Addr×Value),
   Paired (λ(p:List Key×V) (q:List Key×Addr×Value)=>p.1=q.1/\H q.2.1=some (.tup (p.1.map kV))/\C9 p.2 q.2.2) k X/\
   ∃o e J,h.get? a=some o/\o.ExactDict/\o.data=.dict e J/\e.toList=X.map (entryOfKey (tupleKind (bv7 P w)))/\(X.map (·.1)).Nodup
 |.set S n=>h.SetOf (intKind P w) a S n
 |.ins C d F=>H d=some (.aB a)/\F.length<=1000/\d≠a/\h.get? a=some (W.instObj C d)/\
   ∃M,h.Ns1 d M/\(∀f,aB6 (F.lookup f) (M f))/\PySem.Within M (F.map (·.1))
 |.aB _=>∃o,h.get? a=some o
 |.xd F=>∃M,h.Ns1 a M/\∀f,aB6 (F.lookup f) (M f)
 |.rng lo L=>∃t u v,h.get? a=some {cls:=.type "range",data:=.fields #[.int lo t,.int L u,.int 1 v]}
 |.frz o u=>h.get? a=some o/\ae7 H h a u
 |.tbl N=>h.get? a=some {cls:=.none,data:=.fields N}
 |.met f x=>h.get? a=some (W.methodObj (.ref f) (.ref x))
 |.ext B=>B h/\(∃o,h.get? a=some o)/\∀E I:Heap,B E->(∀o,E.get? a=some o->I.get? a=some o)->B I
def HOk(H:Hp)(h:Heap):Prop:=∀a o,H a=some o->ae7 P w H h a o
end
section
variable {P:Program}{w:World}{H g:Hp}{h h':Heap}{a:Addr}{o:HO}
theorem ae7.lt(x:ae7 P w H h a o):a<h.objs.size:=by
 cases o with
 |lst X=>obtain⟨_,_,_,_,e⟩:=x;exact cL4 e
 |tup X=>obtain⟨_,_,_,p⟩:=x;exact p.lt
 |dK k=>obtain⟨_,_,_,_,o,_,_,e,_⟩:=x;exact cL4 e
 |dT k=>obtain⟨_,_,_,_,o,_,_,e,_⟩:=x;exact cL4 e
 |set S n=>obtain⟨o,_,_,_,e,_⟩:=x;exact cL4 e
 |ins C d F=>obtain⟨_,_,_,e,_⟩:=x;exact cL4 e
 |aB y=>obtain⟨_,e⟩:=x;exact cL4 e
 |xd F=>obtain⟨_,⟨_,_,_,e,_⟩,_⟩:=x;exact cL4 e
 |rng lo i=>obtain⟨_,_,_,e⟩:=x;exact cL4 e
 |frz O u=>obtain⟨e,_⟩:=x;exact cL4 e
 |tbl s=>exact cL4 (show h.get? a=some _ from x)
 |met f y=>exact cL4 (show h.get? a=some _ from x)
 |ext B=>obtain⟨_,⟨_,e⟩,_⟩:=x;exact cL4 e
theorem Paired.mapP:∀{l:List B}{L:List C},Paired F l L->(∀a b,F a b->G a b)->Paired G l L
 |_,_,.nil,_=>.nil
 |_,_,.cons r t,f=>.cons (f _ _ r) (Paired.mapP t f)
theorem ae7.stay(x:ae7 P w H h a o)(k:∀b u,(b=a\/H b=some (.aB a))->h.get? b=some u->h'.get? b=some u)
  (L:∀b,H b=some (.aB a)->g b=some (.aB a)) (N:∀b X,H b=some (.tup X)->g b=some (.tup X)):ae7 P w g h' a o:=by
 induction o with
 |lst X=>obtain⟨z,i,n,r,e⟩:=x;exact⟨z,i,n,r,k _ _ (.inl rfl) e⟩
 |tup X=>obtain⟨z,i,r,O,e,c⟩:=x;exact⟨z,i,r,O,k _ _ (.inl rfl) e,c⟩
 |dK R=>obtain⟨z,y,Y,r,O,s,E,e,c⟩:=x;exact⟨z,y,Y,r,O,s,E,k _ _ (.inl rfl) e,c⟩
 |dT R=>
  obtain⟨z,y,X,r,O,s,E,e,c⟩:=x;exact⟨z,y,X,Paired.mapP r λp q z=>⟨z.1,N _ _ z.2.1,z.2.2⟩,O,s,E,k _ _ (.inl rfl) e,c⟩
 |set S n=>obtain⟨O,s,E,t,e,c⟩:=x;exact⟨O,s,E,t,k _ _ (.inl rfl) e,c⟩
 |ins C Z J=>
  obtain⟨d,z,U,e,M,⟨B,s,E,I,c⟩,r⟩:=x;exact⟨L _ d,z,U,k _ _ (.inl rfl) e,M,⟨B,s,E,k _ _ (.inr d) I,c⟩,r⟩
 |aB y=>obtain⟨O,e⟩:=x;exact⟨O,k _ _ (.inl rfl) e⟩
 |xd J=>obtain⟨M,⟨B,s,E,e,c⟩,r⟩:=x;exact⟨M,⟨B,s,E,k _ _ (.inl rfl) e,c⟩,r⟩
 |rng lo j=>obtain⟨t,u,v,e⟩:=x;exact⟨t,u,v,k _ _ (.inl rfl) e⟩
 |frz O u Q=>obtain⟨e,q⟩:=x;exact⟨k _ _ (.inl rfl) e,Q q⟩
 |tbl F=>
  have e:h.get? a=some {cls:=.none,data:=.fields F}:=x;show h'.get? a=some {cls:=.none,data:=.fields F};exact k a _ (.inl rfl) e
 |met f y=>
  have e:h.get? a=some (W.methodObj (.ref f) (.ref y)):=x;show h'.get? a=some (W.methodObj (.ref f) (.ref y));exact k a _ (.inl rfl) e
 |ext l=>obtain⟨p,⟨o,e⟩,st⟩:=x;exact⟨st _ _ p λo q=>k _ _ (.inl rfl) q,⟨o,k _ _ (.inl rfl) e⟩,st⟩
theorem HOk.lt(x:HOk P w H h)(e:H a=some o):a<h.objs.size:=(x a o e).lt
theorem HOk.fresh(x:HOk P w H h)(e:h.objs.size<=a):H a=none:=by
 cases q:H a with
 |none=>rfl
 |some u=>exact absurd (cU2 (x.lt q) e) (cU1 _)
theorem HOk.kept(x:HOk P w H h)(k:∀b u,h.get? b=some u->h'.get? b=some u):HOk P w H h':=λa o e=>
 (x a o e).stay (λb u _ q=>k b u q) (λ_ q=>q) λ_ _ q=>q
theorem HOk.laid(x:HOk P w H h)(k:∀b u,h.get? b=some u->h'.get? b=some u)(p:h.objs.size<=a)(N:ae7 P w (upd H a o) h' a o):HOk P w (upd H a o) h':=λb u e=>by
 have n:=x.fresh p;by_cases B:b=a
 .subst B;rw[t8]at e;cases e;exact N
 .rw[n6 B]at e;exact(x b u e).stay (λc v _ q=>k c v q) (λc q=>by rw[n6 (C5 q n)];exact q) λc X q=>by rw[n6 (C5 q n)];exact q
end
def Rd(H:Hp)(a:Addr)(u:HO):Prop:=H a=some u\/∃o,H a=some (.frz o u)
theorem Rd.ok(r:Rd H a u)(x:HOk P w H h):ae7 P w H h a u:=by
 rcases r with r|⟨o,r⟩
 .exact x a u r
 .obtain⟨_,q⟩:=x a _ r;exact q
def Mut:Option HO->Prop
 |⇑_=>True
 |some (.dK _)=>True
 |some (.dT _)=>True
 |some (.set _ _)=>True
 |some (.ins _ _ _)=>True
 |some (.ext _)=>True
 |_=>False
section
variable {P:Program}{w:World}{H:Hp}{h g:Heap}{x e:Addr}{o:HO}
theorem HOk.write(O:HOk P w H h)(M:Mut (H x))(F:e=x\/H e=some (.aB x))(k:∀b u,b≠e->h.get? b=some u->g.get? b=some u)(I:∃u,g.get? e=some u)
  (N:ae7 P w (upd H x o) g x o):HOk P w (upd H x o) g:=λb u q=>by
 have n:∀c y,H c=some (.aB y)->c≠x:=λc y r z=>by subst z;rw[r]at M;exact M
 have p:∀c X,H c=some (.tup X)->c≠x:=λc X r z=>by subst z;rw[r]at M;exact M
 by_cases B:b=x
 .subst B;rw[t8]at q;cases q;exact N
 .rw[n6 B]at q;by_cases C:b=e
  .have Q:H b=some (.aB x):=by
    rcases F with z|z
    .exact absurd (C.trans z) B
    .rw[C];exact z
   rw[q]at Q;cases Q;obtain⟨v,J⟩:=I;exact⟨v,by rw[C];exact J⟩
  .refine(O b u q).stay (λc v E r=>k c v ?_ r) (λc r=>by rw[n6 (n c b r)];exact r) λc X r=>by rw[n6 (p c X r)];exact r
   rcases E with rfl|E
   .exact C
   .rintro rfl;rcases F with z|z
    .exact n c b E z
    .rw[E]at z;cases z;exact B rfl
end
structure Un(fs ex:List Addr)(H H':Hp)(h h':Heap):Prop where
 keep:∀b o,h.get? b=some o->H b=none->b∉fs->b∉ex->h'.get? b=some o
 slot:∀b o,h.get? b=some o->H b=none->b∈fs->b∉ex->∃sl,h'.get? b=some {o with slots:=sl}
 free:∀b o,h.get? b=some o->H b=none->b∉ex->H' b=none
 there:∀b o,h.get? b=some o->b∉ex->∃o',h'.get? b=some o'
 tups:∀b xs,H b=some (.tup xs)->H' b=some (.tup xs)
 frzs:∀b o u,H b=some (.frz o u)->H' b=some (.frz o u)
 tbls:∀b ps,H b=some (.tbl ps)->∃more,H' b=some (.tbl (ps++more))
section
variable {fs i ex j:List Addr}{H l p:Hp}{h g s h':Heap}{a x e:Addr}{o:HO}
theorem Un.any(U:Un fs ex H l h g)(q:h.get? b=some O)(n:H b=none)(C:b∉ex):∃S,g.get? b=some {O with slots:=S}:=by
 by_cases B:b∈fs
 .exact U.slot b O q n B C
 .exact⟨O.slots,U.keep b O q n B C⟩
theorem Un.kept(k:∀b U,h.get? b=some U->h'.get? b=some U):Un fs ex H H h h':=
 ⟨λb O q _ _ _=>k b O q,λb O q _ _ _=>⟨O.slots,k b O q⟩,λ_ _ _ n _=>n,λb O q _=>⟨O,k b O q⟩,λ_ _ q=>q,λ_ _ _ q=>q,λ_ P q=>⟨#[],by rw[q];simp⟩⟩
theorem Un.refl:Un fs ex H H h h:=Un.kept λ_ _ q=>q
theorem Un.laid(k:∀b u,h.get? b=some u->h'.get? b=some u)(hp:h.objs.size<=a)(hn:H a=none):Un fs ex H (upd H a o) h h' where
 keep:=λb u q _ _ _=>k b u q
 slot:=λb u q _ _ _=>⟨u.slots,k b u q⟩
 free:=λb u q n _=>by rw[n6 (cV0 (cU2 (cL4 q) hp))];exact n
 there:=λb u q _=>⟨u,k b u q⟩
 tups:=λb xs q=>by rw[n6 (C5 q hn)];exact q
 frzs:=λb u xs q=>by rw[n6 (C5 q hn)];exact q
 tbls:=λb ps q=>⟨#[],by rw[n6 (C5 q hn),q];simp⟩
theorem Un.write(M:Mut (H x))(I:e=x\/H e=some (.aB x))(k:∀b U,b≠e->h.get? b=some U->h'.get? b=some U)(J:∃U,h'.get? e=some U):Un fs ex H (upd H x o) h h':=by
 have F:∀b,H b=none->b≠x:=λb n z=>by subst z;rw[n]at M;exact M
 have C:∀b,H b=none->b≠e:=λb n z=>by
  subst z;rcases I with r|r
  .exact F b n r
  .rw[n]at r;cases r
 have B:∀b U,H b=some U->¬Mut (some U)->b≠x:=λb U q N z=>by subst z;rw[q]at M;exact N M
 refine⟨λb U q n _ _=>k b U (C b n) q,λb U q n _ _=>⟨U.slots,k b U (C b n) q⟩,λb U q n _=>by rw[n6 (F b n)];exact n,λb U q _=> ?_,
  λb X q=>by rw[n6 (B b _ q λz=>z)];exact q,λb U X q=>by rw[n6 (B b _ q λz=>z)];exact q,λb P q=>⟨#[],by rw[n6 (B b _ q λz=>z),q];simp⟩⟩
 by_cases E:b=e
 .subst E;exact J
 .exact⟨U,k b U E q⟩
end
def trk(h:Heap)(H:Hp):List Addr:=(List.range h.objs.size).filter λa=>(H a).isSome
def aH3(h:Heap)(H:Hp):Heap:=W.hideAll h (trk h H)
theorem bM1(h:Heap)(H:Hp):(aH3 h H).objs.size=h.objs.size:=W.hideAll_size _ _
theorem aS9(e:h.get? b=some o)(n:H b=none):(aH3 h H).get? b=some o:=
 W.hideAll_get _ e λB=>by
  have q:(H b).isSome=true:=(List.mem_filter.mp B).2;rw[n]at q;simp at q
theorem ch4(e:(aH3 h H).get? b=some o):h.get? b=some o/\H b=none:=by
 have E:h.get? b=some o:=W.of_hideAll (trk h H) e;refine⟨E,?_⟩;cases q:H b with
 |none=>rfl
 |some x=>
  have B:b∈trk h H:=List.mem_filter.mpr ⟨List.mem_range.mpr (cL4 E),by simp[q]⟩;have z:(aH3 h H).get? b=none:=W.hideAll_none (trk h H) B;rw[z]at e;cases e
structure Mod(K:cW0)(mg:Str->Option Value)(aD:Heap):Prop where
 kin:K.In aD
 glob:aD.Ns mainGlobals mg
 blt:∃mb,aD.Ns builtinsNs mb/\∀x:Str,x≠"__name__"->mb x=bootBuiltins x
 nolimit:aD.NoLimit
structure Cx where
 prog:Program
 w:World
 K:cW0
 mg:Str->Option Value
 aD:Heap
 A:Around
 N:List Str
 sd:Shared
 Ho:Hp
 env:Env
 aE:List Env
 stack:List Env
 ex:List Addr
 fn:Str->Bool
 calm:Bool
 pn:List (Addr×Obj)
 xe:Value->Shared->Prop
abbrev NoD(x:Str):Prop:=(x==("__debug__":Str))=false
abbrev StE(X:Cx)(e:Expr)(E:List Expr):Prop:=starEach (e::E) X.env=(false,eval e X.env)::starEach E X.env
abbrev Bks(X:Cx)(p:Pos)(e:List Expr):Prop:=(backTo p (starEach e X.env)).any (·.1)=false
abbrev NFo(X:Cx)(i:Expr):Prop:=∀x,foldedSetIterable i X.env x=pure x
abbrev LcF(X:Cx)(x:Str):Prop:=X.fn x=true\/X.env.scope.names.lookup x=some .local
def frs(l:List Env):List Addr:=l.filterMap (·.frame)
abbrev Cx.fs(X:Cx):List Addr:=frs X.aE
def Vis(s:Scope)(x:Str):Prop:=s.names.lookup x=some .local\/s.names.lookup x=some .cell\/s.names.lookup x=some .free
def Loc(s:Scope)(x:Str):Prop:=s.names.lookup x=some .local\/s.names.lookup x=some .cell
def cE8(e:Env)(h:Heap)(m:Str->Option Value)(x:Str)(u:Value):Prop:=
 (e.kindOf x=some .local/\m x=some u)\/((e.kindOf x=some .cell\/e.kindOf x=some .free)/\∃c,e.cells.lookup x=some c/\h.IsCell c (some u))
structure Cx.Ok(X:Cx):Prop where
 mod:Mod X.K X.mg X.aD
 kind:X.env.scope.kind=.function
 glob:X.env.globals=mainGlobals
 blt:X.env.builtins=builtinsNs
 above:X.sd.sz<=X.env.locals
 inj:∀x y c,X.env.cells.lookup x=some c->X.env.cells.lookup y=some c->x=y
 has:∀x,(X.env.kindOf x=some .cell\/X.env.kindOf x=some .free)->∃c,X.env.cells.lookup x=some c
 cab:∀x c,X.fn x=true->X.env.cells.lookup x=some c->X.sd.sz<=c
 hd:X.calm=true->X.A.handled=none
 frames:X.A.frames=some X.stack
 stk:X.stack=X.aE\/(X.stack=X.env::X.aE/\X.env.frame=some X.env.locals)
 exf:∀b∈X.ex,b≠X.env.locals/\∀x c,X.env.cells.lookup x=some c->c≠b
 bs:∀b o,X.aD.get? b=some o->X.sd.heap.get? b=some o/\X.Ho b=none
 bsz:X.aD.objs.size<=X.sd.sz
 noex:∀b o,X.aD.get? b=some o->b∉X.ex
 exfs:∀b∈X.ex,b∉X.fs
 funs:X.sd.heap.FunFrames X.aD X.aE
 frf:∀b∈X.fs,X.Ho b=none
structure Inv(X:Cx)(aA:List (Addr×Obj))(wW:List (Option V))(H:Hp)(s:Shared):Prop where
 ok:X.Ok
 os:s.os=X.sd.os
 bare:AllBare s.gens
 aD:Un X.fs X.ex X.Ho H X.sd.heap s.heap
 loc:∃m,s.heap.Ns X.env.locals m/\∀(i:Nat) (x:Str) (v:V),X.N[i]?=some x->wW[i]?=some (some v)->Vis X.env.scope x->∃u,C9 v u/\cE8 X.env s.heap m x u
 cell:∀x c,X.env.cells.lookup x=some c->∃v,s.heap.IsCell c v
 free:H X.env.locals=none
 freeC:∀x c,X.env.cells.lookup x=some c->H c=none
 pin:∀p∈X.pn++aA,s.heap.get? p.1=some p.2/\H p.1=none/\p.1≠X.env.locals/\p.1∉X.fs/\∀v,p.2.data≠.cell v
 hok:HOk X.prog X.w H s.heap
 len:wW.length=X.N.length
section
variable {X:Cx}{aA:List (Addr×Obj)}{wW:List (Option V)}{H g:Hp}{s:Shared}{h':Heap}
theorem Cx.Ok.nofr(O:X.Ok)(e:X.aD.get? b=some B):b∉X.fs:=λh=>by
 have :=(O.funs.mem h).1;rw[e]at this;cases this
theorem Inv.bs(I:Inv X aA wW H s):∀b o,X.aD.get? b=some o->s.heap.get? b=some o/\H b=none:=λb o e=>
 ⟨I.aD.keep b o (I.ok.bs b o e).1 (I.ok.bs b o e).2 (I.ok.nofr e) (I.ok.noex b o e),I.aD.free b o (I.ok.bs b o e).1 (I.ok.bs b o e).2 (I.ok.noex b o e)⟩
theorem Inv.bk(I:Inv X aA wW H s):∀b o,X.aD.get? b=some o->s.heap.get? b=some o:=λb o e=>(I.bs b o e).1
theorem Inv.mod(I:Inv X aA wW H s):Mod X.K X.mg X.aD:=I.ok.mod
theorem Inv.kIn(I:Inv X aA wW H s):X.K.In s.heap:=I.ok.mod.kin.keeps I.bk
theorem Inv.lt(I:Inv X aA wW H s):X.env.locals<s.sz:=let⟨_,h,_⟩:=I.loc;h.lt
theorem Inv.sz(I:Inv X aA wW H s):X.sd.sz<=s.sz:=cU0 I.ok.above (Nat.le_of_lt I.lt)
theorem Inv.nofs(I:Inv X aA wW H s)(h:s.sz<=a):a∉X.fs:=λb=>by
 obtain⟨_,o,B,_⟩:=I.ok.funs.mem b;exact absurd (cU2 (cL4 B) (cU0 I.sz h)) (cU1 _)
theorem Inv.cne(I:Inv X aA wW H s):∀B c,X.env.cells.lookup B=some c->c≠X.env.locals:=λB c e z=>by
 obtain⟨M,o,C,h⟩:=I.cell B c e;obtain⟨m,⟨O,L,J,F,E,_⟩,_⟩:=I.loc;rw[z,F]at C;cases C;rw[E]at h;cases h
theorem Inv.funs(I:Inv X aA wW H s):s.heap.FunFrames X.aD X.aE:=by
 have a:∀(l:List Env),(∀b∈frs l,b∈X.fs)->X.sd.heap.FunFrames X.aD l->s.heap.FunFrames X.aD l:=by
  intro l;induction l with
  |nil=>intro _ _;trivial
  |cons N r M=>
   intro C E;obtain⟨k,⟨L,o,f,n,F,d⟩,J⟩:=E;have h:L∈X.fs:=C L (by unfold frs;rw[cP1,f];exact cS2);obtain⟨S,e⟩:=I.aD.slot L o F (I.ok.frf L h) h λz=>I.ok.exfs L z h
   exact⟨k,⟨L,_,f,n,e,d⟩,M (λb B=>C b (by unfold frs;rw[cP1,f];exact cS1 _ B)) J⟩
 exact a X.aE (λ_ B=>B) I.ok.funs
theorem Inv.stack(I:Inv X aA wW H s):s.heap.FunFrames X.aD X.stack:=by
 rcases I.ok.stk with e|⟨e,h⟩
 .rw[e];exact I.funs
 .rw[e];obtain⟨m,n,_⟩:=I.loc;refine .cons (by rw[I.ok.kind];decide) h n ?_ I.funs;exact Heap.get?_none_of_le (cU0 I.ok.bsz I.ok.above)
theorem Inv.stkSub(I:Inv X aA wW H s):∀b∈frs X.stack,b∈X.env.locals::X.fs:=λb h=>by
 rcases I.ok.stk with e|⟨e,f⟩
 .rw[e]at h;exact cS1 _ h
 .rw[e]at h;unfold frs at h;rw[cP1,f]at h;exact h
theorem Inv.stkFree(I:Inv X aA wW H s):∀b∈frs X.stack,H b=none:=λb h=>by
 rcases cI4 (I.stkSub b h)with e|h
 .rw[e];exact I.free
 .obtain⟨_,o,B,_⟩:=I.ok.funs.mem h;exact I.aD.free b o B (I.ok.frf b h) λz=>I.ok.exfs b z h
theorem Inv.step{g':Array GenState}{t':Nat}{d':Drawn}{ch:List Addr}(I:Inv X aA wW H s)
  (N:∀b∈ch,(b∈X.ex\/X.sd.sz<=b)/\b≠X.env.locals/\(∀B c,X.env.cells.lookup B=some c->c≠b)/\∀P∈X.pn++aA,P.1≠b)
  (k:∀b o,b≠X.env.locals->b∉X.fs->b∉ch->s.heap.get? b=some o->H b=none->h'.get? b=some o)
  (y:∀b o,b≠X.env.locals->b∈X.fs->b∉ch->s.heap.get? b=some o->H b=none->∃Y,h'.get? b=some {o with slots:=Y}) (f:∀b o,b∉ch->s.heap.get? b=some o->H b=none->g b=none)
  (ao:∀b o,b∉ch->s.heap.get? b=some o->∃Q,h'.get? b=some Q)
  (aq:∀b F,H b=some (.tup F)->g b=some (.tup F)) (aa:∀b o U,H b=some (.frz o U)->g b=some (.frz o U)) (ak:∀b S,H b=some (.tbl S)->∃ah,g b=some (.tbl (S++ah)))
  (ns:∀m,s.heap.Ns X.env.locals m->h'.Ns X.env.locals m) (ae:HOk X.prog X.w g h') (hg:AllBare g'):
  Inv X aA wW g {s with heap:=h',gens:=g',drawn:=d',toks:=t'}:=by
 have t:∀b o,X.sd.heap.get? b=some o->b≠X.env.locals:=λb o e=>cV0 (cU2 (cL4 e) I.ok.above)
 have R:∀b o,X.sd.heap.get? b=some o->b∉X.ex->b∉ch:=λb o e h J=>by
  rcases(N b J).1 with z|z
  .exact h z
  .exact absurd (cU2 (cL4 e) z) (cU1 _)
 have Z:∀B c,X.env.cells.lookup B=some c->∀C,s.heap.IsCell c C->h'.IsCell c C:=λB c e C ⟨o,L,W⟩=>by
  have O:c∉ch:=λz=>(N c z).2.2.1 B c e rfl
  by_cases a:c∈X.fs
  .obtain⟨Y,q⟩:=y c o (I.cne B c e) a O L (I.freeC B c e);exact⟨_,q,W⟩
  .exact⟨o,k c o (I.cne B c e) a O L (I.freeC B c e),W⟩
 refine⟨I.ok,I.os,hg,⟨λb o e n J h=> ?_,λb o e n J h=> ?_,λb o e n h=> ?_,λb o e h=> ?_,λb F e=>aq b F (I.aD.tups b F e),λb o F e=>aa b o F (I.aD.frzs b o F e),λb S e=> ?_⟩,?_,λB c e=> ?_,?_,λB c e=> ?_,λP j=> ?_,ae,I.len⟩
 .exact k b o (t b o e) J (R b o e h) (I.aD.keep b o e n J h) (I.aD.free b o e n h)
 .obtain⟨Y,E⟩:=I.aD.slot b o e n J h;obtain⟨aj,M⟩:=y b _ (t b o e) J (R b o e h) E (I.aD.free b o e n h);exact⟨aj,M⟩
 .obtain⟨Q,E⟩:=I.aD.there b o e h;exact f b Q (R b o e h) E (I.aD.free b o e n h)
 .obtain⟨Q,E⟩:=I.aD.there b o e h;exact ao b Q (R b o e h) E
 .obtain⟨m1,E⟩:=I.aD.tbls b S e;obtain⟨m2,M⟩:=ak b _ E;exact⟨m1++m2,by rw[M,Array.append_assoc]⟩
 .obtain⟨m,hn,hl⟩:=I.loc;refine⟨m,ns m hn,λaf B C E M e3=> ?_⟩;obtain⟨U,ai,l⟩:=hl af B C E M e3;refine⟨U,ai,?_⟩;rcases l with l|⟨ag,c,e,z⟩
  .exact .inl l
  .exact .inr ⟨ag,c,e,Z B c e _ z⟩
 .obtain⟨C,z⟩:=I.cell B c e;exact⟨C,Z B c e C z⟩
 .obtain⟨m,⟨o,_,_,L,_⟩,_⟩:=I.loc;exact f _ o (λz=>(N _ z).2.1 rfl) L I.free
 .obtain⟨C,o,L,W⟩:=I.cell B c e;exact f c o (λz=>(N c z).2.2.1 B c e rfl) L (I.freeC B c e)
 .obtain⟨e,n,r,w,d⟩:=I.pin P j;have O:P.1∉ch:=λz=>(N P.1 z).2.2.2 P j rfl
  exact⟨k P.1 P.2 r w O e n,f P.1 P.2 O e n,r,w,d⟩
theorem Inv.un{t':Nat}(I:Inv X aA wW H s)(U:Un X.fs [] H g s.heap h')(k:HOk X.prog X.w g h'):Inv X aA wW g {s with heap:=h',toks:=t'}:=by
 obtain⟨m,⟨o,N,M,B,r⟩,_⟩:=id I.loc;obtain⟨S,L⟩:=U.any B I.free ∅;exact I.step (g':=s.gens) (d':=s.drawn) (ch:=[]) (λ_ z=>nomatch z) (λb o _ h _ e n=>U.keep b o e n h ∅) (λb o _ h _ e n=>U.slot b o e n h ∅) (λb o _ e n=>U.free b o e n ∅) (λb o _ e=>U.there b o e ∅) U.tups U.frzs U.tbls (λO J=>by
  obtain⟨P,F,E,C,R⟩:=J;rw[B]at C;cases C;exact⟨_,F,E,L,R⟩) k I.bare
theorem Inv.call{g':Array GenState}{t':Nat}{d':Drawn}{ch:List Addr}(I:Inv X aA wW H s)(U:Un (frs X.stack) ch H g s.heap h')(k:HOk X.prog X.w g h')(N:AllBare g')
  (B:∀b∈ch,(b∈X.ex\/X.sd.sz<=b)/\b≠X.env.locals/\(∀Q c,X.env.cells.lookup Q=some c->c≠b)/\∀P∈X.pn++aA,P.1≠b):
  Inv X aA wW g {s with heap:=h',gens:=g',drawn:=d',toks:=t'}:=by
 obtain⟨m,⟨o,W,S,C,r⟩,_⟩:=id I.loc;obtain⟨l,L⟩:=U.any C I.free λz=>(B _ z).2.1 rfl
 exact I.step (ch:=ch) B (λb o L M h e n=>U.keep b o e n (λz=>(cI4 (I.stkSub b z)).elim L M) h) (λb o _ _ h e n=>U.any e n h) (λb o h e n=>U.free b o e n h) (λb o h e=>U.there b o e h) U.tups U.frzs U.tbls (λY O=>by
  obtain⟨Z,J,F,E,R⟩:=O;rw[C]at E;cases E;exact⟨_,J,F,L,R⟩) k N
theorem Inv.turned{t':Nat}{it:Addr}(I:Inv X aA wW H s)(k:∀b o,b≠it->s.heap.get? b=some o->h'.get? b=some o)(P:H it=none)(L:it≠X.env.locals)
  (C:it∈X.ex\/X.sd.sz<=it) (F:∀W c,X.env.cells.lookup W=some c->c≠it) (J:∀R∈X.pn++aA,R.1≠it):Inv X aA wW H {s with heap:=h',toks:=t'}:=by
 have N:∀b U,H b=some U->b≠it:=λb U e z=>by rw[z,P]at e;cases e
 refine I.step (g':=s.gens) (d':=s.drawn) (ch:=[it]) (λb M=> ?_) (λb o _ _ h e _=>k b o (λz=>h (by simp[z])) e) (λb o _ _ h e _=>⟨o.slots,k b o (λz=>h (by simp[z])) e⟩) (λ_ _ _ _ n=>n)
  (λb o h e=>⟨o,k b o (λz=>h (by simp[z])) e⟩) (λ_ _ e=>e) (λ_ _ _ e=>e) (λb Y e=>⟨#[],by rw[e];simp⟩) (λm O=> ?_) (λb U e=> ?_) I.bare
 .have e:b=it:=by simpa using M
  subst e;exact⟨C,L,F,J⟩
 .obtain⟨o,B,E,Q,r⟩:=O;exact⟨o,B,E,k _ o (Ne.symm L) Q,r⟩
 .refine(I.hok b U e).stay (λc S h q=>k c S ?_ q) (λ_ q=>q) λ_ _ q=>q
  rcases h with z|z
  .rw[z];exact N b U e
  .exact N c _ z
theorem Inv.tok(I:Inv X aA wW H s)(t:Nat):Inv X aA wW H {s with toks:=t}:=I.un (h':=s.heap) (t':=t) Un.refl I.hok
theorem Inv.kept(I:Inv X aA wW H s)(k:∀b U,s.heap.get? b=some U->h'.get? b=some U):Inv X aA wW H {s with heap:=h',toks:=t'}:=I.un (Un.kept k) (I.hok.kept k)
theorem Inv.laid(I:Inv X aA wW H s)(k:∀b U,s.heap.get? b=some U->h'.get? b=some U)(h:s.sz<=a)(n:ae7 X.prog X.w (upd H a o) h' a o):
  Inv X aA wW (upd H a o) {s with heap:=h',toks:=t'}:=I.un (Un.laid k h (I.hok.fresh h)) (I.hok.laid k h n)
theorem Inv.write(I:Inv X aA wW H s)(M:Mut (H x))(h:e=x\/H e=some (.aB x))(k:∀b U,b≠e->s.heap.get? b=some U->h'.get? b=some U)(B:∃U,h'.get? e=some U)
  (n:ae7 X.prog X.w (upd H x o) h' x o):Inv X aA wW (upd H x o) {s with heap:=h',toks:=t}:=I.un (Un.write M h k B) (I.hok.write M h k B n)
theorem Inv.weak(I:Inv X aA wW H s)(h:W.length=wW.length)(w:∀(B:Nat) C,W[B]?=some (some C)->wW[B]?=some (some C)):Inv X aA W H s:=
 ⟨I.ok,I.os,I.bare,I.aD,let⟨m,n,J⟩:=I.loc;⟨m,n,λB L C e E F=>J B L C e (w B C E) F⟩,I.cell,I.free,I.freeC,I.pin,I.hok,h.trans I.len⟩
theorem Inv.pins_of(I:Inv X aA wW H s)(h:∀P∈aA',s.heap.get? P.1=some P.2/\H P.1=none/\P.1≠X.env.locals/\P.1∉X.fs/\∀C,P.2.data≠.cell C):Inv X aA' wW H s:=
 ⟨I.ok,I.os,I.bare,I.aD,I.loc,I.cell,I.free,I.freeC,λP B=>(cK0 B).elim (λz=>I.pin P (cR8 _ z)) (h P),I.hok,I.len⟩
theorem aS0{N:List Str}(h:N.Nodup){i j:Nat}{x:Str}(a:N[i]?=some x)(b:N[j]?=some x):i=j:=by
 obtain⟨B,e⟩:=List.getElem?_eq_some_iff.mp a;obtain⟨C,E⟩:=List.getElem?_eq_some_iff.mp b;exact(List.getElem_inj h).mp (e.trans E.symm)
theorem aJ6{au:Model}{A:Around}{ar:Value->Shared->Prop}{i:Nat}{x:Str}{aq:V}{u:Value}{aa:Unit->Shared->Prop}(I:Inv X aA wW H s)(hN:X.N.Nodup)(N:X.N[i]?=some x)(C:Loc X.env.scope x)(ak:C9 aq u)
  (ae:∀Z,Inv X aA (wW.set i (some aq)) H Z->(∃a,Heap.SameBut a s.heap Z.heap/\(a=X.env.locals\/X.env.cells.lookup x=some a))->aa () Z) (hf:LcF X x):wpAny au A (storeName X.env x u) aa ar s:=by
 obtain⟨m,U,hl⟩:=id I.loc;have av:(X.env.scope.kind==.class||(X.env.scope.kind==.module&&X.env.locals !=X.env.globals))=false:=by rw[I.ok.kind];rfl
 have ai:i<wW.length:=by rw[I.len];exact(List.getElem?_eq_some_iff.mp N).1
 have Q:=I.cne;have ao:∀{a:Addr}{h':Heap},(∃o,s.heap.get? a=some o/\H a=none)->Heap.SameBut a s.heap h'->HOk X.prog X.w H h':=λ{a h'} ha h b ob e=>by
  obtain⟨_,_,ah⟩:=ha;refine(I.hok b ob e).stay (λc w B q=>(h.2 c ?_).trans q) (λ_ q=>q) λ_ _ q=>q
  rintro rfl;rcases B with rfl|B
  .rw[ah]at e;cases e
  .rw[ah]at B;cases B
 rcases C with J|J
 .refine wpAny_storeName_local J U (λh' aw h=> ?_) av;obtain⟨oL,_,_,ax,_⟩:=id U;refine ae _ ⟨I.ok,I.os,I.bare,⟨λb o e n L C=> ?_,λb o e n L C=> ?_,I.aD.free,λb o e C=> ?_,I.aD.tups,I.aD.frzs,I.aD.tbls⟩,⟨_,aw,λj y v E F R=> ?_⟩,λy c e=> ?_,I.free,I.freeC,λp W=> ?_,ao ⟨oL,ax,I.free⟩ h,by simpa using I.len⟩ ⟨_,h,.inl rfl⟩
  .exact(h.2 b (cV0 (cU2 (cL4 e) I.ok.above))).trans (I.aD.keep b o e n L C)
  .obtain⟨l,E⟩:=I.aD.slot b o e n L C;exact⟨l,(h.2 b (cV0 (cU2 (cL4 e) I.ok.above))).trans E⟩
  .obtain⟨Y,E⟩:=I.aD.there b o e C;exact⟨Y,(h.2 b (cV0 (cU2 (cL4 e) I.ok.above))).trans E⟩
  .by_cases M:j=i
   .subst M;rw[N]at E;cases E;rw[cQ4 ai]at F;cases F;exact⟨u,ak,.inl ⟨J,∅⟩⟩
   .rw[cQ3 (Ne.symm M)]at F;obtain⟨t,r,q⟩:=hl j y v E F R;refine⟨t,r,?_⟩;rcases q with⟨k,e⟩|⟨k,c,e,z⟩
    .refine .inl ⟨k,?_⟩;have :y≠x:=λe=>M (aS0 hN E (e▸N))
     simp[this,e]
    .exact .inr ⟨k,c,e,z.sameBut h (Q y c e)⟩
  .obtain⟨w,z⟩:=I.cell y c e;exact⟨w,z.sameBut h (Q y c e)⟩
  .obtain⟨e,n,P,f,d⟩:=I.pin p W;exact⟨(h.2 p.1 P).trans e,n,P,f,d⟩
 .have S:X.fn x=true:=by
   rcases hf with z|z
   .exact z
   .rw[z]at J;cases J
  obtain⟨c,B⟩:=I.ok.has x (.inl J);obtain⟨w,z⟩:=I.cell x c B;refine wpAny_storeName_cell I.ok.kind J B z (λh' af h=> ?_);obtain⟨oc,aj,ay⟩:=id z;refine ae {s with heap:=h'} ⟨I.ok,I.os,I.bare,⟨λb o e n L C=> ?_,λb o e n L C=> ?_,I.aD.free,λb o e C=> ?_,I.aD.tups,I.aD.frzs,I.aD.tbls⟩,⟨m,U.sameBut h (Ne.symm (Q x c B)),λj y v E F R=> ?_⟩,λy O e=> ?_,I.free,I.freeC,λp W=> ?_,ao ⟨oc,aj,I.freeC x c B⟩ h,by simpa using I.len⟩ ⟨c,h,.inr B⟩
  .exact(h.2 b (cV0 (cU2 (cL4 e) (I.ok.cab x c S B)))).trans (I.aD.keep b o e n L C)
  .obtain⟨l,E⟩:=I.aD.slot b o e n L C;exact⟨l,(h.2 b (cV0 (cU2 (cL4 e) (I.ok.cab x c S B)))).trans E⟩
  .obtain⟨Y,E⟩:=I.aD.there b o e C;exact⟨Y,(h.2 b (cV0 (cU2 (cL4 e) (I.ok.cab x c S B)))).trans E⟩
  .by_cases M:j=i
   .subst M;rw[N]at E;cases E;rw[cQ4 ai]at F;cases F;exact⟨u,ak,.inr ⟨.inl J,c,B,af⟩⟩
   .rw[cQ3 (Ne.symm M)]at F;obtain⟨t,r,q⟩:=hl j y v E F R;refine⟨t,r,?_⟩;rcases q with q|⟨k,O,e,z'⟩
    .exact .inl q
    .refine .inr ⟨k,O,e,z'.sameBut h ?_⟩;rintro rfl;exact M (aS0 hN E (I.ok.inj _ _ _ e B▸N))
  .by_cases ag:O=c
   .subst ag;exact⟨_,af⟩
   .obtain⟨w2,z2⟩:=I.cell y O e;exact⟨w2,z2.sameBut h ag⟩
  .obtain⟨e,n,P,f,d⟩:=I.pin p W;refine⟨(h.2 p.1 ?_).trans e,n,P,f,d⟩;intro q;rw[q,aj]at e;have q':oc=p.2:=cV9 e;exact d w (by rw[<-q'];exact ay)
theorem aF5(I:Inv X aA wW H s)(N:X.N.Nodup)(C:X.N[i]?=some x)(F:Loc X.env.scope x)(r:C9 v u)
  (h:∀S,Inv X aA (wW.set i (some v)) H S->Q () S) (f:LcF X x):wpAny M A (storeName X.env x u) Q E s:=
 aJ6 I N C F r (λS B _=>h S B) f
theorem Inv.call'(I:Inv X aA wW H s)(o:S.os=s.os)(U:Un (frs X.stack) ch H g s.heap S.heap)(k:HOk X.prog X.w g S.heap)(C:AllBare S.gens)
  (h:∀b∈ch,(b∈X.ex\/X.sd.sz<=b)/\b≠X.env.locals/\(∀E c,X.env.cells.lookup E=some c->c≠b)/\∀P∈X.pn++aA,P.1≠b):Inv X aA wW g S:=by
 obtain⟨h',B,d,t,O⟩:=S;have e:O=s.os:=o;subst e;exact I.call (g':=B) (t':=t) (d':=d) U k C h
end
abbrev XK:=Value->Option Addr->Hp->Prop
abbrev St:=List (Option V)
abbrev VK:=V->Hp->Prop
abbrev TE:=St->Hp->VK->Prop
abbrev TT:=St->Hp->(Bool->Hp->Prop)->Prop
abbrev TA:=St->Hp->(List V->Hp->Prop)->Prop
structure ao9 where
 nx:St->Hp->Prop
 rt:VK
 bk:St->Hp->Prop:=λ_ _=>False
 ct:St->Hp->Prop:=λ_ _=>False
abbrev TS:=ao9->St->Hp->Prop
def EP(X:Cx)(a:List (Addr×Obj))(w:St)(Q:VK)(u:Value)(s:Shared):Prop:=∃v H,Inv X a w H s/\C9 v u/\Q v H
def TP(X:Cx)(a:List (Addr×Obj))(w:St)(Q:Bool->Hp->Prop)(b:Bool)(s:Shared):Prop:=∃H,Inv X a w H s/\Q b H
def AP(X:Cx)(a:List (Addr×Obj))(w:St)(Q:List V->Hp->Prop)(u:List Value)(s:Shared):Prop:=∃v H,Inv X a w H s/\B9 v u/\Q v H
def SP(X:Cx)(a:List (Addr×Obj))(D:ao9)(f:Flow)(s:Shared):Prop:=
 match f with
 |.next=>∃w H,Inv X a w H s/\D.nx w H
 |.brk=>∃w H,Inv X a w H s/\D.bk w H
 |.cont=>∃w H,Inv X a w H s/\D.ct w H
 |.ret u=>∃v w H,Inv X a w H s/\C9 v u/\D.rt v H
def PE(X:Cx)(e:Expr)(t:TE):Prop:=
 ∀(a:List (Addr×Obj)) (s:Shared) (w:St) (H:Hp) (Q:VK),Inv X a w H s->t w H Q->wpAny (model X.prog X.w) X.A (eval e X.env) (EP X a w Q) X.xe s
def PT(X:Cx)(e:Expr)(t:TT):Prop:=
 ∀(a:List (Addr×Obj)) (s:Shared) (w:St) (H:Hp) (Q:Bool->Hp->Prop),Inv X a w H s->t w H Q->wpAny (model X.prog X.w) X.A (isTrue e X.env (eval e X.env)) (TP X a w Q) X.xe s
def PW(X:Cx)(e:Expr)(t:TT):Prop:=
 ∀(an3:Sem Value) (a:List (Addr×Obj)) (s:Shared) (w:St) (H:Hp) (Q:Bool->Hp->Prop),Inv X a w H s->t w H Q->wpAny (model X.prog X.w) X.A (isTrue e X.env an3) (TP X a w Q) X.xe s
theorem PW.pt(h:PW X e t):PT X e t:=h _
def PA(X:Cx)(e:List Expr)(t:TA):Prop:=
 ∀(p:Pos) (a:List (Addr×Obj)) (s:Shared) (w:St) (H:Hp) (Q:List V->Hp->Prop),Inv X a w H s->t w H Q->wpAny (model X.prog X.w) X.A (spliced (backTo p (starEach e X.env))) (AP X a w Q) X.xe s
def PS(X:Cx)(st:Stmt)(t:TS):Prop:=
 ∀(a:List (Addr×Obj)) (s:Shared) (w:St) (H:Hp) (D:ao9),Inv X a w H s->t D w H->wpAny (model X.prog X.w) X.A (exec st X.env) (SP X a D) X.xe s
def PSs(X:Cx)(st:List Stmt)(t:TS):Prop:=
 ∀(a:List (Addr×Obj)) (s:Shared) (w:St) (H:Hp) (D:ao9),Inv X a w H s->t D w H->wpAny (model X.prog X.w) X.A (execs st X.env) (SP X a D) X.xe s
theorem thn(h:wpAny M A t Q E s)(H:∀a s,Q a s->B a s):wpAny M A t B E s:=cX1 h H λ_ _ x=>x
section
variable {X:Cx}
def ad1(I:Nat):TE:=λw H Q=>∃v,w[I]?=some (some v)/\Q v H
def tC(v:V):TE:=λ_ H Q=>Q v H
theorem as9(N:X.N[F]?=some x)(P:Vis X.env.scope x)(d:NoD x)(L:(x==("__classdict__":Str))=false):PE X (.Name x p) (ad1 F):=by
 intro J s w H Q I B;obtain⟨v,e,B⟩:=B;obtain⟨m,n,M⟩:=I.loc;obtain⟨u,R,l⟩:=M F x v N e P;have fin:EP X J w Q u s:=⟨v,H,I,R,B⟩
 rcases l with⟨k,O⟩|⟨k,c,C,E⟩
 .exact wpAny_Name (wpAny_loadName_local I.ok.kind k n O fin) d
 .rcases k with k|k
  .exact wpAny_Name (wpAny_loadName_cell I.ok.kind k C E fin) d
  .exact wpAny_Name (wpAny_loadName_free I.ok.kind k C E fin L) d
theorem bJ3:PE X (.Constant (.int B) j p) (tC (.int B)):=λ_ _ _ H _ I C=>wpAny_Constant_int ⟨.int B,H,I.tok _,⟨_,rfl⟩,C⟩
theorem bA1:PE X (.Constant (.bool b) j p) (tC (.bl b)):=λ_ _ _ H _ I B=>Constant_bool ⟨.bl b,H,I,rfl,B⟩
theorem cn8:PE X (.Constant .none j p) (tC .non):=λ_ _ _ H _ I B=>Constant_none ⟨.non,H,I,rfl,B⟩
theorem bJ1:PE X (.Constant (.str x) j p) (tC (.str x)):=λ_ _ _ H _ I B=>Calls.Constant_str ⟨.str x,H,I.tok _,⟨_,rfl⟩,B⟩
def Gl(X:Cx)(x:Str):Prop:=X.env.kindOf x=some .globalImplicit
theorem aq3(I:Inv X J w H s)(C:Gl X x)(F:X.mg x=some u)(B:Q u s)
  (d:NoD x):wpAny (model X.prog X.w) X.A (eval (.Name x p) X.env) Q E s:=
 Calls.Name_function_global I.ok.kind C (Calls.loadGlobal_global (by rw[I.ok.glob];exact I.mod.glob.keeps I.bk) F B) d
theorem at0(I:Inv X M w H s)(J:Gl X x)(L:X.mg x=none)(v:bootBuiltins x=some u)(B:Q u s)
  (n:x≠"__name__":=by decide) (d:NoD x:=by decide):wpAny (model X.prog X.w) X.A (eval (.Name x p) X.env) Q E s:=by
 obtain⟨N,C,F⟩:=I.mod.blt;exact Calls.Name_function_global I.ok.kind J (Calls.loadGlobal_builtin (by rw[I.ok.glob];exact I.mod.glob.keeps I.bk) L (by rw[I.ok.blt];exact C.keeps I.bk) ((F x n).trans v) B) d
theorem aD1(C:Gl X x)(E:X.mg x=some u)(R:C9 v u)(d:NoD x):PE X (.Name x p) (tC v):=
 λ_ _ _ H _ I B=>aq3 I C E ⟨v,H,I,R,B⟩ d
theorem bv0(C:Gl X x)(E:X.mg x=none)(F:bootBuiltins x=some u)(R:C9 v u)(n:x≠"__name__")(d:NoD x):PE X (.Name x p) (tC v):=
 λ_ _ _ H _ I B=>at0 I C E F ⟨v,H,I,R,B⟩ n d
variable {a b:Expr}{t g:TE}{p:Pos}
def tB(C:TE):TT:=λw H Q=>C w H λx B=>∃c,x=.bl c/\Q c B
theorem cn0(F:PE X e M)(J:∀an3,isTrue e X.env an3=(do let v<-an3;standAt e.pos;holding [v] (truthy v))):PT X e (tB M):=by
 intro E s W H Q I w;refine isTrue_plain (thn (F E s W H _ I w) λv S ⟨x,B,C,R,L⟩=> ?_) (J _);obtain⟨d,rfl,q⟩:=L;cases R;exact cX7 ⟨B,C,q⟩
variable {h i:TT}{r:List Expr}
def cC1(C u:TT):TT:=λw H Q=>C w H λc B=>if c=true then u w B Q else Q false B
def tOr(C u:TT):TT:=λw H Q=>C w H λc B=>if c=true then Q true B else u w B Q
def cB5(C:TT):TT:=λw H Q=>C w H λc B=>Q (!c) B
theorem cf8(E:PT X a h):PW X (.BoolOp .And [a] p) h:=by
 intro W B s w H Q I C;refine isTrue_and (thn (E B s w H Q I C) λc S e=> ?_);cases c with
 |true=>exact isTrue_and_nil e
 |false=>exact e
theorem cm7(E:PT X a h):PW X (.BoolOp .Or [a] p) h:=by
 intro W B s w H Q I C;refine isTrue_or (thn (E B s w H Q I C) λc S e=> ?_);cases c with
 |false=>exact isTrue_or_nil e
 |true=>exact e
theorem cm8(L:PT X a h)(M:PW X (.BoolOp .And (b::r) p) i):PW X (.BoolOp .And (a::b::r) p) (cC1 h i):=by
 intro W E s w H Q I J;refine isTrue_and (thn (L E s w H _ I J) λc S ⟨B,C,F⟩=> ?_);cases c with
 |true=>exact M W E S w B Q C F
 |false=>exact⟨B,C,F⟩
theorem cx8(L:PT X a h)(M:PW X (.BoolOp .Or (b::r) p) i):PW X (.BoolOp .Or (a::b::r) p) (tOr h i):=by
 intro W E s w H Q I J;refine isTrue_or (thn (L E s w H _ I J) λc S ⟨B,C,F⟩=> ?_);cases c with
 |true=>exact⟨B,C,F⟩
 |false=>exact M W E S w B Q C F
theorem cn1(F:PT X a h):PT X (.UnaryOp .Not a p) (cB5 h):=by
 intro C s w H Q I E;exact isTrue_not (F C s w H (λc B=>Q (!c) B) I E)
def cw9(t g:TE):TE:=λw H Q=>t w H λx B=>∃c,x=.bl c/\if c=true then g w B Q else Q (.bl false) B
def cB4(t g:TE):TE:=λw H Q=>t w H λx B=>∃c,x=.bl c/\if c=true then Q (.bl true) B else g w B Q
def cw2(t:TE):TE:=λw H Q=>t w H λx B=>∃c,x=.bl c/\Q (.bl (!c)) B
theorem cn6(C:PE X a E):PE X (.BoolOp o [a] p) E:=λB s W H Q I w=>BoolOp_one (C B s W H Q I w)
theorem co0(L:PE X a t)(M:PE X (.BoolOp .And (b::r) p) g):PE X (.BoolOp .And (a::b::r) p) (cw9 t g):=by
 intro F s w H Q I J;refine BoolOp_and (thn (L F s w H _ I J) λv S ⟨x,C,E,R,B⟩=> ?_);obtain⟨c,rfl,B⟩:=B;cases R;refine cX7 ?_;cases c with
 |true=>exact M F S w C Q E B
 |false=>exact⟨.bl false,C,E,rfl,B⟩
theorem cy2(L:PE X a t)(M:PE X (.BoolOp .Or (b::r) p) g):PE X (.BoolOp .Or (a::b::r) p) (cB4 t g):=by
 intro F s w H Q I J;refine BoolOp_or (thn (L F s w H _ I J) λv S ⟨x,C,E,R,B⟩=> ?_);obtain⟨c,rfl,B⟩:=B;cases R;refine cX7 ?_;cases c with
 |false=>exact M F S w C Q E B
 |true=>exact⟨.bl true,C,E,rfl,B⟩
theorem cn7(L:PE X a t):PE X (.UnaryOp .Not a p) (cw2 t):=by
 intro F s w H Q I J;refine UnaryOp_ (thn (L F s w H _ I J) λv S ⟨x,C,E,R,B⟩=> ?_);obtain⟨c,rfl,B⟩:=B;cases R;exact not_of (cX7 ⟨.bl (!c),C,E,rfl,B⟩)
def tIf(C:TT)(t g:TE):TE:=λw H Q=>C w H λc B=>if c=true then t w B Q else g w B Q
theorem bV4(N:PT X c h)(L:PE X a t)(M:PE X b g):PE X (.IfExp c a b p) (tIf h t g):=by
 intro B s w H Q I J;refine wpAny_IfExp (thn (N B s w H _ I J) λd S ⟨C,E,F⟩=> ?_);cases d with
 |true=>exact L B S w C Q E F
 |false=>exact M B S w C Q E F
end
def SqL(K:cW0)(H:Hp)(a:Addr)(x:List V):Prop:=
 Rd H a (.lst x)\/
  ∃(o:Obj) (i:Array Value) (n:Nat),K.lookup a=some o/\o.cls=.type "list"/\o.dict=none/\o.data=.seq i n/\i.size<=sizeLine/\B9 x i.toList
def SqT(K:cW0)(H:Hp)(a:Addr)(x:List V):Prop:=
 Rd H a (.tup x)\/
  ∃(o:Obj) (i:Array Value) (n:Nat),K.lookup a=some o/\o.cls=.type "tuple"/\o.data=.seq i n/\i.size<=sizeLine/\B9 x i.toList
def cE4:Value->Option V
 |.none=>some .non
 |.bool b=>↑b
 |.int i _=>↥i
 |.str x _=>some (.str x)
 |.bytes b _=>some (.byt b)
 |.float b _=>some (.flt b)
 |.ref a=>some (.ref a)
 |.type n=>some (.ty n)
 |_=>none
theorem C9.abs(r:C9 x u):cE4 u=some x:=by
 cases x with
 |non=>cases r;rfl
 |bl _=>cases r;rfl
 |int _=>obtain⟨t,rfl⟩:=r;rfl
 |str _=>obtain⟨t,rfl⟩:=r;rfl
 |byt _=>obtain⟨t,rfl⟩:=r;rfl
 |flt _=>obtain⟨t,rfl⟩:=r;rfl
 |ref _=>cases r;rfl
 |ty _=>cases r;rfl
theorem C9.inj(r:C9 x u)(q:C9 y u):x=y:=cV9 (r.abs.symm.trans q.abs)
theorem B9.inj:∀{x y:List V}{u:List Value},B9 x u->B9 y u->x=y
 |_,_,_,.nil,.nil=>rfl
 |_,_,_,.cons r t,.cons R B=>by rw[r.inj R,B9.inj t B]
section
variable {X:Cx}{aA:List (Addr×Obj)}{wW:St}{H:Hp}{s:Shared}{a:Addr}{g y:List V}
theorem SqL.of{K:cW0}(h:H a=⇑g):SqL K H a g:=.inl (.inl h)
theorem SqT.of{K:cW0}(h:H a=some (.tup g)):SqT K H a g:=.inl (.inl h)
theorem Inv.list(I:Inv X aA wW H s)(h:SqL X.K H a g):∃B:List Value,B9 g B/\PlainL s.heap a B.toArray/\g.length<=sizeLine:=by
 rcases h with h|⟨o,B,n,k,C,d,E,F,r⟩
 .obtain⟨z,B,n,r,e⟩:=h.ok I.hok;exact⟨B,r,⟨_,n,e,rfl,rfl,rfl⟩,z⟩
 .refine⟨B.toList,r,⟨o,n,I.kIn a o k,C,d,by simpa using E⟩,?_⟩;have e:=r.length;erw[cK1]at e;omega
theorem Inv.tuple(I:Inv X aA wW H s)(h:SqT X.K H a g):∃B:List Value,B9 g B/\IsTup s.heap a B.toArray/\g.length<=sizeLine:=by
 rcases h with h|⟨o,B,n,k,C,E,F,r⟩
 .obtain⟨z,B,r,P⟩:=h.ok I.hok;exact⟨B,r,P,z⟩
 .refine⟨B.toList,r,⟨o,I.kIn a o k,C,n,by simpa using E⟩,?_⟩;have e:=r.length;erw[cK1]at e;omega
theorem Inv.list_inj(I:Inv X aA wW H s)(h:SqL X.K H a g)(F:SqL X.K H a y):g=y:=by
 obtain⟨J,r,⟨o,n,e,_,_,d⟩,_⟩:=I.list h;obtain⟨L,R,⟨O,N,E,_,_,B⟩,_⟩:=I.list F;rw[e]at E;cases E;rw[d]at B;injection B with C _
 have :J=L:=by simpa using congrArg Array.toList C
 subst this;exact r.inj R
theorem Inv.tuple_inj(I:Inv X aA wW H s)(h:SqT X.K H a g)(F:SqT X.K H a y):g=y:=by
 obtain⟨J,r,⟨o,e,_,n,d⟩,_⟩:=I.tuple h;obtain⟨L,R,⟨O,E,_,N,B⟩,_⟩:=I.tuple F;rw[e]at E;cases E;rw[d]at B;injection B with C _
 have :J=L:=by simpa using congrArg Array.toList C
 subst this;exact r.inj R
end
abbrev Cx.wish(X:Cx)(E:Value->Shared->Prop):Cx:={X with xe:=E}
abbrev Cx.nox(X:Cx):Cx:=X.wish λ_ _=>False
theorem Cx.Ok.wish{X:Cx}(O:X.Ok)(E:Value->Shared->Prop):(X.wish E).Ok:=
 ⟨O.mod,O.kind,O.glob,O.blt,O.above,O.inj,O.has,O.cab,O.hd,O.frames,O.stk,O.exf,O.bs,O.bsz,O.noex,O.exfs,O.funs,O.frf⟩
theorem Cx.Ok.unwish{X:Cx}{E:Value->Shared->Prop}(O:(X.wish E).Ok):X.Ok:=
 ⟨O.mod,O.kind,O.glob,O.blt,O.above,O.inj,O.has,O.cab,O.hd,O.frames,O.stk,O.exf,O.bs,O.bsz,O.noex,O.exfs,O.funs,O.frf⟩
section
variable {X:Cx}{aA:List (Addr×Obj)}{wW:St}{H:Hp}{s:Shared}{E:Value->Shared->Prop}
theorem Inv.wish(I:Inv X aA wW H s)(E:Value->Shared->Prop):Inv (X.wish E) aA wW H s:=⟨I.ok.wish E,I.os,I.bare,I.aD,I.loc,I.cell,I.free,I.freeC,I.pin,I.hok,I.len⟩
theorem Inv.unwish(I:Inv (X.wish E) aA wW H s):Inv X aA wW H s:=⟨I.ok.unwish,I.os,I.bare,I.aD,I.loc,I.cell,I.free,I.freeC,I.pin,I.hok,I.len⟩
theorem SP.unwish(h:SP (X.wish E) aA D f S):SP X aA D f S:=by
 cases f with
 |next=>obtain⟨w,B,I,q⟩:=h;exact⟨w,B,I.unwish,q⟩
 |brk=>obtain⟨w,B,I,q⟩:=h;exact⟨w,B,I.unwish,q⟩
 |cont=>obtain⟨w,B,I,q⟩:=h;exact⟨w,B,I.unwish,q⟩
 |ret u=>obtain⟨v,w,B,I,r,q⟩:=h;exact⟨v,w,B,I.unwish,r,q⟩
theorem PSs.nox{st:List Stmt}{t:TS}(h:PSs X.nox st t):PSs X st t:=λaA s wW H D I w=>
 cX1 (h aA s wW H D (I.wish _) w) (λ_ _ q=>q.unwish) λ_ _ z=>False.elim z
end
section
variable {X:Cx}{st:Stmt}{r:List Stmt}{t u:TS}{e:Expr}{h:TE}{g:Pos}
def cw3:TS:=λD w H=>D.nx w H
def ck6(t u:TS):TS:=λD w H=>t {D with nx:=u D} w H
theorem aN5:PSs X [] cw3:=λ_ _ w H _ I B=>wpAny_execs_nil ⟨w,H,I,B⟩
theorem Q6(E:PS X st t)(F:PSs X r u):PSs X (st::r) (ck6 t u):=by
 intro a s w H D I C;refine wpAny_execs_cons (thn (E a s w H {D with nx:=u D} I C) λf S q=> ?_);cases f with
 |next=>
  obtain⟨W,B,i,q⟩:=q;exact F a S W B D i q
 |ret v=>exact q
 |brk=>exact q
 |cont=>exact q
theorem am4(C:PS X st t):PSs X [st] t:=by
 intro a s w H D I B;refine wpAny_execs_cons (thn (C a s w H D I B) λf S q=> ?_);cases f with
 |next=>exact wpAny_execs_nil q
 |ret v=>exact q
 |brk=>exact q
 |cont=>exact q
theorem Inv.quiet(I:Inv X a w B S):interactive X.env=false:=by simp[interactive,I.ok.kind]
def cw6(h:TE):TS:=λD w H=>h w H λ_ B=>D.nx w B
theorem ap7(E:PE X e h)(F:swapsWith e none g.line X.env=pure false):PS X (.Expr e g) (cw6 h):=by
 intro a s w H D I C;exact wpAny_Expr_any (thn (E a s w H _ I C) λv S ⟨x,B,i,R,Q⟩=>⟨w,B,i,Q⟩) I.quiet F
def cB2(h:TE):TS:=λD w H=>h w H D.rt
theorem aV2(E:PE X e h):PS X (.Return (some e) g) (cB2 h):=by
 intro a s w H D I C;exact wpAny_Return_some (thn (E a s w H _ I C) λv S ⟨x,B,i,R,Q⟩=>⟨x,w,B,i,R,Q⟩)
def cB8(c:TT)(t u:TS):TS:=λD w H=>c w H λb B=>if b=true then t D w B else u D w B
theorem bj0(L:PT X c M)(F:PSs X a t)(J:PSs X b u):PS X (.If c a b g) (cB8 M t u):=by
 intro B s w H D I E;refine wpAny_If (thn (L B s w H _ I E) λd S ⟨C,i,Q⟩=> ?_);cases d with
 |true=>exact F B S w C D i Q
 |false=>exact J B S w C D i Q
end
abbrev TG:=V->St->Hp->(St->Hp->Prop)->Prop
abbrev TGs:=List V->St->Hp->(St->Hp->Prop)->Prop
def PG(X:Cx)(B:Expr)(t:TG):Prop:=
 ∀(a:List (Addr×Obj)) (s:Shared) (w:St) (H:Hp) (v:V) (u:Value) (Q:St->Hp->Prop),Inv X a w H s->C9 v u->t v w H Q->
  wpAny (model X.prog X.w) X.A (assign B X.env u) (λ_ S=>∃W h,Inv X a W h S/\Q W h) X.xe s
def PGs(X:Cx)(B:List Expr)(t:TGs):Prop:=
 ∀(a:List (Addr×Obj)) (s:Shared) (w:St) (H:Hp) (v:List V) (u:List Value) (Q:St->Hp->Prop),Inv X a w H s->B9 v u->t v w H Q->
  wpAny (model X.prog X.w) X.A (assignInOrder ((assignEach B X.env).map (·.2)) u) (λ_ S=>∃W h,Inv X a W h S/\Q W h) X.xe s
abbrev ct8:=V->V->V->Hp->(Hp->Prop)->Prop
def cu0(X:Cx)(t:ct8):Prop:=
 ∀(a:List (Addr×Obj)) (s:Shared) (w:St) (H:Hp) (o i v:V) (O I u:Value) (Q:Hp->Prop),Inv X a w H s->C9 o O->C9 i I->C9 v u->t o i v H Q->
  wpAny (model X.prog X.w) X.A (setItem O I u) (λ_ S=>∃h,Inv X a w h S/\Q h) X.xe s
section
variable {X:Cx}{p:Pos}
def ar8(i:Nat):TG:=λv w H Q=>Q (w.set i (some v)) H
theorem av9(N:X.N.Nodup)(C:X.N[i]?=some x)(E:Loc X.env.scope x)(f:LcF X x:=by first |exact .inl rfl|exact .inr rfl|assumption):PG X (.Name x p) (ar8 i):=by
 intro a s w H v u Q I r h;exact wpAny_assign_Name (aF5 I N C E r (λS B=>⟨_,H,B,h⟩) f)
def cD8:TGs:=λv w H Q=>v=[]/\Q w H
def cz0(t:TG)(u:TGs):TGs:=λs w H Q=>∃v r,s=v::r/\t v w H λW h=>u r W h Q
theorem bu9:PGs X [] cD8:=by
 intro a s w H v u Q I r h;obtain⟨e,h⟩:=h;subst e;cases r;exact assignInOrder_nil ⟨w,H,I,h⟩
theorem ax5(F:PG X e t)(J:PGs X E u)
  (L:(assignEach (e::E) X.env).map (·.2)=assign e X.env::(assignEach E X.env).map (·.2)):PGs X (e::E) (cz0 t u):=by
 intro a s w H O U Q I r h;obtain⟨v,N,C,h⟩:=h;subst C;cases r with
 |cons r R=>
  rw[L];refine assignInOrder_cons (thn (F a s w H _ _ _ I r h) λ_ S ⟨W,B,i,M⟩=> ?_);exact J a S W B _ _ Q i R M
def y8(K:cW0)(n:Nat)(t:TGs):TG:=λv w H Q=>∃a x,v=.ref a/\SqT K H a x/\x.length=n/\t x w H Q
theorem bJ0(c:X.calm=true)(h:PGs X E t)
  (J:(assignEach E X.env).length=n) (M:(assignEach E X.env).findIdx? (·.1)=none):PG X (.Tuple E k p) (y8 X.K n t):=by
 intro B s W H v u Q I r w;obtain⟨a,O,C,L,l,w⟩:=w;subst C;cases r;obtain⟨P,R,N,z⟩:=I.tuple L;refine assign_Tuple_tuple (I.ok.hd c) N (by simp[J,<-l,R.length]) M λF x=> ?_
 have i:Inv X B W H {s with heap:=F}:=I.kept (t':=s.toks) λb o e=>x b o (cV0 (cL4 e)) e
 exact h B _ W H O _ Q i (by simpa using R) w
def cD7(F E:TE)(t:ct8):TG:=λv w H Q=>F w H λo h=>E w h λi B=>t o i v B λC=>Q w C
theorem bm9(R:PE X o f)(P:PE X i e)(S:cu0 X t)
  (N:∀v,assign (.Subscript o i p) X.env v=(do
   let O<-holding [v] (eval o X.env)
   let B<-holding [v,O] (eval i X.env)
   standAt p
   holding [v,O,B] (setItem O B v)
   release [v,O,B] [])):PG X (.Subscript o i p) (cD7 f e t):=by
 intro a s w H v u Q I r h;rw[N];refine cW8 (wpAny_holding (thn (R a s w H _ I h) λO c ⟨x,C,J,Z,U⟩=> ?_));refine cW8 (wpAny_holding (thn (P a c w C _ J U) λB d ⟨y,E,L,b,W⟩=> ?_));refine cW8 (wpAny_standAt (cW8 (wpAny_holding (thn (S a d w E x y v O B u _ L Z b r W) λ_ g ⟨F,M,Y⟩=> ?_))));exact wpAny_release ⟨w,F,M,Y⟩
def aZ6(t:TE)(g:TG):TS:=λD w H=>t w H λx h=>g x w h D.nx
theorem aV3(E:PE X e M)(F:PG X t g)(J:swapsWithSole [t] e p.line X.env=pure false)(L:swappedStores [t] e X.env=pure none)
  (C:(assignEach [t] X.env).map (·.2)=[assign t X.env]):PS X (.Assign [t] e p) (aZ6 M g):=by
 intro a s w H D I h;refine wpAny_Assign_stores (thn (E a s w H _ I h) λv S ⟨x,B,i,r,Q⟩=> ?_) J L;rw[C];exact thn (F a S w B x v _ i r Q) λ_ N q=>q
theorem ax4(N:X.N.Nodup)(J:X.N[i]?=some x)(M:Loc X.env.scope x)(F:PE X e t)(L:swapsWith e (some (.Name x P)) p.line X.env=pure false)(f:LcF X x):
  PS X (.Assign [.Name x P] e p) (aZ6 t (ar8 i)):=by
 intro a s w H D I h;refine wpAny_Assign_Name (thn (F a s w H _ I h) λv S ⟨y,B,C,r,Q⟩=> ?_) L;exact aF5 C N J M r (λO E=>⟨_,B,E,Q⟩) f
def cB3(i j:Nat)(t:TA):TS:=λD W H=>t W H λs h=>∃v w,s=[v,w]/\D.nx ((W.set i (some v)).set j (some w)) h
theorem cn2(f:X.calm=true)(N:X.N.Nodup)(g:X.N[i]?=some x)(n:X.N[j]?=some y)(l:i≠j)
  (F:X.env.scope.names.lookup x=some .local) (J:X.env.scope.names.lookup y=some .local) (d:PA X [a,b] ta)
  (z:swappedStores [.Tuple [.Name x M,.Name y O] t P] (.Tuple [a,b] k L) X.env=pure (some [x,y]))
  (r:swapsWithSole [.Tuple [.Name x M,.Name y O] t P] (.Tuple [a,b] k L) p.line X.env=pure false):
  PS X (.Assign [.Tuple [.Name x M,.Name y O] t P] (.Tuple [a,b] k L) p) (cB3 i j ta):=by
 intro E ah w H D I h;rw[exec_Assign_arm];refine cW8 (wpAny_standAt ?_);rw[r];refine cW8 (cX3 ?_);rw[cW6 ∎];refine cW8 (Tuple_ (thn (d _ E ah w H _ I h) λus s ⟨vs,B,R,r1,Q⟩=> ?_));obtain⟨v,ai,Z,Q⟩:=Q;subst Z;obtain⟨u,U,rfl,rv,ag⟩:∃u U,us=[u,U]/\C9 v u/\C9 ai U:=by
  cases r1 with
  |cons af q=>
   cases q with
   |cons p' q'=>
    cases q';exact⟨_,_,rfl,af,p'⟩
 refine cX2 ?_ (by show 2<=sizeLine;decide);have S:Inv X E w B {s with heap:=s.heap.push {cls:=.type "tuple",data:=.seq [u,U].toArray}}:=R.kept (t':=s.toks) λb o e=>cL0 _ e
 rw[z];refine cW8 (cX3 ?_);show wpAny (model X.prog X.w) X.A (do rule "assign.swapped-stores";let ae<-unpackItems (.ref s.sz) 2 none;assignInOrder [λv=>bindName X.env y v,λv=>bindName X.env x v] ae.reverse;pure Flow.next) _ _ _;refine cW8 (wpAny_rule (cW8 (unpackItems_tuple (items:=#[u,U]) (I.ok.hd f) (IsTup.new s.heap _) λc aa=> ?_)));have W:=S.kept (h':=c) (t':=s.toks) λb o e=>aa b o (cV0 (cL4 e)) e
 show wpAny _ _ (assignInOrder [λv=>bindName X.env y v,λv=>bindName X.env x v] [U,u]>>=λ_=>pure Flow.next) _ _ _;refine cW8 (assignInOrder_cons (wpAny_bindName (aF5 W N n (.inl J) ag (λs2 Y=> ?_) (.inr J))));refine assignInOrder_cons (wpAny_bindName (aF5 Y N g (.inl F) rv (λs3 C=>assignInOrder_nil (cX3 ?_)) (.inr F)));rw[List.set_comm _ _ (Ne.symm l)]at C;exact⟨_,B,C,Q⟩
end
section
variable {X:Cx}{p:Pos}
def ck5(c:TT)(t:TS):TS:=λD w H=>∃W:Nat->St->Hp->Prop,(∃m,W m w H)/\∀m w H,W m w H->
 c w H λb B=>if b=true then∃N:St->Hp->Prop,(∀C h,N C h->∃M,M<m/\W M C h)/\t {D with nx:=N,ct:=N,bk:=D.nx} w B else D.nx w B
theorem bm6(U:PassesOwn (model X.prog X.w) X.A X.env X.xe)(e:PT X c o)(d:PSs X y t):PS X (.While c y [] p) (ck5 o t):=by
 intro a s x H D I h;obtain⟨W,⟨g,u⟩,r⟩:=h;refine wpAny_While (codeAny_whileLoop (λn j=>∃Y L,Inv X a Y L j/\W n Y L) ?_ g ⟨x,H,I,u⟩);rintro n k ⟨E,O,Z,v⟩;refine wpAny_passesOwn U (thn (e a k E O _ Z (r n E O v)) λb l ⟨P,R,Q⟩=> ?_);cases b with
 |true=>
  obtain⟨N,S,Q⟩:=Q;rw[cW7 rfl];refine wpAny_passesOwn U (thn (d a l E P _ R Q) λf z C=> ?_);cases f with
  |next=>
   obtain⟨w,B,i,n3⟩:=C;obtain⟨M,F,J⟩:=S w B n3;exact⟨M,F,w,B,i,J⟩
  |cont=>
   obtain⟨w,B,i,n3⟩:=C;obtain⟨M,F,J⟩:=S w B n3;exact⟨M,F,w,B,i,J⟩
  |brk=>exact C
  |ret aa=>exact C
 |false=>
  rw[cW6 cK6];exact wpAny_execs_nil ⟨E,P,R,Q⟩
end
structure It where
 go:Nat->Hp->Prop
 yld:Nat->Hp->V->Hp->Prop
 stop:Nat->Hp->Prop
def ai6(X:Cx)(a:List (Addr×Obj))(H:Hp)(b:Addr):Prop:=
 H b=none/\b≠X.env.locals/\b∉X.fs/\(b∈X.ex\/X.sd.sz<=b)/\(∀x c,X.env.cells.lookup x=some c->c≠b)/\∀p∈X.pn++a,p.1≠b
theorem Inv.fpOk(I:Inv X a w F S)(h:S.sz<=b)(n:B b=none):ai6 X a B b:=by
 refine⟨n,cU9 (cU2 I.lt h),I.nofs h,.inr (cU0 I.sz h),λE c e z=> ?_,λP C z=> ?_⟩
 .obtain⟨J,q⟩:=I.cell E c e;exact absurd (cU2 q.lt (by rw[z];exact h)) (cU1 _)
 .exact absurd (cU2 (cL4 (I.pin P C).1) (by rw[z];exact h)) (cU1 _)
structure bd1(P:Program)(w:World)(K:cW0)(tg:Expr)(J:It)(fp:List Addr)(it:Addr)(tn:Nat->Heap->Prop):Prop where
 mem:it∈fp
 obj:∀i h,tn i h->∀b∈fp,∃o,h.get? b=some o/\∀v,o.data≠.cell v
 keep:∀i h h',tn i h->(∀b∈fp,∀o,h.get? b=some o->h'.get? b=some o)->tn i h'
 item:∀(X:Cx),X.prog=P->X.w=w->X.K=K->X.calm=true->∀(i:Nat) (aA:List (Addr×Obj)) (s:Shared) (wW:St) (H:Hp) (E:Value->Shared->Prop),Inv X aA wW H s->(∀b∈fp,ai6 X aA H b)->tn i s.heap->J.go i H->
  wpAny (model P w) X.A (pyNext (.ref it)) (λr s1=>∃u,r=some u/\
   wpAny (model P w) X.A (letOwnedTupleGo tg (.ref it) u) (λ_ s2=>∃x H',Inv X aA wW H' s2/\C9 x u/\J.yld i H x H'/\tn (i+1) s2.heap/\∀b∈fp,H' b=none) E s1) E s
 done:∀(X:Cx),X.prog=P->X.w=w->X.K=K->X.calm=true->∀(i:Nat) (aA:List (Addr×Obj)) (s:Shared) (wW:St) (H:Hp) (E:Value->Shared->Prop),Inv X aA wW H s->(∀b∈fp,ai6 X aA H b)->tn i s.heap->J.stop i H->
  wpAny (model P w) X.A (pyNext (.ref it)) (λr s1=>r=none/\Inv X aA wW H s1) E s
 self:∀(A:Around) (i:Nat) (s:Shared) (Q:Value->Shared->Prop) (E:Value->Shared->Prop),tn i s.heap->Q (.ref it) s->wpAny (model P w) A (pyIter (.ref it)) Q E s
abbrev TI:=St->Hp->(It->Hp->Prop)->Prop
def PIE(X:Cx)(a:List (Addr×Obj))(w:St)(g:Expr)(R:It->Hp->Prop)(I:Value)(s:Shared):Prop:=
 ∃(i:Addr) (f:List Addr) (t:Nat->Heap->Prop) (J:It) (H:Hp),I=.ref i/\Inv X a w H s/\bd1 X.prog X.w X.K g J f i t/\t 0 s.heap/\(∀b∈f,ai6 X a H b)/\R J H
def PI(X:Cx)(t i:Expr)(W:TI):Prop:=
 ∀(a:List (Addr×Obj)) (s:Shared) (w:St) (H:Hp) (R:It->Hp->Prop),Inv X a w H s->W w H R->
  wpAny (model X.prog X.w) X.A (eval i X.env) (λv S=>wpAny (model X.prog X.w) X.A (pyIter v) (PIE X a w t R) X.xe S) X.xe s
theorem bB7(C:s.heap.get? i=some o)(c:o.cls=.type n)(d:o.data=.fields v)
  (B:["enumerate","zip","dict_itemiterator","dict_reverseitemiterator","odict_iterator","itertools.zip_longest","itertools.pairwise"].contains n=false) (H:Q () s):wpAny M A (letOwnedTupleGo t (.ref i) u) Q E s:=by
 unfold letOwnedTupleGo;cases t<;>first
  |exact cX3 H
  |(cases u<;>first
    |exact cX3 H
    |(refine cW8 (wpAny_load C ?_);rw[c,d];show wpAny M A (if(["enumerate","zip","dict_itemiterator","dict_reverseitemiterator","odict_iterator","itertools.zip_longest","itertools.pairwise"].contains n&&v[0]?==some (rawInt _))=true then _ else _) Q E s;rw[cW6 (by intro h;rw[B,cK4]at h;cases h)];exact cX3 H))
def Itl(K:cW0)(a:Addr):It:=
 ⟨λi H=>∃X x,SqL K H a X/\X[i]?=some x,λi H x h=>h=H/\∀X,SqL K H a X->X[i]?=some x,λi H=>∃X,SqL K H a X/\X.length<=i⟩
def Itr(lo:Int)(n:Nat):It:=⟨λi _=>i<n,λi H x h=>h=H/\x=.int (lo+i),λi _=>n<=i⟩
theorem as4{P:Program}{w:World}{K:cW0}{tg:Expr}(a it:Addr):bd1 P w K tg (Itl K a) [it] it (λi h=>h.IsListIter it a i) where
 mem:=∅
 obj:=λi h st b hb=>by
  have e:b=it:=by simpa using hb
  subst e;obtain⟨o,e,c,d⟩:=st;exact⟨o,e,λv z=>by rw[d]at z;cases z⟩
 keep:=λi h h' st k=>st.at λo e=>k it ∅ o e
 item:=by
  intro X hP hw hK hc i aA s wW H E I hf st hg;subst hP hw hK;obtain⟨xs,x,hq,hx⟩:=hg;obtain⟨its,rv,p,hz⟩:=I.list hq;obtain⟨u,hu,ru⟩:=rv.get hx;obtain⟨f0,f1,f2,f3,f4,f5⟩:=hf it ∅;refine wpAny_pyNext_list_item st p.isList (x:=u) (by simpa using hu) λh' st' sb=> ?_
  have I1:Inv X aA wW H {s with heap:=h'}:=I.turned (t':=s.toks) (λb o hb e=>(sb.2 b hb).trans e) f0 f1 f3 f4 f5;obtain⟨o,e,c,d⟩:=id st';exact⟨u,rfl,bB7 (s:={s with heap:=h'}) e c d ∎ ⟨x,H,I1,ru,⟨rfl,λys hy=>by rw[I.list_inj hy hq];exact hx⟩,st',λb hb=>(hf b hb).1⟩⟩
 done:=by
  intro X hP hw hK hc i aA s wW H E I hf st hg;subst hP hw hK;obtain⟨xs,hq,hx⟩:=hg;obtain⟨its,rv,p,hz⟩:=I.list hq;obtain⟨f0,f1,f2,f3,f4,f5⟩:=hf it ∅;have hl:=rv.length;exact wpAny_pyNext_list_end (I.ok.hd hc) st p.isList (by simp;omega) λh' eb=>⟨rfl,I.turned (t':=s.toks) (λb o hb e=>eb b o hb e) f0 f1 f3 f4 f5⟩
 self:=λ_ _ _ _ _ st h=>wpAny_pyIter_listiter st h
theorem by8{P:Program}{w:World}{K:cW0}{tg:Expr}(it:Addr)(lo:Int)(n:Nat):bd1 P w K tg (Itr lo n) [it] it (λi h=>IsRangeIter h it (lo+(i:Nat)*1) ((n:Int)-(i:Nat)) 1) where
 mem:=∅
 obj:=λi h st b hb=>by
  have e:b=it:=by simpa using hb
  subst e;exact⟨_,st,λv z=>by
   have z':Data.fields _=Data.cell v:=z;cases z'⟩
 keep:=λi h h' st k=>k it ∅ _ st
 item:=by
  intro X hP hw hK hc i aA s wW H E I hf st hg;subst hP hw hK;obtain⟨f0,f1,f2,f3,f4,f5⟩:=hf it ∅;have W:=Walks.range (prog:=X.prog) (w:=X.w) (I.ok.hd hc) it lo 1 n;refine W.item i s _ _ hg st λv h' tk hv st' kk=> ?_
  obtain⟨t,rfl⟩:=hv;have I1:Inv X aA wW H {s with heap:=h',toks:=tk}:=I.turned (λb o hb e=>kk b o (by simpa using hb) e) f0 f1 f3 f4 f5;refine⟨_,rfl,bB7 (s:={s with heap:=h',toks:=tk}) (n:="range_iterator") st' rfl rfl ∎ ⟨.int (lo+i),H,I1,⟨t,?_⟩,⟨rfl,rfl⟩,st',λb hb=>(hf b hb).1⟩⟩;rw[cN0]
 done:=by
  intro X hP hw hK hc i aA s wW H E I hf st hg;subst hP hw hK;obtain⟨f0,f1,f2,f3,f4,f5⟩:=hf it ∅;exact wpAny_pyNext_range_end (I.ok.hd hc) st (by have :n<=i:=hg;omega) λh' eb=>⟨rfl,I.turned (t':=s.toks) (λb o hb e=>eb b o hb e) f0 f1 f3 f4 f5⟩
 self:=λ_ _ _ _ _ st h=>wpAny_pyIter_rangeiter st h
section
variable {X:Cx}{t:Expr}
def cb1(K:cW0)(l:TE):TI:=λw H R=>l w H λx h=>∃a,x=.ref a/\(∃X,SqL K h a X)/\R (Itl K a) h
theorem cg1{l:Expr}{B:TE}(J:PE X l B):PI X t l (cb1 X.K B):=by
 intro E s w H R I h;refine thn (J E s w H _ I h) λv S ⟨x,C,i,r,Q⟩=> ?_
 obtain⟨a,e,⟨O,L⟩,q⟩:=Q;subst e;cases r;obtain⟨M,N,p,z⟩:=i.list L;refine cX4 p.isList ?_;refine⟨S.sz,[S.sz],_,_,C,rfl,i.kept (t':=S.toks) λb o e=>cL0 _ e,as4 a _,⟨_,cL1 _ rfl,rfl,rfl⟩,λb F=> ?_,q⟩;have e:b=S.sz:=by simpa using F
 subst e;exact i.fpOk (cT8 _) (i.hok.fresh (cT8 _))
theorem bT6{a:List (Addr×Obj)}{w:St}{H:Hp}{s:Shared}{R:It->Hp->Prop}{E:Value->Shared->Prop}{lo h:Int}{B u v:Tok}{k:Nat}(I:Inv X a w H s)(J: -(2^62)<=lo)(L:lo<2^62)(M: -(2^62)<=h)(N:h<2^62)
  (q:R (Itr lo (h-lo).toNat) H):wpAny (model X.prog X.w) X.A (pyIter (.ref s.sz)) (PIE X a w t R) E {s with heap:=s.heap.push {cls:=.type "range",data:=.fields #[.int lo B,.int h u,.int 1 v]},toks:=k}:=by
 refine wpAny_pyIter_range (IsRange.new ..) (small_one J L M N) ?_;have i:Inv X a w H {s with heap:=s.heap.push {cls:=.type "range",data:=.fields #[.int lo B,.int h u,.int 1 v]},toks:=k}:=I.kept λb o e=>cL0 _ e
 refine⟨(s.heap.push {cls:=.type "range",data:=.fields #[.int lo B,.int h u,.int 1 v]}).objs.size,[(s.heap.push {cls:=.type "range",data:=.fields #[.int lo B,.int h u,.int 1 v]}).objs.size],_,_,H,rfl,
  i.kept (t':=k) λb o e=>cL0 _ e,by8 _ lo (h-lo).toNat,?_,λb O=> ?_,q⟩
 .have C:lo+((0:Nat):Int)*1=lo:=∅
  have F:(((h-lo).toNat:Nat):Int)-((0:Nat):Int)=Builtin.Range.rangeSize lo h 1:=by rw[rangeSize_one];split<;>omega
  show IsRangeIter _ _ (lo+((0:Nat):Int)*1) ((((h-lo).toNat:Nat):Int)-((0:Nat):Int)) 1;rw[C,F];exact cL1 _ rfl
 .have e:b=(s.heap.push {cls:=.type "range",data:=.fields #[.int lo B,.int h u,.int 1 v]}).objs.size:=by simpa using O
  subst e;exact i.fpOk (cT8 _) (i.hok.fresh (cT8 _))
def cy8(a:TA):TI:=λw H R=>a w H λv h=>∃j:Int,v=[.int j]/\ -(2^62)<=j/\j<2^62/\R (Itr 0 j.toNat) h
theorem bI9{a:Expr}{B:TA}{p P:Pos}(g:Gl X "range")(F:X.mg "range"=none)(E:PA X [a] B)(J:starEach [a] X.env=[(false,eval a X.env)]):PI X t (.Call (.Name "range" p) [a] [] P) (cy8 B):=by
 intro C s w H R I h;refine Call_ (at0 I g F boot_range (PyProof.Rows.callWith_type1 (thn (E P C s w H _ I h) λu S ⟨v,O,i,M,Q⟩=> ?_) J rfl));obtain⟨j,e,Q,L,q⟩:=Q;subst e;cases M with
 |cons r N=>
  cases N;obtain⟨U,rfl⟩:=r;exact call_range_1 (bT6 i ⋯ ⋯ Q L (by simpa using q))
def cB9(I:TI)(g:TG)(b:TS):TS:=λD w H=>I w H λJ C=>∃W:Nat->Nat->St->Hp->Prop,(∃m,W 0 m w C)/\∀i m w H,W i m w H->
 (J.stop i H/\D.nx w H)\/(J.go i H/\∃N:St->Hp->Prop,(∀B h,N B h->∃M,M<m/\W (i+1) M B h)/\∀x h,J.yld i H x h->g x w h λF E=>b {D with nx:=N,ct:=N,bk:=D.nx} F E)
def aK3(f:List Addr)(h:Heap):List (Addr×Obj):=f.filterMap λb=>(h.get? b).map λo=>(b,o)
theorem an7(H:b∈f)(e:h.get? b=some o):(b,o)∈aK3 f h:=List.mem_filterMap.mpr ⟨b,H,by rw[e];rfl⟩
theorem bK0(B:p∈aK3 f h):p.1∈f/\h.get? p.1=some p.2:=by
 obtain⟨b,H,e⟩:=List.mem_filterMap.mp B;cases q:h.get? b with
 |none=>rw[q]at e;cases e
 |some o=>
  rw[q]at e;have E:(b,o)=p:=cV9 e;subst E;exact⟨H,q⟩
theorem Inv.pinned(I:Inv X a w h S)(f:∀b∈fp,ai6 X a h b)(C:∀b∈fp,∃o,S.heap.get? b=some o/\∀J,o.data≠.cell J):Inv X (a++aK3 fp S.heap) w h S:=
 I.pins_of λP F=>(cK0 F).elim (λz=>I.pin P (cR9 _ z)) λz=>by
  obtain⟨B,e⟩:=bK0 z;obtain⟨f0,f1,f2,_⟩:=f P.1 B;obtain⟨o,E,d⟩:=C P.1 B;rw[e]at E;cases E;exact⟨e,f0,f1,f2,d⟩
theorem Inv.unpinned(I:Inv X (a++l) w h S):Inv X a w h S:=I.pins_of λP B=>I.pin P (cR9 _ (cR8 _ B))
theorem bI7(p:PassesOwn (model X.prog X.w) X.A X.env X.xe)(c:X.calm=true)(hi:PI X t Y wi)(hg:PG X t ah)(C:PSs X af tb)
  (hs:NFo X Y):PS X (.For t Y af [] ax) (cB9 wi ah tb):=by
 intro a ak l H D I ai;refine wpAny_For (thn (hi a ak l H _ I ai) λar s1 h1=>thn h1 λaw s2 h2=> ?_) hs;obtain⟨it,F,k,av,u,e,y,T,st2,f2,W,⟨m0,w0⟩,ao⟩:=h2;subst e;have O:∀{E:Hp},(∀b∈F,E b=none)->∀b∈F,ai6 X a E b:=λhn b C=>⟨hn b C,(f2 b C).2⟩
 refine codeAny_forLoop_any (λn Z=>∃i J E,Inv X a J E Z/\k i Z.heap/\(∀b∈F,E b=none)/\W i n J E) ?_ m0 ⟨0,l,u,y,st2,λb C=>(f2 b C).1,w0⟩;rintro n g ⟨i,L,M,R,st3,U,w3⟩;rcases ao i n L M w3 with⟨stop,qn⟩|⟨go,ae,hN,step⟩
 .refine wpAny_passesOwn p (thn (T.done X rfl rfl rfl c i a g L M X.xe R (O U) st3 stop) λaj s4 ⟨r,z⟩=> ?_);subst r;exact wpAny_execs_nil ⟨L,M,z,qn⟩
 .refine wpAny_passesOwn p (thn (T.item X rfl rfl rfl c i a g L M X.xe R (O U) st3 go) λaj s4 ⟨aq,r,h4⟩=> ?_);subst r;refine wpAny_passesOwn p (thn h4 λ_ j ⟨x,P,I5,r5,y5,S,ag⟩=> ?_);have aa:=I5.pinned (O ag) (T.obj _ _ S);refine wpAny_passesOwn p (thn (hg _ j L P x aq _ aa r5 (step x P y5)) λ_ s6 ⟨au,v,I6,q6⟩=> ?_);refine wpAny_passesOwn p (thn (C _ s6 au v _ I6 q6) λf s Q=> ?_);have again:∀{w:St}{h:Hp},Inv X (a++aK3 F j.heap) w h s->ae w h->∃m,m<n/\∃i J E,Inv X a J E s/\k i s.heap/\(∀b∈F,E b=none)/\W i m J E:=λ{w h} B N=>by
   obtain⟨m',hm,w7⟩:=hN w h N;refine⟨m',hm,i+1,w,h,B.unpinned,T.keep _ _ _ S λb C o e=>(B.pin (b,o) (cR9 _ (cR9 _ (an7 C e)))).1,λb C=> ?_,w7⟩;obtain⟨o,e,d⟩:=T.obj _ _ S b C;exact(B.pin (b,o) (cR9 _ (cR9 _ (an7 C e)))).2.1
  cases f with
  |next=>obtain⟨w,h,B,N⟩:=Q;exact again B N
  |cont=>obtain⟨w,h,B,N⟩:=Q;exact again B N
  |brk=>obtain⟨w,h,B,Q⟩:=Q;exact⟨w,h,B.unpinned,Q⟩
  |ret ar=>obtain⟨x7,w,h,B,r7,Q⟩:=Q;exact⟨x7,w,h,B.unpinned,r7,Q⟩
end
abbrev R2:=V->V->Hp->VK->Prop
def OpR(X:Cx)(f:Value->Value->Sem Value)(r:R2):Prop:=
 ∀(a:List (Addr×Obj)) (s:Shared) (w:St) (H:Hp) (x y:V) (v u:Value) (Q:VK),Inv X a w H s->C9 x v->C9 y u->r x y H Q->
  wpAny (model X.prog X.w) X.A (f v u) (EP X a w Q) X.xe s
def UnR(X:Cx)(f:Value->Sem Value)(r:V->Hp->VK->Prop):Prop:=
 ∀(a:List (Addr×Obj)) (s:Shared) (w:St) (H:Hp) (x:V) (v:Value) (Q:VK),Inv X a w H s->C9 x v->r x H Q->
  wpAny (model X.prog X.w) X.A (f v) (EP X a w Q) X.xe s
def af0(X:Cx)(f:Value)(r:List V->Hp->VK->Prop):Prop:=
 ∀(a:List (Addr×Obj)) (s:Shared) (w:St) (H:Hp) (x:List V) (u:List Value) (Q:VK),Inv X a w H s->B9 x u->r x H Q->
  wpAny (model X.prog X.w) X.A (call f u) (EP X a w Q) X.xe s
def tOp(r:R2)(t b:TE):TE:=λw H Q=>t w H λx h=>b w h λy B=>r x y B Q
def tUn(r:V->Hp->VK->Prop)(t:TE):TE:=λw H Q=>t w H λx h=>r x h Q
def rI(C:Int->Int->Prop)(g:Int->Int->V):R2:=λx y H Q=>∃i j,x=.int i/\y=.int j/\C i j/\Q (g i j) H
def rI0(g:Int->Int->V):R2:=λx y H Q=>∃i j,x=.int i/\y=.int j/\Q (g i j) H
def rU(g:Int->V):V->Hp->VK->Prop:=λx H Q=>∃i,x=.int i/\Q (g i) H
section
variable {X:Cx}{a b c:Expr}{t g h:TE}{p:Pos}
theorem bY5(L:PE X a t)(M:PE X b g){C:List (Addr×Obj)}{s:Shared}{w:St}{H:Hp}{R:V->V->Hp->Prop}(I:Inv X C w H s)
  (J:t w H λx E=>g w E λy B=>R x y B){Q:Value->Shared->Prop}{f:Value->Value->Sem Value}
  (N:∀v u S x y B,Inv X C w B S->C9 x v->C9 y u->R x y B->wpAny (model X.prog X.w) X.A (f v u) Q X.xe S):
  wpAny (model X.prog X.w) X.A (eval a X.env) (λv e=>wpAny (model X.prog X.w) X.A (eval b X.env) (λu Y=>wpAny (model X.prog X.w) X.A (f v u) Q X.xe Y) X.xe e) X.xe s:=by
 refine thn (L C s w H _ I J) λv W ⟨x,E,i,r,O⟩=> ?_
 refine thn (M C W w E _ i O) λu S ⟨y,B,F,U,P⟩=> ?_
 exact N v u S x y B F r U P
theorem cy3{o:Operator}{r:R2}(L:OpR X (binaryOp o) r)(F:PE X a t)(J:PE X b g):PE X (.BinOp a o b p) (tOp r t g):=by
 intro C s w H Q I E;exact wpAny_BinOp (bY5 F J I E λv u S x y B i R M q=>L C S w B x y v u Q i R M q)
theorem cy1(o:UnR X (unaryOp O) r)(F:PE X a t):PE X (.UnaryOp O a p) (tUn r t):=by
 intro B s w H Q I E;exact UnaryOp_ (thn (F B s w H _ I E) λv S ⟨x,C,i,R,J⟩=>o B S w C x v Q i R J)
theorem opI{f:Value->Value->Sem Value}{C:Int->Int->Prop}{B:Int->Int->Int}
  (rule:∀(i j:Int) (F u:Tok) (s:Shared) (Q:Value->Shared->Prop) (E:Value->Shared->Prop),C i j->Q (.int (B i j) s.toks) {s with toks:=s.toks+1}->wpAny (model X.prog X.w) X.A (f (.int i F) (.int j u)) Q E s):
  OpR X f (rI C λi j=>.int (B i j)):=by
 intro N s w H x y v u Q I r R J;obtain⟨i,j,rfl,rfl,L,q⟩:=J;obtain⟨F,rfl⟩:=r;obtain⟨M,rfl⟩:=R;exact rule i j F M s _ _ L ⟨.int (B i j),H,I.tok _,⟨_,rfl⟩,q⟩
theorem cp1{f:Value->Value->Sem Value}{B:Int->Int->Int}
  (rule:∀(i j:Int) (C u:Tok) (s:Shared) (Q:Value->Shared->Prop) (E:Value->Shared->Prop),Q (.int (B i j) s.toks) {s with toks:=s.toks+1}->wpAny (model X.prog X.w) X.A (f (.int i C) (.int j u)) Q E s):
  OpR X f (rI0 λi j=>.int (B i j)):=by
 intro L s w H x y v u Q I r R F;obtain⟨i,j,rfl,rfl,q⟩:=F;obtain⟨C,rfl⟩:=r;obtain⟨J,rfl⟩:=R;exact rule i j C J s _ _ ⟨.int (B i j),H,I.tok _,⟨_,rfl⟩,q⟩
theorem bA3{f:Value->Value->Sem Value}{B:Int->Int->Bool}
  (rule:∀(i j:Int) (C u:Tok) (s:Shared) (Q:Value->Shared->Prop) (E:Value->Shared->Prop),Q (.bool (B i j)) s->wpAny (model X.prog X.w) X.A (f (.int i C) (.int j u)) Q E s):
  OpR X f (rI0 λi j=>.bl (B i j)):=by
 intro L s w H x y v u Q I r R F;obtain⟨i,j,rfl,rfl,q⟩:=F;obtain⟨C,rfl⟩:=r;obtain⟨J,rfl⟩:=R;exact rule i j C J s _ _ ⟨.bl (B i j),H,I,rfl,q⟩
def cv3(i j:Int):Prop:=0<=j/\j<=1000000/\i.natAbs<2^64
def bE7(i j:Int):Prop:=(-(2^64)<i/\i<2^64)\/(-(2^64)<j/\j<2^64)
theorem bE7.ok(C:bE7 i j):IntMulOk i j:=by
 rcases C with⟨H,B⟩|⟨H,B⟩
 .exact .of_left (intBits_le_64 H B)
 .exact .of_right (intBits_le_64 H B)
theorem cp0:OpR X (binaryOp .Add) (rI0 λi j=>.int (i+j)):=cp1 λ_ _ _ _ _ _ _ q=>add_int q
theorem co1:OpR X (binaryOp .Sub) (rI0 λi j=>.int (i-j)):=cp1 λ_ _ _ _ _ _ _ q=>sub_int q
theorem co5:OpR X (binaryOp .Mult) (rI bE7 λi j=>.int (i*j)):=opI λ_ _ _ _ _ _ _ H q=>mul_int q H.ok
theorem co6:OpR X (binaryOp .Mod) (rI (λ_ j=>0<j) λi j=>.int (i%j)):=opI λi j _ _ _ _ _ H q=>by
 have B:(0:Int)<j:=H;exact mod_int' ⋯ (by rw[Int.fmod_eq_emod_of_nonneg i ⋯];exact q)
theorem co3:OpR X (binaryOp .Pow) (rI cv3 λi j=>.int (i^j.toNat)):=opI λ_ _ _ _ _ _ _ H q=>pow_int_small H.1 H.2.1 H.2.2 q
theorem unI{f:Value->Sem Value}{B:Int->Int}
  (rule:∀(i:Int) (C:Tok) (s:Shared) (Q:Value->Shared->Prop) (E:Value->Shared->Prop),Q (.int (B i) s.toks) {s with toks:=s.toks+1}->wpAny (model X.prog X.w) X.A (f (.int i C)) Q E s):
  UnR X f (rU λi=>.int (B i)):=by
 intro J s w H x v Q I r F;obtain⟨i,rfl,q⟩:=F;obtain⟨C,rfl⟩:=r;exact rule i C s _ _ ⟨.int (B i),H,I.tok _,⟨_,rfl⟩,q⟩
theorem cj8:UnR X (unaryOp .USub) (rU λi=>.int (-i)):=unI λ_ _ _ _ _ q=>neg_int q
end
def cC2:V->V->Bool
 |.non,.non=>true|.non,.int _=>true|.int _,.non=>true|.non,.bl _=>true|.bl _,.non=>true|.non,.str _=>true|.str _,.non=>true
 |.int _,.int _=>true|.bl _,.bl _=>true|.str _,.str _=>true|.byt _,.byt _=>true
 |.int _,.str _=>true|.str _,.int _=>true|.bl _,.str _=>true|.str _,.bl _=>true
 |_,_=>false
def rNe:R2:=λx y H Q=>cC2 x y=true/\Q (.bl (!decide (x=y))) H
theorem bx6:decide (V.int i=V.int j)=(i==j):=by
 rw[cK3];simp
theorem ct0:decide (V.bl i=V.bl j)=(i==j):=by
 rw[cK3];simp
theorem ci8:decide (V.str i=V.str j)=(i==j):=by
 rw[cK3];simp
theorem ci9:decide (V.byt i=V.byt j)=(i.toList==j.toList):=by
 rw[cK3];cases i;cases j;simp
section
variable {X:Cx}{a b c:Expr}{t g h:TE}{p:Pos}
theorem U9(I:Inv X B w H s)(q:Q (.bl k) H)(e:k=C):EP X B w Q (.bool C) s:=by
 subst e;exact⟨.bl k,H,I,rfl,q⟩
theorem cy4:OpR X (compareOp .NotEq) rNe:=by
 intro J s w H x y v u Q I R r F;obtain⟨C,q⟩:=F;cases x with
 |non=>
  cases R;cases y with
  |non=>cases r;exact PySem.EqNone.ne_none_none (U9 I q ∅)
  |bl j=>cases r;exact PySem.EqNone.ne_none_bool (U9 I q ∅)
  |int j=>obtain⟨B,rfl⟩:=r;exact PySem.EqNone.ne_none_int (U9 I q ∅)
  |str j=>obtain⟨B,rfl⟩:=r;exact PySem.EqNone.ne_none_str (U9 I q ∅)
  |_=>exact absurd (show false=true from C) cK6
 |bl i=>
  cases R;cases y with
  |non=>cases r;exact PySem.EqNone.ne_bool_none (U9 I q ∅)
  |bl j=>cases r;exact ne_bool (U9 I q (congrArg not ct0))
  |str j=>obtain⟨B,rfl⟩:=r;exact PySem.EqMixed.ne_bool_str (U9 I q ∅)
  |_=>exact absurd (show false=true from C) cK6
 |int i=>
  obtain⟨E,rfl⟩:=R;cases y with
  |non=>cases r;exact PySem.EqNone.ne_int_none (U9 I q ∅)
  |int j=>obtain⟨B,rfl⟩:=r;exact ne_int (U9 I q (congrArg not bx6))
  |str j=>obtain⟨B,rfl⟩:=r;exact PySem.EqMixed.ne_int_str (U9 I q ∅)
  |_=>exact absurd (show false=true from C) cK6
 |str i=>
  obtain⟨E,rfl⟩:=R;cases y with
  |non=>cases r;exact PySem.EqNone.ne_str_none (U9 I q ∅)
  |bl j=>cases r;exact PySem.EqMixed.ne_str_bool (U9 I q ∅)
  |int j=>obtain⟨B,rfl⟩:=r;exact PySem.EqMixed.ne_str_int (U9 I q ∅)
  |str j=>obtain⟨B,rfl⟩:=r;exact ne_str (U9 I q (congrArg not ci8))
  |_=>exact absurd (show false=true from C) cK6
 |byt i=>
  obtain⟨E,rfl⟩:=R;cases y with
  |byt j=>obtain⟨B,rfl⟩:=r;exact W.ne_bytes (U9 I q (congrArg not ci9))
  |_=>exact absurd (show false=true from C) cK6
 |_=>cases y<;>exact absurd (show false=true from C) cK6
theorem ca3:OpR X (compareOp .Lt) (rI0 λi j=>.bl (decide (i<j))):=bA3 λ_ _ _ _ _ _ _ q=>lt_int q
theorem bA2:OpR X (compareOp .LtE) (rI0 λi j=>.bl (decide (i<=j))):=bA3 λ_ _ _ _ _ _ _ q=>le_int q
theorem ca4:OpR X (compareOp .Gt) (rI0 λi j=>.bl (decide (j<i))):=bA3 λ_ _ _ _ _ _ _ q=>gt_int q
theorem cy5:OpR X (compareOp .GtE) (rI0 λi j=>.bl (decide (j<=i))):=bA3 λ_ _ _ _ _ _ _ q=>ge_int q
theorem co8:OpR X (compareOp .Is) (λx y H Q=>y=.non/\Q (.bl (decide (x=.non))) H):=by
 intro C s w H x y v u Q I r R B;obtain⟨rfl,q⟩:=B;cases R;refine is_none_gen (U9 I q ?_);cases x<;>first
  |(cases r;rfl)
  |(obtain⟨E,rfl⟩:=r;rfl)
theorem cg9:OpR X (compareOp .IsNot) (λx y H Q=>y=.non/\Q (.bl (!decide (x=.non))) H):=by
 intro C s w H x y v u Q I r R B;obtain⟨rfl,q⟩:=B;cases R;refine isnot_none_gen (U9 I q ?_);cases x<;>first
  |(cases r;rfl)
  |(obtain⟨E,rfl⟩:=r;rfl)
theorem OpR.or(E:OpR X f r)(F:OpR X f J):OpR X f (λx y H Q=>r x y H Q\/J x y H Q):=by
 intro B s w H x y v u Q I R C q;rcases q with q|q
 .exact E B s w H x y v u Q I R C q
 .exact F B s w H x y v u Q I R C q
theorem Y6(b:Expr)(H:o≠.In:=by decide)(B:o≠.NotIn:=by decide):behindInMarks o b=false:=by
 have e:(o==CmpOp.In)=false:=by cases o<;>first |rfl|exact absurd rfl H
 have E:(o==CmpOp.NotIn)=false:=by cases o<;>first |rfl|exact absurd rfl B
 cases b<;>simp[behindInMarks,e,E]
theorem cg5{o:CmpOp}{r:R2}(M:OpR X (compareOp o) r)(F:PE X a t)(J:PE X b g)(L:behindInMarks o b=false):PE X (.Compare a [o] [b] p) (tOp r t g):=by
 intro C s w H Q I E;exact wpAny_Compare1 (bY5 F J I E λv u S x y B i R N q=>M C S w B x y v u Q i R N q) L
def bZ7(C:TE):TT:=λw H Q=>C w H λx B=>∃k,x=.bl k/\Q k B
theorem cg0(R:OpR X (compareOp o) r)(N:PE X a t)(O:PE X b g)(P:behindInMarks o b=false):PT X (.Compare a [o] [b] p) (bZ7 (tOp r t g)):=by
 intro B s w H Q I M;refine wpAny_isTrue_Compare1 (thn (N B s w H _ I M) λv f ⟨x,C,i,Y,S⟩=>thn (O B f w C _ i S) λu j ⟨y,E,J,Z,U⟩=>
  thn (R B j w E x y v u _ J Y Z U) λc l ⟨z,F,L,d,k,e,W⟩=> ?_) P
 subst e;cases d;exact cX7 ⟨F,L,W⟩
def bF9(r R:R2)(t g h:TE):TE:=λw H Q=>t w H λx C=>g w C λy E=>r x y E λz B=>∃k,z=.bl k/\
 (if k=true then h w B λW F=>R y W F Q else Q (.bl false) B)
theorem bV5(f:OpR X (compareOp o) r)(j:OpR X (compareOp O) v)(U:PE X a t)(W:PE X b g)(Y:PE X c h)
  (Z:lastMarks [o,O] [b,c]=false):PE X (.Compare a [o,O] [b,c] p) (bF9 r v t g h):=by
 intro B aa w H Q I S;refine Compare_chain (thn (U B aa w H _ I S) λae s1 ⟨af,F,M,x,l⟩=>chain_link (thn (W B s1 w F _ M l) λu s2 ⟨y,J,N,R,n⟩=>
  thn (f B s2 w J af y ae u _ N x R n) λd s3 ⟨ag,C,i,z,k,e,E⟩=> ?_)) Z
 subst e;cases z;refine cX7 ?_;cases k with
 |false=>exact ite_ff ⟨.bl false,C,i,rfl,E⟩
 |true=>exact ite_tt (chain_last (thn (Y B s3 w C _ i E) λw' s4 ⟨z',L,P,r4,s⟩=>j B s4 w L y z' u w' Q P R r4 s))
theorem aK8:(sizeLine:Nat)<2^63:=by rw[sizeLine_eq];decide
theorem ar3(r:B9 [x] U):∃u,U=[u]/\C9 x u:=by
 cases r with
 |cons R B=>cases B;exact⟨_,rfl,R⟩
theorem bi3(r:B9 [x,y] U):∃u w,U=[u,w]/\C9 x u/\C9 y w:=by
 cases r with
 |cons R B=>
  cases B with
  |cons C E=>cases E;exact⟨_,_,rfl,R,C⟩
theorem bY2:af0 X (.builtin "abs") (λx H Q=>∃i,x=[.int i]/\Q (.int (if i<0 then -i else i)) H):=by
 intro C s w H x U Q I r B;obtain⟨i,rfl,q⟩:=B;obtain⟨u,rfl,E,rfl⟩:=ar3 r;exact call_abs_int λu k=>⟨.int (if i<0 then -i else i),H,I.tok _,⟨_,rfl⟩,q⟩
theorem bO4(E:X.calm=true):af0 X (.builtin "max") (λx H Q=>∃i j,x=[.int i,.int j]/\Q (.int (if j>i then j else i)) H):=by
 intro F s W H x U Q I r C;obtain⟨i,j,rfl,q⟩:=C;obtain⟨u,w,rfl,⟨L,rfl⟩,⟨M,rfl⟩⟩:=bi3 r;refine max_two_ints (I.ok.hd E) λJ N k=>⟨_,H,I.kept k,?_,q⟩
 by_cases B:j>i
 .rw[cW7 B,cW7 B];exact⟨_,rfl⟩
 .rw[cW6 B,cW6 B];exact⟨_,rfl⟩
theorem bO2(E:X.calm=true):af0 X (.builtin "min") (λx H Q=>∃i j,x=[.int i,.int j]/\Q (.int (if j<i then j else i)) H):=by
 intro F s W H x U Q I r C;obtain⟨i,j,rfl,q⟩:=C;obtain⟨u,w,rfl,⟨L,rfl⟩,⟨M,rfl⟩⟩:=bi3 r;refine min_two_ints (I.ok.hd E) λJ N k=>⟨_,H,I.kept k,?_,q⟩
 by_cases B:j<i
 .rw[cW7 B,cW7 B];exact⟨_,rfl⟩
 .rw[cW6 B,cW6 B];exact⟨_,rfl⟩
theorem bO5:af0 X (.type "int") (λx H Q=>(∃i,x=[.int i]/\Q (.int i) H)\/∃k,x=[.bl k]/\Q (.int (if k then 1 else 0)) H):=by
 intro C s w H x U Q I r B;rcases B with⟨i,rfl,q⟩|⟨k,rfl,q⟩
 .obtain⟨u,rfl,E,rfl⟩:=ar3 r;exact call_int_int ⟨.int i,H,I,⟨_,rfl⟩,q⟩
 .obtain⟨u,rfl,R⟩:=ar3 r;cases R;exact call_int_bool ⟨.int (if k then 1 else 0),H,I.tok _,⟨_,rfl⟩,q⟩
end
structure aT9(h:Heap)(x dx C:Addr)(mA:Str->Option Value):Prop where
 obj:h.get? x=some (W.instObj C dx)
 ns:h.Ns1 dx mA
 ne:dx≠x
theorem bL2{h:Heap}{d:Addr}{M:Str->Option Value}(n:h.Ns1 d M):∃O,h.get? d=some O/\∀name,W.lookIn name O=some (M name):=by
 obtain⟨o,E,p,I,H,k,_,F⟩:=n;refine⟨o,I,λname=> ?_⟩;have e:=F name;unfold nsFind findBy at e;rw[<-Array.find?_toList]at e;unfold W.lookIn;rw[H];dsimp only;split
 .rename_i y q;rw[q]at e;exact congrArg some e
 .rename_i q;rw[q]at e;have a:E.toList.any (·.refKey)=false:=by
   rw[List.any_eq_false];intro y J;obtain⟨z,t,C⟩:=k y (Array.mem_toList_iff.mp J);simp[DictEntry.refKey,C]
  have B:¬E.toList.any (·.refKey)=true:=by rw[a];exact cK6
  rw[cW6 B];exact congrArg some e
theorem aT9.look(I:aT9 H X d c M):∃o,W.InstAt H X (W.instObj c d) c (some o)/\∀name,W.lookIn name o=some (M name):=
 let⟨o,B,l⟩:=bL2 I.ns
 ⟨o,⟨I.obj,rfl,rfl,B⟩,l⟩
section
variable {p:Program}{w:World}{A:Around}{E:Value->Shared->Prop}{s:Shared}{K:cW0}{x g C f:Addr}{h:Str->Option Value}{name:Str}{v:Value}
theorem ci4(X:K.In s.heap)(I:aT9 s.heap x g C h)(B:W.plainGet K C name=true)(F:W.hasDictIn K C=true)
  (a:W.findIn K (.ref C) name=some none) (L:h name=some v) (M:W.handedIn v=true) (H:Q v {s with toks:=s.toks+1}):
  wpAny (model p w) A (getAttr (.ref x) name e) Q E s:=by
 obtain⟨o,J,l⟩:=I.look;exact W.get_value X J (W.plainGet_of B).1 (W.findObj_own F a rfl (by rw[l,L])) M H
theorem bX3(X:K.In s.heap)(I:aT9 s.heap x g C h)(H:W.plainGet K C name=true)
  (F:W.findIn K (.ref C) name=some (some (.ref f))) (t:W.isFn K (.ref f)=true) (L:h name=none) (B:Q (.ref f,[.ref x]) s):
  wpAny (model p w) A (getMethod (.ref x) name P) Q E s:=by
 obtain⟨o,J,l⟩:=I.look;exact W.method_fn X J (W.plainGet_of H).1 (W.plainGet_of H).2 F (beq_iff_eq.mp t) (by show(W.lookIn name o).map (·.isSome)=some false;rw[l,L];rfl) B
theorem ce0(X:K.In s.heap)(I:aT9 s.heap x g C h)
  (U:W.findIn K (.ref C) "__setattr__"=some (some (.builtin "object.__setattr__"))) (S:W.plainOver K C=true) (t:W.takerIn K C name=some none) (P:W.hasDictIn K C=true)
  (Y:PySem.Within h n) (z:n.length<=sizeLine)
  (L:∀H,aT9 H x g C (λy=>if y=name then some v else h y)->Heap.SameBut g s.heap H->Q () {s with heap:=H,toks:=s.toks+2}):
  wpAny (model p w) A (setAttr (.ref x) name v) Q E s:=by
 obtain⟨i,J,l⟩:=I.look;refine W.set_plain X J U (W.osa_open (s:={s with toks:=s.toks+1}) (r:=none) X J S t λb=> ?_);obtain⟨d,c,N⟩:=W.any_some P;have Z:s.heap.get? x=some ⟨.ref C,some g,.plain,#[]⟩:=I.obj;refine cW8 (cX3 (cW8 (cW8 (wpAny_loadPart Z (cW8 (W.Looks.here (s:={s with toks:=s.toks+1}) (W.looks_clsIn X c) ?_))))));rw[N];refine cX3 (a:=some g) (cW8 (cX3 (cW8 ?_)));refine wpAny_nsSet1 (s:={s with toks:=s.toks+1}) I.ns λH B F=> ?_
 obtain⟨o,a,e,R,O,M⟩:=B.count (PySem.Within.cons name v Y);refine cW8 (wpAny_lookBehind R (by rw[O];exact pastItsLine_dict (cU0 M (by rw[cJ3];omega))) ?_);exact cX3 (L _ ⟨(F.2 _ (Ne.symm I.ne)).trans I.obj,B,I.ne⟩ F)
theorem bW5(X:K.In s.heap)(I:W.makesIn K C=true)
  (i:W.findIn K (.ref C) "__init__"=some (some (.ref f))) (F:W.typeIn K (.ref f)=some (.type "function"))
  (H:codeAny (model p w) (A.under (.builtin "type.__call__" ⟨.ref C::B,k⟩)) (.call (.ref f) ⟨.ref (s.sz+1)::B,k⟩) (W.InitBack (s.sz+1) R)
   {s with heap:=(s.heap.push W.emptyDict).push (W.instObj C s.sz)}):
  codeAny (model p w) A (.call (.ref C) ⟨B,k⟩) R s:=by
 obtain⟨L,J,d,t,os⟩:=s;exact W.make_core (W.makes_of X I) (W.looks_findIn X i) (λself=>W.bind_fn X self F) (.inl rfl) H
end
def ah4(f:Str)(v:V):List (Str×V)->List (Str×V)
 |[]=>[(f,v)]
 |(g,x)::r=>if g=f then(g,v)::r else(g,x)::ah4 f v r
theorem aP2(f g:Str)(v:V):∀F:List (Str×V),(ah4 f v F).lookup g=if g=f then some v else F.lookup g
 |[]=>by
  show List.lookup g [(f,v)]=_;by_cases h:g=f
  .have H:(g==f)=true:=beq_iff_eq.mpr h;erw[List.lookup,H,cW7 h]
  .have H:(g==f)=false:=cI6 h;erw[List.lookup,H,cW6 h]
 |(k,x)::r=>by
  have i:=aP2 f g v r;rw[show ah4 f v ((k,x)::r)=(if k=f then(k,v)::r else(k,x)::ah4 f v r)from rfl];by_cases B:k=f
  .rw[cW7 B];by_cases h:g=k
   .have H:(g==k)=true:=beq_iff_eq.mpr h;erw[List.lookup,H,cW7 (h.trans B)]
   .have H:(g==k)=false:=cI6 h;erw[List.lookup,H,cW6 (λe:g=f=>h (e.trans B.symm))]
  .rw[cW6 B];by_cases h:g=k
   .have H:(g==k)=true:=beq_iff_eq.mpr h;erw[List.lookup,H,cW6 (λe:g=f=>B (h.symm.trans e))]
   .have H:(g==k)=false:=cI6 h;erw[List.lookup,H];exact i
theorem aK9(f:Str)(v:V):∀F:List (Str×V),f∈(ah4 f v F).map (·.1)/\∀g,g∈F.map (·.1)->g∈(ah4 f v F).map (·.1)
 |[]=>⟨by simp[ah4],λg h=>by simp at h⟩
 |(k,x)::r=>by
  obtain⟨i,I⟩:=aK9 f v r;rw[show ah4 f v ((k,x)::r)=(if k=f then(k,v)::r else(k,x)::ah4 f v r)from rfl];by_cases H:k=f
  .rw[cW7 H];subst H;exact⟨∅,λg h=>by simpa using h⟩
  .rw[cW6 H];refine⟨?_,λg h=> ?_⟩
   .rw[cI9];exact cS1 _ i
   .rw[cI9]at h⊢;rcases cI4 h with e|e
    .exact List.mem_cons.mpr (.inl e)
    .exact cS1 _ (I g e)
theorem aP3(f:Str)(v:V):∀F:List (Str×V),(ah4 f v F).length<=F.length+1
 |[]=>by simp[ah4]
 |(k,x)::r=>by
  have i:=aP3 f v r;rw[show ah4 f v ((k,x)::r)=(if k=f then(k,v)::r else(k,x)::ah4 f v r)from rfl];by_cases h:k=f
  .rw[cW7 h,cJ3,cJ3];omega
  .rw[cW6 h,cJ3,cJ3];omega
theorem aB6.some_of(r:aB6 (some v) o):∃u,o=some u/\C9 v u:=by
 cases o with
 |none=>exact(show False from r).elim
 |some u=>exact⟨u,rfl,r⟩
theorem aB6.none_of(r:aB6 none o):o=none:=by
 cases o with
 |none=>rfl
 |some u=>exact(show False from r).elim
theorem bM2(r:C9 v u):W.handedIn u=true:=by
 cases v with
 |non=>cases(show u=Value.none from r);rfl
 |bl b=>cases(show u=Value.bool b from r);rfl
 |int i=>obtain⟨t,e⟩:=(show∃t,u=Value.int i t from r);cases e;rfl
 |str x=>obtain⟨t,e⟩:=(show∃t,u=Value.str x t from r);cases e;rfl
 |byt b=>obtain⟨t,e⟩:=(show∃t,u=Value.bytes b t from r);cases e;rfl
 |flt b=>obtain⟨t,e⟩:=(show∃t,u=Value.float b t from r);cases e;rfl
 |ref a=>cases(show u=Value.ref a from r);rfl
 |ty n=>cases(show u=Value.type n from r);rfl
section
variable {P:Program}{w:World}{H k:Hp}{h l:Heap}{a C i:Addr}{g j:List (Str×V)}
theorem bb4(B:HOk P w H h)(e:H a=some (.ins C i g)):∃M,aT9 h a i C M/\(∀f,aB6 (g.lookup f) (M f))/\PySem.Within M (g.map (·.1))/\g.length<=1000/\H i=some (.aB a):=by
 obtain⟨d,z,N,o,M,n,r,q⟩:=(show ae7 P w H h a (.ins C i g)from B a _ e)
 exact⟨M,⟨o,n,N⟩,r,q,z,d⟩
end
structure Cls(K:cW0)(C:Addr):Prop where
 pg:W.plainGet K C Str.empty=true
 hd:W.hasDictIn K C=true
 po:W.plainOver K C=true
 sa:W.findIn K (.ref C) "__setattr__"=some (some (.builtin "object.__setattr__"))
theorem Cls.get{K:cW0}{B:Addr}(c:Cls K B)(f:Str):W.plainGet K B f=true:=c.pg
def Q4(K:cW0)(C:Addr)(f:Str):Prop:=W.findIn K (.ref C) f=some none
theorem Q4.taker{K:cW0}{C:Addr}{f:Str}(n:Q4 K C f):W.takerIn K C f=some none:=by
 unfold W.takerIn;rw[show W.findIn K (.ref C) f=some none from n];rfl
structure bd2(K:cW0)(C:Addr)(m:Str)(f:Addr):Prop where
 at_:W.findIn K (.ref C) m=some (some (.ref f))
 fn:W.isFn K (.ref f)=true
 kp:W.keepIn K (.ref f)=true
section
variable {X:Cx}{aA:List (Addr×Obj)}{wW:St}{H:Hp}{s:Shared}{a C h:Addr}{g:List (Str×V)}{f:Str}{v:V}{A:Around}{E:Value->Shared->Prop}
theorem bB9(I:Inv X aA wW H s)(e:H a=some (.ins C h g))(c:Cls X.K C)(n:Q4 X.K C f)(l:g.lookup f=some v)
  (B:∀u S,Inv X aA wW H S->C9 v u->Q u S):wpAny (model X.prog X.w) A (getAttr (.ref a) f b) Q E s:=by
 obtain⟨M,O,r,_,_,_⟩:=bb4 I.hok e;obtain⟨u,F,R⟩:=aB6.some_of (v:=v) (o:=M f) (by rw[<-l];exact r f);exact ci4 I.kIn O (c.get f) c.hd n F (bM2 R) (B u _ (I.tok _) R)
theorem bB8(I:Inv X aA wW H s)(e:H a=some (.ins C h g))(c:Cls X.K C)(k:bd2 X.K C m B)(l:g.lookup m=none)
  (F:Q (.ref B,[.ref a]) s):wpAny (model X.prog X.w) A (getMethod (.ref a) m p) Q E s:=by
 obtain⟨M,O,r,_,_,_⟩:=bb4 I.hok e;have n:M m=none:=aB6.none_of (by rw[<-l];exact r m);exact bX3 I.kIn O (c.get m) k.at_ k.fn n F
theorem bz1(I:Inv X aA wW H s)(e:H a=some (.ins C h g))(c:Cls X.K C)(n:Q4 X.K C f)(l:g.length<1000)(Y:C9 y u)
  (N:∀S,Inv X aA wW (upd H a (.ins C h (ah4 f y g))) S->Q () S):wpAny (model X.prog X.w) A (setAttr (.ref a) f u) Q E s:=by
 obtain⟨M,O,r,w,_,J⟩:=bb4 I.hok e;have W:(g.map (·.1)).length<=sizeLine:=by rw[cQ8,sizeLine_eq];omega
 refine ce0 I.kIn O c.sa c.po n.taker c.hd w W λP F Z=>N _ ?_
 have d:∃o,P.get? h=some o:=let⟨o,_,_,L,_⟩:=F.ns;⟨o,L⟩;refine I.write (x:=a) (e:=h) (by rw[e];exact True.intro) (.inr J) (λb q R z=>(Z.2 b R).trans z) d ?_;refine⟨by rw[n6 O.ne];exact J,?_,O.ne,F.obj,_,F.ns,λB=> ?_,λB U=> ?_⟩
 .have :=aP3 f y g;omega
 .show aB6 ((ah4 f y g).lookup B) (if B=f then some u else M B);rw[aP2];by_cases q:B=f
  .rw[cW7 q,cW7 q];exact Y
  .rw[cW6 q,cW6 q];exact r B
 .by_cases q:B=f
  .rw[q];exact(aK9 f y g).1
  .refine(aK9 f y g).2 B (w B λz=>U ?_);show(if B=f then some u else M B)=none;rw[cW6 q];exact z
theorem Inv.made(I:Inv X aA wW H s):Inv X aA wW (upd (upd H s.sz (.aB (s.sz+1))) (s.sz+1) (.ins C s.sz []))
  {s with heap:=(s.heap.push W.emptyDict).push (W.instObj C s.sz)}:=by
 have B:(s.heap.push W.emptyDict).get? s.sz=some W.emptyDict:=cL1 s.heap rfl;have J:((s.heap.push W.emptyDict).push (W.instObj C s.sz)).get? (s.sz+1)=some (W.instObj C s.sz):=by
  have :=cL1 (s.heap.push W.emptyDict) (o:=W.instObj C s.sz) rfl;rwa[cL5]at this
 have L:(s.heap.push W.emptyDict).Ns s.sz (λ_=>none):=⟨W.emptyDict,#[],_,B,rfl,(λe M=>absurd M ∅),λ_=>rfl⟩
 have F:=I.laid (a:=s.sz) (o:=.aB (s.sz+1)) (h':=s.heap.push W.emptyDict) (t':=s.toks) (λb U q=>cL0 _ q) (cT8 _) ⟨_,B⟩;refine F.laid (a:=s.sz+1) (o:=.ins C s.sz []) (t':=s.toks) (λb U q=>cL0 _ q) (Nat.le_of_eq (cL5 _ _)) ?_;have n:s.sz≠s.sz+1:=cV0 (cU5 _);refine⟨by rw[n6 n,t8],cV7 _,n,J,λ_=>none,(Heap.Ns1.of_empty L).at λo q=>cL0 _ q,λ_=>True.intro,λy N=>absurd rfl N⟩
theorem cj4(b:attributeBase e f B (eval e B)=eval e B)
  (F:wpAny (model p w) A (eval e B) (λo S=>wpAny (model p w) A (getAttr o f true) Q E S) E s):wpAny (model p w) A (eval (.Attribute e f P) B) Q E s:=
 Attribute_any_ F (by rw[arm_eval_Attribute,b])
end
def cC0(K:cW0)(t:TE)(f:Str):TE:=λw H Q=>t w H λx h=>∃a C d F v,x=.ref a/\h a=some (.ins C d F)/\Cls K C/\Q4 K C f/\F.lookup f=some v/\Q v h
def cC4(K:cW0)(t v:TE)(f:Str):TS:=λD w H=>v w H λy B=>t w B λx h=>∃a C d F,x=.ref a/\h a=some (.ins C d F)/\Cls K C/\Q4 K C f/\F.length<1000/\
 D.nx w (upd h a (.ins C d (ah4 f y F)))
section
variable {X:Cx}{o e v:Expr}{f:Str}{g p h:Pos}{t i:TE}
theorem bn1(O:PE X e t)(b:attributeBase e f X.env (eval e X.env)=eval e X.env):PE X (.Attribute e f g) (cC0 X.K t f):=by
 intro J s w H Q I N;refine cj4 b (thn (O J s w H _ I N) λu U ⟨x,B,E,R,a,C,d,S,P,M,L,c,n,l,q⟩=> ?_);subst M;obtain rfl:u=Value.ref a:=R;exact bB9 E L c n l λY W F r=>⟨P,B,F,r,q⟩
theorem aC9(P:PE X o t)(R:PE X v i)(Q:swapsWith v (some (.Attribute o f p)) g.line X.env=pure false):PS X (.Assign [.Attribute o f p] v g) (cC4 X.K t i f):=by
 intro B s w H D I O;refine plainObj_wpAny_Assign_Attribute (thn (R B s w H _ I O) λu Y ⟨y,E,F,W,q⟩=>thn (P B Y w E _ F q) λS j ⟨x,Z,J,r,a,C,d,b,N,M,c,n,l,U⟩=> ?_) Q;subst N;obtain rfl:S=Value.ref a:=r;exact bz1 J M c n l W λk L=>⟨w,_,L,U⟩
end
section
variable {X:Cx}{g:List (Addr×Obj)}{w:St}{H:Hp}{s:Shared}{A:Around}{E:Value->Shared->Prop}{Q:Value->Shared->Prop}{c:Value}{b:Bool}
end
structure G9(k:Nat)(A:Around):Prop where
 hd:A.handled=none
 dp:A.depth+3*k+5<recursionLimit
 un:A.units+16*k+200<cLine
theorem G9.mono(r:G9 B A)(h:j<=B):G9 j A:=⟨r.hd,by have :=r.dp;omega,by have :=r.un;omega⟩
theorem G9.deeper(r:G9 (B+1) A)(e:Env):G9 B (A.deeper e):=
 ⟨r.hd,by have :=r.dp;show A.depth+1+3*B+5<_;omega,by have :=r.un;show A.units+3+16*B+200<_;omega⟩
theorem bA9{A:Around}{C:Addr}{u:List Value}{k:List (Str×Value)}:(A.under (.builtin "type.__call__" ⟨.ref C::u,k⟩)).depth=A.depth+1:=by
 first |rfl|simp[Around.under,Code.weight,Code.isCreation,Code.isGuard,Code.isCaller,Code.frames,Code.isFrame,guardIds]
theorem bA8{A:Around}{C:Addr}{u:List Value}{k:List (Str×Value)}:(A.under (.builtin "type.__call__" ⟨.ref C::u,k⟩)).units=A.units+1:=by
 first |rfl|simp[Around.under,Code.cUnits,Code.frames,Code.isFrame]
theorem G9.make(r:G9 (B+1) A)(C:Addr)(u:List Value)(w:List (Str×Value)):G9 B (A.under (.builtin "type.__call__" ⟨.ref C::u,w⟩)):=
 ⟨r.hd,by have :=r.dp;rw[bA9];omega,by have :=r.un;rw[bA8];omega⟩
theorem G9.depth(r:G9 B A):A.depth<recursionLimit:=by have :=r.dp;omega
theorem G9.units(r:G9 B A):A.units+64<cLine:=by have :=r.un;omega
theorem G9.units0(r:G9 B A):A.units<cLine:=by have :=r.un;omega
def cB6:TA:=λ_ H Q=>Q [] H
def cw7(t:TE)(r:TA):TA:=λw H Q=>t w H λx h=>r w h λX B=>Q (x::X) B
section
variable {X:Cx}{e:Expr}{g:List Expr}{h:TE}{t:TA}{p:Pos}
theorem ad3:PA X [] cB6:=λ_ _ _ _ H Q I B=>Calls.spliced_nil ⟨[],H,I,.nil,B⟩
theorem V0(J:PE X e h)(r:PA X g t)(L:StE X e g):PA X (e::g) (cw7 h t):=by
 intro p a s w H Q I F;rw[L];show wpAny _ _ (spliced ((false,eval e X.env)::backTo p (starEach g X.env))) _ _ s;refine Calls.spliced_cons (thn (J a s w H _ I F) λu S ⟨x,B,i,R,M⟩=> ?_);exact thn (r p a S w B _ i M) λW U ⟨P,C,E,O,N⟩=>⟨x::P,C,E,.cons R O,N⟩
def cB1(t:TA):TE:=λw H Q=>t w H λx B=>x.length<=sizeLine/\∀P,B P=none->Q (.ref P) (upd B P (.tup x))
def cB7(t:TA):TE:=λw H Q=>t w H λx B=>x.length<=sizeLine/\∀P,B P=none->Q (.ref P) (upd B P (.lst x))
theorem cn5(C:PA X g t):PE X (.Tuple g F p) (cB1 t):=by
 intro a s w H Q I E;refine wpAny_Tuple_spliced (thn (C p a s w H _ I E) λU S ⟨x,B,i,r,z,q⟩=>⟨by rw[<-r.length];exact z,?_⟩);have f:B S.sz=none:=i.hok.fresh (cT8 _);refine⟨.ref S.sz,upd B S.sz (.tup x),i.laid (t':=S.toks) (λb u e=>cL0 _ e) (cT8 _) ?_,rfl,q _ f⟩;exact⟨z,U,r,⟨_,cL1 _ rfl,rfl,_,rfl⟩⟩
theorem bJ2(C:PA X g t):PE X (.List g p) (cB7 t):=by
 intro a s w H Q I E;refine wpAny_List_spliced (thn (C p a s w H _ I E) λU S ⟨x,B,i,r,z,q⟩=>⟨by rw[<-r.length];exact z,?_⟩);have f:B S.sz=none:=i.hok.fresh (cT8 _);refine⟨.ref S.sz,upd B S.sz (.lst x),i.laid (t':=S.toks) (λb u e=>cL0 _ e) (cT8 _) ?_,rfl,q _ f⟩;exact⟨z,U,0,r,cL1 _ rfl⟩
end
abbrev Sp:=List V->Hp->VK->XK->Prop
abbrev CXT:=List Env->Hp->Shared->XK->Value->Shared->Prop
structure ar2(P:Program)(w:World)(K:cW0)(mg:Str->Option Value)(aD:Heap)(A:Around)(aE:List Env)(s:Shared)(H:Hp):Prop where
 frames:A.frames=some aE
 mod:Mod K mg aD
 bs:∀b o,aD.get? b=some o->s.heap.get? b=some o/\H b=none
 bsz:aD.objs.size<=s.sz
 funs:s.heap.FunFrames aD aE
 frf:∀b∈frs aE,H b=none
 hok:HOk P w H s.heap
 bare:AllBare s.gens
def CE(a:List Env)(P:Program)(w:World)(H:Hp)(s:Shared)(Q:VK)(u:Value)(S:Shared):Prop:=
 ∃v h,S.os=s.os/\AllBare S.gens/\Un (frs a) [] H h s.heap S.heap/\HOk P w h S.heap/\C9 v u/\Q v h
def CR(C:CXT)(a:List Env)(P:Program)(w:World)(H:Hp)(s:Shared)(Q:VK)(E:XK)(r:Result)(S:Shared):Prop:=
 match r with
 |.ok (.ret u)=>CE a P w H s Q u S
 |.ok _=>False
 |.error e=>C a H s E e S
structure S4(P:Program)(w:World)(K:cW0)(mg:Str->Option Value)(aD:Heap)(CX:CXT)(k:Nat)(f:Addr)(fd:FuncData)(ps:List Str)(sp:Sp):Prop where
 len:∀vs H Q E,sp vs H Q E->vs.length=ps.length
 run:∀(A:Around) (aE:List Env) (s:Shared) (H:Hp) (args:Args) (us:List Value) (vs:List V) (Q:VK) (E:XK),G9 k A->ar2 P w K mg aD A aE s H->BindsTo s fd args (ps.zip us)->B9 vs us->sp vs H Q E->
  codeAny (model P w) A (.call (.ref f) args) (CR CX aE P w H s Q E) s
theorem ar2.make{P:Program}{W:World}{K:cW0}{M:Str->Option Value}{a:Heap}{A:Around}{E:List Env}{S:Shared}{h:Hp}(e:ar2 P W K M a A E S h)(C:Addr)(u:List Value)(k:List (Str×Value)):
  ar2 P W K M a (A.under (.builtin "type.__call__" ⟨.ref C::u,k⟩)) E S h:=⟨by first |exact e.frames|(simpa[Around.under,Code.envs,Code.isFrame,pushEnvs]using e.frames),e.mod,e.bs,e.bsz,e.funs,e.frf,e.hok,e.bare⟩
section
variable {X:Cx}{aA:List (Addr×Obj)}{wW:St}{H:Hp}{s g:Shared}
theorem Inv.env0(I:Inv X aA wW H s):ar2 X.prog X.w X.K X.mg X.aD X.A X.stack s H:=
 ⟨I.ok.frames,I.ok.mod,I.bs,cU0 I.ok.bsz I.sz,I.stack,I.stkFree,I.hok,I.bare⟩
theorem Inv.after(I:Inv X aA wW H s)(h:CE X.stack X.prog X.w H s Q U g):EP X aA wW Q U g:=by
 obtain⟨F,B,os,e,un,k,r,q⟩:=h;obtain⟨E,C,d,t,o⟩:=g;obtain rfl:o=s.os:=os;exact⟨F,B,I.call (h':=E) (g':=C) (d':=d) (t':=t) (ch:=[]) un k e (λb z=>absurd z ∅),r,q⟩
end
def cw8(s:Sp)(d:List V)(E:XK)(t:TA):TE:=λw H Q=>t w H λv h=>s (v++d) h Q E
def cw4(C:Addr)(m:Str)(s:Sp)(d:List V)(E:XK)(I:TE)(t:TA):TE:=λw H Q=>I w H λx h=>∃a F f,x=.ref a/\h a=some (.ins C F f)/\f.lookup m=none/\
 t w h λv B=>s (x::(v++d)) B Q E
def cw5(C:Addr)(S:Sp)(s:List V)(E:XK)(t:TA):TE:=λw H Q=>t w H λF h=>∀x d,h x=none->h d=none->d≠x->
 S (.ref x::(F++s)) (upd (upd h d (.aB x)) x (.ins C d [])) (λv B=>v=.non/\Q (.ref x) B) E
def R9(K:cW0)(f:FuncData)(p:List Str)(d:List Value):Prop:=
 ∀(s:Shared) (u:List Value),K.In s.heap->(u++d).length=p.length->BindsTo s f ⟨u,[]⟩ (p.zip (u++d))
theorem R9.all{K:cW0}{f:FuncData}{p:List Str}(h:∀u:List Value,u.length=p.length->bindArgs f ⟨u,[]⟩=pure (p.zip u)):R9 K f p []:=λs u _ H=>by
 rw[cO5]at H⊢;exact .of_eq (h u H)
def aa8(C:CXT)(X:Cx)(E:XK):Prop:=∀(a:List (Addr×Obj)) (w:St) (H:Hp) (s:Shared) (e:Value) (S:Shared),Inv X a w H s->C X.stack H s E e S->X.xe e S
section
variable {X:Cx}{r:CXT}{k:Nat}{f C:Addr}{s:FuncData}{l:List Str}{u:Sp}{g:List V}{i:List Value}{E:XK}{x m:Str}{p h n:Pos}{e o:Expr}{j:List Expr}{v:TE}{t:TA}
theorem bG6(F:S4 X.prog X.w X.K X.mg X.aD r k f s l u)(P:G9 k X.A)(b:R9 X.K s l i)(d:B9 g i)(W:aa8 r X E)
  (I:Inv X a w H S) (R:B9 J U) (L:u (J++g) H Q E):wpAny (model X.prog X.w) X.A (call (.ref f) U) (EP X a w Q) X.xe S:=by
 have M:B9 (J++g) (U++i):=R.append d;have O:(U++i).length=l.length:=by rw[<-M.length];exact F.len _ _ _ _ L
 refine wpAny_call (codeAny_mono (F.run X.A X.stack S H ⟨U,[]⟩ (U++i) (J++g) Q E P I.env0 (b S U I.kIn O) M L) λR Y B=> ?_);cases R with
 |error e=>exact W a w H S e Y I B
 |ok N=>
  cases N with
  |ret Z=>exact I.after B
  |next=>exact False.elim B
  |brk=>exact False.elim B
  |cont=>exact False.elim B
theorem aN6(F:S4 X.prog X.w X.K X.mg X.aD r k f s l u)(U:G9 k X.A)(O:Gl X x)(R:X.mg x=some (.ref f))(P:W.keepIn X.K (.ref f)=true)(b:R9 X.K s l i)(d:B9 g i)(Y:aa8 r X E)
  (L:PA X (e::j) t) (M:NoD x) (N:StE X e j) (S:Bks X h j):
  PE X (.Call (.Name x p) (e::j) [] h) (cw8 u g E t):=by
 intro a c w H Q I J;refine wpAny_Call_Name_kw (aq3 I O R ?_ M);refine W.callWith_K (h₀:=X.aD) I.ok.mod.kin P (thn (L h a c w H _ I J) λus z ⟨vs,y,B,Z,q⟩=>⟨B.kIn,?_⟩) N S;exact bG6 F U b d Y B Z q
theorem cg3(U:PE X o v)(c:Cls X.K C)(M:bd2 X.K C m f)(F:S4 X.prog X.w X.K X.mg X.aD r k f s l u)(Z:G9 k X.A)(b:R9 X.K s l i)(d:B9 g i)(hx:aa8 r X E)(S:PA X (e::j) t)
  (y:StE X e j) (Y:Bks X h j)
  (z:eval (.Call (.Attribute o m n) (e::j) [] h) X.env=(do
   let O<-eval o X.env
   standAt n.atName
   let(f,f1)<-holding [O] (getMethod O m pl)
   callWith h f f1 (backTo h (starEach (e::j) X.env)) (backToKw h (keywordEach [] X.env)))):
  PE X (.Call (.Attribute o m n) (e::j) [] h) (cw4 C m u g E v t):=by
 intro L af w H ah I R;refine W.methodCall_KW (pl:=pl) (thn (U L af w H _ I R) λag s1 ⟨x,N,B,rx,a,dx,fs,Q,P,aa,q⟩=> ?_) z;subst Q;obtain rfl:ag=Value.ref a:=rx;refine bB8 B P c M aa ?_;refine W.callWith_K (first :=[.ref a]) (h₀:=X.aD) I.ok.mod.kin M.kp (thn (S h L s1 w N _ B q) λus s2 ⟨vs,H2,J,ae,q2⟩=>⟨J.kIn,?_⟩) y Y;exact bG6 (U:=.ref a::us) (J:=.ref a::vs) F Z b d hx J (.cons rfl ae) q2
structure Mk(K:cW0)(C f:Addr):Prop where
 makes:W.makesIn K C=true
 init:W.findIn K (.ref C) "__init__"=some (some (.ref f))
 fn:W.isFn K (.ref f)=true
 kp:W.keepIn K (.ref C)=true
theorem bR3(M:Mk X.K C f)(F:S4 X.prog X.w X.K X.mg X.aD r k f s l u)(hr:G9 (k+1) X.A)(z:R9 X.K s l i)(hd:B9 g i)
  (hx:aa8 r X E) (I:Inv X a w H S) (R:B9 P U)
  (y:∀x d,H x=none->H d=none->d≠x->u (.ref x::(P++g)) (upd (upd H d (.aB x)) x (.ins C d [])) (λO Y=>O=.non/\Q (.ref x) Y) E):
  wpAny (model X.prog X.w) X.A (call (.ref C) U) (EP X a w Q) X.xe S:=by
 have L:=y (S.sz+1) S.sz (I.hok.fresh (cT9 _)) (I.hok.fresh (cT8 _)) (cV0 (cU5 _));have J:=Inv.made (C:=C) I;have N:B9 (V.ref (S.sz+1)::(P++g)) (Value.ref (S.sz+1)::(U++i)):=.cons rfl (R.append hd);have hl:(Value.ref (S.sz+1)::U++i).length=l.length:=by
  have e:=N.length;rw[F.len _ _ _ _ L]at e;exact e.symm
 refine wpAny_call (bW5 (f:=f) I.kIn M.makes M.init (beq_iff_eq.mp M.fn) (codeAny_mono (F.run _ X.stack _ _ ⟨Value.ref (S.sz+1)::U,[]⟩ (Value.ref (S.sz+1)::(U++i)) _ _ E (hr.make C U [])
  (J.env0.make C U []) (z _ (Value.ref (S.sz+1)::U) J.kIn hl) N L) λR s' B=> ?_))
 cases R with
 |error e=>exact hx a w _ _ e s' J B
 |ok c=>
  cases c with
  |ret aa=>
   obtain⟨O,W,Z,rv,b,q3⟩:=J.after B;subst b;exact⟨rv,⟨V.ref (S.sz+1),W,Z,rfl,q3⟩⟩
  |next=>exact False.elim B
  |brk=>exact False.elim B
  |cont=>exact False.elim B
theorem cg4(M:Mk X.K C f)(F:S4 X.prog X.w X.K X.mg X.aD r k f s l u)(U:G9 (k+1) X.A)(P:Gl X x)(R:X.mg x=some (.ref C))(b:R9 X.K s l i)(d:B9 g i)(Y:aa8 r X E)
  (L:PA X (e::j) t) (N:NoD x) (O:StE X e j) (S:Bks X h j):
  PE X (.Call (.Name x p) (e::j) [] h) (cw5 C u g E t):=by
 intro a c w H Q I J;refine wpAny_Call_Name_kw (aq3 I P R ?_ N);refine W.callWith_K (h₀:=X.aD) I.ok.mod.kin M.kp (thn (L h a c w H _ I J) λus z ⟨vs,y,B,Z,q⟩=>⟨B.kIn,?_⟩) O S;exact bR3 M F U b d Y B Z q
end
section
variable {X:Cx}{n:CXT}{k:Nat}{f C:Addr}{r:FuncData}{s u:List Str}{v:Sp}{E:XK}{x m:Str}{p j h i:Pos}{e o:Expr}{w:List Expr}{l:List Keyword}{y z:TE}{t B:TA}{H:Option Str}
variable {g:List Value->List Value->List Value}{gV:List V->List V->List V}
end
structure Q1(N P:List Str)(sc:Scope):Prop where
 kind:sc.kind=.function
 co:sc.isCoroutine=false
 gen:sc.isGenerator=false
 nd:N.Nodup
 pre:N.take P.length=P
 par:∀x∈P,sc.names.lookup x=some .local\/sc.names.lookup x=some .cell
 nofree:∀y∈sc.names,y.2≠.free
theorem bg6{kindOf:Str->Option NameKind}{x:Str}:∀{b:List (Str×Value)}{m:Str->Option Value},(∀v,(x,v)∉b)->bindL kindOf b m x=m x
 |[],_,_=>rfl
 |(n,v)::r,m,h=>by
  unfold bindL;rw[bg6 λw H=>h w (cS1 _ H)];split
  .have :x≠n:=by rintro rfl;exact h v cS2
   simp[this]
  .rfl
theorem bg8{kindOf:Str->Option NameKind}{x:Str}:∀{b:List (Str×Value)}{m:Str->Option Value},(∀v,(x,v)∉b)->bindC kindOf b m x=m x
 |[],_,_=>rfl
 |(n,v)::r,m,h=>by
  unfold bindC;rw[bg8 λw H=>h w (cS1 _ H)];split
  .rfl
  .have :x≠n:=by rintro rfl;exact h v cS2
   simp[this]
theorem bg7{kindOf:Str->Option NameKind}{x:Str}{v:Value}:∀{P:List Str}{s:List Value}{i:Nat}{m:Str->Option Value},P.Nodup->P[i]?=some x->s[i]?=some v->kindOf x=some .local->
  bindL kindOf (P.zip s) m x=some v
 |[],_,_,_,_,h,_,_=>by simp at h
 |_::_,[],_,_,_,_,h,_=>by simp at h
 |p::P,w::s,0,m,n,H,B,k=>by
  simp at H B;subst H;subst B;show bindL kindOf ((p,w)::P.zip s) m p=_;unfold bindL;rw[bg6 λv C=>(List.nodup_cons.mp n).1 (cS8 C).1,cW7 k];simp
 |p::P,w::s,i+1,m,n,H,B,k=>by
  show bindL kindOf ((p,w)::P.zip s) m x=_;unfold bindL;exact bg7 (i:=i) (List.nodup_cons.mp n).2 (by simpa using H) (by simpa using B) k
theorem bg9{kindOf:Str->Option NameKind}{x:Str}{v:Value}:∀{P:List Str}{s:List Value}{i:Nat}{m:Str->Option Value},P.Nodup->P[i]?=some x->s[i]?=some v->kindOf x≠some .local->
  bindC kindOf (P.zip s) m x=some v
 |[],_,_,_,_,h,_,_=>by simp at h
 |_::_,[],_,_,_,_,h,_=>by simp at h
 |p::P,w::s,0,m,n,H,B,k=>by
  simp at H B;subst H;subst B;show bindC kindOf ((p,w)::P.zip s) m p=_;unfold bindC;rw[bg8 λv C=>(List.nodup_cons.mp n).1 (cS8 C).1,cW6 k];simp
 |p::P,w::s,i+1,m,n,H,B,k=>by
  show bindC kindOf ((p,w)::P.zip s) m x=_;unfold bindC;exact bg9 (i:=i) (List.nodup_cons.mp n).2 (by simpa using H) (by simpa using B) k
def start(N:List Str)(v:List V):St:=v.map some++List.replicate (N.length-v.length) none
def F9(CX:CXT)(P:Program)(w:World)(K:cW0)(mg:Str->Option Value)(aD:Heap)(N:List Str)(qual:Str)(scope:Scope)(f:Addr)(cd:Value)(A:Around)(aE:List Env)(s:Shared)(H:Hp)(E:XK):Cx where
 prog:=P
 w:=w
 K:=K
 mg:=mg
 aD:=aD
 A:=A.deeper (envOfC qual scope s.sz f cd)
 N:=N
 sd:=s
 Ho:=H
 env:=envOfC qual scope s.sz f cd
 aE:=aE
 stack:=envOfC qual scope s.sz f cd::aE
 ex:=[]
 calm:=true
 fn:=λ_=>true
 pn:=[]
 xe:=λe s'=>wpAny (model P w) (A.deeper (envOfC qual scope s.sz f cd)) (leaving (envOfC qual scope s.sz f cd) e) (λ_ s''=>CX aE H s E e s'') (λe' s''=>CX aE H s E e' s'') s'
theorem bq6{s:Scope}{n:Nat}{x:Str}(h:s.names.lookup x=some .cell):∃c,(cellsFrom n s.names []).lookup x=some c:=by
 have q:=W.cellsFrom_some s.names n [] (.inl h);exact Option.isSome_iff_exists.mp q
theorem bf2{X:CXT}{P:Program}{w:World}{K:cW0}{g:Str->Option Value}{R:Heap}{N J:List Str}{Q:Str}{F:Scope}{f:Addr}{d:Value}{A:Around}{U:List Env}{s j:Shared}{H:Hp}{E:XK}{u:List Value}{v:List V}
  (S:Q1 N J F) (o:A.handled=none) (C:ar2 P w K g R A U s H) (hl:v.length=J.length) (r:B9 v u)
  (x:InCallC s s.sz (bindL (envOfC Q F s.sz f d).kindOf (J.zip u) λ_=>none) (cellsFrom (s.sz+1) F.names []) (bindC (envOfC Q F s.sz f d).kindOf (J.zip u) λ_=>none) j):
  Inv (F9 X P w K g R N Q F f d A U s H E) [] (start N v) H j:=by
 have af:J.length<=N.length:=by have :=congrArg List.length S.pre;rw[cR3]at this;omega
 obtain⟨M,tk,rfl,W⟩:=x.done;have n:∀b:Addr,b∉(F9 X P w K g R N Q F f d A U s H E).ex:=λb z=>absurd (show b∈([]:List Addr)from z) ∅
 refine⟨⟨C.mod,S.kind,rfl,rfl,cT8 _,λy z c M B=> ?_,λy I=> ?_,λy c _ h=> ?_,λ_=>o,Around.frames_deeper C.frames,.inr ⟨rfl,rfl⟩,λb z=>absurd z (n b),C.bs,C.bsz,λb _ _=>n b,λb z=>absurd z (n b),C.funs,C.frf⟩,
  rfl,C.bare,Un.kept W,⟨_,x.toInCall.ns,λi y ae M B h3=> ?_⟩,λy c h=>⟨_,x.cell y c h⟩,C.hok.fresh (cT8 _),λy c h=> ?_,λp L=>absurd (show p∈([]:List (Addr×Obj))from L) ∅,C.hok.kept W,?_⟩
 .exact name_of_addr x.apart (cW1 M) (cW1 B)
 .have I:F.names.lookup y=some .cell\/F.names.lookup y=some .free:=I;rcases I with I|I
  .exact bq6 I
  .exact absurd rfl (S.nofree _ (cW1 I))
 .exact Nat.le_of_lt (x.above y c (cW1 h))
 .have O:i<v.length:=by
   unfold start at B;by_cases O:i<v.length
   .exact O
   .rw[cP7 (by simpa using O)]at B;rw[cQ2]at B;split at B<;>cases B
  have l:v[i]?=some ae:=by
   unfold start at B;rw[cP6 (by simpa using O),cQ0]at B;cases e:v[i]? with
   |none=>rw[e]at B;cases B
   |some a=>rw[e]at B;cases B;rfl
  obtain⟨aa,Y,t⟩:=r.get l;have L:J[i]?=some y:=by
   rw[<-S.pre,List.getElem?_take_of_lt ⋯];exact M
  have Z:J.Nodup:=by rw[<-S.pre];exact S.nd.sublist (List.take_sublist _ _)
  refine⟨aa,t,?_⟩;rcases S.par y (cS4 L)with k|k
  .exact .inl ⟨k,bg7 Z L Y k⟩
  .obtain⟨c,e⟩:=bq6 (n:=s.sz+1) k;refine .inr ⟨.inl k,c,e,?_⟩;have q:=x.cell y c e;rw[bg9 Z L Y (by show F.names.lookup y≠_;rw[k];decide)]at q;exact q
 .exact C.hok.fresh (Nat.le_of_lt (x.above y c (cW1 h)))
 .unfold start;show _=N.length;rw[cQ7,cQ8,cR0];omega
theorem bC2{X:CXT}{P:Program}{w:World}{K:cW0}{M:Str->Option Value}{L:Heap}{k:Nat}{f:Addr}{name l:Str}{aa:Arguments}{R:List Stmt}{B:Scope}{i kV j pm c g oc:Value}{n od:Option Addr}
  {ak:Array (Option Value)}{N p:List Str}{Z:Sp}(lk:K.lookup f=some ⟨oc,od,.func (W.fnOf name l aa R B i kV j pm n c g),ak⟩) (ah:W.codeIn K c l=true) (S:Q1 N p B)
  (z:∀C H Q E,Z C H Q E->C.length=p.length)
  (ag:∀(A:Around) (a:List Env) (s:Shared) (H:Hp) (C:List V) (Q:VK) (E:XK),G9 k (A.deeper (envOfC l B s.sz f c))->Z C H Q E->
   ∃t,PSs (F9 X P w K M L N l B f c A a s H E) R t/\t {nx:=λ_ h=>Q .non h,rt:=Q} (start N C) H):
  S4 P w K M L X (k+1) f (W.fnOf name l aa R B i kV j pm n c g) p Z:=by
 refine⟨z,λA a s H args us C Q E r I hb ao x=> ?_⟩;have hl:=z _ _ _ _ x;have d:K.In s.heap:=I.mod.kin.keeps λb o e=>(I.bs b o e).1
 have lim:s.heap.NoLimit:=I.mod.nolimit.keeps λb o e=>(I.bs b o e).1
 have ai:∀y∈p.zip us,B.names.lookup y.1=some .local\/(B.names.lookup y.1=some .cell/\((cellsFrom (s.sz+1) B.names []).lookup y.1).isSome=true):=λ⟨aj,v⟩ hy=>by
  rcases S.par aj (cS8 hy).1 with q|q
  .exact .inl q
  .exact .inr ⟨q,W.cellsFrom_some _ _ _ (.inl q)⟩
 refine codeAny_call_function r.depth (d _ _ lk) rfl S.co S.gen rfl (W.codeRec_of d ah) (hb _ _ _ _ ?_);refine wpAny_newFunctionEnv_cells S.kind ai λaq he s1 ae=> ?_
 subst he;refine⟨lim.keeps ae.toInCall.keep,codeAny_func ?_⟩;obtain⟨t,ht,hq⟩:=ag A a s H C Q E (r.deeper _) x;have af:Inv (F9 X P w K M L N l B f c A a s H E) [] (start N C) H s1:=bf2 S r.hd I hl ao ae;refine cX1 (ht [] s1 (start N C) H _ af hq) (λfl Y F=> ?_) λe Y F=>F
 have fin:∀{O:St}{h:Hp}{v:V}{u:Value},Inv (F9 X P w K M L N l B f c A a s H E) [] O h Y->C9 v u->Q v h->CE a P w H s Q u Y:=
  λ{O h v u} J U q=>⟨v,h,J.os,J.bare,J.aD,J.hok,U,q⟩
 cases fl with
 |ret u=>
  obtain⟨v,O,h,J,U,q⟩:=F;exact fin J U q
 |next=>
  obtain⟨O,h,J,q⟩:=F;exact fin (v:=V.non) (u:=Value.none) J rfl q
 |brk=>
  obtain⟨_,_,_,q⟩:=F;exact False.elim q
 |cont=>
  obtain⟨_,_,_,q⟩:=F;exact False.elim q
section
variable {X:Cx}{x:Str}{p g:Pos}{e:Expr}{h:List Expr}{t:TA}{id T:String}{r:List V->Hp->VK->Prop}
def tCB(r:List V->Hp->VK->Prop)(t:TA):TE:=λw H Q=>t w H λv B=>r v B Q
theorem aR8(c:af0 X (.builtin id) r)(J:Gl X x)(L:X.mg x=none)(v:bootBuiltins x=some (.builtin id))(E:PA X (e::h) t)(n:x≠"__name__")(b:NoD x)
  (F:StE X e h) (l:Bks X g h):PE X (.Call (.Name x p) (e::h) [] g) (tCB r t):=by
 intro a s w H Q I C;refine wpAny_Call_Name_kw (at0 I J L v ?_ n b);exact PyProof.Rows.callWith_builtin1 (thn (E g a s w H _ I C) λu S ⟨N,B,i,R,M⟩=>c a S w B N u Q i R M) F l
theorem bJ4(c:af0 X (.type T) r)(J:Gl X x)(L:X.mg x=none)(v:bootBuiltins x=some (.type T))(E:PA X (e::h) t)(n:x≠"__name__")(b:NoD x)
  (F:StE X e h) (l:Bks X g h):PE X (.Call (.Name x p) (e::h) [] g) (tCB r t):=by
 intro a s w H Q I C;refine wpAny_Call_Name_kw (at0 I J L v ?_ n b);exact PyProof.Rows.callWith_type1 (thn (E g a s w H _ I C) λu S ⟨N,B,i,R,M⟩=>c a S w B N u Q i R M) F l
end
end L2
namespace HT
open PySem PyProof.Rows
def lexLt:List Int->List Int->Bool
 |[],[]=>false
 |[],_::_=>true
 |_::_,[]=>false
 |x::X,y::Y=>if x=y then lexLt X Y else decide (x<y)
theorem lexLt_cons(x y:Int)(X Y:List Int):lexLt (x::X) (y::Y)=if x=y then lexLt X Y else decide (x<y):=rfl
theorem bi1:lexLt [] []=false:=rfl
theorem ba7(y:Int)(Y:List Int):lexLt [] (y::Y)=true:=rfl
theorem ba8(x:Int)(X:List Int):lexLt (x::X) []=false:=rfl
theorem bX6(A:Around)(s:Shared)(a:Int)(t:Tok)(c:Int)(u:Tok):∃e,SeqAt.EqAt A s (.int a t) (.int c u) e/\(e=true ↔a=c):=
 ⟨(a==c),SeqAt.EqAt.int_int a t c u,∅⟩
theorem bT5(A:Around)(s:Shared)(a:Int)(t:Tok)(c:Int)(u:Tok)(p:Program)(w:World)(E:Value->Shared->Prop)(Q:Value->Shared->Prop)(h:Q (.bool (decide (a<c))) s):
  wpAny (model p w) A (richCompare .Lt (.int a t) (.int c u)) Q E s:=
 (PyProof.Rows.lt_int h:wpAny (model p w) A (compareOp .Lt (.int a t) (.int c u)) Q E s)
section
open PySem.SeqAt
open PySem.AutoSeq1 (wpAny_loadPart')
open PySem.MeetsSeq PySem.MeetsSeq2 PySem.MeetsSeq3
theorem bh9(l b:Addr)(i I:Array Value)(af n2:Nat)(U X:Option Addr)(sl ag:Array (Option Value))(N F:List Int)(O:IntsAre i.toList N)(j:IntsAre I.toList F):
  Meets (Builtin.«tuple.__lt__» ⟨[.ref l,.ref b],[]⟩)
   (λ_ R s=>s.heap.get? l=some {cls:=.type "tuple",dict:=U,data:=.seq i af,slots:=sl}/\s.heap.get? b=some {cls:=.type "tuple",dict:=X,data:=.seq I n2,slots:=ag}/\
    R (.ok (.ret (.bool (lexLt N F)))) s):=
 .of_wp λQ w A R s h=>by
  obtain⟨p,g,d,k,os⟩:=s;obtain⟨o,Y,h⟩:=h;have f2:=AutoSeq1.sub_tuple_tuple;have z1:i.size=N.length:=by rw[<-O.length];simp
  have z2:I.size=F.length:=by rw[<-j.length];simp
  wp_walk using wpAny_loadPart' o,wpAny_loadPart' Y,wpAny_forIn_list _ (λr b S=>b.1=none/\S=⟨p,g,d,k,os⟩/\∃(v W:List Value) (n M:List Int),r=v.zip W/\
   IntsAre v n/\IntsAre W M/\n.length+I.size=M.length+i.size/\R (.ok (.ret (.bool (lexLt n M)))) ⟨p,g,d,k,os⟩) _
  case turn=>
   rintro⟨ai,ah⟩ r b S ⟨J,rfl,v,W,n,M,H,L,E,C,B⟩;cases L with
   |nil=>rw[List.zip_nil_left]at H;cases H
   |cons a t z=>
    cases E with
    |nil=>rw[List.zip_nil_right]at H;cases H
    |cons c u aa=>
     rw[List.zip_cons_cons]at H;injection H with ae x
     injection ae with hy hx
     subst hy hx;rw[lexLt_cons]at B;erw[cJ3]at C;obtain⟨e,Z,f⟩:=bX6 A.in1 ⟨p,g,d,k,os⟩ a t c u;refine cW8 (Z Q w _ _ ?_);cases e with
     |true=>
      rw[cW7 (f.mp rfl)]at B
      wp_walk
      exact⟨rfl,rfl,_,_,_,_,x,z,aa,⋯,B⟩
     |false=>
      rw[cW6 (λq=>absurd (f.mpr q) cK6)]at B;have y:=bT5 A.in1 ⟨p,g,d,k,os⟩ a t c u Q w
      wp_walk using y
      exact⟨_,rfl,by simpa using B⟩
  case fin=>
   rintro⟨b1,b2⟩ S ⟨J,rfl,v,W,n,M,H,L,E,C,B⟩;simp only at J;subst J;have P:lexLt n M=decide (i.size<I.size):=by
    cases L with
    |nil=>
     cases E with
     |nil=>
      erw[cJ4]at C;rw[bi1];exact(cW3 ⋯).symm
     |cons c u hw=>
      erw[cJ4,cJ3]at C;rw[ba7];exact(cW4 ⋯).symm
    |cons a t P=>
     cases E with
     |nil=>
      erw[cJ4,cJ3]at C;rw[ba8];exact(cW3 ⋯).symm
     |cons c u hw=>
      rw[List.zip_cons_cons]at H;cases H
   rw[P]at B
   wp_walk
   exact⟨_,rfl,by simpa[Builtin.Tuple.tupleCompareSizes]using B⟩
  case h=>
   exact⟨rfl,rfl,i.toList,I.toList,N,F,rfl,O,j,⋯,h⟩
end
section
variable {p:Program}{w:World}{A:Around}{E:Value->Shared->Prop}{s:Shared}
theorem lt_tupInts(R:IsTup s.heap l i)(O:IsTup s.heap b I)(P:IntsAre i.toList N)(j:IntsAre I.toList M)
  (u:A.units<cLine) (h:Q (.bool (lexLt N M)) s):wpAny (model p w) A (compareOp .Lt (.ref l) (.ref b)) Q E s:=by
 obtain⟨⟨c,J,a,S⟩,o,H,n,d⟩:=id R;obtain⟨⟨W,L,data2,U⟩,F,B,n2,C⟩:=id O;simp only at H d B C;subst H d B C;exact richCompare_meets_room (op:=.Lt) ⟨_,o,rfl⟩ ⟨_,F,rfl⟩ PySem.F.slot_tuple_lt PySem.F.entry_tuple_lt (PySem.F.args_tuple_lt_2 _ _) (bh9 l b i I n n2 J L S U N M P j)
  ⟨o,F,show Value.bool (lexLt N M)≠Value.notImplemented/\Q (.bool (lexLt N M)) s from⟨(λx=>nomatch x),h⟩⟩ u
def sIx(n d:Nat):Option Int->Nat
 |none=>d
 |some v=>if v<0 then(v+(n:Int)).toNat else min v.toNat n
theorem sIx_nat(n d k:Nat):sIx n d (some (k:Int))=min k n:=by
 show(if(k:Int)<0 then((k:Int)+(n:Int)).toNat else min (k:Int).toNat n)=min k n;rw[cW6 ⋯,cN7]
theorem cl3(n d:Nat)(H:d<=n)(o:Option Int):sIx n d o<=n:=by
 cases o with
 |none=>exact H
 |some v=>
  show(if v<0 then(v+(n:Int)).toNat else min v.toNat n)<=n;by_cases h:v<0
  .rw[cW7 h];omega
  .rw[cW6 h];exact Nat.min_le_right _ _
theorem bx8(v:Int)(n d:Nat):(if v<0 then max (v+(n:Int)) 0 else min v (n:Int))=((sIx n d (some v):Nat):Int):=by
 show(if v<0 then max (v+(n:Int)) 0 else min v (n:Int))=(((if v<0 then(v+(n:Int)).toNat else min v.toNat n):Nat):Int);by_cases h:v<0
 .simp only[cW7 h];omega
 .simp only[cW6 h];omega
theorem bD1(lo h:Option Int)(n:Nat):Builtin.Slice.sliceAdjust lo h 1 (n:Int)=(((sIx n 0 lo:Nat):Int),((sIx n n h:Nat):Int)):=by
 have H:¬((1:Int)<0):=⋯
 unfold Builtin.Slice.sliceAdjust;erw[H,if_false];refine Prod.ext ?_ ?_
 .cases lo with
  |none=>rfl
  |some v=>exact bx8 v n 0
 .cases h with
  |none=>rfl
  |some v=>exact bx8 v n n
theorem bA0(i j:Nat):Builtin.Slice.slicePlaces (i:Int) (j:Int) 1=j-i:=by
 unfold Builtin.Slice.slicePlaces;have h:(1:Int)>0:=⋯
 erw[h,if_true,Int.ediv_one];split<;>omega
theorem aU6(P:IsPart v o)(h:Q o s):wpAny (model p w) A (Builtin.Slice.slicePartIndex v) Q E s:=by
 cases P with
 |none=>exact slicePart_none h
 |int i t=>exact slicePart_int h
theorem aQ7{S:Addr}{v u:Value}{lo H:Option Int}{n:Nat}{Q:Int×Int×Nat->Shared->Prop}(F:s.heap.IsSliceOf S v u .none)(P:IsPart v lo)(I:IsPart u H)
  (h:Q (((sIx n 0 lo:Nat):Int),1,sIx n n H-sIx n 0 lo) s):wpAny (model p w) A (Builtin.Slice.sliceApplied (.ref S) (pure (n:Int))) Q E s:=by
 obtain⟨os,C,J,B⟩:=id F;unfold Builtin.Slice.sliceApplied Builtin.Slice.sliceFields;refine cW8 (cW8 (cX0 C B (x:=v) rfl (cW8 (cX0 C B (x:=u) rfl (cW8 (cX0 C B (x:=.none) rfl (cX3 ?_)))))));refine cW8 (slicePart_none ?_);show wpAny _ _ (if((1:Int)==0)=true then _ else _) _ _ s;rw[cW6 ∎];refine cW8 (aU6 P (cW8 (aU6 I (cW8 (cX3 ?_)))));show wpAny _ _ (match Builtin.Slice.sliceAdjust lo H 1 (n:Int)with |(lo,H)=>pure (lo,(1:Int),Builtin.Slice.slicePlaces lo H 1)) _ _ s;rw[bD1 lo H n];show wpAny _ _ (pure (((sIx n 0 lo:Nat):Int),(1:Int),Builtin.Slice.slicePlaces ((sIx n 0 lo:Nat):Int) ((sIx n n H:Nat):Int) 1)) _ _ s;rw[bA0];exact cX3 h
theorem bV3(X:Array Value)(i k:Nat):((List.range k).filterMap λ(m:Nat)=>X[((i:Int)+(m:Int)*1).toNat]?).toArray=((X.toList.drop i).take k).toArray:=by
 have e:(λ(m:Nat)=>X[((i:Int)+(m:Int)*1).toNat]?)=λm=>X[i+m]?:=by
  funext m
  have :((i:Int)+(m:Int)*1).toNat=i+m:=⋯
  rw[this]
 rw[e];have :=pick_run X i k;rw[List.filterMap_map]at this;have B:((λx=>X[x]?)∘λx=>i+x)=λm=>X[i+m]?:=rfl
 rw[B]at this;rw[this]
theorem getItem_tuple_cut{t S:Addr}{i:Array Value}{v u:Value}{lo H:Option Int}{Q:Value->Shared->Prop}(B:IsTup s.heap t i)(C:s.heap.IsSliceOf S v u .none)(P:IsPart v lo)(M:IsPart u H)
  (L:¬(sIx i.size 0 lo=0/\sIx i.size i.size H=i.size))
  (h:Q (.ref s.sz) {s with heap:=s.heap.push {cls:=.type "tuple",data:=.seq ((i.toList.drop (sIx i.size 0 lo)).take (sIx i.size i.size H-sIx i.size 0 lo)).toArray}})
  (z:i.size<=sizeLine):wpAny (model p w) A (getItem (.ref t) (.ref S)) Q E s:=by
 have e:sizeOk (.seq ((i.toList.drop (sIx i.size 0 lo)).take (sIx i.size i.size H-sIx i.size 0 lo)).toArray):=by
  show((i.toList.drop (sIx i.size 0 lo)).take (sIx i.size i.size H-sIx i.size 0 lo)).toArray.size<=sizeLine;rw[cT4,cR3,List.length_drop,cK1];omega
 have j:sIx i.size i.size H<=i.size:=cl3 _ _ (cT8 _) H;obtain⟨os,J,I,N⟩:=id C;have F:s.TypeIs (.ref S) "slice":=⟨os,J,I⟩
 unfold getItem
 try with_reducible refine wpAny_holding ?_
 first |refine cW8 (cX3 ?_)|skip
 refine cW8 (wpAny_sequenceKey B.typeIs ∎ ?_);refine cW8 (wpAny_callSpecial?_slot (name:=Str.ofString "__getitem__") B.typeIs PyProof.Rows.slot_tuple_getitem
  (cW9 PyProof.Rows.slot_tuple_getitem B.typeIs entry_tuple_getitem ?_ (args_tuple_getitem _ _)))
 show wpAny _ _ (Builtin.Tuple.tupleItemsOf (.ref t)>>=_) _ _ s;refine cW8 (tupleItemsOf_ B ?_);refine cW8 (wpAny_typeOf F ?_);rw[cW7 ∎];refine cW8 (aQ7 C P M ?_);have o:¬((((sIx i.size 0 lo:Nat):Int)==0&&(1:Int)==1&&(sIx i.size i.size H-sIx i.size 0 lo)==i.size)=true):=by
  intro q;rw[cK2,cK2]at q;have O:((sIx i.size 0 lo:Nat):Int)=0:=eq_of_beq q.1.1;have R:sIx i.size i.size H-sIx i.size 0 lo=i.size:=eq_of_beq q.2;exact L ⟨⋯,⋯⟩
 show wpAny _ _ (if(((sIx i.size 0 lo:Nat):Int)==0&&(1:Int)==1&&(sIx i.size i.size H-sIx i.size 0 lo)==i.size)=true then _ else _) _ _ s;rw[cW6 o,bV3]
 first
  |exact cW8 (m:=Builtin.Tuple.tupleExact _) (cX2 (cX3 ⟨_,rfl,cX3 h⟩) e)
  |exact cW8 (m:=Builtin.Tuple.tupleExact _) (cX2 (cW8 (cX3 (cX3 ⟨_,rfl,cX3 h⟩))) e)
  |exact cW8 (cW8 (m:=Builtin.Tuple.tupleExact _) (cX2 (cX3 (cX3 ⟨_,rfl,cX3 h⟩)) e))
  |exact cW8 (cW8 (m:=Builtin.Tuple.tupleExact _) (cX2 (cX3 ⟨_,rfl,cX3 h⟩) e))
end
end HT
namespace L2
abbrev TO:=St->Hp->(Option Int->Hp->Prop)->Prop
def PO(X:Cx)(e:Option Expr)(t:TO):Prop:=
 ∀(a:List (Addr×Obj)) (s:Shared) (w:St) (H:Hp) (Q:Option Int->Hp->Prop),Inv X a w H s->t w H Q->
  wpAny (model X.prog X.w) X.A (evalPart e X.env) (λu S=>∃o h,Inv X a w h S/\IsPart u o/\Q o h) X.xe s
def cd7:TO:=λ_ H Q=>Q none H
def cw1(t:TE):TO:=λw H Q=>t w H λx h=>∃i,x=.int i/\Q (some i) h
theorem aH1:∀{u:List Value},B9 (N.map V.int) u->IntsAre u N:=by
 induction N with
 |nil=>intro u r;rw[cJ0]at r;cases r;exact .nil
 |cons n N i=>
  intro u r;rw[cI9]at r;cases r with
  |cons R B=>
   obtain⟨t,e⟩:=R;subst e;exact .cons n t (i B)
section
variable {X:Cx}{e:Expr}{t:TE}{lo h:Option Expr}{g i:TO}{j p:Pos}
theorem bu8:PO X none cd7:=by
 intro a s w H Q I B;rw[evalPart_none];exact cX3 ⟨none,H,I,.none,B⟩
theorem bu7(F:PE X e t):PO X (some e) (cw1 t):=by
 intro a s W H Q I w;rw[evalPart_some];refine thn (F a s W H _ I w) λu S ⟨x,C,E,r,J⟩=> ?_
 obtain⟨B,rfl,q⟩:=J;obtain⟨L,rfl⟩:=r;exact⟨some B,C,E,.int B L,q⟩
def SlR(X:Cx)(r:V->Option Int->Option Int->Hp->VK->Prop):Prop:=
 ∀(a:List (Addr×Obj)) (s:Shared) (w:St) (H:Hp) (x:V) (v l u:Value) (lo h:Option Int) (S:Addr) (Q:VK),Inv X a w H s->C9 x v->s.heap.IsSliceOf S l u .none->IsPart l lo->IsPart u h->r x lo h H Q->
  ∃T id,typeLookup (.type T) "__getitem__"=pure (some (.builtin id))/\s.TypeIs v T/\wpAny (model X.prog X.w) X.A (getItem v (.ref S)) (EP X a w Q) X.xe s
theorem SlR.or(E:SlR X r)(F:SlR X J):SlR X (λx lo h H Q=>r x lo h H Q\/J x lo h H Q):=by
 intro a s w H x v l C lo h S Q I R B P u q;rcases q with q|q
 .exact E a s w H x v l C lo h S Q I R B P u q
 .exact F a s w H x v l C lo h S Q I R B P u q
def tSl(r:V->Option Int->Option Int->Hp->VK->Prop)(t:TE)(g i:TO):TE:=λw H Q=>t w H λx B=>g w B λl C=>i w C λu E=>r x l u E Q
theorem bn0(Y:SlR X r)(R:PE X e t)(W:PO X lo g)(c:PO X h i):PE X (.Subscript e (.Slice lo h none p) j) (tSl r t g i):=by
 intro a s w H Q I P;refine Subscript_ (thn (R a s w H _ I P) λv y ⟨aa,F,L,x,k⟩=> ?_);refine wpAny_Slice (thn (W a y w F _ L k) λB z ⟨l,J,M,d,n⟩=>thn (c a z w J _ M n) λC S ⟨u,E,N,f,o⟩=> ?_);rw[evalPart_none];refine cX3 ?_;have O:Inv X a w E {S with heap:=S.heap.push {cls:=.type "slice",data:=.fields #[B,C,.none]}}:=N.kept (t':=S.toks) λb ob q=>cL0 _ q
 obtain⟨T,id,hT,Z,U⟩:=Y a {S with heap:=S.heap.push {cls:=.type "slice",data:=.fields #[B,C,.none]}} w E aa v B C l u S.sz Q O x (Heap.IsSliceOf.new ..) d f o;show wpAny (model X.prog X.w) X.A (subscriptTail e (.Slice lo h none p) v (.ref S.sz)) (EP X a w Q) X.xe {S with heap:=S.heap.push {cls:=.type "slice",data:=.fields #[B,C,.none]}};exact tail_any (ops:=[.ref S.sz,v]) Z hT U (by with_unfolding_all rfl)
def au1(x:List V)(lo h:Option Int):List V:=(x.drop (HT.sIx x.length 0 lo)).take (HT.sIx x.length x.length h-HT.sIx x.length 0 lo)
theorem aP5(x:List V)(lo h:Option Int):(au1 x lo h).length<=x.length:=by
 unfold au1;rw[cR3,List.length_drop];omega
def cC5(K:cW0):V->Option Int->Option Int->Hp->VK->Prop:=λx lo h H Q=>∃a X,x=.ref a/\SqT K H a X/\
 ¬(HT.sIx X.length 0 lo=0/\HT.sIx X.length X.length h=X.length)/\∀P,H P=none->Q (.ref P) (upd H P (.tup (au1 X lo h)))
theorem cl2:SlR X (cC5 X.K):=by
 intro M s W H x v l N lo h S Q I R F P u E;obtain⟨a,B,rfl,J,w,q⟩:=E;cases R;obtain⟨L,r,C,z⟩:=I.tuple J;have n:L.toArray.size=B.length:=by rw[cT4];exact r.length.symm
 refine⟨"tuple",_,PyProof.Rows.slot_tuple_getitem.lookup,C.typeIs,?_⟩;refine HT.getItem_tuple_cut C F P u (by rw[n];exact w) ?_ (by rw[n];exact z);rw[n];refine⟨.ref s.sz,_,I.laid (t':=s.toks) (o:=.tup (au1 B lo h)) (λb o q=>cL0 _ q) (cT8 _) ?_,rfl,q _ (I.hok.fresh (cT8 _))⟩;exact⟨cU0 (aP5 B lo h) z,_,(r.drop (HT.sIx B.length 0 lo)).take (HT.sIx B.length B.length h-HT.sIx B.length 0 lo),IsTup.new _ _⟩
def cl7(K:cW0):R2:=λx y H Q=>∃a b n M,x=.ref a/\y=.ref b/\SqT K H a (n.map V.int)/\SqT K H b (M.map V.int)/\Q (.bl (HT.lexLt n M)) H
theorem co7(F:X.A.units<cLine):OpR X (compareOp .Lt) (cl7 X.K):=by
 intro W s w H x y v u Q I S U B;obtain⟨a,b,n,M,rfl,rfl,C,E,q⟩:=B;cases S;cases U;obtain⟨N,r,P,_⟩:=I.tuple C;obtain⟨O,R,p,_⟩:=I.tuple E;have J:IntsAre N.toArray.toList n:=aH1 r;have L:IntsAre O.toArray.toList M:=aH1 R;exact HT.lt_tupInts P p J L F ⟨.bl (HT.lexLt n M),H,I,rfl,q⟩
end
def ixN(n:Nat)(i:Int):Option Nat:=if 0<=i then(if i<n then some i.toNat else none)else if -(n:Int)<=i then some (i+n).toNat else none
def atI{B:Type}(x:List B)(i:Int):Option B:=(ixN x.length i).bind λj=>x[j]?
theorem bw7(h:ixN n i=some j):seqIndex? i n=some j/\j<n/\ -(n:Int)<=i/\i<n:=by
 unfold ixN at h;by_cases B:0<=i
 .rw[cW7 B]at h;by_cases H:i<n
  .rw[cW7 H]at h;have e:i.toNat=j:=cV9 h;exact⟨by rw[seqIndex_of B H,e],⋯,⋯,H⟩
  .rw[cW6 H]at h;cases h
 .rw[cW6 B]at h;by_cases H: -(n:Int)<=i
  .rw[cW7 H]at h;have e:(i+n).toNat=j:=cV9 h;exact⟨by rw[seqIndex_neg ⋯ H,e],⋯,H,⋯⟩
  .rw[cW6 H]at h;cases h
theorem bc8(h:atI x i=some v):∃j,seqIndex? i x.length=some j/\x[j]?=some v/\j<x.length/\ -(x.length:Int)<=i/\i<x.length:=by
 unfold atI at h;cases e:ixN x.length i with
 |none=>rw[e]at h;cases h
 |some j=>
  rw[e]at h;obtain⟨H,B,C,E⟩:=bw7 e;exact⟨j,H,h,B,C,E⟩
def aO4(b:Expr):Prop:=∀o i,subscripted b false o i=operate [o,i] (getItem o i)
def IxR(X:Cx)(r:R2):Prop:=
 ∀(e S:Expr) (a:List (Addr×Obj)) (s:Shared) (w:St) (H:Hp) (x y:V) (v u:Value) (Q:VK),Inv X a w H s->C9 x v->C9 y u->r x y H Q->
  subscripted S false v u=operate [v,u] (getItem v u)->wpAny (model X.prog X.w) X.A (subscriptTail e S v u) (EP X a w Q) X.xe s
def MtR(X:Cx)(id:String)(r:V->List V->Hp->VK->Prop):Prop:=
 ∀(a:List (Addr×Obj)) (s:Shared) (w:St) (H:Hp) (x:V) (B:List V) (v:Value) (u:List Value) (Q:VK),Inv X a w H s->C9 x v->B9 B u->r x B H Q->
  wpAny (model X.prog X.w) X.A (call (.builtin id) (v::u)) (EP X a w Q) X.xe s
section
variable {X:Cx}{a b:Expr}{n w:TE}{l:Pos}
theorem IxR.or(J:IxR X r)(L:IxR X M):IxR X (λx y H Q=>r x y H Q\/M x y H Q):=by
 intro F S B s W H x y v u Q I R E q C;rcases q with q|q
 .exact J F S B s W H x y v u Q I R E q C
 .exact L F S B s W H x y v u Q I R E q C
theorem ca2(L:IxR X r)(F:PE X a n)(J:PE X b w)(M:aO4 b):PE X (.Subscript a b l) (tOp r n w):=by
 intro C s W H Q I E;exact Subscript_ (bY5 F J I E λv u S x y B i R N q=>L a b C S W B x y v u Q i R N q (M _ _))
def cm0(K:cW0):R2:=λx y H Q=>∃p X i v,x=.ref p/\y=.int i/\SqL K H p X/\atI X i=some v/\Q v H
def cl8(K:cW0):R2:=λx y H Q=>∃p X i v,x=.ref p/\y=.int i/\SqT K H p X/\atI X i=some v/\Q v H
def cl9:R2:=λx y H Q=>∃z i c,x=.str z/\y=.int i/\z.length<=sizeLine/\atI z.cps.toList i=some c/\Q (.str ⟨#[c]⟩) H
theorem bw6:IxR X (cm0 X.K):=by
 intro ah ae E s N H ai aj ag af Q I x y O L;obtain⟨aa,xs,i,z,rfl,rfl,Z,U,q⟩:=O;cases x;obtain⟨t,rfl⟩:=y;obtain⟨c,r,p,hz⟩:=I.list Z;obtain⟨M,B,P,u,R,S⟩:=bc8 U;obtain⟨W,F,d⟩:=r.get P;have Y:=r.length;have v:=aK8;have fin:EP X E N Q W s:=⟨z,H,I,d,q⟩
 by_cases J:0<=i
 .have C:i.toNat=M:=by
   rw[seqIndex_of J S]at B;exact cV9 B
  exact item_listR p.isList J ⋯ (by rw[C];simpa using F) fin L
 .have C:(i+(c.toArray.size:Int)).toNat=M:=by
   rw[seqIndex_neg ⋯ R]at B;rw[cT4,<-Y];exact cV9 B
  exact subscriptTail_builtinR (x:=W) p.isList.typeIs slot_list_getitem.lookup
   (wpAny_getItem_list_neg (Q:=λr f=>r=W/\EP X E N Q r f) p.isList ⋯ (by rw[cT4]<;>omega) ⋯ (by rw[C];simpa using F) ⟨rfl,fin⟩) L
theorem cr1:IxR X (cl8 X.K):=by
 intro ag aa B s C H ah ai af ae Q I x y F R;obtain⟨p,xs,i,z,rfl,rfl,O,M,q⟩:=F;cases x;obtain⟨t,rfl⟩:=y;obtain⟨v,r,P,u⟩:=I.tuple O;obtain⟨S,J,L,Z,c,d⟩:=bc8 M;obtain⟨W,E,U⟩:=r.get L;have N:=r.length;have f:=aK8;have fin:EP X B C Q W s:=⟨z,H,I,U,q⟩
 exact subscriptTail_builtinR (x:=W) P.typeIs slot_tuple_getitem.lookup
  (getItem_tuple (j:=S) (Q:=λr Y=>r=W/\EP X B C Q r Y) P ⋯ ⋯ (by rw[cT4,<-N];exact J) (by simpa using E) ⟨rfl,fin⟩) R
theorem cr2:IxR X cl9:=by
 intro p d S s x H aa ae v u Q I R y F P;obtain⟨z,i,c,rfl,rfl,Y,N,q⟩:=F;obtain⟨t,rfl⟩:=R;obtain⟨f,rfl⟩:=y;obtain⟨Z,B,J,U,L,M⟩:=bc8 N;have O:z.cps.toList.length=z.length:=by simp[Str.length]
 rw[O]at B L M;have W:=aK8;exact tail_any (typeIs_str s z t) slot_str_getitem.lookup (getItem_str (c:=c) (by
  have E:decide (i< -(2^63:Int))=false:=cW3 ⋯;have C:decide (i>=2^63)=false:=cW3 ⋯;rw[E,C,Bool.or_false]) (by rw[B];simpa using J) ⟨.str ⟨#[c]⟩,H,I.tok _,⟨_,rfl⟩,q⟩) P
def rIx(K:cW0):R2:=λx y H Q=>cm0 K x y H Q\/cl8 K x y H Q\/cl9 x y H Q
theorem cr3:IxR X (rIx X.K):=bw6.or (cr1.or cr2)
theorem bA7(i:List Value)(N J:Nat)(u:Value):Obj.mapSeq (·.setIfInBounds J u) {cls:=.type "list",data:=.seq i.toArray N}={cls:=.type "list",data:=.seq (i.set J u).toArray N}:=by
 simp[Obj.mapSeq]
theorem Inv.lst(I:Inv X F W C S)(E:C P=⇑xs):
  ∃(B:List Value) (N:Nat),B9 xs B/\S.heap.get? P=some {cls:=.type "list",data:=.seq B.toArray N}/\xs.length<=sizeLine:=by
 obtain⟨z,B,N,r,e⟩:=I.hok P _ E;exact⟨B,N,r,e,z⟩
theorem Inv.lstUpd{E:List (Addr×Obj)}{W:St}{C:Hp}{S:Shared}{P:Addr}{R y:List V}{J B:List Value}{L N:Nat}{f:Obj->Obj}(I:Inv X E W C S)(M:C P=⇑R)
  (Q:S.heap.get? P=some {cls:=.type "list",data:=.seq J.toArray L}) (F:f {cls:=.type "list",data:=.seq J.toArray L}={cls:=.type "list",data:=.seq B.toArray N}) (r:B9 y B) (z:y.length<=sizeLine) (t:Nat):
  Inv X E W (upd C P (.lst y)) {S with heap:=S.heap.update P f,toks:=t}:=by
 have e:(S.heap.update P f).get? P=some {cls:=.type "list",data:=.seq B.toArray N}:=by
  rw[cL3 f Q (by rw[F]<;>rfl),F]
 refine I.write (x:=P) (e:=P) (by rw[M];trivial) (.inl rfl) (λb U O q=>(cL2 _ _ (Ne.symm O)).trans q) ⟨_,e⟩ ?_;exact⟨z,B,N,r,e⟩
def cx3:V->V->V->Hp->(Hp->Prop)->Prop:=λo i v H Q=>∃p x B J,o=.ref p/\i=.int B/\H p=⇑x/\ixN x.length B=some J/\Q (upd H p (.lst (x.set J v)))
theorem aQ8:cu0 X cx3:=by
 intro S s x H o aa v ov iv u Q I d c f U;obtain⟨p,y,L,J,rfl,rfl,P,Y,q⟩:=U;cases d;obtain⟨t,rfl⟩:=c;obtain⟨R,Z,r,F,z⟩:=I.lst P;obtain⟨B,h2,N,O⟩:=bw7 Y;have E:=r.length;have hn:=aK8;have i:Inv X S x (upd H p (.lst (y.set J v))) {s with heap:=s.heap.update p (Obj.mapSeq (·.setIfInBounds J u))}:=
  I.lstUpd P F (bA7 R Z J u) (r.set f J) (by rw[cR1];exact z) s.toks
 by_cases M:0<=L
 .have C:L.toNat=J:=by
   rw[seqIndex_of M O]at B;exact cV9 B
  exact W.ki_setAt F M ⋯ (by rw[cT4,<-E];exact O) (by rw[C];exact⟨_,i,q⟩)
 .have C:(L+(R.toArray.size:Int)).toNat=J:=by
   rw[seqIndex_neg ⋯ N]at B;rw[cT4,<-E];exact cV9 B
  exact W.ki_setBack F ⋯ (by rw[cT4,<-E];exact N) ⋯ (by rw[C];exact⟨_,i,q⟩)
theorem cc0(i:Int)(N:Nat):max 0 (min (if i<0 then i+N else i) (N:Int))=((if i<0 then(i+(N:Int)).toNat else min i.toNat N:Nat):Int):=by split<;>omega
theorem bl1(lo H:Option Int)(N:Nat):(sliceBounds lo H none N).1=((HT.sIx N 0 lo:Nat):Int)/\(sliceBounds lo H none N).2.1=((HT.sIx N N H:Nat):Int)/\(sliceBounds lo H none N).2.2=1:=by
 refine⟨?_,?_,rfl⟩
 .cases lo with
  |none=>rfl
  |some i=>exact cc0 i N
 .cases H with
  |none=>rfl
  |some i=>exact cc0 i N
theorem bi0(i:List Value)(lo H:Option Int):slicePick i.toArray lo H none=((i.drop (HT.sIx i.length 0 lo)).take (HT.sIx i.length i.length H-HT.sIx i.length 0 lo)).toArray:=by
 obtain⟨B,C,E⟩:=bl1 lo H i.toArray.size;unfold slicePick;rw[B,C,E];erw[sliceRange_one,pick_run,cT4]<;>rfl
def cC6(K:cW0):V->Option Int->Option Int->Hp->VK->Prop:=λx lo i H Q=>∃a X,x=.ref a/\SqL K H a X/\∀p,H p=none->Q (.ref p) (upd H p (.lst (au1 X lo i)))
theorem bt4:SlR X (cC6 X.K):=by
 intro M s W H x v U u lo i S Q I R J p P E;obtain⟨a,B,rfl,L,q⟩:=E;cases R;obtain⟨N,r,C,z⟩:=I.list L;have F:=r.length;refine⟨"list",_,slot_list_getitem.lookup,C.isList.typeIs,?_⟩;refine wpAny_getItem_list_slice C.isList J p P .none ∅ ?_ (by rw[cT4]<;>omega);rw[bi0,<-F];refine⟨.ref s.sz,_,I.laid (t':=s.toks) (o:=.lst (au1 B lo i)) (λb O q=>cL0 _ q) (cT8 _) ?_,rfl,q _ (I.hok.fresh (cT8 _))⟩;exact⟨cU0 (aP5 B lo i) z,_,0,(r.drop (HT.sIx B.length 0 lo)).take (HT.sIx B.length B.length i-HT.sIx B.length 0 lo),cL1 _ rfl⟩
def ao1:V->Bool
 |.non=>true
 |.bl _=>true
 |.int _=>true
 |.str _=>true
 |_=>false
def eqV:V->V->Bool
 |.non,.non=>true
 |.bl a,.bl b=>a==b
 |.bl a,.int b=>(if a then 1 else 0)==b
 |.int a,.bl b=>a==(if b then 1 else 0)
 |.int a,.int b=>a==b
 |.str a,.str b=>a==b
 |_,_=>false
theorem bN3(C:C9 y u)(R:C9 x v)(F:ao1 y=true)(f:ao1 x=true):SeqAt.EqAt A s u v (eqV y x):=by
 cases y with
 |non=>
  cases C;cases x with
  |non=>cases R;exact SeqAt.EqAt.same _
  |bl b=>cases R;exact SeqAt.EqAt.none_bool b
  |int b=>obtain⟨t,rfl⟩:=R;exact SeqAt.EqAt.none_int b t
  |str b=>obtain⟨t,rfl⟩:=R;exact SeqAt.EqAt.none_str b t
  |_=>exact absurd (show false=true from f) cK6
 |bl a=>
  cases C;cases x with
  |non=>cases R;exact SeqAt.EqAt.bool_none a
  |bl b=>cases R;exact SeqAt.EqAt.bool_bool a b
  |int b=>obtain⟨t,rfl⟩:=R;exact SeqAt.EqAt.bool_int a b t
  |str b=>obtain⟨t,rfl⟩:=R;exact SeqAt.EqAt.bool_str a b t
  |_=>exact absurd (show false=true from f) cK6
 |int a=>
  obtain⟨B,rfl⟩:=C;cases x with
  |non=>cases R;exact SeqAt.EqAt.int_none a B
  |bl b=>cases R;exact SeqAt.EqAt.int_bool a B b
  |int b=>obtain⟨t,rfl⟩:=R;exact SeqAt.EqAt.int_int a B b t
  |str b=>obtain⟨t,rfl⟩:=R;exact SeqAt.EqAt.int_str a B b t
  |_=>exact absurd (show false=true from f) cK6
 |str a=>
  obtain⟨B,rfl⟩:=C;cases x with
  |non=>cases R;exact SeqAt.EqAt.str_none a B
  |bl b=>cases R;exact SeqAt.EqAt.str_bool a B b
  |int b=>obtain⟨t,rfl⟩:=R;exact SeqAt.EqAt.str_int a B b t
  |str b=>obtain⟨t,rfl⟩:=R;exact SeqAt.EqAt.str_str a B b t
  |_=>exact absurd (show false=true from f) cK6
 |_=>exact absurd (show false=true from F) cK6
def eqU(x:V)(u:Value):Bool:=match u with
 |.none=>eqV .non x
 |.bool b=>eqV (.bl b) x
 |.int i _=>eqV (.int i) x
 |.str z _=>eqV (.str z) x
 |_=>false
theorem bN2(r:C9 y u)(f:ao1 y=true):eqU x u=eqV y x:=by
 cases y with
 |non=>cases r;rfl
 |bl b=>cases r;rfl
 |int i=>obtain⟨t,rfl⟩:=r;rfl
 |str z=>obtain⟨t,rfl⟩:=r;rfl
 |_=>exact absurd (show false=true from f) cK6
theorem aE6:∀{X:List V}{U:List Value},B9 X U->X.all ao1=true->U.any (eqU x)=X.any λy=>eqV y x
 |_,_,.nil,_=>rfl
 |y::X,u::U,.cons r t,f=>by
  rw[cO1,cK2]at f;rw[cO4,cO4,bN2 r f.1,aE6 t f.2]
theorem ax7(R:C9 x v)(F:ao1 x=true):∀{X:List V}{U:List Value},B9 X U->X.all ao1=true->∀u∈U,SeqAt.EqAt A s u v (eqU x u)
 |_,_,.nil,_=>λu H=>by cases H
 |y::X,u::U,.cons r t,f=>λB H=>by
  rw[cO1,cK2]at f;rcases cI4 H with rfl|H
  .rw[bN2 r f.1];exact bN3 r R f.1 F
  .exact ax7 R F t f.2 B H
def inV(x:V)(X:List V):Bool:=X.any λy=>eqV y x
def rIn(K:cW0)(N:Bool):R2:=λx y H Q=>∃p X,y=.ref p/\(SqL K H p X\/SqT K H p X)/\ao1 x=true/\X.all ao1=true/\Q (.bl (if N then !inV x X else inV x X)) H
theorem bJ8:OpR X (compareOp .In) (rIn X.K false):=by
 intro L s M H x y v u Q I R J E;obtain⟨p,N,rfl,B,F,f,q⟩:=E;cases J;rcases B with B|B
 .obtain⟨i,r,P,z⟩:=I.list B;refine SeqAt.in_listAt (eqU x) P.isList (λW C=>ax7 R F r f W (by simpa using C)) ⟨.bl _,H,I,rfl,?_⟩;rw[show i.toArray.any (eqU x)=i.any (eqU x) by simp,aE6 r f];exact q
 .obtain⟨i,r,P,z⟩:=I.tuple B;refine SeqAt.in_tupleAt (eqU x) P (λW C=>ax7 R F r f W (by simpa using C)) ⟨.bl _,H,I,rfl,?_⟩;rw[show i.toArray.any (eqU x)=i.any (eqU x) by simp,aE6 r f];exact q
theorem bn3:OpR X (compareOp .NotIn) (rIn X.K true):=by
 intro L s M H x y v u Q I R J E;obtain⟨p,N,rfl,B,F,f,q⟩:=E;cases J;rcases B with B|B
 .obtain⟨i,r,P,z⟩:=I.list B;refine SeqAt.notIn_listAt (eqU x) P.isList (λW C=>ax7 R F r f W (by simpa using C)) ⟨.bl _,H,I,rfl,?_⟩;rw[show i.toArray.any (eqU x)=i.any (eqU x) by simp,aE6 r f];exact q
 .obtain⟨i,r,P,z⟩:=I.tuple B;refine SeqAt.notIn_tupleAt (eqU x) P (λW C=>ax7 R F r f W (by simpa using C)) ⟨.bl _,H,I,rfl,?_⟩;rw[show i.toArray.any (eqU x)=i.any (eqU x) by simp,aE6 r f];exact q
theorem bq7:af0 X (.builtin "len") (λx H Q=>∃p y,x=[.ref p]/\(SqL X.K H p y\/SqT X.K H p y)/\Q (.int y.length) H):=by
 intro J s W H x U Q I r E;obtain⟨p,y,rfl,B,q⟩:=E;obtain⟨u,rfl,F⟩:=ar3 r;cases F;have L:=aK8;rcases B with B|B
 .obtain⟨i,R,P,z⟩:=I.list B;have C:=R.length;exact Calls.call_len_list P.isList (by erw[cT4]<;>omega) ⟨.int y.length,H,I.tok _,⟨s.toks+1,by rw[cT4,C]⟩,q⟩
 .obtain⟨i,R,P,z⟩:=I.tuple B;have C:=R.length;exact len_tuple P (by erw[cT4]<;>omega) ⟨.int y.length,H,I.tok _,⟨s.toks+1,by rw[cT4,C]⟩,q⟩
def tyV(K:cW0)(T:String)(x:V)(H:Hp):Prop:=match x with
 |.str _=>T="str"
 |.int _=>T="int"
 |.ref p=>(T="list"/\∃X,SqL K H p X)\/(T="tuple"/\∃o,K.lookup p=some o/\o.cls=.type "tuple"/\o.dict=none)\/
   (T="dict"/\((∃s,H p=some (.dK s))\/∃s,H p=some (.dT s)))\/(T="set"/\∃S N,H p=some (.set S N))
 |_=>False
theorem cj9(I:Inv X M W H s)(r:C9 x v)(y:tyV X.K T x H):
  s.TypeIs v T/\∀a,v=.ref a->∃O,s.heap.get? a=some O/\O.dict=none:=by
 cases x with
 |str z=>
  obtain⟨t,rfl⟩:=r;cases(show T="str"from y);exact⟨typeIs_str s z t,λ_ e=>nomatch e⟩
 |int i=>
  obtain⟨t,rfl⟩:=r;cases(show T="int"from y);exact⟨typeIs_int s i t,λ_ e=>nomatch e⟩
 |ref p=>
  cases r;rcases y with⟨rfl,R,J⟩|⟨rfl,o,B,F,d⟩|⟨rfl,B⟩|⟨rfl,S,N,B⟩
  .obtain⟨Q,_,P,_⟩:=I.list J;refine⟨P.isList.typeIs,λa e=> ?_⟩;cases e;obtain⟨o,N,e,c,d,_⟩:=P;exact⟨o,e,d⟩
  .refine⟨⟨o,I.kIn p o B,F⟩,λa e=> ?_⟩;cases e;exact⟨o,I.kIn _ o B,d⟩
  .have z:∃o,s.heap.get? p=some o/\o.ExactDict:=by
    rcases B with⟨L,B⟩|⟨L,B⟩
    .obtain⟨_,_,_,_,o,_,_,e,E,_⟩:=I.hok p _ B;exact⟨o,e,E⟩
    .obtain⟨_,_,_,_,o,_,_,e,E,_⟩:=I.hok p _ B;exact⟨o,e,E⟩
   obtain⟨o,e,E⟩:=z;refine⟨⟨o,e,E.1⟩,λa C=> ?_⟩;cases C;exact⟨o,e,E.2.1⟩
  .obtain⟨o,_,_,_,e,E,_⟩:=I.hok p _ B;refine⟨⟨o,e,E.1⟩,λa C=> ?_⟩;cases C;exact⟨o,e,E.2.1⟩
 |_=>exact False.elim y
def tBM(K:cW0)(T:String)(r:V->List V->Hp->VK->Prop)(k:TE)(t:TA):TE:=λW H Q=>k W H λx B=>tyV K T x B/\t W B λX C=>r x X C Q
variable {o e:Expr}{j:List Expr}{k:TE}{t:TA}{name:Str}{h g:Pos}{T id:String}{r:V->List V->Hp->VK->Prop}
theorem bj1(p:PlainAttrs T)(aa:Slot T name id)(y:typeOf (.builtin id)=pure (.type "method_descriptor"))(Y:MtR X id r)(Z:PE X o k)(O:PA X (e::j) t)
  (P:attributeBase o name X.env (eval o X.env)=eval o X.env)
  (S:((backTo g (starEach (e::j) X.env)).all (λx=> !x.1)&&(backToKw g (keywordEach [] X.env)).all (λx=>x.1.isSome)
   &&decide ((e::j).length+([]:List Keyword).length+(if([]:List Keyword).isEmpty then 0 else 1)<30))=true)
  (U:(h.endLine==g.line)=true) (d:StE X e j) (c:Bks X g j):
  PE X (.Call (.Attribute o name h) (e::j) [] g) (tBM X.K T r k t):=by
 intro B s W H Q I L;refine wpAny_Call_method_late P S U rfl (thn (Z B s W H _ I L) λae z ⟨x,E,i,R,ty,f⟩=> ?_);obtain⟨M,N⟩:=cj9 i R ty;refine⟨T,id,p,aa,y,M,N,?_⟩;have C:=O g B z W E _ i f;rw[d]at C⊢;refine Calls.callWith_builtin (by show(false||(backTo g (starEach j X.env)).any (·.1))=false;rw[c]<;>rfl) (Calls.evalArgs_plain ?_);exact thn C λus s2 ⟨vs,F,J,v,u⟩=>Y B s2 W F x vs ae us Q J R v u
end
def MtM(X:Cx)(id:String)(r:V->List V->Hp->VK->Prop):Prop:=
 ∀(a:List (Addr×Obj)) (s:Shared) (w:St) (H:Hp) (x:V) (B:List V) (v:Value) (u:List Value) (Q:VK),Inv X a w H s->C9 x v->B9 B u->r x B H Q->
  wpAny (model X.prog X.w) X.A (call (.builtin id) (v::u)) (EP X a w Q) X.xe s
theorem B9.one:∀{x:V}{U:List Value},B9 [x] U->∃u,U=[u]/\C9 x u
 |_,_,.cons r .nil=>⟨_,rfl,r⟩
theorem B9.rep(h:B9 x u):∀k:Nat,B9 (List.replicate k x).flatten (List.replicate k u).flatten
 |0=>.nil
 |k+1=>by
  rw[cT2,cT2,cP4,cP4];exact B9.append h (B9.rep h k)
theorem bf4(i:List Value):∀(k:Nat) (a:List Value),
  List.foldl (λx X=>x++X) a.toArray (List.replicate k i.toArray)=(a++(List.replicate k i).flatten).toArray
 |0,a=>∅
 |k+1,a=>by
  have e:a.toArray++i.toArray=(a++i).toArray:=∅
  have E:(a++i)++(List.replicate k i).flatten=a++(List.replicate (k+1) i).flatten:=by
   rw[cT2,cP4,List.append_assoc]
  rw[<-E,<-bf4 i k (a++i),<-e,cT2,cJ1]
section
variable {X:Cx}{aA:List (Addr×Obj)}{wW:St}{H:Hp}{s:Shared}{l b:Addr}{g y z:List V}
theorem Inv.lset{B its':List Value}{n:Nat}{f:Array Value->Array Value}{t:Nat}(I:Inv X aA wW H s)(h:H l=⇑g)
  (e:s.heap.get? l=some {cls:=.type "list",data:=.seq B.toArray n}) (E:f B.toArray=its'.toArray) (J:B9 y its') (L:y.length<=sizeLine):
  Inv X aA wW (upd H l (.lst y)) {s with heap:=s.heap.update l (Obj.mapSeq f),toks:=t}:=by
 have q:=PySem.IsL.update e f;rw[E]at q;refine I.write (x:=l) (e:=l) (by rw[h];exact trivial) (.inl rfl) (λM U C F=>(cL2 s.heap (Obj.mapSeq f) (Ne.symm C)).trans F) ⟨_,q⟩ ?_;exact⟨L,its',_,J,q⟩
theorem Inv.lnew(I:Inv X aA wW H s)(h:B9 y B)(C:y.length<=sizeLine):
  Inv X aA wW (upd H s.sz (.lst y)) {s with heap:=s.heap.push {cls:=.type "list",data:=.seq B.toArray},toks:=t'}:=
 I.laid (λ_ _ q=>cL0 _ q) (cT8 _) ⟨C,B,0,h,cL1 _ rfl⟩
theorem Inv.fresh(I:Inv X aA wW H s):H s.sz=none:=I.hok.fresh (cT8 _)
theorem Inv.lstM(I:Inv X aA wW H s)(h:H l=⇑g):g.length<=sizeLine/\∃(B:List Value) (n:Nat),B9 g B/\g.length=B.length/\s.heap.get? l=some {cls:=.type "list",data:=.seq B.toArray n}:=by
 obtain⟨Z,B,n,r,e⟩:=I.hok l _ h;exact⟨Z,B,n,r,r.length,e⟩
theorem bn7(h:n<=sizeLine):Builtin.List.listTooLong n=false:=by
 unfold Builtin.List.listTooLong;exact cW3 ⋯
end
section
variable {X:Cx}
def ce8:V->List V->Hp->VK->Prop:=λx v H Q=>∃l X y,x=.ref l/\v=[y]/\H l=⇑X/\X.length<sizeLine/\Q .non (upd H l (.lst (X++[y])))
theorem aK7:MtM X "list.append" ce8:=by
 intro a s w H x M v U Q I E C h;obtain⟨l,N,y,rfl,rfl,B,L,q⟩:=h;cases E;obtain⟨u,rfl,R⟩:=C.one;obtain⟨z,i,n,r,J,e⟩:=I.lstM B;refine call_meets F.slot_list_append ⟨_,e,rfl⟩ F.entry_list_append (F.args_list_append_2 _ _) (PySem.list_append l i.toArray n u (by rw[cT4];omega)) ⟨e,?_⟩;refine⟨.non,_,I.lset (its':=i++[u]) B e ∅ (r.append (.cons R .nil)) ?_,rfl,q⟩;rw[cQ7,cR2];omega
def ce7:V->List V->Hp->VK->Prop:=λx v H Q=>∃l b X z,x=.ref l/\v=[.ref b]/\H l=⇑X/\H b=⇑z/\X.length+z.length<=sizeLine/\Q .non (upd H l (.lst (X++z)))
theorem bK8:MtM X "list.extend" ce7:=by
 intro a s w H x Y v W Q I O N h;obtain⟨l,b,Z,d,rfl,rfl,C,J,U,q⟩:=h;cases O;obtain⟨u,rfl,M⟩:=N.one;cases M;obtain⟨z,i,n,r,P,e⟩:=I.lstM C;obtain⟨c,B,n2,R,S,E⟩:=I.lstM J;have L:i.toArray.size+B.toArray.size<=sizeLine:=by rw[cT4,cT4];omega
 have g:¬(!i.toArray.isEmpty&&Builtin.List.listTooLong (i.toArray.size+B.toArray.size))=true:=by
  rw[bn7 L,Bool.and_false];exact cK6
 refine call_meets F.slot_list_extend ⟨_,e,rfl⟩ F.entry_list_extend (F.args_list_extend_2 _ _)
  (AutoSeq1.list_extend_list_list_0 l i.toArray n b B.toArray n2 g (by rw[cT4];omega) ⋯) ⟨e,E,?_⟩
 refine⟨.non,_,I.lset (its':=i++B) C e ∅ (r.append R) ?_,rfl,q⟩;rw[cQ7];omega
def cm1:R2:=λx y H Q=>∃l b X z,x=.ref l/\y=.ref b/\H l=⇑X/\H b=⇑z/\X.length+z.length<=sizeLine/\∀p,H p=none->Q (.ref p) (upd H p (.lst (X++z)))
theorem co9:OpR X (binaryOp .Add) cm1:=by
 intro M s w H x y v u Q I J L h;obtain⟨l,b,S,U,rfl,rfl,F,C,P,q⟩:=h;cases J;cases L;obtain⟨z,i,n,r,N,e⟩:=I.lstM F;obtain⟨Z,B,n2,R,O,E⟩:=I.lstM C;refine PySem.P.add_list e E ?_ (by rw[cT4,cT4];omega);have a:i.toArray++B.toArray=(i++B).toArray:=∅
 rw[a];exact⟨.ref _,_,I.lnew (t':=s.toks) (r.append R) (by rw[cQ7];omega),rfl,q _ I.fresh⟩
def cl5:R2:=λx y H Q=>∃l k X,x=.ref l/\y=.int k/\H l=⇑X/\ -(2^63)<=k/\k<2^63/\X.length*k.toNat<=sizeLine/\
 ∀p,H p=none->Q (.ref p) (upd H p (.lst (List.replicate k.toNat X).flatten))
theorem ch9(x:List B)(k:Nat):(List.replicate k x).flatten.length=k*x.length:=by
 induction k with
 |zero=>simp
 |succ k i=>rw[cT2,cP4,cQ7,i,cV5,Nat.add_comm]
theorem co2:OpR X (binaryOp .Mult) cl5:=by
 intro W s Z H x y v u Q I R S h;obtain⟨l,k,b,rfl,rfl,M,J,L,E,q⟩:=h;cases R;obtain⟨t,rfl⟩:=S;obtain⟨z,i,n,r,O,e⟩:=I.lstM M;have P:i.toArray.size*k.toNat<=sizeLine:=by rw[cT4,<-O];exact E
 have p:¬i.toArray.size*k.toNat>(2^63-1)/8:=by
  have :(sizeLine:Nat)<=(2^63-1)/8:=∎
  omega
 have N:¬(!Builtin.List.listFitsIndex k)=true:=by
  rw[fitsIndex_both J L];exact cK6
 have g:¬Builtin.List.listTooLong (i.toArray.size*k.toNat)=true:=by
  rw[bn7 P];exact cK6
 have w:List.foldl (λB C=>B++C) #[] (List.replicate (if i.toArray.isEmpty=true then 0 else k.toNat) i.toArray)=(List.replicate k.toNat i).flatten.toArray:=by
  have f0:∀m:Nat,List.foldl (λB C=>B++C) #[] (List.replicate m i.toArray)=(List.replicate m i).flatten.toArray:=λm=>by
   have :=bf4 i m [];rw[cJ5]at this;exact this
  rw[f0];cases i with
  |nil=>simp
  |cons a Y=>rw[cW6 ∅]
 refine wpAny_binaryOp_repeat_ref (T:="list") (U:="int") ∎ ⟨_,e,rfl⟩ (λU=>typeIs_int U k t) noFill_list_mul F.fills_int_mul F.slot_int_rmul repeat_list F.slot_int_index.lookup
  (call_meets F.slot_int_rmul (typeIs_int s k t) F.entry_int_rmul (F.args_int_rmul_2 _ _) (int___rmul___int_list k t l i.toArray n)
   ⟨e,rfl,⟨_,e,rfl⟩,call_meets F.slot_list_mul ⟨_,e,rfl⟩ F.entry_list_mul (F.args_list_mul_2 _ _) (AutoListH.list___mul___list_int_3 l i.toArray n k t N p g) ⟨e,?_⟩⟩)
 rw[w];exact⟨.ref _,_,I.lnew (t':=s.toks) (r.rep k.toNat) (by rw[ch9,cU7];exact E),rfl,q _ I.fresh⟩
end
section
variable {p:Program}{w:World}{A:Around}{E:Value->Shared->Prop}{s:Shared}
end
section
variable {X:Cx}
end
end L2
namespace Att
open PySem PySem.W PySem.Calls PyProof.Rows
theorem aW7:∀(N:List Int) (v:List Value),WellAll P h v (N.map WData.int)->IntsAre v N:=by
 intro N;induction N with
 |nil=>
  intro v w;rw[cJ0]at w;cases w;exact .nil
 |cons n N i=>
  intro v w;rw[cI9]at w;cases w with
  |cons a b=>
   cases a;exact .cons _ _ (i _ b)
theorem bG3{l:OpenLaw}{n:Nat}(L:l.most=some n){P:Params}{h:Heap}{args:List WData}{v:List Value}
  (e:l.row.toRowW.claim.pre args=true) (O:WellAll P h v args):
  ∃a s N,v=[Value.ref a]/\args=[WData.list (N.map WData.int)]/\h.get? a=some {cls:=.type "list",data:=.seq s.toArray}/\IntsAre s N/\N.length<=n:=by
 have M:WShape.hasAll [] args [.list .int]=true:=(pre_splitW e).1;have c:l.pre.holds [] {args:=args}=true:=(pre_splitW e).2;obtain⟨d,r,rfl,C,E⟩:=hasAllW_cons M;obtain rfl:=hasAllW_nil E;obtain⟨x,rfl,F⟩:=hasW_list C;obtain⟨N,rfl⟩:=items_int F;have J:N.length<=n:=by
  unfold OpenLaw.pre at c;have H:(WTm.not (.lt (.lit (.int (n:Int))) (.len (.arg 0)))).holds [] {args:=[.list (N.map .int)]}=true:=by
   have H:=(holds_andW c).1;rw[L]at H;exact H
  have B:=condW_of H (w_not (w_lt w_lit (w_len_list (w_arg rfl))));rw[cQ8]at B;refine Nat.le_of_not_lt λq=> ?_
  have Q:(n:Int)<((N.length:Nat):Int):=⋯
  first
   |(rw[cW4 Q]at B;exact absurd B ∎)
   |(simp at B;omega)
 cases O with
 |cons w W=>
  cases W;cases w with
  |list o I=>exact⟨_,_,N,rfl,rfl,o,aW7 N _ I,J⟩
theorem bI8(l:OpenLaw)(args:List WData):l.row.toRowW.claim.post args (.bool true) args=true:=
 postW_of (r:=l.row.toRowW) (X:=(true==true))
  (show WShape.has [] (.bool true) .bool=true by first |rfl|decide|simp[WShape.has,WShape.arms,WShape.armsAll])
  (show(WTm.eq .res (.lit (.bool true))).value [] {args:=args,res:=some (.bool true),after:=args}=some (.bool (true==true))from w_eq_bool (w_res rfl) w_lit) rfl
theorem attach_call{l:OpenLaw}{n:Nat}{q:Program}{L:List Str}{X:(Str->Option Value)->Heap->Prop}{y:World->Heap->Prop}{d:DefRec}
  (Z:l.most=some n) (P:d.params.defaults=[])
  (call:∀(w:World) (C s:Shared) (M b:Str->Option Value) (F:Addr) (o:Obj) (p c B:Value) (a:Addr) (v:List Value) (N:List Int),
   Ground q L [] X w C M b s.heap->y w s.heap->
   s.heap.get? F=some o->o.data=.func (docDef d.name d.params d.body d.scope p c B)->s.heap.CodeRec c d.name->M d.name=some (.ref F)->
   s.heap.get? a=some {cls:=.type "list",data:=.seq v.toArray}->IntsAre v N->N.length<=n->s.gens=#[]->
   codeAny (model l.prog w) callerA (.call (.ref F) ⟨[.ref a],[]⟩) (λr S=>r=.ok (.ret (.bool true))/\OldK s.heap S.heap/\S.os=s.os/\AllBare S.gens) s):
  WalkO q L X y l.row.toRowW d [] (λf v=>PySem.call f v):=by
 intro w C s M b G Y F o p c B E kV e O J hD W g args aa as i u z t x;obtain rfl:E=.none:=Dflts.none hD P;obtain rfl:kV=.none:=Dflts.noKw hD;obtain⟨a,v,N,rfl,rfl,j,Q,R⟩:=bG3 Z i t;refine enter_call (codeAny_mono (call w C s M b F o p c B a v N G Y e (fd_plain O) J W j Q R g) λr S k=> ?_);obtain⟨rfl,h,H,I⟩:=k;exact⟨.inl ⟨.bool true,.bool true,[],rfl,λ_=>rfl,.bool true,bI8 l _,λ_=>⟨List.Pairwise.nil,λ_ U=>(nomatch U)⟩⟩,h,H,I⟩
section
variable {p:Program}{w:World}{A:Around}{E:Value->Shared->Prop}{s:Shared}{K:Frag}
end
end Att
namespace L2
theorem be2:∀{v:List Value}{N:List Int},IntsAre v N->B9 (N.map V.int) v
 |_,_,.nil=>.nil
 |_,_,.cons n t h=>.cons ⟨t,rfl⟩ (be2 h)
def cE7(H:Hp):Prop:=∀b,H b=none\/∃o x,H b=some (.frz o (.lst x))
abbrev KOf{K:cW0}{h:Heap}(_:K.In h):cW0:=K
def aE4(s:Stmt):Arguments:=match s with
 |.FunctionDef _ a _ _ _ _ _ _ _ _=>a
 |_=>{posonlyargs:=[],args:=[],vararg:=none,kwonlyargs:=[],kw_defaults:=[],kwarg:=none,defaults:=[]}
def O9(s:Stmt):List Stmt:=match s with
 |.FunctionDef _ _ b _ _ _ _ _ _ _=>b
 |_=>[]
def t7(s:Stmt):Scope:=match s with
 |.FunctionDef _ _ _ _ _ _ S _ _ _=>S
 |_=>{kind:=.function,names:=[],isGenerator:=false,isCoroutine:=false}
abbrev CX0:CXT:=λ_ _ _ _ _ _=>False
abbrev E0:XK:=λ_ _ _=>False
theorem aV5:aa8 CX0 X E0:=λ_ _ _ _ _ _ _ h=>h.elim
structure Fun(K:cW0)(x qual:Str)(st:Stmt)(f:Addr)(fd:FuncData):Prop where
 ex:∃(oc:Value) (od:Option Addr) (kV doc pm:Value) (an:Option Addr) (cdv ct:Value) (osl:Array (Option Value)),
  fd=W.fnOf x qual (aE4 st) (O9 st) (t7 st) .none kV doc pm an cdv ct/\K.lookup f=some ⟨oc,od,.func fd,osl⟩/\W.codeIn K cdv qual=true
 kp:W.keepIn K (.ref f)=true
section
variable {P:Program}{w:World}{K:cW0}{g:Str->Option Value}{h:Heap}
theorem Fun.ok{X l:Str}{st:Stmt}{f:Addr}{d:FuncData}{N p:List Str}{k:Nat}{B:Sp}(F:Fun K X l st f d)(S:Q1 N p (t7 st))(n:∀v H Q E,B v H Q E->v.length=p.length)
  (y:∀(c:Value) (A:Around) (a:List Env) (s:Shared) (H:Hp) (v:List V) (Q:VK) (E:XK),G9 k (A.deeper (envOfC l (t7 st) s.sz f c))->B v H Q E->
   ∃t,PSs (F9 CX0 P w K g h N l (t7 st) f c A a s H E).nox (O9 st) t/\t {nx:=λ_ C=>Q .non C,rt:=Q} (start N v) H):S4 P w K g h CX0 (k+1) f d p B:=by
 obtain⟨o,U,kV,R,Z,M,c,O,Y,rfl,lk,J⟩:=F.ex;refine bC2 lk J S n λA a s H v Q E r L=> ?_
 obtain⟨t,I,q⟩:=y c A a s H v Q E r L;exact⟨t,I.nox,q⟩
theorem Fun.binds{X Q:Str}{st:Stmt}{f:Addr}{B:FuncData}{P:List Str}(F:Fun K X Q st f B)
  (H:∀(kV d p:Value) (a:Option Addr) (c C:Value) (u:List Value),u.length=P.length->bindArgs (W.fnOf X Q (aE4 st) (O9 st) (t7 st) .none kV d p a c C) ⟨u,[]⟩=pure (P.zip u)):R9 K B P []:=by
 obtain⟨o,O,kV,d,p,a,c,C,l,rfl,lk,E⟩:=F.ex;exact .all (H kV d p a c C)
end
section
variable {X:Cx}
end
theorem au0{A B:Prop}(h:B):if false=true then A else B:=by
 rw[cW6 cK6];exact h
theorem at9{A B:Prop}(h:A):if true=true then A else B:=by
 rw[cW7 rfl];exact h
def D7(H h:Hp):Prop:=∀b o,H b=some o->h b=some o
theorem D7.refl(H:Hp):D7 H H:=λ_ _ h=>h
theorem D7.trans(a:D7 H B)(b:D7 B C):D7 H C:=λc o h=>b c o (a c o h)
theorem D7.free(e:D7 H B)(h:B l=cV8):H l=cV8:=by
 cases q:H l with
 |none=>rfl
 |some o=>
  rw[e l o q]at h;cases h
theorem D7.seq{K:cW0}{H B:Hp}{a:Addr}{x:List V}(e:D7 H B)(h:SqL K H a x):SqL K B a x:=by
 rcases h with(h|⟨o,h⟩)|h
 .exact .inl (.inl (e _ _ h))
 .exact .inl (.inr ⟨o,e _ _ h⟩)
 .exact .inr h
end L2
open L2
namespace L3
noncomputable abbrev mr(n:Nat)(f:Nat->B):=(List.range n).map f
theorem ak2:mr (a+b) f=mr a f++mr b λj=>f (a+j):=by unfold mr;rw[cS9,cR5,cR7];rfl
inductive T where
 |non|bl (b:Bool)|int (i:Int)|str (x:Str)|tup (xs:List T)|lst (xs:List T)|ref (a:Nat)|scr (ns:List Int)|obj (fs:List Str) (ts:List T)
abbrev A3:=List (Option T)
abbrev G:=A3->Option T
abbrev GB:=A3->Option Bool
abbrev GL:=A3->Option (List T)
noncomputable def D3(i:Nat):G:=λQ=>(Q[i]?).join
noncomputable def gC(t:T):G:=λ_=>some t
abbrev gI(n:Int):G:=gC (.int n)
abbrev d8:=D3 0
abbrev d9:=D3 1
abbrev l7:=D3 2
abbrev n9:=D3 3
abbrev v8:=D3 4
abbrev u0:=D3 5
abbrev C7:=D3 6
abbrev L6:=D3 7
abbrev an9:=D3 8
abbrev S6:=D3 9
abbrev at3:=D3 10
abbrev l8:=gI 0
abbrev j4:=gI 1
abbrev r9:=gI 2
abbrev ac8:=gI 3
abbrev Z4:=gI 8
abbrev ak3:=gI 20
abbrev ao0:=gI 64
noncomputable def gs:List G->GL
 |[],_=>some []
 |a::r,Q=>(a Q).bind λx=>(gs r Q).bind λX=>some (x::X)
noncomputable def g1(f:T->Option T)(a:G):G:=λQ=>(a Q).bind f
noncomputable def g2(f:T->T->Option T)(a b:G):G:=λQ=>(a Q).bind λx=>(b Q).bind λy=>f x y
def gN(f:List T->Option T)(as:List G):G:=λQ=>(gs as Q).bind f
def y8(as:List G):G:=λQ=>(gs as Q).bind λx=>some (.tup x)
def A1(as:List G):G:=λQ=>(gs as Q).bind λx=>⇑x
noncomputable def toB:T->Option Bool
 |.bl b=>some b
 |_=>none
noncomputable def toL:T->Option (List T)
 |.lst x=>some x
 |_=>none
noncomputable def toI:T->Option Int
 |.int i=>some i
 |_=>none
def bOf(g:G):GB:=λQ=>(g Q).bind toB
def E8(a b:G):G:=λQ=>(bOf a Q).bind λc=>if c then b Q else ↑false
def gOr(a b:G):G:=λQ=>(bOf a Q).bind λc=>if c then ↑true else b Q
def aT0(a:G):G:=λQ=>(bOf a Q).bind λc=>↑(!c)
noncomputable def gIf(c:GB)(a b:G):G:=λQ=>(c Q).bind λc=>if c then a Q else b Q
noncomputable def V1(a b:GB):GB:=λQ=>(a Q).bind λc=>if c then b Q else some false
noncomputable def bOr(a b:GB):GB:=λQ=>(a Q).bind λc=>if c then some true else b Q
noncomputable def ac1(a:GB):GB:=λQ=>(a Q).bind λc=>some !c
def aE2(f F:T->T->Option T)(a b c:G):G:=λQ=>(a Q).bind λx=>(b Q).bind λy=>((f x y).bind toB).bind λk=>if k then(c Q).bind λz=>F y z else ↑false
noncomputable def big(i:Int):Bool:=decide (i.natAbs<2^4000)
noncomputable def sm(i:Int):Bool:=decide (-(2^64)<i)&&decide (i<2^64)
noncomputable def lim:Nat:=1000000
def y9:T->T->Option T
 |.int i,.int j=>↥(i+j)
 |.lst x,.lst y=>if x.length+y.length<=lim then ⇑(x++y)else none
 |_,_=>none
noncomputable def opN(f:Int->Int->Option T):T->T->Option T
 |.int i,.int j=>f i j
 |_,_=>none
def ay3:=opN λi j=>↥(i-j)
def J9:T->T->Option T
 |.int i,.int j=>if(big i&&big j)||(sm i||sm j)then ↥(i*j)else none
 |.lst x,.int k=>if 0<=k/\x.length*k.toNat<=lim/\k<=lim then ⇑((List.replicate k.toNat x).flatten)else none
 |_,_=>none
def J7:=opN λi j=>if 0<j&&big j then ↥(i/j)else none
def F8:=opN λi j=>if 0<j then ↥(i%j)else none
def ab8:=opN λi j=>if 0<=j/\j<=1000/\i.natAbs<2^64 then ↥(i^j.toNat)else none
noncomputable def O5:T->Option T
 |.int i=>↥(-i)
 |_=>none
def fLt:=opN λi j=>↑(decide (i<j))
def fLe:=opN λi j=>↑(decide (i<=j))
def fGt:=opN λi j=>↑(decide (j<i))
def fGe:=opN λi j=>↑(decide (j<=i))
noncomputable def ac9(f:T->T->Option Bool):List T->List T->Option Bool
 |[],_=>some true
 |_::_,[]=>some true
 |x::X,y::Y=>(f x y).bind λa=>(ac9 f X Y).bind λb=>some (a&&b)
def eqD:Nat->T->T->Option Bool
 |0,_,_=>none
 |_+1,.non,.non=>some true
 |_+1,.bl a,.bl b=>some (a==b)
 |_+1,.int a,.int b=>some (a==b)
 |_+1,.str a,.str b=>some (a==b)
 |n+1,.tup x,.tup y=>(ac9 (eqD n) x y).bind λb=>some (b&&x.length==y.length)
 |n+1,.lst x,.lst y=>if x.length=y.length then ac9 (eqD n) x y else some false
 |_+1,.scr N,.lst []=>some N.isEmpty
 |_+1,_,_=>none
def fEq(x y:T):Option T:=(eqD 8 x y).bind λb=>↑b
def fNe(x y:T):Option T:=(eqD 8 x y).bind λb=>↑(!b)
noncomputable def U7:T->Bool
 |.non=>true
 |_=>false
noncomputable def cD9(x:T):Option T:=↑(U7 x)
noncomputable def cz2(x:T):Option T:=↑(!(U7 x))
noncomputable def S5:List T->Option (List Int)
 |[]=>some []
 |.int i::r=>(S5 r).bind λI=>some (i::I)
 |_=>none
noncomputable def at8:List Int->List Int->Bool
 |[],[]=>false
 |[],_::_=>true
 |_::_,[]=>false
 |x::X,y::Y=>if x=y then at8 X Y else decide (x<y)
def bC5:T->T->Option T
 |.tup x,.tup y=>(S5 x).bind λn=>(S5 y).bind λM=>↑(at8 n M)
 |_,_=>none
noncomputable def ixT(n:Nat)(i:Int):Option Nat:=if 0<=i then(if i<n then some i.toNat else none)else if -(n:Int)<=i then some (i+n).toNat else none
noncomputable def cE1(i:Int)(x:T):List Int->List T->List T
 |k::B,t::s=>if k=i then x::s else t::cE1 i x B s
 |_,_=>[x]
def M8:T->T->Option T
 |.tup x,.int i=>(ixT x.length i).bind λj=>x[j]?
 |.lst x,.int i=>(ixT x.length i).bind λj=>x[j]?
 |.scr n,.int i=>(ixT n.length i).bind λj=>n[j]?.map T.int
 |_,_=>none
abbrev e8:=g2 M8
noncomputable def bc3(lo:Nat)(H:Option Nat)(x:List T):List T:=match H with
 |none=>x.drop lo
 |some h=>(x.take h).drop lo
noncomputable def ai1(lo:Nat)(H:Option Nat):T->Option T
 |.tup x=>if min lo x.length=0/\(H.elim x.length λh=>min h x.length)=x.length then none else some (.tup (bc3 lo H x))
 |.lst x=>⇑(bc3 lo H x)
 |_=>none
def fIn:T->T->Option T
 |.int i,.tup x=>(S5 x).bind λI=>↑(I.contains i)
 |.int i,.lst x=>(S5 x).bind λI=>↑(I.contains i)
 |_,_=>none
def W7(x y:T):Option T:=(fIn x y).bind fun |.bl b=>↑(!b)|_=>none
noncomputable def A7:List T->Option T
 |[.tup x]=>↥x.length
 |[.lst x]=>↥x.length
 |[.scr n]=>↥n.length
 |_=>none
noncomputable def T7:List T->Option (List Bool)
 |[]=>some []
 |.bl i::r=>(T7 r).bind λI=>some (i::I)
 |_=>none
def af9:List T->Option T
 |[.lst x]=>(T7 x).bind λb=>↑(b.all id)
 |_=>none
def bc2:List T->Option T
 |[.lst x]=>(T7 x).bind λb=>↑(b.any id)
 |_=>none
noncomputable def bC6:List T->Option T
 |[.int i]=>↥(if i<0 then -i else i)
 |_=>none
noncomputable def aH8:List T->Option T
 |[.int i,.int j]=>↥(if j>i then j else i)
 |_=>none
noncomputable def aW9:List T->Option T
 |[.int i,.int j]=>↥(if j<i then j else i)
 |_=>none
noncomputable def aj9:List T->Option T
 |[.int i]=>↥i
 |[.bl k]=>↥(if k then 1 else 0)
 |_=>none
inductive Kd where | int | bool | tuple | list | str
noncomputable def isK(k:Kd):T->Option Bool
 |.non=>some false
 |.bl _=>some (match k with |.int=>true|.bool=>true|_=>false)
 |.int _=>some (match k with |.int=>true|_=>false)
 |.str _=>some (match k with |.str=>true|_=>false)
 |.tup _=>some (match k with |.tuple=>true|_=>false)
 |.lst _=>some (match k with |.list=>true|_=>false)
 |.ref _=>none
 |.scr _=>none
 |.obj _ _=>none
noncomputable def af8(k:Kd)(x:T):Option T:=(isK k x).bind λb=>↑b
noncomputable def Z6(n:Nat)(a:List Nat)(Q:A3):A3:=List.replicate n none++a.map λi=>(Q[i]?).join
abbrev St1:=T->A3->Option A3
noncomputable def stN(i:Nat):St1:=λt Q=>some (Q.set i (some t))
noncomputable def st2(i j:Nat):St1
 |.tup [x,y],Q=>some ((Q.set i (some x)).set j (some y))
 |_,_=>none
noncomputable def st3(i j k:Nat):St1
 |.tup [x,y,z],Q=>some (((Q.set i (some x)).set j (some y)).set k (some z))
 |_,_=>none
noncomputable def aa6(Q:A3)(st:St1)(c:GB)(e:G):List T->Option (List T)
 |[]=>some []
 |x::X=>(st x Q).bind λB=>(c B).bind λb=>if b then(e B).bind λt=>(aa6 Q st c e X).bind λr=>some (t::r)else aa6 Q st c e X
def o0(i:GL)(n:Nat)(a:List Nat)(st:St1)(c:GB)(e:G):G:=λQ=>(i Q).bind λx=>
 if x.length<=lim then(aa6 (Z6 n a Q) st c e x).bind λr=>⇑r else none
noncomputable def u5:GB:=λ_=>some true
def itL(g:G):GL:=λQ=>(g Q).bind toL
noncomputable def U4:List T->List T->List T
 |x::X,y::Y=>.tup [x,y]::U4 X Y
 |_,_=>[]
def itZ(a b:G):GL:=λQ=>(itL a Q).bind λx=>(itL b Q).bind λy=>some (U4 x y)
noncomputable def S7:Nat->List T->List T
 |_,[]=>[]
 |n,x::X=>.tup [.int n,x]::S7 (n+1) X
def itE(a:G):GL:=λQ=>(itL a Q).bind λx=>some (S7 0 x)
noncomputable def O2(lo:Int)(n:Nat):List T:=(List.range n).map λ(i:Nat)=>T.int (lo+(i:Int))
def itR(a:G):GL:=λQ=>((a Q).bind toI).bind λn=>if -lim<=n/\n<=lim then some (O2 0 n.toNat)else none
inductive Out where | nx(qQ:A3) | ret(t:T) | bk(qQ:A3) | ct(qQ:A3)
abbrev GS:=A3->Option Out
noncomputable def z9:GS:=λQ=>some (.nx Q)
noncomputable def m8(a b:GS):GS:=λQ=>(a Q).bind λo=>match o with |.nx B=>b B|o=>some o
noncomputable def o6(i:Nat)(g:G):GS:=λQ=>(g Q).bind λt=>some (.nx (Q.set i (some t)))
noncomputable def sSt(st:St1)(g:G):GS:=λQ=>(g Q).bind λt=>(st t Q).bind λB=>some (.nx B)
noncomputable def bl4(i j:Nat)(a b:G):GS:=λQ=>(a Q).bind λx=>(b Q).bind λy=>some (.nx ((Q.set i (some x)).set j (some y)))
noncomputable def t5(g:G):GS:=λQ=>(g Q).bind λt=>some (.ret t)
noncomputable def sIf(c:GB)(a b:GS):GS:=λQ=>(c Q).bind λk=>if k then a Q else b Q
noncomputable def N4(st:St1)(b:GS):List T->GS
 |[],B=>some (.nx B)
 |x::X,B=>(st x B).bind λC=>(b C).bind λo=>match o with
  |.nx Q=>N4 st b X Q
  |.ct Q=>N4 st b X Q
  |.bk Q=>some (.nx Q)
  |.ret t=>some (.ret t)
noncomputable def P1(i:GL)(st:St1)(b:GS):GS:=λQ=>(i Q).bind λx=>N4 st b x Q
noncomputable def K8(c:GB)(b:GS):Nat->GS
 |0,_=>none
 |n+1,B=>(c B).bind λk=>if k then(b B).bind λo=>match o with
  |.nx Q=>K8 c b n Q
  |.ct Q=>K8 c b n Q
  |.bk Q=>some (.nx Q)
  |.ret t=>some (.ret t)else some (.nx B)
noncomputable def A0(n:Nat)(t:List T):A3:=t.map some++List.replicate (n-t.length) none
noncomputable def al3:Option Out->Option T
 |some (.ret t)=>some t
 |some (.nx _)=>some .non
 |_=>none
def A6(k n:Nat)(b:GS)(t:List T):Option T:=if t.length=k then al3 (b (A0 n t))else none
mutual
noncomputable def aj8:T->Bool
 |.tup x=>aH7 x
 |.lst _=>false
 |.scr _=>false
 |.obj _ _=>false
 |_=>true
noncomputable def aH7:List T->Bool
 |[]=>true
 |x::X=>aj8 x&&aH7 X
end
noncomputable def D5(a:List Nat)(Q:A3):A3:=a.foldl (λr i=>r.set i none) Q
def gM(a:List Nat)(g:G):G:=λQ=>g (D5 a Q)
def gLM(a:List Nat)(g:GL):GL:=λQ=>g (D5 a Q)
noncomputable def gF(g:G):G:=λQ=>(g Q).bind λt=>if aj8 t then some t else none
def aF7(i:Nat)(g:G):GS:=λQ=>(g Q).bind λt=>match(Q[i]?).join with
 |⇑s=>if s.length<lim then some (.nx (Q.set i ⇑(s++[t])))else none
 |_=>none
def aZ8(i:Nat)(B g:G):GS:=λQ=>(g Q).bind λt=>(B Q).bind λk=>match(Q[i]?).join,k with
 |⇑s,.int j=>(ixT s.length j).bind λn=>some (.nx (Q.set i ⇑(s.set n t)))
 |_,_=>none
noncomputable def an6:List Int->Option Int
 |[]=>none
 |x::X=>match an6 X with |none=>some x|some y=>some (if y<x then y else x)
def av1:List T->Option T
 |[.lst x]=>(S5 x).bind λi=>(an6 i).bind λm=>↥m
 |_=>none
noncomputable def aR9(f:Str):List Str->List T->Option T
 |k::s,t::B=>if f=k then some t else aR9 f s B
 |_,_=>none
noncomputable def K4(f:Str):T->Option T
 |.obj F t=>aR9 f F t
 |_=>none
noncomputable def av0(b:Bool):T->Option T
 |.bl c=>↑(!(c==b))
 |_=>none
noncomputable def aa0:List T->List T->List T->List T
 |x::X,y::Y,z::Z=>.tup [x,y,z]::aa0 X Y Z
 |_,_,_=>[]
def bB3(a b c:G):GL:=λQ=>(itL a Q).bind λx=>(itL b Q).bind λy=>(itL c Q).bind λz=>some (aa0 x y z)
noncomputable def gFr(g:G):G:=λQ=>(g Q).bind λt=>match t with |.lst x=>⇑x|_=>none
inductive Res where | val(t:T) | exc(c:Str)
inductive bD2 where | o(o:Out) | exc(c:Str)
abbrev GR:=A3->Option bD2
noncomputable def U6(g:GS):GR:=λQ=>(g Q).bind λo=>some (.o o)
noncomputable def af7(a b:GR):GR:=λQ=>(a Q).bind λr=>match r with |.o (.nx B)=>b B|r=>some r
noncomputable def rIf(c:GB)(a b:GR):GR:=λQ=>(c Q).bind λk=>if k then a Q else b Q
noncomputable def bT7(c:Str):GR:=λ_=>some (.exc c)
def ak8(F:List T->Option Res)(l:List G):GR:=λQ=>(gs l Q).bind λx=>(F x).bind λr=>match r with
 |.val _=>some (.o (.nx Q))
 |.exc c=>some (.exc c)
noncomputable def al4:Option bD2->Option Res
 |some (.o (.ret t))=>some (.val t)
 |some (.o (.nx _))=>some (.val .non)
 |some (.exc c)=>some (.exc c)
 |_=>none
def aA9(k n:Nat)(g:GR)(t:List T):Option Res:=if t.length=k then al4 (g (A0 n t))else none
noncomputable def X0(F:List T->Option Res)(s:List T):Option T:=(F s).bind λr=>match r with
 |.val t=>some t
 |.exc _=>none
noncomputable def aH9:List Str:=["BadNet"]
noncomputable def aF4(F:List T->Option Res)(s:List T):Option T:=(F s).bind λr=>match r with
 |.val t=>some t
 |.exc c=>if c∈aH9 then some (.str c)else none
def au6(F:List T->Option Res)(l:List G)(x:List T):Option T:=(gs l (x.map some)).bind (aF4 F)
noncomputable def bb7(e:Nat)(b:Bool)(g:G):G:=λQ=>(g Q).bind λt=>match t with
 |.ref a=>if a=e then ↑b else none
 |_=>none
noncomputable def bC4:T->T->Option T
 |.int i,.int j=>↑(!decide (i=j))
 |_,_=>none
def aW8:List T->Option T
 |[.lst x]=>(S5 x).bind λi=>if(i.all λn=>decide (0<=n)&&decide (n<=1))&&decide (i.length<=1000)then ↥i.sum else none
 |_=>none
def bc1:T->Option T
 |.lst x=>(T7 x).bind λb=>(b.findIdx? id).bind λj=>if b.length<=1000 then ↥(j:Nat)else none
 |_=>none
noncomputable def aQ9(n d:Nat):Option Int->Nat
 |none=>d
 |some v=>if v<0 then(v+(n:Int)).toNat else min v.toNat n
noncomputable def al5(x:List T)(lo h:Option Int):List T:=(x.drop (aQ9 x.length 0 lo)).take (aQ9 x.length x.length h-aQ9 x.length 0 lo)
def gPt:Option L3.G->A3->Option (Option Int)
 |none,_=>some none
 |some g,Q=>(g Q).bind λt=>(toI t).bind λi=>some (some i)
def gSl(a:L3.G)(lo H:Option L3.G):L3.G:=λQ=>(a Q).bind λt=>(gPt lo Q).bind λl=>(gPt H Q).bind λh=>match t with
 |.lst s=>⇑(al5 s l h)
 |_=>none
def ax0(i:Nat)(g:L3.G):GS:=λQ=>(g Q).bind λt=>match(Q[i]?).join,t with
 |⇑s,.lst u=>if s.length+u.length<=lim then some (.nx (Q.set i ⇑(s++u)))else none
 |_,_=>none
noncomputable def fsB:List Str:=["sought","rows","owners","under"]
noncomputable def bdT(q:Int)(r os:List T)(u:Int):T:=.obj fsB [.int q,.lst r,.lst os,.int u]
noncomputable def aZ9(i:Nat)(F:List T->Option T)(g1 g2:L3.G):GS:=λQ=>(g1 Q).bind λx=>(g2 Q).bind λy=>((Q[i]?).join).bind λt=>(F [t,x,y]).bind λB=>some (.nx (Q.set i (some B)))
def aR0(n:Nat)(g:GS)(t:List T):Option T:=(g (A0 n t)).bind λo=>match o with
 |.nx Q=>(Q[0]?).join
 |_=>none
mutual
noncomputable def aq0:T->Bool
 |.tup x=>az6 x
 |.lst x=>az6 x
 |.obj _ _=>false
 |_=>true
noncomputable def az6:List T->Bool
 |[]=>true
 |x::X=>aq0 x&&az6 X
end
noncomputable def fsV:List Str:=["sought","rows","under"]
def vwT:T->T
 |.obj _ [q,r,_,u]=>.obj fsV [q,r,u]
 |t=>t
def vw(i:Nat)(Q:A3):A3:=match(Q[i]?).join with
 |some t=>Q.set i (some (vwT t))
 |none=>Q
def gV(i:Nat)(g:L3.G):L3.G:=λQ=>(g (vw i Q)).bind λt=>if aq0 t then some t else none
noncomputable def bdP:T->Option (Int×List T)
 |.obj _ [.int q,.lst _,.lst os,.int _]=>some (q,os)
 |_=>none
def bi4(Q:A3)(t b E o F:T):Option Out:=(toL t).bind λB=>(bdP b).bind λx=>(toI E).bind λc=>(toI o).bind λC=>(toL F).bind λs=>
 (ixT B.length c).bind λn=>(ixT x.2.length c).bind λN=>(ixT s.length C).bind λm=>(s[m]?).bind λk=>(toI k).bind λu=>some (.nx ((Q.set 4 ⇑(B.set n (.lst s))).set 0 (some (bdT x.1 (B.set n (.lst s)) (x.2.set N (.int C)) u))))
def bi6(g:L3.G):GS:=λQ=>(gV 0 g Q).bind λt=>(d8 Q).bind λb=>(d9 Q).bind λc=>(l7 Q).bind λo=>(n9 Q).bind λk=>bi4 Q t b c o k
def bB6(gs C E g B:L3.G)(Q:A3):Option T:=(gs (D5 [0] Q)).bind λs=>
 (C (D5 [0] (Q.set 4 (some s)))).bind λq=>(E (D5 [0] (Q.set 4 (some s)))).bind λr=>(g (D5 [0] (Q.set 4 (some s)))).bind λl=>(B (D5 [0] (Q.set 4 (some s)))).bind λo=>match q,r,o with
  |.int q,.lst rs,.lst os=>if rs.length<lim then some (bdT q (rs++[l]) os 1)else none
  |_,_,_=>none
def bR4(n:Nat)(gs B r g o:L3.G)(t:List T):Option T:=bB6 gs B r g o (A0 n (.non::t))
def aU7(i:Nat)(l:List L3.G)(f B F:List T->Option T)(g:L3.G):GS:=λQ=>(gs l Q).bind λs=>(f s).bind λt0=>(B [t0]).bind λt1=>(F [t1]).bind λt2=>(g (Q.set i (some t2))).bind λt=>some (.ret t)
noncomputable def ab9(x y:T):Option T:=match y with |.non=>cD9 x|_=>none
noncomputable def bp7(x y:T):Option T:=match y with |.non=>cz2 x|_=>none
noncomputable def Z3(B:Int->Option Int):Int->Int->List Int->Option Int
 |c,_,[]=>some c
 |c,k,x::X=>(B x).bind λy=>if y<k then Z3 B x y X else Z3 B c k X
noncomputable def cq5(y:Int->Option Int):List Int->Option T
 |[]=>some .non
 |x::r=>(y x).bind λk=>(Z3 y x k r).bind λm=>↥m
noncomputable def cb5(x y:T):Option T:=(toL x).bind λX=>(toL y).bind λos=>(S5 X).bind λI=>(S5 os).bind λk=>cq5 (λi=>(ixT k.length i).bind λj=>k[j]?) I
noncomputable def aK6:T->Bool
 |.non=>true
 |.tup _=>true
 |_=>false
noncomputable def aL3(x:T):Option T:=(toL x).bind λX=>if X.all aK6 then ↑(X.any U7)else none
noncomputable def T0:T:=.tup [.int 0,.int 1]
noncomputable def ca7(i:Nat)(Q:A3):Nat:=match(Q[i]?).join with |↥k=>k.natAbs|_=>0
noncomputable def ap0(Q:A3):Nat:=ca7 1 Q+2
noncomputable def aP4(Q:A3):Nat:=ca7 3 Q+2
noncomputable def ay0(_:A3):Nat:=5
noncomputable def ae5(Q:A3):Nat:=match(Q[0]?).join with
 |some (T.obj _ [_,.lst (.lst r::_),.lst os,_])=>r.length^os.length+1
 |_=>0
noncomputable def ax9:=ae5
def aY2:=t5 (E8 (g1 (af8 .int) d8) (aT0 (g1 (af8 .bool) d8)))
def aj7:=A6 1 1 aY2
def ay8:=m8 (λQ=>K8 (bOf (g2 fNe d9 l8)) (m8 (o6 2 (g2 F8 d8 d9)) (m8 (o6 0 d9) (o6 1 l7))) (ap0 Q) Q) (t5 d8)
def Z1:=A6 2 3 ay8
def aJ2:=t5 (E8 (g1 (af8 .tuple) d8) (E8 (g2 fEq (gN A7 [d8]) r9) (E8 (gN aj7 [e8 d8 l8]) (E8 (gN aj7 [e8 d8 j4]) (E8 (g2 fGt (e8 d8 j4) l8) (g2 fEq (gN Z1 [e8 d8 l8,e8 d8 j4]) j4))))))
def ak9:=A6 1 1 aJ2
def bh6:=m8 (o6 2 (gN Z1 [d8,d9])) (t5 (y8 [g2 J7 d8 l7,g2 J7 d9 l7]))
def ae0:=A6 2 3 bh6
def bP1:=t5 (gN ae0 [g2 y9 (g2 J9 (e8 d8 l8) (e8 d9 j4)) (g2 J9 (e8 d9 l8) (e8 d8 j4)),g2 J9 (e8 d8 j4) (e8 d9 j4)])
def ab0:=A6 2 2 bP1
def by4:=t5 (gN ab0 [d8,y8 [g1 O5 (e8 d9 l8),e8 d9 j4]])
def an1:=A6 2 2 by4
def bd4:=t5 (gN ae0 [g2 J9 (e8 d8 l8) (e8 d9 l8),g2 J9 (e8 d8 j4) (e8 d9 j4)])
def af6:=A6 2 2 bd4
def aO5:=m8 (o6 1 (gC T0)) (m8 (P1 (itL d8) (stN 2) (o6 1 (gN ab0 [d9,l7]))) (t5 d9))
def Y3:=A6 1 3 aO5
def aM1:=t5 (g2 fGt (g2 J9 (e8 d8 l8) (e8 d9 j4)) (g2 J9 (e8 d9 l8) (e8 d8 j4)))
def R6:=A6 2 2 aM1
def aL9:=t5 (o0 (itZ d8 d9) 2 [3,1,2,0] (st2 0 1) u5 (g2 J7 (g2 ay3 (g2 J9 d8 (e8 n9 v8)) (g2 J9 d9 (e8 u0 v8))) l7))
def ad4:=A6 4 4 aL9
def Gi1:=o0 (itR (gN A7 [l7])) 1 [2] (stN 0) u5 (o0 (itR (gN A7 [d9])) 1 [0] (stN 0) u5 (gIf (bOf (g2 fEq d8 d9)) j4 l8))
def Gi2:=gN A7 [d9]
def Gi3:=o0 (bB3 l7 v8 n9) 3 [] (st3 0 1 2) u5 (g2 y9 (g2 y9 d8 d9) (A1 [l7]))
def Gi4:=g2 y9 (o0 (itL d9) 1 [] (stN 0) u5 (g1 O5 d8)) (o0 (itR (g2 y9 (gN A7 [l7]) j4)) 1 [] (stN 0) u5 l8)
def Gi5:=o0 (itR (gN A7 [l7])) 1 [1] (stN 0) u5 (g2 y9 (gN A7 [d9]) d8)
def aM7:=bR4 5 Gi1 Gi2 Gi3 Gi4 Gi5
def br6:=m8 (o6 3 (gV 0 (e8 (g1 (K4 "rows") d8) d9))) (m8 (sIf (bOf (g2 fLt (e8 n9 l7) l8)) (o6 3 (gV 0 (o0 (itL n9) 1 [] (stN 0) u5 (g1 O5 d8)))) z9) (bi6 (o0 (itL (g1 (K4 "rows") d8)) 1 [3,2,0] (stN 0) u5 (gN ad4 [d8,d9,l7,g1 (K4 "under") n9]))))
def ao5:=aR0 5 br6
def aE8:=m8 (o6 1 j4) (m8 (P1 (itL d8) (stN 2) (o6 1 (g2 J9 d9 (e8 l7 j4)))) (t5 d9))
def ad7:=A6 1 3 aE8
def ay9:=m8 (o6 1 (o0 (itR (gN A7 [g1 (K4 "owners") d8])) 1 [0] (stN 0) (bOf (g2 fLt (e8 (e8 (g1 (K4 "rows") d9) d8) (g1 O5 j4)) l8)) d8)) (t5 (g2 cb5 d9 (g1 (K4 "owners") d8)))
def Z2:=A6 1 2 ay9
def ao4:=m8 (P1 (itE d8) (st2 1 2) (sIf (bOf (g2 fLt l7 l8)) (t5 d9) z9)) (t5 (gC .non))
def E9:=A6 1 3 ao4
def au3:=m8 (o6 1 (gF (gN Z2 [d8]))) (λQ=>K8 (bOf (g2 bp7 d9 (gC .non))) (m8 (aZ9 0 ao5 (gF d9) (gF (gN E9 [gSl (e8 (g1 (K4 "rows") d8) d9) none (some (g1 O5 j4))]))) (o6 1 (gF (gN Z2 [d8])))) (ax9 Q) Q)
def af4:=aR0 2 au3
def aM0:=m8 (o6 4 (e8 (g1 (K4 "rows") d8) l7)) (m8 (o6 5 (e8 (g1 (K4 "rows") d8) n9)) (m8 (o6 6 (g2 ay3 (g2 J9 (e8 v8 (g1 O5 j4)) (e8 u0 d9)) (g2 J9 (e8 u0 (g1 O5 j4)) (e8 v8 d9)))) (t5 (gOr (g2 fLt C7 l8) (E8 (g2 fEq C7 l8) (g2 fLt (e8 (g1 (K4 "owners") d8) l7) (e8 (g1 (K4 "owners") d8) n9)))))))
def ad6:=A6 4 7 aM0
def aE7:=m8 (o6 2 (gC .non)) (m8 (P1 (itR (gN A7 [g1 (K4 "owners") d8])) (stN 3) (sIf (V1 (bOf (g2 fGt (e8 (e8 (g1 (K4 "rows") d8) n9) d9) l8)) (bOr (bOf (g2 ab9 l7 (gC .non))) (bOf (gN ad6 [d8,d9,n9,l7])))) (o6 2 n9) z9)) (t5 l7))
def ad5:=A6 2 4 aE7
def bd5:=m8 (o6 1 (gF (gN E9 [gSl (e8 (g1 (K4 "rows") d8) (g1 O5 j4)) none (some (g1 O5 j4))]))) (λQ=>K8 (bOf (g2 bp7 d9 (gC .non))) (m8 (aZ9 0 ao5 (gF (gN ad5 [d8,d9])) (gF d9)) (o6 1 (gF (gN E9 [gSl (e8 (g1 (K4 "rows") d8) (g1 O5 j4)) none (some (g1 O5 j4))])))) (ae5 Q) Q)
def aF0:=aR0 2 bd5
def aM5:=m8 (o6 2 (gFr (gM [] (o0 (itR (g1 (K4 "sought") d8)) 1 [] (stN 0) u5 (gC T0))))) (m8 (P1 (gLM [2] (itE (g1 (K4 "owners") d8))) (st2 3 4) (sIf (bOf (g2 fLt v8 (g1 (K4 "sought") d8))) (aZ8 2 v8 (gF (gN ae0 [e8 (e8 (g1 (K4 "rows") d8) n9) (g1 O5 j4),g2 J9 (g1 (K4 "under") d8) d9]))) z9)) (t5 l7))
def ai7:=A6 2 5 aM5
def aP8:=t5 (o0 (itL (gSl (e8 (g1 (K4 "rows") d8) (g1 O5 j4)) (some (g1 (K4 "sought") d8)) (some (g1 O5 j4)))) 1 [0] (stN 0) u5 (gN ae0 [d8,g1 (K4 "under") d9]))
def ak7:=A6 1 1 aP8
def bs0:=m8 (o6 3 (gM [] (gN ad7 [l7]))) (aU7 4 [d8,d9,o0 (itL l7) 1 [3] (stN 0) u5 (g2 J9 (e8 d8 l8) (g2 J7 d9 (e8 d8 j4)))] aM7 af4 aF0 (y8 [gN ai7 [v8,n9],gN ak7 [v8]]))
def aF1:=A6 3 5 bs0
def bP3:=t5 (E8 (g1 (af8 .tuple) d8) (g2 fEq (gN A7 [d8]) r9))
def bh8:=A6 1 1 bP3
def aQ1:=t5 (E8 (g1 (af8 .tuple) d8) (g2 fEq (gN A7 [d8]) ac8))
def ac4:=A6 1 1 aQ1
def aQ0:=t5 (E8 (gN aj7 [d8]) (aE2 fLe fLe d9 d8 l7))
def ac3:=A6 3 3 aQ0
def bh7:=t5 (E8 (gN ac4 [d8]) (E8 (gN ac3 [e8 d8 l8,l8,g2 ay3 d9 j4]) (E8 (gN ac3 [e8 d8 j4,l8,g2 ay3 d9 j4]) (E8 (g2 fNe (e8 d8 l8) (e8 d8 j4)) (gN ac3 [e8 d8 r9,l7,n9])))))
def X5:=A6 4 4 bh7
def aM4:=t5 (gN af9 [o0 (itZ d8 (g1 (ai1 1 none) d8)) 2 [] (st2 0 1) u5 (g2 bC5 (g1 (ai1 0 (some 2)) d8) (g1 (ai1 0 (some 2)) d9))])
def ad8:=A6 1 1 aM4
def aY7:=t5 (E8 (g1 (af8 .list) d8) (E8 (g2 fLe (gN A7 [d8]) (gI 10)) (E8 (gN af9 [o0 (itL d8) 1 [1] (stN 0) u5 (gN X5 [d8,d9,j4,ak3])]) (gN ad8 [d8]))))
def ab3:=A6 2 2 aY7
def aQ4:=t5 (E8 (g1 (af8 .list) d8) (E8 (aE2 fLe fLe j4 (gN A7 [d8]) ac8) (gN af9 [o0 (itL d8) 1 [1] (stN 0) u5 (gN X5 [d8,d9,j4,ak3])])))
def ac5:=A6 2 2 aQ4
def br8:=t5 (E8 (gN ac4 [d8]) (E8 (gN ac3 [e8 d8 l8,r9,gI 6]) (E8 (gN ab3 [e8 d8 j4,e8 d8 l8]) (gN ac5 [e8 d8 r9,e8 d8 l8]))))
def ae9:=A6 1 1 br8
def aQ2:=t5 (E8 (gN ak9 [d8]) (g2 fGe (e8 d8 l8) l8))
def X6:=A6 1 1 aQ2
def aU1:=t5 (E8 (g1 (af8 .list) d8) (E8 (g2 fEq (gN A7 [d8]) d9) (gN af9 [o0 (itL d8) 1 [] (stN 0) u5 (gN X6 [d8])])))
def N6:=A6 2 2 aU1
def aA4:=t5 (E8 (g1 (af8 .list) d9) (E8 (g2 fEq (gN A7 [d9]) (gN A7 [e8 d8 r9])) (gN af9 [o0 (itL d9) 1 [0] (stN 0) u5 (gN N6 [d8,gN A7 [e8 d9 j4]])])))
def R7:=A6 2 2 aA4
def bP4:=m8 (o6 3 (gC T0)) (m8 (P1 (itZ d8 d9) (st2 4 5) (m8 (sIf (bOf (g2 fEq (e8 v8 j4) l7)) (o6 3 (gN ab0 [n9,u0])) z9) (sIf (bOf (g2 fEq (e8 v8 l8) l7)) (o6 3 (gN an1 [n9,u0])) z9))) (t5 n9))
def at6:=A6 3 6 bP4
def aP9:=m8 (o6 3 (o0 (itR (e8 d8 l8)) 1 [1] (stN 0) (bOf (g2 W7 d8 (g1 (ai1 0 (some 2)) d9))) d8)) (t5 (gN af9 [o0 (itL n9) 1 [2,0] (stN 0) u5 (g2 fEq (gN at6 [e8 l7 j4,d9,d8]) (gC T0))]))
def as2:=A6 3 4 aP9
def aA3:=t5 (gN af9 [o0 (itZ (e8 d8 r9) d9) 2 [0] (st2 0 1) u5 (gN as2 [l7,d8,d9])])
def ab1:=A6 2 2 aA3
def bP2:=t5 (gN Y3 [o0 (itL d8) 1 [1] (stN 0) u5 (e8 d8 d9)])
def bs2:=A6 2 2 bP2
def aY4:=t5 (aT0 (gN bc2 [o0 (itE (e8 d8 j4)) 2 [1] (st2 0 1) u5 (gN R6 [gN bs2 [l7,d8],y8 [e8 d9 r9,j4]])]))
def ao7:=A6 2 2 aY4
def ae8:=rIf (ac1 (bOf (gN ae9 [d8]))) (bT7 "BadNet") (U6 z9)
def X7:=aA9 1 1 ae8
def as1:=rIf (ac1 (bOf (gN R7 [d8,d9]))) (bT7 "BadFlow") (U6 z9)
def ao8:=aA9 2 2 as1
def br9:=af7 (ak8 X7 [d8]) (af7 (ak8 ao8 [d8,d9]) (U6 (t5 (E8 (gN ab1 [d8,d9]) (gN ao7 [d8,d9])))))
def aO8:=aA9 2 2 br9
def aM2:=af7 (ak8 X7 [d8]) (af7 (ak8 ao8 [d8,d9]) (U6 (t5 (o0 (itZ (e8 d8 r9) d9) 2 [0] (st2 0 1) u5 (gN at6 [e8 l7 j4,d9,e8 d8 j4])))))
def av5:=aA9 2 2 aM2
def aC0(R:List T->Option T):=m8 (sIf (bOf (g2 fEq (e8 d9 (g1 O5 j4)) l7)) (t5 (A1 [A1 []])) z9) (m8 (o6 3 (gC (.lst []))) (m8 (P1 (gLM [3] (itE d8)) (st2 4 5) (sIf (V1 (bOf (g2 fEq (e8 u0 l8) (e8 d9 (g1 O5 j4)))) (bOf (g2 W7 (e8 u0 j4) d9))) (ax0 3 (gM [3] (o0 (itL (gN R [d8,g2 y9 d9 (A1 [e8 u0 j4]),l7])) 1 [4] (stN 0) u5 (g2 y9 (A1 [d9]) d8)))) z9)) (t5 n9)))
def P6:Nat->List T->Option T
 |0,_=>none
 |n+1,t=>A6 3 6 (aC0 (P6 n)) t
def ak6:=P6 7
def aY1:=m8 (o6 1 (gC (.lst []))) (m8 (P1 (gLM [1] (itE (e8 d8 r9))) (st2 2 3) (ax0 1 (gM [1] (o0 (itL (gN ak6 [e8 d8 j4,A1 [e8 n9 l8],e8 n9 j4])) 1 [2] (stN 0) u5 (y8 [d9,d8]))))) (t5 d9))
def ao6:=A6 1 4 aY1
def aX8:=t5 (g2 y9 (A1 [gIf (bOf (g2 ab9 l7 (gC .non))) d8 l8]) (o0 (itL d9) 1 [3] (stN 0) u5 (gIf (bOf (g2 fEq (e8 d8 l8) d9)) (g1 O5 j4) l8)))
def av2:=A6 4 4 aX8
def bh2:=t5 (g2 y9 (A1 [l8]) (o0 (itL d8) 1 [1] (stN 0) u5 (gIf (bOf (g2 fIn d9 (e8 d8 j4))) j4 l8)))
def aA7:=A6 2 2 bh2
def aY6:=t5 (o0 (itZ d9 (e8 d8 r9)) 2 [] (st2 0 1) u5 (gN af6 [d8,y8 [e8 d9 r9,j4]]))
def ab2:=A6 2 2 aY6
def aQ3:=m8 (o6 2 (gN ab2 [d8,o0 (itL d9) 1 [] (stN 0) u5 (gIf (bOf (g2 ab9 d8 (gC .non))) (gC T0) (y8 [g1 O5 (e8 d8 l8),e8 d8 j4]))])) (t5 (g2 y9 l7 (o0 (itL (e8 d8 j4)) 1 [] (stN 0) u5 (y8 [e8 d8 r9,j4]))))
def as3:=A6 2 3 aQ3
def aY5:=m8 (o6 5 (o0 (itR d8) 1 [] (stN 0) u5 (gC T0))) (m8 (o6 6 v8) (m8 (P1 (itZ d9 l7) (st2 7 8) (sIf (bOf (g2 fEq (e8 L6 l8) n9)) (m8 (o6 9 (gIf (bOf (gN R6 [an9,C7])) C7 an9)) (m8 (o6 6 (gN an1 [C7,S6])) (o6 5 (o0 (itE u0) 2 [9,7] (st2 0 1) u5 (gIf (bOf (g2 fIn d8 (e8 n9 j4))) (gN ab0 [d9,l7]) d9))))) z9)) (t5 u0)))
def av4:=A6 5 10 aY5
def br7:=m8 (o6 2 (gM [] (gN ao6 [d8]))) (m8 (o6 3 (gM [] (gN A7 [e8 d8 r9]))) (m8 (o6 4 (gFr (gM [] (o0 (itR n9) 1 [2,1,0] (stN 0) u5 (gN av2 [e8 (e8 (e8 n9 r9) d8) r9,d9,e8 l7 d8,d8]))))) (m8 (ax0 4 (gM [4] (o0 (itR (gN A7 [e8 d8 j4])) 1 [2] (stN 0) u5 (gN aA7 [d9,d8])))) (m8 (o6 5 (gM [] (gN aF1 [g2 y9 (A1 [j4]) (o0 (itL l7) 1 [] (stN 0) u5 l8),v8,gN as3 [d8,d9]]))) (m8 (o6 6 (gM [] (e8 (e8 u0 l8) l8))) (m8 (o6 7 (gM [] (gN ab2 [d8,o0 (itL d9) 1 [6] (stN 0) u5 (gIf (bOf (g2 ab9 d8 (gC .non))) d9 d8)]))) (m8 (o6 8 (gM [] (o0 (itR n9) 1 [2,7,0,5] (stN 0) u5 (gN av4 [gN A7 [e8 n9 j4],d9,g1 (ai1 1 none) (e8 v8 l8),d8,e8 l7 d8])))) (t5 (y8 [C7,an9,y8 [gSl (e8 u0 j4) (some n9) none,gSl (e8 u0 j4) none (some n9)]])))))))))
def Q9:=A6 2 9 br7
def bP5:=t5 (gN Y3 [o0 (itL d9) 1 [0] (stN 0) u5 (e8 d9 d8)])
def aZ1:=A6 2 2 bP5
def by2:=t5 (gN Y3 [o0 (itZ d9 (e8 d8 j4)) 2 [] (st2 0 1) u5 (gN af6 [d8,y8 [e8 d9 r9,j4]])])
def aO7:=A6 2 2 by2
def al6:=af7 (ak8 X7 [d8]) (U6 (t5 (gN Q9 [d8,o0 (itL (e8 d8 r9)) 1 [] (stN 0) u5 (gC .non)])))
def W9:=aA9 1 1 al6
def aU2:=t5 (E8 (gN R7 [d8,d9]) (E8 (gN (X0 aO8) [d8,d9]) (g2 fEq (gN (X0 av5) [d8,d9]) (gN ab2 [d8,l7]))))
def W4:=A6 3 3 aU2
def aY3:=t5 (E8 (gN bh8 [d9]) (E8 (gN N6 [e8 d9 l8,gN A7 [e8 d8 j4]]) (E8 (gN N6 [e8 d9 j4,gN A7 [e8 d8 r9]]) (aT0 (gN bc2 [o0 (itL (gN ao6 [d8])) 1 [1] (stN 0) u5 (gN R6 [e8 (e8 d9 j4) (e8 d8 l8),gN aZ1 [e8 d9 l8,e8 d8 j4]])])))))
def av3:=A6 2 2 aY3
def aA5:=t5 (gN Y3 [o0 (itZ l7 (gN ab2 [d8,d9])) 2 [] (st2 0 1) u5 (gN af6 [d8,d9])])
def ag3:=A6 3 3 aA5
def bP6:=t5 (E8 (gN av3 [d8,l7]) (E8 (gN R6 [e8 (e8 l7 j4) n9,gC T0]) (E8 (aT0 (gN bc2 [o0 (itZ d9 (e8 l7 j4)) 2 [1,3] (st2 0 1) u5 (E8 (gN R6 [d8,e8 l7 n9]) (gN R6 [d9,gC T0]))])) (g2 fEq (gN aO7 [d8,e8 l7 l8]) (gN ag3 [d8,d9,e8 l7 j4])))))
def az3:=A6 4 4 bP6
def aA6:=m8 (o6 3 (gN Q9 [d8,o0 (itE d9) 2 [2] (st2 0 1) u5 (gIf (bOf (g2 fEq d8 l7)) (gC .non) d9)])) (t5 (gIf (bOf (g2 fEq (e8 n9 l8) (e8 d9 l7))) (e8 n9 r9) (gC .non)))
def R8:=A6 3 4 aA6
def af3:=af7 (ak8 X7 [d8]) (af7 (U6 (o6 1 (o0 (itL (e8 d8 r9)) 1 [] (stN 0) u5 (gC .non)))) (af7 (U6 (o6 2 (o0 (itL (e8 d8 r9)) 1 [] (stN 0) u5 (gC .non)))) (af7 (U6 (o6 3 (A1 []))) (af7 (U6 (λQ=>K8 (bOf (g1 aL3 d9)) (m8 (o6 4 (gN Q9 [d8,d9])) (m8 (o6 3 (e8 v8 j4)) (m8 (o6 5 (o0 (itL d9) 1 [4] (stN 0) u5 (gIf (bOf (g2 ab9 d8 (gC .non))) (e8 d9 l8) d8))) (m8 (o6 2 (o0 (itR (gN A7 [u0])) 1 [0,5,2,1] (stN 0) u5 (gIf (bOf (g2 ab9 (e8 v8 d8) (gC .non))) (gN R8 [d9,l7,d8]) (e8 n9 d8)))) (o6 1 (o0 (itZ l7 u0) 2 [] (st2 0 1) u5 (gIf (bOf (g2 ab9 d8 (gC .non))) (gC .non) d9))))))) (ay0 Q) Q)) (U6 (t5 (y8 [d9,n9,l7])))))))
def M6:=aA9 1 6 af3
def Z0:=af7 (ak8 X7 [d8]) (U6 (t5 (E8 (gN ac4 [d9]) (E8 (gN N6 [e8 d9 l8,gN A7 [e8 d8 r9]]) (E8 (gN W4 [d8,e8 d9 j4,e8 d9 l8]) (E8 (g1 (af8 .list) (e8 d9 r9)) (E8 (g2 fEq (gN A7 [e8 d9 r9]) (gN A7 [e8 d8 r9])) (gN af9 [o0 (itE (e8 d9 r9)) 2 [0,1] (st2 0 1) u5 (gN az3 [l7,e8 n9 l8,d9,d8])]))))))))
def A8:=aA9 2 2 Z0
def br4:=m8 (sIf (bOf (g2 fEq d8 (A1 []))) (t5 (g2 J9 d9 (gI 7919))) z9) (t5 (g2 y9 (e8 d8 (g2 F8 d9 (gN A7 [d8]))) (g2 J9 (g2 J7 d9 (gN A7 [d8])) (gI 104729))))
def az2:=A6 2 2 br4
def bh5:=m8 (o6 2 (g2 F8 (g2 y9 (g2 J9 d8 (gI 6364136223846793005)) (g2 J9 (g2 y9 d9 j4) (gI 1442695040888963407))) (gI 340282366920938463463374607431768211507))) (t5 (g2 F8 (g2 J9 l7 l7) (gI 340282366920938463463374607431768211297)))
def U3:=A6 2 3 bh5
def br1:=m8 (bl4 2 3 (gN bC6 [d8]) d9) (m8 (λQ=>K8 (bOf (g2 fGt n9 l8)) (bl4 2 3 n9 (g2 F8 l7 n9)) (aP4 Q) Q) (t5 (y8 [g2 J7 d8 l7,g2 J7 d9 l7])))
def az0:=A6 2 4 br1
def br0:=t5 (gN az0 [g2 y9 (g2 J9 (e8 d8 l8) (e8 d9 j4)) (g2 J9 (e8 d9 l8) (e8 d8 j4)),g2 J9 (e8 d8 j4) (e8 d9 j4)])
def W3:=A6 2 2 br0
def aL8:=t5 (gN az0 [g2 J9 (e8 d8 l8) (e8 d9 l8),g2 J9 (e8 d8 j4) (e8 d9 j4)])
def P7:=A6 2 2 aL8
def bd3:=m8 (o6 1 (y8 [l8,j4])) (m8 (P1 (itL d8) (stN 2) (o6 1 (gN W3 [d9,l7]))) (t5 d9))
def V2:=A6 1 3 bd3
def aL7:=t5 (g2 fLt (g2 J9 (e8 d8 l8) (e8 d9 j4)) (g2 J9 (e8 d9 l8) (e8 d8 j4)))
def L8:=A6 2 2 aL7
def by3:=m8 (o6 1 (gM [] (g2 y9 r9 (g2 F8 d8 (gI 4))))) (m8 (o6 2 (gC (.lst []))) (m8 (P1 (gLM [2] (itR d9)) (stN 3) (P1 (gLM [2] (itR d9)) (stN 4) (m8 (o6 5 (gM [2] (gN U3 [d8,g2 y9 (g2 J9 Z4 n9) v8]))) (sIf (V1 (bOf (g2 fNe n9 v8)) (V1 (bOf (g2 fLt (g2 F8 u0 (gI 5)) (g2 y9 r9 (g2 F8 (g2 J7 d8 Z4) ac8)))) (bOf (g2 fLt (gN A7 [l7]) Z4)))) (aF7 2 (gM [2] (y8 [n9,v8,g2 y9 j4 (g2 F8 (g2 J7 u0 ao0) (e8 (A1 [ac8,ak3]) (g2 F8 (g2 J7 d8 ao0) r9)))]))) z9)))) (m8 (o6 6 (gC (.lst []))) (m8 (P1 (gLM [6,2] (itR (g2 y9 j4 (g2 F8 (g2 J7 d8 (gI 256)) ac8)))) (stN 7) (m8 (o6 5 (gM [6,2] (gN U3 [d8,g2 y9 (gI 70) L6]))) (m8 (o6 8 (gM [6,2] (g2 F8 u0 d9))) (aF7 6 (gM [6,2] (y8 [an9,g2 F8 (g2 y9 (g2 y9 an9 j4) (g2 F8 (g2 J7 u0 Z4) (g2 ay3 d9 j4))) d9,g2 y9 j4 (g2 F8 (g2 J7 u0 ao0) (gI 9))])))))) (t5 (y8 [d9,l7,C7]))))))
def aE9:=A6 1 9 by3
def aX9:=m8 (o6 3 (y8 [l8,j4])) (m8 (P1 (itZ d9 (e8 d8 j4)) (st2 4 5) (o6 3 (gN W3 [n9,gN P7 [v8,y8 [g2 ay3 (gN aj9 [g2 fEq (e8 u0 j4) l7]) (gN aj9 [g2 fEq (e8 u0 l8) l7]),j4]]]))) (t5 n9))
def X2:=A6 3 6 aX9
def br2:=m8 (P1 (itZ (e8 d8 r9) d9) (st2 2 3) (P1 (itR (e8 d8 l8)) (stN 4) (sIf (V1 (bOf (g2 W7 v8 (g1 (ai1 0 (some 2)) l7))) (bOf (g2 fNe (gN X2 [d8,n9,v8]) (y8 [l8,j4])))) (t5 (gC (.bl false))) z9))) (m8 (P1 (itE (e8 d8 j4)) (st2 5 6) (sIf (bOf (gN L8 [y8 [e8 C7 r9,j4],gN V2 [o0 (itL d9) 1 [5] (stN 0) u5 (e8 d8 d9)]])) (t5 (gC (.bl false))) z9)) (t5 (gC (.bl true))))
def az1:=A6 2 7 br2
def aP7:=t5 (o0 (itZ (e8 d8 r9) d9) 2 [0] (st2 0 1) u5 (gN X2 [l7,d9,e8 d8 j4]))
def ak5:=A6 2 2 aP7
def aU0(R:List T->Option T):=m8 (sIf (bOf (g2 fEq d9 l7)) (t5 (A1 [A1 []])) z9) (m8 (o6 4 (A1 [])) (m8 (P1 (itE (e8 d8 j4)) (st2 5 6) (sIf (V1 (bOf (g2 fEq (e8 C7 l8) d9)) (bOf (g2 W7 (e8 C7 j4) n9))) (o6 4 (g2 y9 v8 (o0 (itL (gN R [d8,e8 C7 j4,l7,g2 y9 n9 (A1 [e8 C7 j4])])) 1 [5] (stN 0) u5 (g2 y9 (A1 [d9]) d8)))) z9)) (t5 v8)))
def V9:Nat->List T->Option T
 |0,_=>none
 |n+1,t=>A6 4 7 (aU0 (V9 n)) t
def ar1:=V9 7
def au4:=m8 (sSt (st2 2 3) d9) (m8 (sIf (bOr (bOf (g2 fLt (gN av1 [o0 (itL (g2 y9 l7 n9)) 1 [] (stN 0) u5 (e8 d8 l8)]) l8)) (bOr (bOf (g2 fNe (gN A7 [l7]) (gN A7 [e8 d8 j4]))) (bOf (g2 fNe (gN A7 [n9]) (gN A7 [e8 d8 r9]))))) (t5 (gC (.bl false))) z9) (m8 (P1 (itZ (e8 d8 r9) n9) (st2 4 5) (P1 (itL (gN ar1 [d8,e8 v8 l8,e8 v8 j4,A1 [e8 v8 l8]])) (stN 6) (sIf (bOf (gN L8 [gN V2 [o0 (itL C7) 1 [2] (stN 0) u5 (e8 d9 d8)],u0])) (t5 (gC (.bl false))) z9))) (t5 (gC (.bl true)))))
def W8:=A6 2 7 au4
def br3:=t5 (gN V2 [o0 (itZ d9 (e8 d8 j4)) 2 [] (st2 0 1) u5 (gN P7 [d8,y8 [e8 d9 r9,j4]])])
def aJ0:=A6 2 2 br3
def br5:=m8 (o6 2 (g2 F8 d9 (gN aH8 [j4,gN A7 [d8]]))) (m8 (o6 3 (e8 (A1 [y8 [j4,gI 7],y8 [g1 O5 j4,gI 7],y8 [g1 O5 (gI 9),j4],y8 [gI 5,j4]]) (g2 F8 (g2 J7 d9 ao0) (gI 4)))) (t5 (g2 y9 (g2 y9 (gSl d8 none (some l7)) (o0 (itL (gSl d8 (some l7) (some (g2 y9 l7 j4)))) 1 [3] (stN 0) u5 (gN W3 [d8,d9]))) (gSl d8 (some (g2 y9 l7 j4)) none))))
def U2:=A6 2 4 br5
def aA2:=m8 (sIf (bOr (ac1 (bOf (gN W8 [d8,n9]))) (bOf (g2 fEq (e8 (e8 n9 j4) l7) (y8 [l8,j4])))) (t5 (gC (.bl false))) z9) (m8 (o6 4 (y8 [l8,j4])) (m8 (P1 (bB3 (e8 n9 j4) d9 (e8 d8 r9)) (st3 5 6 7) (m8 (sIf (V1 (bOf (g2 fNe u0 (y8 [l8,j4]))) (bOf (gN L8 [e8 d9 l7,C7]))) (t5 (gC (.bl false))) z9) (o6 4 (gN W3 [v8,gN P7 [u0,gN P7 [C7,y8 [e8 L6 r9,j4]]]])))) (t5 (g2 fEq (gN aJ0 [d8,e8 n9 l8]) v8))))
def ag2:=A6 4 8 aA2
def bh4:=m8 (sSt (st3 2 3 4) d9) (m8 (sIf (bOr (bOf (g2 fNe (gN A7 [l7]) (gN A7 [e8 d8 r9]))) (bOr (bOf (g2 fNe (gN A7 [v8]) (gN A7 [e8 d8 r9]))) (bOf (g2 fLt (gN av1 [o0 (itL l7) 1 [] (stN 0) u5 (e8 d8 l8)]) l8)))) (t5 (gC (.bl false))) z9) (m8 (P1 (itL n9) (stN 5) (sIf (bOr (bOf (g2 fNe (gN A7 [u0]) (gN A7 [e8 d8 j4]))) (bOf (g2 fLt (gN av1 [g2 y9 (A1 [l8]) (o0 (itL u0) 1 [] (stN 0) u5 (e8 d8 l8))]) l8))) (t5 (gC (.bl false))) z9)) (m8 (o6 6 (o0 (itZ l7 (e8 d8 r9)) 2 [] (st2 0 1) u5 (gN P7 [d8,y8 [e8 d9 r9,j4]]))) (m8 (sIf (bOr (ac1 (bOf (gN az1 [d8,n9]))) (bOf (g2 fNe (gN ak5 [d8,n9]) C7))) (t5 (gC (.bl false))) z9) (t5 (gN af9 [o0 (itE v8) 2 [0,2] (st2 0 1) u5 (gN ag2 [l7,n9,d8,d9])]))))))
def aa9:=A6 2 7 bh4
def bh3:=m8 (o6 1 (e8 d8 l8)) (m8 (P1 (itL d8) (stN 2) (o6 1 (e8 (A1 [d9,l7]) (gN aj9 [gN L8 [l7,d9]])))) (t5 d9))
def at5:=A6 1 3 bh3
def aY0:=m8 (P1 (itR (gN aH8 [j4,gN aW9 [r9,gN A7 [d8]]])) (stN 1) (m8 (o6 2 (gN U3 [gN az2 [d8,d9],d9])) (m8 (o6 3 (gN aE9 [l7])) (m8 (o6 4 (gN (au6 M6 [d8]) [n9])) (m8 (sIf (bOr (ac1 (bOf (g1 (af8 .tuple) v8))) (bOr (bOf (g2 fNe (gN A7 [v8]) ac8)) (ac1 (bOf (gN aa9 [n9,v8]))))) (t5 (gC (.bl false))) z9) (m8 (sIf (bOr (bOf (g1 (av0 true) (gN (X0 A8) [n9,v8]))) (bOf (g2 fNe (gN (X0 M6) [n9]) v8))) (t5 (gC (.bl false))) z9) (m8 (sSt (st3 5 6 7) v8) (m8 (sIf (bOf (g2 fNe (gN at5 [u0]) (e8 (gN (X0 W9) [n9]) l8))) (t5 (gC (.bl false))) z9) (m8 (P1 (itR (gI 5)) (stN 8) (m8 (o6 9 (gN U3 [l7,g2 y9 (gI 90) an9])) (m8 (o6 10 (g2 F8 (g2 J7 S6 Z4) (gN A7 [L6]))) (m8 (sSt (st2 11 12) (e8 L6 at3)) (m8 (o6 13 (e8 (A1 [y8 [gN U2 [D3 11,g2 J7 S6 (g2 ab8 r9 (gI 12))],D3 12],e8 L6 (g1 O5 j4)]) (g2 F8 S6 r9))) (m8 (sIf (bOf (g2 fEq (g2 F8 S6 ac8) l8)) (o6 13 (y8 [D3 11,gN U2 [D3 12,g2 J7 S6 (g2 ab8 r9 (gI 12))]])) z9) (m8 (o6 14 (e8 (A1 [u0,gN U2 [u0,g2 J7 S6 (g2 ab8 r9 (gI 30))]]) (gN aj9 [g2 fEq (g2 F8 (g2 J7 S6 (g2 ab8 r9 (gI 40))) (gI 4)) l8]))) (m8 (o6 15 (y8 [D3 14,C7,g2 y9 (g2 y9 (gSl L6 none (some at3)) (A1 [D3 13])) (gSl L6 (some (g2 y9 at3 j4)) none)])) (m8 (o6 16 (gN (X0 A8) [n9,D3 15])) (sIf (bOr (ac1 (bOf (g1 (af8 .bool) (D3 16)))) (bOf (g2 fNe (D3 16) (gN aa9 [n9,D3 15])))) (t5 (gC (.bl false))) z9)))))))))) (m8 (o6 17 (A1 [y8 [u0,A1 [],L6],y8 [u0,gC .non,L6],y8 [u0,C7,g1 (ai1 1 none) L6]])) (m8 (o6 17 (g2 y9 (D3 17) (A1 [y8 [u0,C7,gC .non],y8 [g1 (ai1 1 none) u0,C7,L6]]))) (m8 (o6 17 (g2 y9 (D3 17) (A1 [y8 [u0,C7,g2 J9 (A1 [gC .non]) (gN A7 [L6])],y8 [gC .non,C7,L6]]))) (m8 (o6 17 (g2 y9 (D3 17) (A1 [y8 [u0,C7,g2 J9 (A1 [y8 [A1 [],A1 []]]) (g2 y9 (gN A7 [L6]) j4)]]))) (m8 (sIf (bOf (g1 (av0 false) (gN (X0 A8) [n9,e8 (D3 17) (g2 F8 (g2 J7 l7 (g2 ab8 r9 ak3)) Z4)]))) (t5 (gC (.bl false))) z9) (m8 (sIf (bOf (g2 fNe (gN (au6 M6 [y8 [r9,A1 [y8 [l8,j4,j4]],A1 []]]) []) (gC (.str "BadNet")))) (t5 (gC (.bl false))) z9) (sIf (bOf (g2 fNe (gN (au6 A8 [y8 [gI 9,A1 [],A1 [y8 [l8,j4,j4]]],d8]) [v8]) (gC (.str "BadNet")))) (t5 (gC (.bl false))) z9)))))))))))))))) (t5 (gC (.bl true)))
def bj7:=A6 1 18 aY0
end L3
namespace L2
section
theorem Inv.turnedNew{t':Nat}{ch:List Addr}{p:Addr}{o:HO}(I:Inv X a W B S)(k:∀b U,b∉ch->S.heap.get? b=some U->h'.get? b=some U)(f:∀b∈ch,ai6 X a B b)
  (F:S.sz<=p) (w:ae7 X.prog X.w (upd B p o) h' p o):Inv X a W (upd B p o) {S with heap:=h',toks:=t'}:=by
 have C:B p=none:=I.hok.fresh F;have N:∀b U,B b=some U->b∉ch:=λb U e z=>by rw[(f b z).1]at e;cases e
 have R:∀b U,S.heap.get? b=some U->b≠p:=λb U e=>cV0 (cU2 (cL4 e) F)
 refine I.step (g':=S.gens) (d':=S.drawn) (ch:=ch) (λb E=> ?_) (λb U _ _ h e _=>k b U h e) (λb U _ _ h e _=>⟨U.slots,k b U h e⟩) (λb U _ e n=>by rw[n6 (R b U e)];exact n)
  (λb U h e=>⟨U,k b U h e⟩) (λb Y e=>by rw[n6 (C5 e C)];exact e) (λb U J e=>by rw[n6 (C5 e C)];exact e) (λb Z e=>⟨#[],by rw[n6 (C5 e C),e];simp⟩) (λm P=> ?_) (λb U e=> ?_) I.bare
 .obtain⟨f0,f1,f2,f3,f4,f5⟩:=f b E;exact⟨f3,f1,f4,f5⟩
 .obtain⟨O,M,L,Q,r⟩:=P;exact⟨O,M,L,k _ O (λz=>(f _ z).2.1 rfl) Q,r⟩
 .by_cases E:b=p
  .subst E;rw[t8]at e;cases e;exact w
  .rw[n6 E]at e;refine(I.hok b U e).stay (λc J h q=>k c J ?_ q) (λc q=>by rw[n6 (C5 q C)];exact q) λc Y q=>by rw[n6 (C5 q C)];exact q
   rcases h with z|z
   .rw[z];exact N b U e
   .exact N c _ z
theorem Inv.turnedL{t':Nat}{ch:List Addr}(I:Inv X a w B S)(k:∀b U,b∉ch->S.heap.get? b=some U->F.get? b=some U)(f:∀b∈ch,ai6 X a B b):Inv X a w B {S with heap:=F,toks:=t'}:=by
 have N:∀b U,B b=some U->b∉ch:=λb U e z=>by rw[(f b z).1]at e;cases e
 refine I.step (g':=S.gens) (d':=S.drawn) (ch:=ch) (λb J=> ?_) (λb U _ _ h e _=>k b U h e) (λb U _ _ h e _=>⟨U.slots,k b U h e⟩) (λ_ _ _ _ n=>n)
  (λb U h e=>⟨U,k b U h e⟩) (λ_ _ e=>e) (λ_ _ _ e=>e) (λb P e=>⟨#[],by rw[e];simp⟩) (λm L=> ?_) (λb U e=> ?_) I.bare
 .obtain⟨f0,f1,f2,f3,f4,f5⟩:=f b J;exact⟨f3,f1,f4,f5⟩
 .obtain⟨o,C,E,M,r⟩:=L;exact⟨o,C,E,k _ o (λz=>(f _ z).2.1 rfl) M,r⟩
 .refine(I.hok b U e).stay (λc O h q=>k c O ?_ q) (λ_ q=>q) λ_ _ q=>q
  rcases h with z|z
  .rw[z];exact N b U e
  .exact N c _ z
end
def Itz(K:cW0)(a b:Addr):It:=
 ⟨λi H=>∃X Y x y,SqL K H a X/\SqL K H b Y/\X[i]?=some x/\Y[i]?=some y,
 λi H v h=>∃x y p,(∀X,SqL K H a X->X[i]?=some x)/\(∀Y,SqL K H b Y->Y[i]?=some y)/\H p=none/\h=upd H p (.tup [x,y])/\v=.ref p,
 λi H=>∃X Y,SqL K H a X/\SqL K H b Y/\(X.length<=i\/Y.length<=i)⟩
def Ite(K:cW0)(a:Addr):It:=
 ⟨λi H=>∃X x,SqL K H a X/\X[i]?=some x,
 λi H v h=>∃x p,(∀X,SqL K H a X->X[i]?=some x)/\H p=none/\h=upd H p (.tup [.int i,x])/\v=.ref p,
 λi H=>∃X,SqL K H a X/\X.length<=i⟩
theorem bQ5{P:Program}{w:World}{K:cW0}{es:List Expr}{k:Nat}{pos:Pos}{z TI TO i1 i2 l1 l2:Addr}(D:ZipApart z TI TO i1 i2 l1 l2):
  bd1 P w K (.Tuple es k pos) (Itz K l1 l2) [z,TI,TO,i1,i2] z (λi h=>IsZip h z TI TO .none/\IsPair h TI (.ref i1) (.ref i2)/\(∃a b,IsPair h TO a b)/\h.IsListIter i1 l1 i/\h.IsListIter i2 l2 i) where
 mem:=∅
 obj:=λi h st b hb=>by
  obtain⟨h1,h2,⟨_,_,h3⟩,⟨o4,h4,_,d4⟩,⟨o5,h5,_,d5⟩⟩:=st;simp at hb;rcases hb with rfl|rfl|rfl|rfl|rfl
  .exact⟨_,h1,λv z=>by cases z⟩
  .exact⟨_,h2,λv z=>by cases z⟩
  .exact⟨_,h3,λv z=>by cases z⟩
  .exact⟨o4,h4,λv z=>by rw[d4]at z;cases z⟩
  .exact⟨o5,h5,λv z=>by rw[d5]at z;cases z⟩
 keep:=λi h h' st kk=>by
  obtain⟨h1,h2,⟨a,b,h3⟩,h4,h5⟩:=st;exact⟨kk z ∅ _ h1,kk TI ∅ _ h2,⟨a,b,kk TO ∅ _ h3⟩,h4.at λo e=>kk i1 ∅ o e,h5.at λo e=>kk i2 ∅ o e⟩
 item:=by
  intro X hP hw hK hc i aA s wW H E I hf st hg;subst hP hw hK;obtain⟨xs,ys,x,y,hq1,hq2,hx,hy⟩:=hg;obtain⟨its1,rv1,p1,hz1⟩:=I.list hq1;obtain⟨its2,rv2,p2,hz2⟩:=I.list hq2;obtain⟨u1,hu1,ru1⟩:=rv1.get hx;obtain⟨u2,hu2,ru2⟩:=rv2.get hy;obtain⟨h1,h2,⟨a,b,h3⟩,h4,h5⟩:=st;refine wpAny_pyNext_zip_item D h1 h2 h3 h4 h5 p1.isList p2.isList (x:=u1) (y:=u2) (by simpa using hu1) (by simpa using hu2) λh' a1 a2 a3 a4 a5 a6 a7=> ?_
  refine⟨_,rfl,wpAny_letOwnedTupleGo_zip (s:={s with heap:=h'}) a1 λh2' b1 sb=> ?_⟩;have up:∀c o,c≠z->h'.get? c=some o->h2'.get? c=some o:=λc o hc e=>(sb.2 c hc).trans e
  (have lt:∀{c o},s.heap.get? c=some o->s.sz≠c:=λe=>cU9 (cL4 e));have hT:h2'.get? s.sz=some {cls:=.type "tuple",data:=.seq #[u1,u2]}:=up _ _ (lt h1) a5
  have I1:=I.turnedNew (t':=s.toks) (h':=h2') (ch:=[z,TI,TO,i1,i2]) (p:=s.sz) (o:=.tup [x,y]) (λc o hc e=>by
    simp at hc;exact up c o hc.1 (a7 c o hc.1 hc.2.2.1 hc.2.2.2.1 hc.2.2.2.2 e)) hf (cT8 _)
   ⟨by show 2<=sizeLine;decide,[u1,u2],.cons ru1 (.cons ru2 .nil),_,hT,rfl,_,rfl⟩
  refine⟨.ref s.sz,_,I1,rfl,⟨x,y,_,λxs' e=>by rw[I.list_inj e hq1];exact hx,λys' e=>by rw[I.list_inj e hq2];exact hy,I.hok.fresh (cT8 _),rfl,rfl⟩,
   ⟨b1,up _ _ D.TIz (a7 _ _ D.TIz D.TITO D.TIi1 D.TIi2 h2),⟨_,_,up _ _ D.TOz a2⟩,a3.at λo e=>up _ o D.i1z e,a4.at λo e=>up _ o D.i2z e⟩,λc hcm=> ?_⟩
  have hc0:=(hf c hcm).1;rw[n6 ?_]
  .exact hc0
  .intro e;subst e;simp at hcm;obtain⟨o4,g4,_⟩:=h4;obtain⟨o5,g5,_⟩:=h5;rcases hcm with q|q|q|q|q
   .exact lt h1 q
   .exact lt h2 q
   .exact lt h3 q
   .exact lt g4 q
   .exact lt g5 q
 done:=by
  intro X hP hw hK hc i aA s wW H E I hf st hg;subst hP hw hK;obtain⟨xs,ys,hq1,hq2,hend⟩:=hg;obtain⟨its1,rv1,p1,hz1⟩:=I.list hq1;obtain⟨its2,rv2,p2,hz2⟩:=I.list hq2;have l1:=rv1.length;have l2:=rv2.length;obtain⟨h1,h2,⟨a,b,h3⟩,h4,h5⟩:=st;refine wpAny_pyNext_zip_end (I.ok.hd hc) D h1 h2 h3 h4 h5 p1.isList p2.isList ?_ λh' a7=>⟨rfl,?_⟩
  .rcases hend with q|q
   .exact .inl (by simp;omega)
   .exact .inr (by simp;omega)
  .exact I.turnedL (t':=s.toks) (ch:=[z,TI,TO,i1,i2]) (λc o hc e=>by
    simp at hc;exact a7 c o hc.1 hc.2.2.1 hc.2.2.2.1 hc.2.2.2.2 e) hf
 self:=λ_ _ _ _ _ st h=>wpAny_pyIter_zip st.1 h
theorem bF3{P:Program}{w:World}{K:cW0}{es:List Expr}{k:Nat}{pos:Pos}{e it l:Addr}(hne:e≠it):
  bd1 P w K (.Tuple es k pos) (Ite K l) [e,it] e (λi h=>(∃old,IsEnum h e it i old)/\h.IsListIter it l i) where
 mem:=∅
 obj:=λi h st b hb=>by
  obtain⟨⟨_,h1⟩,⟨o4,h4,_,d4⟩⟩:=st;simp at hb;rcases hb with rfl|rfl
  .exact⟨_,h1,λv z=>by cases z⟩
  .exact⟨o4,h4,λv z=>by rw[d4]at z;cases z⟩
 keep:=λi h h' st kk=>by
  obtain⟨⟨old,h1⟩,h4⟩:=st;exact⟨⟨old,kk e ∅ _ h1⟩,h4.at λo q=>kk it ∅ o q⟩
 item:=by
  intro X hP hw hK hc i aA s wW H E I hf st hg;subst hP hw hK;obtain⟨xs,x,hq1,hx⟩:=hg;obtain⟨its1,rv1,p1,hz1⟩:=I.list hq1;obtain⟨u1,hu1,ru1⟩:=rv1.get hx;obtain⟨⟨old,h1⟩,h4⟩:=st;refine wpAny_pyNext_enum_item h1 h4 p1.isList (x:=u1) (by simpa using hu1) hne λh' a1 a3 a5 a6 a7=> ?_
  refine⟨_,rfl,wpAny_letOwnedTupleGo_enum (s:={s with heap:=h',toks:=s.toks+1}) a1 λh2' b1 sb=> ?_⟩;have up:∀c o,c≠e->h'.get? c=some o->h2'.get? c=some o:=λc o hc q=>(sb.2 c hc).trans q
  have lt:∀{c o},s.heap.get? c=some o->s.sz≠c:=λq=>cU9 (cL4 q)
  have hT:h2'.get? s.sz=some {cls:=.type "tuple",data:=.seq #[.int i s.toks,u1]}:=up _ _ (lt h1) a5;have I1:=I.turnedNew (t':=s.toks+1) (h':=h2') (ch:=[e,it]) (p:=s.sz) (o:=.tup [.int i,x]) (λc o hc q=>by
    simp at hc;exact up c o hc.1 (a7 c o hc.1 hc.2 q)) hf (cT8 _)
   ⟨by show 2<=sizeLine;decide,[.int i s.toks,u1],.cons ⟨_,rfl⟩ (.cons ru1 .nil),_,hT,rfl,_,rfl⟩
  refine⟨.ref s.sz,_,I1,rfl,⟨x,_,λxs' q=>by rw[I.list_inj q hq1];exact hx,I.hok.fresh (cT8 _),rfl,rfl⟩,
   ⟨⟨_,by simpa using b1⟩,a3.at λo q=>up _ o (Ne.symm hne) q⟩,λc hcm=> ?_⟩
  have hc0:=(hf c hcm).1;rw[n6 ?_]
  .exact hc0
  .intro q;subst q;simp at hcm;obtain⟨o4,g4,_⟩:=h4;rcases hcm with q|q
   .exact lt h1 q
   .exact lt g4 q
 done:=by
  intro X hP hw hK hc i aA s wW H E I hf st hg;subst hP hw hK;obtain⟨xs,hq1,hend⟩:=hg;obtain⟨its1,rv1,p1,hz1⟩:=I.list hq1;have l1:=rv1.length;obtain⟨⟨old,h1⟩,h4⟩:=st;refine wpAny_pyNext_enum_end (I.ok.hd hc) h1 h4 p1.isList (by simp;omega) λh' eb=>⟨rfl,?_⟩
  exact I.turnedL (t':=s.toks) (ch:=[e,it]) (λc o hc q=>by
    simp at hc;exact eb c o hc.2 q) hf
 self:=λA i s Q E st h=>by
  obtain⟨⟨old,h1⟩,h4⟩:=st;exact wpAny_pyIter_enum h1 h
section
def cD4(K:cW0)(t:TA):TI:=λw H R=>t w H λv h=>∃a b,v=[.ref a,.ref b]/\(∃x,SqL K h a x)/\(∃y,SqL K h b y)/\R (Itz K a b) h
theorem cn4{a b:Expr}{t:TA}{p L:Pos}(g:Gl X "zip")(U:X.mg "zip"=none)(Q:PA X [a,b] t)(Z:starEach [a,b] X.env=[(false,eval a X.env),(false,eval b X.env)])(F:starEach [b] X.env=[(false,eval b X.env)]):
  PI X (.Tuple n k tp) (.Call (.Name "zip" p) [a,b] [] L) (cD4 X.K t):=by
 intro N s w H R I h;refine Call_ (at0 I g U boot_zip (PyProof.Rows.callWith_type1 (thn (Q L N s w H _ I h) λus S ⟨vs,M,i,j,d⟩=> ?_) (by rw[Z,F]) (by rw[F];rfl)));obtain⟨l1,l2,e,⟨xs,W⟩,⟨ys,Y⟩,q⟩:=d;subst e;cases j with
 |cons r B=>
  cases B with
  |cons f B=>
   cases B;cases r;cases f;obtain⟨x,af,P,u⟩:=i.list W;obtain⟨y,ag,J,v⟩:=i.list Y;have l:l1<S.sz:=by obtain⟨o,e,_⟩:=P.isList;exact cL4 e
   have c:l2<S.sz:=by obtain⟨o,e,_⟩:=J.isList;exact cL4 e
   refine call_zip_2 P.isList J.isList λO g1 g2 g3 g4 g5 g6 g7=> ?_
   refine wpAny_pyIter_zip (s:={S with heap:=O}) g1 ?_;refine⟨S.sz+4,[S.sz+4,S.sz+2,S.sz+3,S.sz,S.sz+1],_,_,M,rfl,i.kept (t':=S.toks) g7,bQ5 (l1:=l1) (l2:=l2) ?_,⟨g1,g2,⟨_,_,g3⟩,g4,g5⟩,λb C=> ?_,q⟩
   .have aa:=cV4 l;have ae:=cV4 c;constructor<;>(intro z;have z':(_:Nat)=_:=z;omega)
   .have E:S.sz<=b:=by
     simp at C;rcases C with rfl|rfl|rfl|rfl|rfl<;>first |exact cT8 _|exact Nat.le_add_right _ _
    exact i.fpOk E (i.hok.fresh E)
def cy9(K:cW0)(t:TA):TI:=λw H R=>t w H λv h=>∃a,v=[.ref a]/\(∃x,SqL K h a x)/\R (Ite K a) h
theorem cg2{a:Expr}{t:TA}{p P:Pos}(g:Gl X "enumerate")(M:X.mg "enumerate"=none)(L:PA X [a] t)(O:starEach [a] X.env=[(false,eval a X.env)]):
  PI X (.Tuple Z k j) (.Call (.Name "enumerate" p) [a] [] P) (cy9 X.K t):=by
 intro F s w H R I h;refine Call_ (at0 I g M boot_enumerate (PyProof.Rows.callWith_type1 (thn (L P F s w H _ I h) λu S ⟨v,E,i,W,U⟩=> ?_) O rfl));obtain⟨l1,e,⟨x,N⟩,q⟩:=U;subst e;cases W with
 |cons r Y=>
  cases Y;cases r;obtain⟨d,f,Q,c⟩:=i.list N;refine call_enumerate_list Q.isList λJ g1 g4 g6 g7=> ?_
  refine wpAny_pyIter_enum (s:={S with heap:=J}) g1 ?_;refine⟨S.sz+1,[S.sz+1,S.sz],_,_,E,rfl,i.kept (t':=S.toks) g7,bF3 (l:=l1) (Nat.succ_ne_self _),⟨⟨_,g1⟩,g4⟩,λb B=> ?_,q⟩;have C:S.sz<=b:=by
   simp at B;rcases B with rfl|rfl<;>first |exact cT8 _|exact Nat.le_add_right _ _
  exact i.fpOk C (i.hok.fresh C)
end
noncomputable def ai2(e:Env)(n:List (Str×NameKind))(c:List (Str×Addr)):List (Str×Addr):=
 n.foldl (λc x=>if x.2==.free then(x.1,(e.cells.lookup x.1).getD 0)::c else c) c
theorem ae6(env:Env):∀(N:List (Str×NameKind)) (C:List (Str×Addr)),(∀x∈N,x.2=.free->∃c,env.cells.lookup x.1=some c)->
  (forIn N C (λ(x:Str×NameKind) (r:List (Str×Addr))=>if(x.2==.free)=true then do let a<-cellOf env x.1;pure (ForInStep.yield ((x.1,a)::r))else pure (ForInStep.yield r)):Sem (List (Str×Addr)))=pure (ai2 env N C)
 |[],C,_=>by simp[ai2]
 |(n,k)::r,C,h=>by
  rw[cP5];by_cases E:k=.free
  .subst E;obtain⟨c,B⟩:=h (n,.free) cS2 rfl;have e:cellOf env n=pure c:=by
    have F:env.cells.lookup n=some c:=B;erw[cellOf,F]
   erw[e,cW2,if_true,pure_bind];rw[ae6 env r _ λx H=>h x (cS1 _ H)];erw[ai2,cJ1,cW2,if_true,B,Option.getD_some]
  .have b:(k==NameKind.free)=false:=by simpa using E
   erw[b,cK5,if_false,pure_bind];rw[ae6 env r _ λx H=>h x (cS1 _ H)];erw[ai2,cJ1,b,cK5,if_false]
theorem bC7(h:∀x∈s.names,x.2=.free->∃c,e.cells.lookup x.1=some c):closureFor s e=pure (ai2 e s.names []):=by
 have q:=ae6 e s.names [] h;unfold closureFor;refine Eq.trans ?_ (congrArg (λm=>m>>=pure) q|>.trans ∅);rfl
theorem aB5:∀{N:List (Str×NameKind)}{C:List (Str×Addr)}{x:Str}{c:Addr},(∀y∈N,y.2=.free->∃c,v.cells.lookup y.1=some c)->(∀x c,C.lookup x=some c->v.cells.lookup x=some c)->
  (ai2 v N C).lookup x=some c->v.cells.lookup x=some c
 |[],_,_,_,_,H,e=>H _ _ e
 |(n,k)::r,C,x,c,h,H,e=>by
  have F:∀y∈r,y.2=.free->∃c,v.cells.lookup y.1=some c:=λy L=>h y (cS1 _ L)
  by_cases J:k=.free
  .subst J;obtain⟨c0,I⟩:=h (n,.free) cS2 rfl;refine aB5 (C:=(n,c0)::C) F (λz d E=> ?_) (by simpa only[ai2,cJ1,cW2,if_true,I,Option.getD_some]using e);rw[cR4]at E;cases B:z==n with
   |true=>rw[B]at E;cases E;have :=eq_of_beq B;subst this;exact I
   |false=>rw[B]at E;exact H z d E
  .have b:(k==NameKind.free)=false:=by simpa using J
   exact aB5 (C:=C) F H (by simpa only[ai2,cJ1,b,cK5,if_false]using e)
theorem aI4:∀{N:List (Str×NameKind)}{C:List (Str×Addr)}{x:Str},(∀y∈N,y.2=.free->∃c,E.cells.lookup y.1=some c)->((x,.free)∈N\/∃c,C.lookup x=some c)->
  ∃c,(ai2 E N C).lookup x=some c
 |[],_,_,_,h=>by simpa[ai2]using h
 |(n,k)::r,C,x,I,h=>by
  have H:∀y∈r,y.2=.free->∃c,E.cells.lookup y.1=some c:=λy L=>I y (cS1 _ L)
  by_cases B:k=.free
  .subst B;obtain⟨c0,J⟩:=I (n,.free) cS2 rfl;have e:ai2 E ((n,.free)::r) C=ai2 E r ((n,c0)::C):=by erw[ai2,cJ1,cW2,if_true,J,Option.getD_some]
   rw[e];by_cases F:x=n
   .subst F;exact aI4 H (.inr ⟨c0,by simp[cR4]⟩)
   .refine aI4 H ?_;rcases h with h|⟨c,h⟩
    .rcases cI4 h with q|q
     .cases q;exact absurd rfl F
     .exact .inl q
    .exact .inr ⟨c,by rw[cR4,cI6 F];exact h⟩
  .have b:(k==NameKind.free)=false:=by simpa using B
   have e:ai2 E ((n,k)::r) C=ai2 E r C:=by erw[ai2,cJ1,b,cK5,if_false]
   rw[e];refine aI4 H ?_;rcases h with h|h
   .rcases cI4 h with q|q
    .cases q;exact absurd rfl B
    .exact .inl q
   .exact .inr h
noncomputable abbrev Nev:Value->Shared->Prop:=λ_ _=>False
noncomputable abbrev ci2(M:Model)(A:Around)(E t:Expr)(i:List Expr)(I a:Value)(e:Env)(v:Value)(K:Shared->Prop)(S:Shared):Prop:=
 wpAny M A (letOwnedTupleGo t I v) (λ_ B=>wpAny M A (assign t e v) (λ_ C=>
  wpAny M A (forIn i true λc r=>(if r=true then do{let o<-isTrue c e (eval c e);pure (ForInStep.yield o)}else pure (ForInStep.yield r))) (λy s=>
   if y=true then wpAny M A (eval E e) (λx F=>wpAny M A (call (.builtin "list.append") [a,x]) (λ_ H=>K H) Nev F) Nev s else K s) Nev C) Nev B) Nev S
theorem never(h:wpAny M A m Q Nev s)(k:∀a S,Q a S->B a S):wpAny M A m B E s:=
 cX1 h k (λ_ _ z=>z.elim)
theorem aI3(J:Nat->Shared->Prop)
  (W:∀n s,J n s->wpAny (model P w) A (pyNext i) (λr S=>match r with
   |none=>R (.ok .next) S
   |some v=>ci2 (model P w) A e t I i a E v (λC=>∃m,m<n/\J m C) S) Nev s) (n:Nat) (h:J n s):
  codeAny (model P w) A (.compLoop (.ListComp e [⟨t,Q,I,0⟩] U p) 0 i a E) R s:=by
 refine codeAny_loop rfl J (λk S O=> ?_) n h;refine wpAny_noted ?_;show wpAny _ _ (compTurn (.ListComp e [⟨t,Q,I,0⟩] U p) 0 i a E) _ _ _;rw[compTurn_list];refine cW8 (wpAny_standAt (cW8 (never (W k S O) (λr C H=> ?_))));rcases r with _|v
 . (exact cX3 H)
 .refine cW8 (never H (λ_ X F=>cW8 (never F (λ_ Y L=>cW8 (never L (λy Z B=> ?_))))));rcases y with _|_
  .exact cX3 (.intro rfl B)
  .exact cW8 (cW8 (never B (λx b M=>cW8 (never M (λ_ c N=>cX3 (cX3 (.intro rfl N)))))))
noncomputable def P9(oc:Option Str)(X:Cx)(scope:Scope)(cl:List (Str×Addr))(C:Addr)(N':List Str)(sd:Shared)(Ho:Hp)(fp:List Addr):Cx where
 prog:=X.prog
 w:=X.w
 K:=X.K
 mg:=X.mg
 aD:=X.aD
 A:=X.A
 N:=N'
 sd:=sd
 Ho:=Ho
 env:=compEnvC scope cl C X.env
 aE:=X.stack
 stack:=X.stack
 ex:=fp
 fn:=λx=>oc==some x
 calm:=X.calm
 pn:=[]
 xe:=λ_ _=>False
noncomputable abbrev L7:=P9 none
noncomputable def Z5(n:Nat)(a:List Nat)(w:St):St:=List.replicate n none++a.map λi=>(w[i]?).join
noncomputable def ay7(o:Option Str)(sc:Scope)(N:List Str)(scope:Scope)(n:List Str)(B:Nat)(a:List Nat):Bool:=
 (match scope.kind with |.function=>true|_=>false)&&
 ((scope.names.filter λy=>y.2==.cell).map (·.1)==o.toList)&&
 scope.names.all (λy=>(y.2 !=.local||scope.names.lookup y.1==some .local)&&(y.2 !=.free||(o !=some y.1&&(sc.names.lookup y.1==some .cell||sc.names.lookup y.1==some .free))))&&
 n.length==B+a.length&&
 (a.zip (n.drop B)).all (λy=>N[y.1]?==some y.2&&(sc.names.lookup y.2==some .cell||sc.names.lookup y.2==some .free)&&scope.names.lookup y.2==some .free)
noncomputable abbrev aj6:=ay7 none
theorem aJ9{e:Env}:∀{N:List (Str×NameKind)}{x:Str},N.lookup x=some .free->
  (N.map λ(n,k)=>if(k==NameKind.free&&e.scope.kind==.function&&e.kindOf n==some .cell)then(n,NameKind.cell)else(n,k)).lookup x=some .cell\/
  (N.map λ(n,k)=>if(k==NameKind.free&&e.scope.kind==.function&&e.kindOf n==some .cell)then(n,NameKind.cell)else(n,k)).lookup x=some .free
 |[],_,h=>by simp at h
 |(n,k)::r,x,h=>by
  have i:= @aJ9 e r x;rw[cI9];dsimp only;cases H:x==n with
  |true=>
   (erw[cR4,H]at h);cases h
   by_cases c:(NameKind.free==NameKind.free&&e.scope.kind==.function&&e.kindOf n==some .cell)=true
   .left;rw[cW7 c];erw[cR4,H]
   .right;rw[cW6 c];erw[cR4,H]
  |false=>
   (erw[cR4,H]at h);(by_cases c:(k==NameKind.free&&e.scope.kind==.function&&e.kindOf n==some .cell)=true)
   . (rw[cW7 c];erw[cR4,H];exact i h)
   . (rw[cW6 c];erw[cR4,H];exact i h)
theorem aB3{E:Env}{o:Option Str}:∀{N:List (Str×NameKind)}{x:Str}{k:NameKind},
  (N.map λ(n,k)=>if(k==NameKind.free&&E.scope.kind==.function&&E.kindOf n==some .cell)then(n,NameKind.cell)else(n,k)).lookup x=some k->(k=.cell\/k=.free)->(∀y∈N,y.2=.cell->o=some y.1)->o=some x\/(x,.free)∈N
 |[],_,_,h,_,_=>by simp at h
 |(n,C)::r,x,k,h,F,I=>by
  have i:= @aB3 E o r x k;rw[cI9]at h;dsimp only at h;have J:∀y∈r,y.2=.cell->o=some y.1:=λy M=>I y (cS1 _ M)
  cases B:x==n with
  |true=>
   have e:=eq_of_beq B;subst e;by_cases H:(C==NameKind.free&&E.scope.kind==.function&&E.kindOf x==some .cell)=true
   .have :C=.free:=by
     cases L:C==NameKind.free with
     |true=>exact eq_of_beq L
     |false=>rw[L]at H;simp at H
    subst this;exact .inr cS2
   .rw[cW6 H]at h
    (erw[cR4,B]at h);cases h
    rcases F with rfl|rfl
    .exact .inl (I (x,.cell) cS2 rfl)
    .exact .inr cS2
  |false=>
   by_cases H:(C==NameKind.free&&E.scope.kind==.function&&E.kindOf n==some .cell)=true
   .rw[cW7 H]at h;erw[cR4,B]at h;exact(i h F J).imp id λz=>cS1 _ z
   .rw[cW6 H]at h;erw[cR4,B]at h;exact(i h F J).imp id λz=>cS1 _ z
noncomputable def bC9:Obj:={cls:=.type "cell",data:=.cell none}
noncomputable def aO3(o:Option Str)(h:Heap):Heap:=match o with
 |none=>h
 |some _=>h.push bC9
noncomputable abbrev aT5(x:Str×NameKind)(r:List (Str×Addr)):Sem (ForInStep (List (Str×Addr))):=match x with
 |(name,k)=>if(k==NameKind.cell)=true then do
   let a<-alloc bC9
   pure (ForInStep.yield ((name,a)::r))
  else pure (ForInStep.yield r)
theorem aT4:∀(o:Option Str) (N:List (Str×NameKind)) (c:List (Str×Addr)) (s:Shared),(N.filter λy=>y.2==.cell).map (·.1)=o.toList->
  Q (o.toList.map (λx=>(x,s.heap.objs.size))++c) {s with heap:=aO3 o s.heap}->wpAny M A (forIn N c aT5) Q E s
 |none,[],c,s,_,q=>by rw[List.forIn_nil];exact cX3 q
 |some _,[],c,s,h,_=>by cases h
 |o,(n,k)::r,c,s,h,q=>by
  rw[cP5];show wpAny M A (aT5 (n,k) c>>=_) Q E s;unfold aT5;dsimp only;cases B:k==NameKind.cell with
  |false=>
   rw[cP2,cW6 (by show¬(k==NameKind.cell)=true;rw[B];decide)]at h;erw[cK5,if_false,pure_bind];exact aT4 o r c s h q
  |true=>
   rw[cP2,cW7 (by exact B),cI9]at h;cases o with
   |none=>cases h
   |some X=>
    injection h with H C
    have H:n=X:=H;subst H;erw[if_true,bind_assoc,pure_bind];exact cW8 (wpAny_alloc (aT4 none r _ _ C q))
theorem cp5(H:(scope.names.filter λy=>y.2==.cell).map (·.1)=o.toList)
  (h:Q {scope:=scope,locals:=s.heap.objs.size,globals:=globals,cells:=o.toList.map (λx=>(x,s.heap.objs.size+1))++c,qual:=qual,func:=none,code:=e.code,frame:=e.frame,builtins:=e.builtins} {s with heap:=aO3 o (s.heap.push {cls:=.type "dict",data:=.dict #[]})}):
  wpAny M A (newFunctionEnv scope globals c [] qual none .none (some e)) Q E s:=by
 unfold newFunctionEnv;refine cW8 (wpAny_alloc ?_);refine cW8 (aT4 o scope.names c _ H ?_);have S:(s.heap.push {cls:=.type "dict",data:=.dict #[]}).objs.size=s.heap.objs.size+1:=by
  show(s.heap.objs.push _).size=_;simp
 erw[List.forIn_nil,pure_bind];refine cX3 ?_;show Q {scope:=scope,locals:=s.heap.objs.size,globals:=globals,cells:=o.toList.map (λx=>(x,(s.heap.push {cls:=.type "dict",data:=.dict #[]}).objs.size))++c,qual:=qual,func:=none,code:=e.code,frame:=e.frame,builtins:=e.builtins} _;rw[S];exact h
noncomputable def aT8(X:Cx)(i:List Expr)(t:TT):Prop:=
 ∀(a:List (Addr×Obj)) (s:Shared) (w:St) (H:Hp) (Q:Bool->Hp->Prop),Inv X a w H s->t w H Q->
  wpAny (model X.prog X.w) X.A (forIn i true λc r=>if r=true then do let o<-isTrue c X.env (eval c X.env);pure (ForInStep.yield o)else pure (ForInStep.yield r)) (TP X a w Q) X.xe s
noncomputable def cB0:TT:=λ_ H Q=>Q true H
theorem bV2:aT8 X [] cB0:=λ_ _ _ H _ I h=>wpAny_tests_nil ⟨H,I,h⟩
theorem bV1(h:PT X c t):aT8 X [c] t:=λa s w H Q I q=>wpAny_tests_one (h a s w H Q I q)
noncomputable def Sub(w W:St):Prop:=W.length=w.length/\∀(i:Nat) v,w[i]?=some (some v)->W[i]?=some (some v)
noncomputable def tLC(N:TI)(g:TG)(t:TT)(e:TE)(n:Nat)(I:List Nat):TE:=λw H Q=>N w H λJ C=>∀a,C a=none->
 ∃W:Nat->Nat->List V->Hp->Prop,(∃m,W 0 m [] (upd C a (.lst [])))/\∀i m y H,W i m y H->
  (J.stop i H/\Q (.ref a) H)\/(J.go i H/\∀x h,J.yld i H x h->g x (Z5 n I w) h λB L=>Sub (Z5 n I w) B/\t B L λc E=>
   if c=true then e B E λv F=>F a=⇑y/\y.length<sizeLine/\∃M,M<m/\W (i+1) M (y++[v]) (upd F a (.lst (y++[v])))else∃M,M<m/\W (i+1) M y E)
structure cF0(X:Cx)(aA:List (Addr×Obj))(H:Hp)(C:Addr):Prop where
 hn:H C=none
 hL:C≠X.env.locals
 h1:C∈X.ex\/X.sd.heap.objs.size<=C
 h2:∀x c,X.env.cells.lookup x=some c->c≠C
 h3:∀p∈X.pn++aA,p.1≠C
structure cc4(ok:Cx->Prop)(P:Program)(w:World)(K:cW0)(tg:Expr)(J:It)(fp:List Addr)(it:Addr)(tn:Nat->Heap->Prop):Prop where
 mem:it∈fp
 obj:∀i h,tn i h->∀b∈fp,∃o,h.get? b=some o/\∀v,o.data≠.cell v
 keep:∀i h h',tn i h->(∀b∈fp,∀o,h.get? b=some o->h'.get? b=some o)->tn i h'
 item:∀(X:Cx),X.prog=P->X.w=w->X.K=K->ok X->∀(i:Nat) (aA:List (Addr×Obj)) (s:Shared) (wW:St) (H:Hp) (E:Value->Shared->Prop),Inv X aA wW H s->(∀b∈fp,ai6 X aA H b)->tn i s.heap->J.go i H->
  wpAny (model P w) X.A (pyNext (.ref it)) (λr s1=>∃u,r=some u/\
   wpAny (model P w) X.A (letOwnedTupleGo tg (.ref it) u) (λ_ s2=>∃x H',Inv X aA wW H' s2/\C9 x u/\J.yld i H x H'/\tn (i+1) s2.heap/\∀b∈fp,H' b=none) E s1) E s
 done:∀(X:Cx),X.prog=P->X.w=w->X.K=K->ok X->∀(i:Nat) (aA:List (Addr×Obj)) (s:Shared) (wW:St) (H:Hp) (E:Value->Shared->Prop),Inv X aA wW H s->(∀b∈fp,ai6 X aA H b)->tn i s.heap->J.stop i H->
  wpAny (model P w) X.A (pyNext (.ref it)) (λr s1=>r=none/\Inv X aA wW H s1) E s
 self:∀(A:Around) (i:Nat) (s:Shared) (Q:Value->Shared->Prop) (E:Value->Shared->Prop),tn i s.heap->Q (.ref it) s->wpAny (model P w) A (pyIter (.ref it)) Q E s
noncomputable def cE6(o:Cx->Prop)(X:Cx)(a:List (Addr×Obj))(w:St)(g:Expr)(R:It->Hp->Prop)(I:Value)(s:Shared):Prop:=
 ∃(i:Addr) (f:List Addr) (t:Nat->Heap->Prop) (J:It) (H:Hp),I=.ref i/\Inv X a w H s/\cc4 o X.prog X.w X.K g J f i t/\t 0 s.heap/\(∀b∈f,ai6 X a H b)/\R J H
noncomputable def PIx(o:Cx->Prop)(X:Cx)(t i:Expr)(W:TI):Prop:=
 ∀(a:List (Addr×Obj)) (s:Shared) (w:St) (H:Hp) (R:It->Hp->Prop),Inv X a w H s->W w H R->
  wpAny (model X.prog X.w) X.A (eval i X.env) (λv S=>wpAny (model X.prog X.w) X.A (pyIter v) (cE6 o X a w t R) X.xe S) X.xe s
theorem PI.x(h:PI X g E W):PIx (λX=>X.calm=true) X g E W:=λa s w H R I q=>
 thn (h a s w H R I q) λv S C=>thn C λF L ⟨t,f,n,J,B,e,i,T,r⟩=>⟨t,f,n,J,B,e,i,⟨T.mem,T.obj,T.keep,T.item,T.done,T.self⟩,r⟩
theorem bo5{X:Cx}{O:Option Str}{av ak ag:Expr}{ay:List Expr}{s:Scope}{aU:Pos}{wi:TI}{aL:TG}{tc:TT}{te:TE}(N:List Str)(n:Nat)(M:List Nat)
  {ok:Cx->Prop}(bB:∀l C f U w H ae,Inv X U w H ae->(∀b∈f,b∈X.ex\/X.sd.heap.objs.size<=b)->ok (P9 O X s l C N ae H f)) (aG:ay7 O X.env.scope X.N s N n M=true) (hi:PIx ok X ak ag wi)
  (hg:∀l C sd Ho f,PG (P9 O X s l C N sd Ho f) ak aL) (hc:∀l C sd Ho f,aT8 (P9 O X s l C N sd Ho f) ay tc) (he:∀l C sd Ho f,PE (P9 O X s l C N sd Ho f) av te)
  (hs:NFo X ag){U:List (Addr×Obj)}{ae:Shared}{w:St}{H:Hp}{aF:VK}(I:Inv X U w H ae) (aj:tLC wi aL tc te n M w H aF)
  {use:Option (Value->Sem Unit)}{Q':Value->Shared->Prop}{ps:Pos}
  (fin:∀(a C:Addr) (Q:Hp) (g:Shared),Inv X U w Q g->(∃m,g.heap.Ns C m)->cF0 X U Q C->aF (.ref a) Q->compPost (model X.prog X.w) X.A X.xe use Q' (.ref a) C (.ok .next) g):
  wpAny (model X.prog X.w) X.A (comprehension (.ListComp av [⟨ak,ag,ay,0⟩] s aU) s X.env ps (newList []) false (eval ag X.env) use) Q' X.xe ae:=by
 erw[ay7,cK2,cO2,beq_iff_eq]at aG;obtain⟨⟨⟨⟨ck,c1⟩,cn⟩,bf⟩,cc⟩:=aG;have aR:s.kind=.function:=by
  revert ck;cases s.kind<;>simp
 have aT:∀y∈s.names,y.2=.cell->O=some y.1:=λy R e=>by
  have :y∈s.names.filter λy=>y.2==.cell:=List.mem_filter.mpr ⟨R,by rw[e];rfl⟩
  have :y.1∈(s.names.filter λy=>y.2==.cell).map (·.1):=List.mem_map.mpr ⟨y,this,rfl⟩;rw[c1]at this;cases O with
  |none=>cases this
  |some x0=>rw[List.mem_singleton.mp this]
 have locs:∀y∈s.names,y.2=.local->s.names.lookup y.1=some .local:=λy R e=>by
  have :=(cn y R).1;simpa[e]using this
 have ar:∀y∈s.names,y.2=.free->O≠some y.1/\(X.env.kindOf y.1=some .cell\/X.env.kindOf y.1=some .free):=λy R e=>by
  have :=(cn y R).2;erw[e,bne_self_eq_false,Bool.false_or,cK2,bne_iff_ne,ne_eq,cK8,beq_iff_eq]at this;exact this
 have bb:∀y∈s.names,y.2=.free->(X.env.kindOf y.1=some .cell\/X.env.kindOf y.1=some .free):=λy R e=>(ar y R e).2
 have aw:∀y∈s.names,y.2=.free->∃c,X.env.cells.lookup y.1=some c:=λy R e=>I.ok.has y.1 (bb y R e)
 refine wpAny_comprehension_free (use:=use) rfl hs (bC7 aw) aR locs (thn (hi U ae w H _ I aj) λv s1 h1=>thn h1 λbL P h2=> ?_);obtain⟨it,f,tn,bJ,J,rfl,I2,T,st2,f2,hq⟩:=h2
 (refine cX2 ?_ (by size_fits));have bu:J P.heap.objs.size=none:=I2.hok.fresh (cT8 _)
 have B:Inv X U w (upd J P.heap.objs.size (.lst [])) {P with heap:=P.heap.push {cls:=.type "list",dict:=none,data:=.seq ([]:List Value).toArray}}:=
  I2.laid (t':=P.toks) (λb ao e=>cL0 _ e) (cT8 _) ⟨cV7 _,[],0,.nil,cL1 _ rfl⟩
 have bl:∀b∈f,∃o,P.heap.get? b=some o/\∀v,o.data≠.cell v:=T.obj _ _ st2;have bk:∀b∈f,b<P.heap.objs.size:=λb h=>by obtain⟨o,e,_⟩:=bl b h;exact cL4 e
 generalize ha:P.heap.objs.size=a at *;generalize bC:({P with heap:=P.heap.push {cls:=.type "list",dict:=none,data:=.seq ([]:List Value).toArray}}:Shared)=S at *;have st3:tn 0 S.heap:=by rw[<-bC];exact T.keep _ _ _ st2 λb _ o e=>cL0 _ e
 have ai:∀b∈f,∃o,S.heap.get? b=some o/\∀v,o.data≠.cell v:=T.obj _ _ st3;have bo:∀b∈f,upd J a (.lst []) b=none:=λb h=>by rw[n6 (cV0 (bk b h))];exact(f2 b h).1
 refine cp5 c1 ?_;obtain⟨W,⟨m0,w0⟩,bH⟩:=hq a bu;have bG:(S.heap.push {cls:=.type "dict",data:=.dict #[]}).objs.size=S.heap.objs.size+1:=by
  show(S.heap.objs.push _).size=_;simp
 have bA:(aO3 O (S.heap.push {cls:=.type "dict",data:=.dict #[]})).Ns S.heap.objs.size λ_=>none:=by
  cases O with
  |none=>exact Heap.Ns.new _ _
  |some _=>exact(Heap.Ns.new _ _).push _
 have u:∀b o,S.heap.get? b=some o->(aO3 O (S.heap.push {cls:=.type "dict",data:=.dict #[]})).get? b=some o:=λb o e=>by
  cases O with
  |none=>exact cL0 _ e
  |some _=>exact cL0 _ (cL0 _ e)
 have bc:∀x,O=some x->(aO3 O (S.heap.push {cls:=.type "dict",data:=.dict #[]})).IsCell (S.heap.objs.size+1) none:=λx e=>by
  rw[e,<-bG];exact⟨bC9,cL1 _ rfl,rfl⟩
 generalize bK:aO3 O (S.heap.push {cls:=.type "dict",data:=.dict #[]})=aQ at *;generalize Y:S.heap.objs.size=C at *;generalize aO:ai2 X.env s.names []=r at *;have aI:∀x c,r.lookup x=some c->X.env.cells.lookup x=some c:=λx c e=>by
  rw[<-aO]at e;exact aB5 aw (λx c e=>by simp at e) e
 have bg:∀x,(x,.free)∈s.names->∃c,r.lookup x=some c:=λx F=>by
  rw[<-aO];exact aI4 aw (.inl F)
 generalize ax:O.toList.map (λx=>(x,C+1))++r=l at *;have t:∀x c,l.lookup x=some c->(O=some x/\c=C+1)\/(O≠some x/\X.env.cells.lookup x=some c):=λx c e=>by
  rw[<-ax]at e;cases O with
  |none=>exact .inr ⟨(nomatch ·),aI x c e⟩
  |some x0=>
   have e:((x0,C+1)::r).lookup x=some c:=e;rw[cR4]at e;cases F:x==x0 with
   |true=>rw[F]at e;cases e;exact .inl ⟨by rw[eq_of_beq F],rfl⟩
   |false=>rw[F]at e;exact .inr ⟨λz=>beq_eq_false_iff_ne.mp F (cV9 z).symm,aI x c e⟩
 have aH:∀x,(x,.free)∈s.names->∃c,l.lookup x=some c:=λx F=>by
  obtain⟨c,aj⟩:=bg x F;refine⟨c,?_⟩;have ne:=(ar _ F rfl).1;rw[<-ax];cases O with
  |none=>exact aj
  |some x0=>
   show((x0,C+1)::r).lookup x=_;rw[cR4,cI6 λz=>ne (by rw[z])];exact aj
 have aJ:∀x,O=some x->l.lookup x=some (C+1):=λx e=>by
  rw[<-ax,e];show((x,C+1)::r).lookup x=_;rw[cR4,cW2]
 have aa:∀b o,S.heap.get? b=some o->b<C:=λb o e=>by rw[<-Y];exact cL4 e
 have au:∀x c,X.env.cells.lookup x=some c->c<C:=λx c e=>by
  obtain⟨v,o,ho,_⟩:=B.cell x c e;exact aa c o ho
 have I4:Inv (P9 O X s l C N S (upd J a (.lst [])) f) [] (Z5 n M w) (upd J a (.lst [])) {S with heap:=aQ}:=by
  refine⟨⟨I.ok.mod,aR,I.ok.glob,I.ok.blt,by rw[<-Y];exact cT8 _,λx y c e1 L=> ?_,λx F=> ?_,(λx c z e=> ?_),I.ok.hd,I.ok.frames,.inl rfl,λb h=>⟨?_,λx c e=> ?_⟩,
   B.bs,cU0 I.ok.bsz B.sz,λb o e z=> ?_,λb h z=> ?_,B.stack,B.stkFree⟩,rfl,B.bare,Un.kept u,⟨_,bA,λi x v e1 L e3=> ?_⟩,λx c e=> ?_,?_,λx c e=> ?_,λp hp=>absurd (show p∈([]:List (Addr×Obj))from hp) ∅,B.hok.kept u,?_⟩
  .rcases t x c e1 with⟨a1,a2⟩|⟨a1,a2⟩
   .rcases t y c L with⟨b1,b2⟩|⟨b1,b2⟩
    .exact cV9 (a1.symm.trans b1)
    .exact absurd (au y c b2) (by rw[a2];exact Nat.not_lt.mpr (cT9 C))
   .rcases t y c L with⟨b1,b2⟩|⟨b1,b2⟩
    .exact absurd (au x c a2) (by rw[b2];exact Nat.not_lt.mpr (cT9 C))
    .exact I.ok.inj x y c a2 b2
  .rcases F.elim (λq=>aB3 q (.inl rfl) aT) (λq=>aB3 q (.inr rfl) aT)with q|q
   .exact⟨_,aJ x q⟩
   .exact aH x q
  .have F:O=some x:=eq_of_beq z;have e:l.lookup x=some c:=e;rw[aJ x F]at e;cases e;show S.heap.objs.size<=C+1;rw[Y];exact cT9 _
  .exact cV0 (by obtain⟨o,q,_⟩:=ai b h;exact aa b o q)
  .rcases t x c e with⟨_,a2⟩|⟨_,a2⟩
   .rw[a2];obtain⟨o,q,_⟩:=ai b h;have :=aa b o q;exact λz=>absurd this (by rw[<-z];exact Nat.not_lt.mpr (cT9 C))
   .exact(f2 b h).2.2.2.2.1 x c a2
  .rcases(f2 b z).2.2.2.1 with q|q
   .exact I.ok.noex b o e q
   .exact absurd (cU2 (cL4 e) (cU0 I.ok.bsz q)) (cU1 _)
  .rcases cI4 (B.stkSub b z)with q|q
   .exact(f2 b h).2.1 q
   .exact(f2 b h).2.2.1 q
  .have bw:n<=i:=by
    by_cases aP:i<n
    .exfalso;unfold Z5 at L;rw[cP6 (by simpa using aP),cQ2,cW7 aP]at L;cases L
    .omega
   unfold Z5 at L;rw[cP7 (by simpa using bw),cR0,cQ0]at L;cases ec:M[i-n]? with
   |none=>rw[ec]at L;cases L
   |some i0=>
    rw[ec]at L;have af:(w[i0]?).join=some v:=cV9 L;have es:w[i0]?=some (some v):=by
     cases q:w[i0]? with
     |none=>rw[q]at af;cases af
     |some o=>rw[q]at af;cases o with
      |none=>cases af
      |some v'=>cases af;rfl
    have bh:N[i]?=some x:=e1;have hz:(i0,x)∈M.zip (N.drop n):=by
     refine cS4 (i:=i-n) ?_;rw[cQ5];refine⟨ec,?_⟩;rw[List.getElem?_drop,<-bh];congr 1;omega
    obtain⟨⟨c1,c2⟩,c3⟩:=cc _ hz;erw[cK8,beq_iff_eq]at c2;obtain⟨m,hn,hl⟩:=B.loc;obtain⟨ao,ru,lu⟩:=hl i0 x v c1 es (c2.elim (λq=>.inr (.inl q)) λq=>.inr (.inr q));refine⟨ao,ru,?_⟩;rcases lu with⟨q,_⟩|⟨_,c,br,bt⟩
    .exfalso;have q':X.env.scope.names.lookup x=some .local:=q;rcases c2 with c2|c2<;>rw[c2]at q'<;>cases q'
    .obtain⟨ba,aM⟩:=aH x (cW1 c3);have bz:=(ar _ (cW1 c3) rfl).1;have :=((t x ba aM).resolve_left λz=>bz z.1).2;rw[br]at this;cases this;refine .inr ⟨?_,c,aM,?_⟩
     .exact aJ9 c3
     .obtain⟨o,ho,hd⟩:=bt;exact⟨o,u c o ho,hd⟩
  .rcases t x c e with⟨a1,a2⟩|⟨_,a2⟩
   .rw[a2];exact⟨_,bc x a1⟩
   .obtain⟨v,o,ho,hd⟩:=B.cell x c a2;exact⟨v,o,u c o ho,hd⟩
  .exact B.hok.fresh (by rw[Y];exact cT8 _)
  .rcases t x c e with⟨_,a2⟩|⟨_,a2⟩
   .rw[a2];exact B.hok.fresh (by rw[Y];exact cT9 _)
   .exact B.freeC x c a2
  .show(Z5 n M w).length=N.length;unfold Z5;rw[cQ7,cR0,cQ8,bf]
 have aN:ok (P9 O X s l C N S (upd J a (.lst [])) f):=bB _ _ _ _ _ _ _ B λb h=>(f2 b h).2.2.2.1
 have aB:∀{E:Hp},(∀b∈f,E b=none)->∀b∈f,ai6 (P9 O X s l C N S (upd J a (.lst [])) f) [] E b:=λhn b h=>
  ⟨hn b h,cV0 (by obtain⟨o,q,_⟩:=ai b h;exact aa b o q),λz=>by
   rcases cI4 (B.stkSub b z)with q|q
   .exact(f2 b h).2.1 q
   .exact(f2 b h).2.2.1 q,.inl h,λx c e=>by
   rcases t x c e with⟨_,a2⟩|⟨_,a2⟩
   .rw[a2];obtain⟨o,q,_⟩:=ai b h;have :=aa b o q;exact λz=>absurd this (by rw[<-z];exact Nat.not_lt.mpr (cT9 C))
   .exact(f2 b h).2.2.2.2.1 x c a2,λp hp=>absurd (show p∈([]:List (Addr×Obj))from hp) ∅⟩
 have aS:codeAny (model X.prog X.w) X.A (.compLoop (.ListComp av [⟨ak,ag,ay,0⟩] s aU) 0 (.ref it) (.ref a) (compEnvC s l C X.env))
   (compPost (model X.prog X.w) X.A X.xe use Q' (.ref a) C) {S with heap:=aQ}:=by
  refine aI3 (λah Z=>∃i j E,Inv (P9 O X s l C N S (upd J a (.lst [])) f) [] (Z5 n M w) E Z/\tn i Z.heap/\(∀b∈f,E b=none)/\W i ah j E) ?_ m0
   ⟨0,[],_,I4,T.keep _ _ _ st3 λb _ o e=>u b o e,bo,w0⟩
  rintro ah s5 ⟨i,j,Q,I5,aV,aK,w5⟩;rcases bH i ah j Q w5 with⟨stop,qn⟩|⟨go,step⟩
  .refine thn (T.done (P9 O X s l C N S (upd J a (.lst [])) f) rfl rfl rfl aN i [] s5 (Z5 n M w) Q (λ_ _=>False) I5 (aB aK) aV stop) λbD g ⟨hr,k⟩=> ?_
   subst hr;obtain⟨m,hn,_⟩:=k.loc;have J0:Inv X U w Q g:=B.call' (ch:=f) k.os k.aD k.hok k.bare λb h=>by
    obtain⟨f0,f1,f3,f4,f5,f6⟩:=f2 b h;exact⟨f4,f1,f5,f6⟩
   exact fin a C Q g J0 ⟨m,hn⟩ ⟨k.free,cU9 (by rw[<-Y];exact B.lt),.inr (by rw[<-Y];exact B.sz),λx c e=>cV0 (au x c e),λp hp=>cV0 (aa p.1 p.2 (B.pin p hp).1)⟩ qn
  .refine thn (T.item (P9 O X s l C N S (upd J a (.lst [])) f) rfl rfl rfl aN i [] s5 (Z5 n M w) Q (λ_ _=>False) I5 (aB aK) aV go) λbD g ⟨ao,hr,h6⟩=> ?_
   subst hr;refine thn h6 λ_ s7 ⟨x,H7,I7,r7,y7,az,bp⟩=> ?_
   have aZ:=I7.pinned (aB bp) (T.obj _ _ az);refine thn (hg _ _ _ _ _ _ s7 _ H7 x ao _ aZ r7 (step x H7 y7)) λ_ s8 ⟨aq,H8,I8,aW,q8⟩=> ?_
   refine thn (hc _ _ _ _ _ _ s8 aq H8 _ I8 q8) λb s9 ⟨H9,I9,q9⟩=> ?_
   have again:∀{E:Hp}{Z:Shared}{aD:List V}{m':Nat},Inv (P9 O X s l C N S (upd J a (.lst [])) f) ([]++aK3 f s7.heap) aq E Z->W (i+1) m' aD E->m'<ah->
     ∃m,m<ah/\∃i j E,Inv (P9 O X s l C N S (upd J a (.lst [])) f) [] (Z5 n M w) E Z/\tn i Z.heap/\(∀b∈f,E b=none)/\W i m j E:=λ{E Z aD m'} I' w' hm=>by
    refine⟨m',hm,i+1,aD,E,(I'.unpinned).weak aW.1.symm aW.2,T.keep _ _ _ az λb h o e=>(I'.pin (b,o) (cR9 _ (cR9 _ (an7 h e)))).1,λb h=> ?_,w'⟩;obtain⟨o,e,d⟩:=T.obj _ _ az b h;exact(I'.pin (b,o) (cR9 _ (cR9 _ (an7 h e)))).2.1
   cases b with
   |false=>
    obtain⟨m',hm,w'⟩:=q9;exact again I9 w' hm
   |true=>
    refine thn (he _ _ _ _ _ _ s9 aq H9 _ I9 q9) λy bF ⟨v,aE,aX,bE,bq,bx,m',hm,w'⟩=> ?_
    refine thn (aK7 _ bF aq aE (.ref a) [v] (.ref a) [y] (λ(z:V) (E:Hp)=>z=.non/\E=upd aE a (.lst (j++[v]))) aX rfl (.cons bE .nil) ⟨a,j,v,rfl,rfl,bq,bx,rfl,rfl⟩) λz bM ⟨_,bI,aY,_,_,bj⟩=> ?_
    subst bj;exact again aY w' hm
 exact codeAny_compStart_list aS (T.self _ 0 _ _ _ (T.keep _ _ _ st3 λb _ o e=>u b o e) aS)
theorem ca1(N:List Str)(F:Nat)(E:List Nat)
  (Y:X.calm=true) (k:aj6 X.env.scope X.N S N F E=true) (l:PI X t i z)
  (d:∀c C s B f,PG (L7 X S c C N s B f) t g) (W:∀c C s B f,aT8 (L7 X S c C N s B f) r w) (Z:∀c C s B f,PE (L7 X S c C N s B f) P x)
  (p:NFo X i):
  PE X (.ListComp P [⟨t,i,r,0⟩] S aa) (tLC z g w x F E):=by
 intro O ae y H Q I h;rw[eval_ListComp];refine bo5 N F E (ok:=λX=>X.calm=true) (λ_ _ _ _ _ _ _ _ _=>Y) k l.x d W Z p I h (use:=none) λa C J L j n fr u=> ?_
 obtain⟨m,n⟩:=n;refine⟨m,n,λR v=> ?_⟩;have M:Inv X O y J {L with heap:=R,toks:=L.toks}:=j.turned (it:=C) (λb o U e=>v.extBut b o U e) fr.hn fr.hL fr.h1 fr.h2 fr.h3;exact⟨.ref a,J,M,rfl,u⟩
theorem cn9(N:List Str)(J:Nat)(F:List Nat)
  (l:∀c C f E w H s,Inv X E w H s->(∀b∈f,b∈X.ex\/X.sd.heap.objs.size<=b)->u (L7 X S c C N s H f)) (k:aj6 X.env.scope X.N S N J F=true) (Z:PIx u X t i wi)
  (Y:∀c C d B f,PG (L7 X S c C N d B f) t g) (U:∀c C d B f,aT8 (L7 X S c C N d B f) r y) (W:∀c C d B f,PE (L7 X S c C N d B f) P z)
  (p:NFo X i):
  PE X (.ListComp P [⟨t,i,r,0⟩] S ae) (tLC wi g y z J F):=by
 intro E s w H aa I h;rw[eval_ListComp];refine bo5 N J F l k Z Y U W p I h (use:=none) λa C L M j n fr v=> ?_
 obtain⟨m,n⟩:=n;refine⟨m,n,λQ x=> ?_⟩;have O:Inv X E w L {M with heap:=Q,toks:=M.toks}:=j.turned (it:=C) (λb o R e=>x.extBut b o R e) fr.hn fr.hL fr.h1 fr.h2 fr.h3;exact⟨.ref a,L,O,rfl,v⟩
theorem as8(N:List Str)(L:Nat)(E:List Nat)
  (z:X.calm=true) (k:ay7 O X.env.scope X.N s N L E=true) (hi:PI X t r wi)
  (hg:∀c C S H f,PG (P9 O X s c C N S H f) t g) (y:∀c C S H f,aT8 (P9 O X s c C N S H f) J tc) (he:∀c C S H f,PE (P9 O X s c C N S H f) F te)
  (v:X.N.Nodup) (hx:X.N[i]?=some x) (l:X.env.scope.names.lookup x=some .local) (aa:swapsWith (.ListComp F [⟨t,r,J,0⟩] s Q) (some (.Name x p)) ah.line X.env=pure true)
  (hs:NFo X r):
  PS X (.Assign [.Name x p] (.ListComp F [⟨t,r,J,0⟩] s Q) ah) (aZ6 (tLC wi g tc te L E) (ar8 i)):=by
 intro P af wW aj D I h
 (rw[exec_Assign_Name_used _ _ _ _ aa]);(refine cW8 (wpAny_standAt (cW8 ?_)));show wpAny _ X.A (do let _<-comprehension (.ListComp F [⟨t,r,J,0⟩] s Q) s X.env _ (newList []) false (eval r X.env) (some (assign (.Name x p) X.env))) _ _ af
 refine cW8 (cX1 (bo5 N L E (ok:=λX=>X.calm=true) (λ_ _ _ _ _ _ _ _ _=>z) k hi.x hg y he hs I h (use:=some (assign (.Name x p) X.env)) (Q':=λ_ R=>SP X P D .next R) λa C M s6 j n fr qn=> ?_) (λ_ R hq=>cX3 (cX3 hq)) λ_ _ e=>e);obtain⟨m,n⟩:=n;show wpAny _ X.A (assign (.Name x p) X.env (.ref a)) _ _ s6;refine wpAny_assign_Name (aJ6 j v hx (.inl l) (show C9 (.ref a) (.ref a)from rfl) (λU W ⟨b,sb,B⟩=> ?_) (.inr l));have w:C≠b:=by
  rcases B with rfl|B
  .exact fr.hL
  .exact λai=>fr.h2 x b B ai.symm
 refine⟨m,?_,λu ag=> ?_⟩
 .obtain⟨o,d,Z,ho,ae⟩:=n;exact⟨o,d,Z,(sb.2 C w).trans ho,ae⟩
 .have Y:Inv X P (wW.set i (some (.ref a))) M {U with heap:=u,toks:=U.toks}:=W.turned (it:=C) (λb o B e=>ag.extBut b o B e) fr.hn fr.hL fr.h1 fr.h2 fr.h3;exact⟨_,M,Y,qn⟩
end L2
namespace L3
def ag4:List (Addr×Str):=[(297,"broken_row.<locals>.<lambda>"),(563,"law.<locals>.<lambda>")]
theorem cd6:∀p∈ag4,∀P∈ag4,p.1=P.1->p.2=P.2:=by decide +kernel
def aa7(c:Addr)(q:Str):HO:=.ext (λh=>h.CodeRec (.ref c) q)
def V8(H:Hp)(q:Str):List Value->Prop
 |[]=>True
 |.int _ _::.int _ _::c::r=>(∃a,c=.ref a/\H a=some (aa7 a q))/\V8 H q r
 |_=>False
def Tbs(H:Hp):Prop:=∀p∈ag4,∃P,H p.1=some (.tbl P)/\V8 H p.2 P.toList
structure Sub(G H:Hp):Prop where
 s:D7 G H
 t:Tbs H
 n:∀b ps,G b≠some (.tbl ps)
instance {G H:Hp}:CoeFun (Sub G H) (λ_=>∀b o,G b=some o->H b=some o):=⟨λh=>h.s⟩
instance {G H:Hp}:Coe (Sub G H) (D7 G H):=⟨λh=>h.s⟩
def aj4:HO->Bool
 |.tbl _=>false
 |_=>true
def T8(H h:Hp):Prop:=∀b o,H b=some o->∃O,h b=some O/\(aj4 o=true->O=o)
section
variable {G i H g h:Hp}
theorem T8.refl(H:Hp):T8 H H:=λ_ o B=>⟨o,B,λ_=>rfl⟩
theorem bi5(B:D7 H g):T8 H g:=λb o q=>⟨o,B b o q,λ_=>rfl⟩
theorem T8.yes(B:T8 H g)(e:H b=some o)(n:aj4 o=true):g b=some o:=by
 obtain⟨O,E,z⟩:=B b o e;rw[z n]at E;exact E
theorem T8.lst(B:T8 H g)(e:H b=⇑xs):g b=⇑xs:=B.yes e rfl
theorem T8.ne(B:T8 H g)(e:H b≠none):g b≠none:=by
 cases q:H b with
 |none=>exact absurd q e
 |some o=>obtain⟨O,E,_⟩:=B b o q;rw[E];simp
theorem T8.free(B:T8 H g)(e:g b=cV8):H b=cV8:=by
 cases q:H b with
 |none=>rfl
 |some o=>obtain⟨O,E,_⟩:=B b o q;rw[E]at e;cases e
theorem T8.trans(a:T8 H g)(b:T8 g h):T8 H h:=λc o e=>by
 by_cases n:aj4 o=true
 .exact⟨o,b.yes (a.yes e n) n,λ_=>rfl⟩
 .obtain⟨O,E,_⟩:=a c o e;obtain⟨C,B,_⟩:=b c O E;exact⟨C,B,λz=>absurd z n⟩
theorem T8.upd(B:T8 H g)(n:H a=none):T8 H (L2.upd g a o):=λb u e=>by
 rw[n6 (C5 e n)];exact B b u e
theorem Sub.free(e:Sub G H)(B:H l=cV8):G l=cV8:=e.s.free B
theorem Sub.seq{K:cW0}{a:Addr}{x:List V}(e:Sub G H)(B:SqL K G a x):SqL K H a x:=e.s.seq B
theorem aD2(B:∀b p,G b≠some (.tbl p))(n:aj4 o=true):∀b p,L2.upd G a o b≠some (.tbl p):=λb p z=>by
 by_cases e:b=a
 .subst e;rw[t8]at z;cases z;cases n
 .rw[n6 e]at z;exact B b p z
theorem V8.mono(k:∀a,H a=some (aa7 a q)->g a=some (aa7 a q)):∀{l:List Value},V8 H q l->V8 g q l
 |[],_=>trivial
 |.int _ _::.int _ _::c::R,⟨⟨a,e,B⟩,r⟩=>⟨⟨a,e,k a B⟩,V8.mono k r⟩
theorem V8.triples:∀{l:List Value},V8 H q l->TriplesOk l
 |[],_=>trivial
 |.int _ _::.int _ _::c::R,⟨_,r⟩=>by
  have :=V8.triples r;simpa only[TriplesOk]using this
theorem V8.hit:∀{l:List Value},V8 H q l->codeAmong p l=some cv->∃a,cv=.ref a/\H a=some (aa7 a q)
 |[],_,e=>by cases e
 |.int _ _::.int _ _::c::R,⟨⟨a,E,B⟩,r⟩,e=>by
  unfold codeAmong at e;split at e
  .cases e;exact⟨a,E,B⟩
  .exact V8.hit r e
theorem V8.more(B:H a=some (aa7 a q)):∀{l:List Value},V8 H q l->V8 H q (l++[.int I t,.int j u,.ref a])
 |[],_=>⟨⟨a,rfl,B⟩,trivial⟩
 |.int _ _::.int _ _::c::R,⟨x,r⟩=>⟨x,V8.more B r⟩
theorem Tbs.upd(C:Tbs H)(n:∀x,H a=some x->(∀P,x≠.tbl P)/\∀c q,x≠aa7 c q):Tbs (upd H a o):=λp E=>by
 obtain⟨P,e,r⟩:=C p E;have n1:p.1≠a:=λz=>by rw[z]at e;exact(n _ e).1 P rfl
 refine⟨P,by rw[n6 n1];exact e,r.mono λc B=> ?_⟩;rw[n6 λz=>by rw[z]at B;exact(n _ B).2 _ _ rfl];exact B
theorem Tbs.new(B:Tbs H)(n:H a=none):Tbs (L2.upd H a o):=B.upd λx e=>by rw[n]at e;cases e
theorem Tbs.lst(B:Tbs H)(n:H a=⇑xs):Tbs (L2.upd H a o):=B.upd λx e=>by rw[n]at e;cases e;exact⟨λ_ z=>HO.noConfusion z,λ_ _ z=>HO.noConfusion z⟩
end
structure Wd(p:Prop):Prop where
 run:p
def ah8:List Str->Bool
 |[]=>true
 |x::X=> !(X.contains x)&&ah8 X
theorem O8:∀{l:List Str},ah8 l=true->l.Nodup
 |[],_=>List.nodup_nil
 |x::X,h=>by
  rw[ah8,cK2]at h;exact List.nodup_cons.mpr ⟨λz=>by rw[cO6,cW4 z]at h;exact absurd h.1 ∎,O8 h.2⟩
mutual
def Rep(K:cW0)(G:Hp):T->V->Prop
 |.non,v=>v=.non
 |.bl b,v=>v=.bl b
 |.int i,v=>v=.int i
 |.str x,v=>v=.str x
 |.tup t,v=>∃a X,v=.ref a/\SqT K G a X/\j9 K G t X
 |.lst t,v=>∃a X,v=.ref a/\G a=⇑X/\j9 K G t X
 |.ref a,v=>v=.ref a
 |.scr n,v=>∃a,v=.ref a/\SqL K G a (n.map V.int)
 |.obj s t,v=>∃a C d F X,v=.ref a/\G a=some (.ins C d F)/\s.map (λf=>F.lookup f)=X.map some/\(Cls K C/\∀f∈s,Q4 K C f)/\j9 K G t X
def j9(K:cW0)(G:Hp):List T->List V->Prop
 |[],X=>X=[]
 |t::s,X=>∃x r,X=x::r/\Rep K G t x/\j9 K G s r
end
section
variable {K:cW0}{G g:Hp}
theorem seqT(e:D7 G g)(h:SqT K G a x):SqT K g a x:=by
 rcases h with(h|⟨o,h⟩)|h
 .exact .inl (.inl (e _ _ h))
 .exact .inl (.inr ⟨o,e _ _ h⟩)
 .exact .inr h
mutual
theorem Rep.mono(e:D7 G g):∀{t:T}{v:V},Rep K G t v->Rep K g t v
 |.non,_,h=>by simpa[Rep]using h
 |.bl _,_,h=>by simpa[Rep]using h
 |.int _,_,h=>by simpa[Rep]using h
 |.str _,_,h=>by simpa[Rep]using h
 |.tup s,_,h=>by
  erw[Rep]at h⊢;obtain⟨a,x,H,B,E⟩:=h;exact⟨a,x,H,seqT e B,j9.mono e E⟩
 |.lst s,_,h=>by
  erw[Rep]at h⊢;obtain⟨a,x,H,B,E⟩:=h;exact⟨a,x,H,e _ _ B,j9.mono e E⟩
 |.ref _,_,h=>by simpa[Rep]using h
 |.scr _,_,h=>by
  erw[Rep]at h⊢;obtain⟨a,H,B⟩:=h;exact⟨a,H,e.seq B⟩
 |.obj _ _,_,h=>by
  erw[Rep]at h⊢;obtain⟨a,C,d,f,x,H,B,F,I,E⟩:=h;exact⟨a,C,d,f,x,H,e _ _ B,F,I,j9.mono e E⟩
theorem j9.mono(e:D7 G g):∀{s:List T}{X:List V},j9 K G s X->j9 K g s X
 |[],_,h=>by simpa[j9]using h
 |t::s,_,h=>by
  erw[j9]at h⊢;obtain⟨x,r,H,B,C⟩:=h;exact⟨x,r,H,Rep.mono e B,j9.mono e C⟩
end
theorem j9.nil:j9 K G [] []:=by simp[j9]
theorem j9.cons(h:Rep K G t x)(r:j9 K G s X):j9 K G (t::s) (x::X):=by
 erw[j9];exact⟨x,X,rfl,h,r⟩
theorem j9.length:∀{s:List T}{X:List V},j9 K G s X->X.length=s.length
 |[],X,h=>by erw[j9]at h;subst h;rfl
 |t::s,X,h=>by
  erw[j9]at h;obtain⟨x,r,e,B,H⟩:=h;subst e;simp[j9.length H]
theorem j9.get:∀{s:List T}{X:List V}{i:Nat}{t:T},j9 K G s X->s[i]?=some t->∃x,X[i]?=some x/\Rep K G t x
 |[],X,i,t,h,e=>by simp at e
 |t0::s,X,i,t,h,e=>by
  erw[j9]at h;obtain⟨x,r,E,H,B⟩:=h;subst E;cases i with
  |zero=>simp at e;subst e;exact⟨x,∅,H⟩
  |succ i=>obtain⟨y,C,R⟩:=j9.get (i:=i) B (by simpa using e);exact⟨y,by simpa using C,R⟩
theorem j9.append:∀{s u:List T}{X y:List V},j9 K G s X->j9 K G u y->j9 K G (s++u) (X++y)
 |[],u,X,y,h,H=>by erw[j9]at h;subst h;simpa using H
 |t::s,u,X,y,h,H=>by
  erw[j9]at h;obtain⟨x,r,e,B,C⟩:=h;subst e;exact j9.cons B (j9.append C H)
theorem j9.drop:∀{s:List T}{X:List V}(n:Nat),j9 K G s X->j9 K G (s.drop n) (X.drop n)
 |s,X,0,h=>by simpa using h
 |[],X,n+1,h=>by erw[j9]at h;subst h;simp[j9]
 |t::s,X,n+1,h=>by
  erw[j9]at h;obtain⟨x,r,e,B,H⟩:=h;subst e;simpa using j9.drop n H
theorem j9.take:∀{s:List T}{X:List V}(n:Nat),j9 K G s X->j9 K G (s.take n) (X.take n)
 |s,X,0,h=>by simp[j9]
 |[],X,n+1,h=>by erw[j9]at h;subst h;simp[j9]
 |t::s,X,n+1,h=>by
  erw[j9]at h;obtain⟨x,r,e,H,B⟩:=h;subst e;simpa using j9.cons H (j9.take n B)
theorem j9.rep(h:j9 K G t x):∀k:Nat,j9 K G (List.replicate k t).flatten (List.replicate k x).flatten
 |0=>by simp[j9]
 |k+1=>by
  rw[cT2,cP4,cT2,cP4];exact j9.append h (j9.rep h k)
def K5(K:cW0)(G:Hp)(w:L2.St)(Q:A3):Prop:=w.length=Q.length/\∀(i:Nat) (t:T),Q[i]?=some (some t)->∃v,w[i]?=some (some v)/\Rep K G t v
theorem K5.mono(e:D7 G g)(h:K5 K G w Q):K5 K g w Q:=⟨h.1,λi t q=>let⟨v,H,B⟩:=h.2 i t q;⟨v,H,B.mono e⟩⟩
theorem K5.set(h:K5 K G W Q)(r:Rep K G t v):K5 K G (W.set i (some v)) (Q.set i (some t)):=by
 refine⟨by simpa using h.1,λj u q=> ?_⟩;by_cases e:i=j
 .subst e;by_cases H:i<Q.length
  .rw[cQ4 H]at q;cases q;exact⟨v,cQ4 (by rw[h.1];exact H),r⟩
  .rw[cP9 (by simpa using H)]at q;cases q
 .rw[cQ3 e]at q;obtain⟨w,B,C⟩:=h.2 j u q;exact⟨w,by rw[cQ3 e];exact B,C⟩
theorem az8(h:o.join=some x):o=some (some x):=by
 cases o with
 |none=>cases h
 |some p=>cases p with
  |none=>cases h
  |some y=>cases h;rfl
theorem K5.cap(n:Nat)(a:List Nat)(h:K5 K G w Q):K5 K G (Z5 n a w) (Z6 n a Q):=by
 refine⟨by simp[Z5,Z6],λj u q=> ?_⟩;unfold Z6 at q;unfold Z5;by_cases H:j<n
 .rw[cP6 (by simpa using H),cQ2,cW7 H]at q;cases q
 .rw[cP7 (by simpa using H),cR0,cQ0]at q;rw[cP7 (by simpa using H),cR0,cQ0];cases e:a[j-n]? with
  |none=>rw[e]at q;cases q
  |some i=>
   rw[e]at q;obtain⟨v,B,C⟩:=h.2 i u (az8 (cV9 q));refine⟨v,?_,C⟩;show some ((w[i]?).join)=some (some v);rw[B];rfl
end
structure Ext(G H G' H':Hp):Prop where
 g:D7 G G'
 s:Sub G' H'
 h:T8 H H'
 fr:∀b,H b≠none->G b=none->G' b=none
theorem Ext.refl{G B:Hp}(e:Sub G B):Ext G B G B:=⟨D7.refl _,e,T8.refl _,λ_ _ q=>q⟩
theorem Ext.trans{G E B F C I:Hp}(a:Ext G E B F)(b:Ext B F C I):Ext G E C I:=
 ⟨a.g.trans b.g,b.s,a.h.trans b.h,λc J L=>b.fr c (a.h.ne J) (a.fr c J L)⟩
theorem K6(h:H p=none)(o:HO):D7 H (upd H p o):=λb u q=>by rw[n6 (C5 q h)];exact q
theorem Ext.new{G B:Hp}{p:Addr}(e:Sub G B)(C:B p=none)(o:HO)(n:aj4 o=true:=by rfl):Ext G B (upd G p o) (upd B p o):=by
 refine⟨K6 (e.free C) o,⟨λb u q=> ?_,e.t.new C,aD2 e.n n⟩,bi5 (K6 C o),λb F I=> ?_⟩
 .by_cases E:b=p
  .subst E;rw[t8]at q⊢;exact q
  .rw[n6 E]at q⊢;exact e b u q
 .rw[n6 (λz=>F (by rw[z];exact C))];exact I
section
variable {X:Cx}
def tX(K:cW0)(g:L3.G):TE:=λw H Q=>∃G C t,Sub G H/\K5 K G w C/\g C=some t/\∀v B h,Ext G H B h->Rep K B t v->Q v h
def tXB(K:cW0)(g:GB):TT:=λw H Q=>∃G B t,Sub G H/\K5 K G w B/\g B=some t/\∀C h,Ext G H C h->Q t h
def tXA(K:cW0)(g:GL):TA:=λw H Q=>∃G C t,Sub G H/\K5 K G w C/\g C=some t/\∀v B h,Ext G H B h->j9 K B t v->Q v h
abbrev PX(X:Cx)(e:Expr)(g:L3.G):Prop:=PE X e (tX X.K g)
abbrev PXB(X:Cx)(e:Expr)(g:GB):Prop:=PT X e (tXB X.K g)
abbrev PXW(X:Cx)(e:Expr)(g:GB):Prop:=PW X e (tXB X.K g)
abbrev PXA(X:Cx)(e:List Expr)(g:GL):Prop:=PA X e (tXA X.K g)
theorem PE.imp(h:PE X e t)(f:∀w H Q,B w H Q->t w H Q):PE X e B:=λa s w H Q I q=>h a s w H Q I (f w H Q q)
theorem PT.imp(h:PT X e t)(f:∀w H Q,B w H Q->t w H Q):PT X e B:=λa s w H Q I q=>h a s w H Q I (f w H Q q)
theorem PW.imp(h:PW X e t)(f:∀W H Q,B W H Q->t W H Q):PW X e B:=λw a s W H Q I q=>h w a s W H Q I (f W H Q q)
theorem PA.imp(h:PA X e t)(f:∀w H Q,B w H Q->t w H Q):PA X e B:=λp a s w H Q I q=>h p a s w H Q I (f w H Q q)
theorem PS.imp{st:Stmt}{t B:TS}(h:PS X st t)(f:∀D w H,B D w H->t D w H):PS X st B:=λa s w H D I q=>h a s w H D I (f D w H q)
theorem PSs.imp{st:List Stmt}{t B:TS}(h:PSs X st t)(f:∀D w H,B D w H->t D w H):PSs X st B:=λa s w H D I q=>h a s w H D I (f D w H q)
theorem PG.imp(h:PG X g t)(f:∀v w H Q,B v w H Q->t v w H Q):PG X g B:=λa s w H v u Q I r q=>h a s w H v u Q I r (f v w H Q q)
theorem PI.imp(h:PI X g i t)(f:∀w H R,B w H R->t w H R):PI X g i B:=λa s w H R I q=>h a s w H R I (f w H R q)
theorem h9(h:o.bind f=some y):∃x,o=some x/\f x=some y:=by
 cases o with
 |none=>cases h
 |some x=>exact⟨x,rfl,h⟩
theorem K9(i:Nat)(N:X.N[i]?=some x:=by rfl)(F:Vis X.env.scope x:=by first |exact .inl rfl|exact .inr (.inl rfl)|exact .inr (.inr rfl))(C:NoD x:=by decide)(d:(x==("__classdict__":Str))=false:=by decide):Wd (PX X (.Name x p) (D3 i)):=⟨PE.imp (as9 N F C d) λw H Q z=>by
  obtain⟨G,I,t,s,E,g,q⟩:=z;obtain⟨v,h,B⟩:=E.2 i t (az8 g);exact⟨v,h,q v G H (Ext.refl s) B⟩⟩
theorem ba4{t:TE}{v:V}{u:T}(h:PE X e (tC v))(r:∀K G,Rep K G u v):PX X e (gC u):=
 PE.imp h λw H Q z=>by
  obtain⟨G,C,t,s,B,g,q⟩:=z;cases g;exact q v G H (Ext.refl s) (r _ _)
theorem j5{i j p}:Wd (PX X (.Constant (.int i) j p) (gC (.int i))):=⟨ba4 (t:=tC (.int i)) bJ3 λ_ _=>by simp[Rep]⟩
theorem cx7{i j p}:PX X (.Constant (.bool i) j p) (gC (.bl i)):=ba4 (t:=tC (.bl i)) bA1 λ_ _=>by simp[Rep]
theorem U0{i j p}:Wd (PX X (.Constant (.bool i) j p) (gC (.bl i))):=⟨ba4 (t:=tC (.bl i)) bA1 λ_ _=>by simp[Rep]⟩
theorem M2{j p}:Wd (PX X (.Constant .none j p) (gC .non)):=⟨ba4 (t:=tC .non) cn8 λ_ _=>by simp[Rep]⟩
theorem av7{x j p}:Wd (PX X (.Constant (.str x) j p) (gC (.str x))):=⟨ba4 (t:=tC (.str x)) bJ1 λ_ _=>by simp[Rep]⟩
theorem bU6{x:Str}{i:Int}{t:Tok}{p:Pos}(H:Gl X x)(B:X.mg x=some (.int i t))(h:NoD x):PX X (.Name x p) (gC (.int i)):=
 ba4 (t:=tC (.int i)) (aD1 (v:=.int i) H B ⟨t,rfl⟩ h) λ_ _=>by simp[Rep]
theorem cf6{x:Str}{a:Addr}{p:Pos}{t:T}(g:Gl X x)(C:X.mg x=some (.ref a))(r:∀G,Rep X.K G t (.ref a))(h:NoD x):PX X (.Name x p) (gC t):=
 PE.imp (aD1 (v:=.ref a) g C rfl h) λw H Q z=>by
  obtain⟨G,F,I,s,E,B,q⟩:=z;cases B;exact q _ G H (Ext.refl s) (r G)
def cc5(K:cW0)(r:V->Hp->VK->Prop)(f:T->Option T):Prop:=
 ∀G H t x z Q,Sub G H->Rep K G t x->f t=some z->(∀v g h,Ext G H g h->Rep K g z v->Q v h)->r x H Q
def N5(K:cW0)(r:R2)(f:T->T->Option T):Prop:=
 ∀G H t B x y z Q,Sub G H->Rep K G t x->Rep K G B y->f t B=some z->(∀v g h,Ext G H g h->Rep K g z v->Q v h)->r x y H Q
def ao3(K:cW0)(r:List V->Hp->VK->Prop)(f:List T->Option T):Prop:=
 ∀G H t x z Q,Sub G H->j9 K G t x->f t=some z->(∀v g h,Ext G H g h->Rep K g z v->Q v h)->r x H Q
theorem tX2(P:N5 X.K r f):∀w H Q,tX X.K (g2 f a b) w H Q->tOp r (tX X.K a) (tX X.K b) w H Q:=λw H Q Z=>by
 obtain⟨G,C,t,s,B,h,q⟩:=Z;obtain⟨x,N,h⟩:=h9 h;obtain⟨y,O,h⟩:=h9 h;refine⟨G,C,x,s,B,N,λv g W e R=>⟨g,C,y,e.s,B.mono e.g,O,λu F J E S=> ?_⟩⟩;exact P F J x y v u t Q E.s (R.mono E.g) S h λz I L M U=>q z I L (e.trans (E.trans M)) U
theorem aC8(o:OpR X (binaryOp O) r)(C:N5 X.K r f)(h:PX X a g)(H:PX X b B):PX X (.BinOp a O b p) (g2 f g B):=
 PE.imp (cy3 o h H) (tX2 C)
theorem cx5(o:UnR X (unaryOp O) r)(N:cc5 X.K r f)(L:PX X a I):PX X (.UnaryOp O a p) (g1 f I):=
 PE.imp (cy1 o L) λw H Q Z=>by
  obtain⟨G,P,t,s,M,h,q⟩:=Z;obtain⟨x,J,h⟩:=h9 h;exact⟨G,P,x,s,M,J,λv g C e R=>N g C x v t Q e.s R h λz B E F S=>q z B E (e.trans F) S⟩
theorem ax3(E:OpR X (compareOp o) r)(F:N5 X.K r f)(h:PX X a g)(H:PX X b B)(C:behindInMarks o b=false):PX X (.Compare a [o] [b] p) (g2 f g B):=
 PE.imp (cg5 E h H C) (tX2 F)
theorem tXT(h:∀w H Q,tX X.K g w H Q->t w H Q):∀w H Q,tXB X.K (bOf g) w H Q->bZ7 t w H Q:=λw H Q z=>by
 obtain⟨G,J,b,s,I,B,q⟩:=z;obtain⟨x,F,B⟩:=h9 B;refine h w H _ ⟨G,J,x,s,I,F,λv C E e r=> ?_⟩;cases x<;>first |(cases B;done)|skip
 cases B;erw[Rep]at r;exact⟨b,r,q C E e⟩
theorem ah7(E:OpR X (compareOp o) r)(F:N5 X.K r f)(h:PX X a g)(H:PX X b B)(C:behindInMarks o b=false):PXB X (.Compare a [o] [b] p) (bOf (g2 f g B)):=
 PT.imp (cg0 E h H C) (tXT (tX2 F))
theorem tXC(t:N5 X.K r f)(v:N5 X.K r' b):∀w H Q,tX X.K (aE2 f b c d i) w H Q->bF9 r r' (tX X.K c) (tX X.K d) (tX X.K i) w H Q:=λw H Q zz=>by
 obtain⟨G,I,aa,sG,F,h,q⟩:=zz;obtain⟨x,j,h⟩:=h9 h;obtain⟨y,l,h⟩:=h9 h;obtain⟨k,n,h⟩:=h9 h;obtain⟨z,o,J⟩:=h9 n;refine⟨G,I,x,sG,F,j,λae M H1 e r1=>⟨M,I,y,e.s,F.mono e.g,l,λu N S E R=> ?_⟩⟩;refine t N S x y ae u z _ E.s (r1.mono E.g) R o λaf g U B L=> ?_
 cases z<;>first |(cases J;done)|skip
 cases J;erw[Rep]at L;refine⟨k,L,?_⟩;cases k with
 |false=>
  cases h;exact au0 (q _ g U (e.trans (E.trans B)) (by simp[Rep]))
 |true=>
  obtain⟨Z,p,s⟩:=h9 h;refine at9 ⟨g,I,Z,B.s,F.mono (e.g.trans (E.g.trans B.g)),p,λw' O W C r4=> ?_⟩;exact v O W y Z u w' aa Q C.s (R.mono (B.g.trans C.g)) r4 s λz P Y a r5=>q z P Y (e.trans (E.trans (B.trans (C.trans a)))) r5
theorem bU7(J:OpR X (compareOp o) r)(M:N5 X.K r f)(L:OpR X (compareOp O) R)(N:N5 X.K R F)(h:PX X a g)(H:PX X b B)(E:PX X c C)
  (I:lastMarks [o,O] [b,c]=false):PX X (.Compare a [o,O] [b,c] p) (aE2 f F g B C):=
 PE.imp (bV5 J L h H E I) (tXC M N)
theorem O7(h:Wd (PX X a g)):Wd (PX X (.BoolOp o [a] p) g):=⟨have h:=h.run;cn6 h⟩
theorem by9{g:L3.G}{w:L2.St}{H G:Hp}{E:A3}{k:Bool}{Q:VK}(s:Sub G H)(J:K5 X.K G w E)(h:bOf g E=some k)(q:∀C B,Ext G H C B->Q (.bl k) B):tX X.K g w H Q:=by
 obtain⟨x,I,F⟩:=h9 h;refine⟨G,E,x,s,J,I,λv C B e r=> ?_⟩;cases x<;>first |(cases F;done)|skip
 cases F;erw[Rep]at r;subst r;exact q C B e
theorem C0(B:Wd (PX X a M))(C:Wd (PX X (.BoolOp .And (b::R) p) N)):Wd (PX X (.BoolOp .And (a::b::R) p) (E8 M N)):=⟨have B:=B.run;have C:=C.run;PE.imp (co0 B C) λw H Q Z=>by
  obtain⟨G,P,t,s,E,h,q⟩:=Z;obtain⟨k,O,h⟩:=h9 h;refine by9 s E O λg I e=>⟨k,rfl,?_⟩
  cases k with
  |false=>cases h;exact au0 (q _ g I e (by simp[Rep]))
  |true=>exact at9 ⟨g,P,t,e.s,E.mono e.g,h,λz F J L r=>q z F J (e.trans L) r⟩⟩
theorem cm2(B:Wd (PX X a M))(C:Wd (PX X (.BoolOp .Or (b::R) p) N)):Wd (PX X (.BoolOp .Or (a::b::R) p) (gOr M N)):=⟨have B:=B.run;have C:=C.run;PE.imp (cy2 B C) λw H Q Z=>by
  obtain⟨G,P,t,s,E,h,q⟩:=Z;obtain⟨k,O,h⟩:=h9 h;refine by9 s E O λg I e=>⟨k,rfl,?_⟩
  cases k with
  |true=>cases h;exact at9 (q _ g I e (by simp[Rep]))
  |false=>exact au0 ⟨g,P,t,e.s,E.mono e.g,h,λz F J L r=>q z F J (e.trans L) r⟩⟩
theorem aN1(h:Wd (PX X a E)):Wd (PX X (.UnaryOp .Not a p) (aT0 E)):=⟨have h:=h.run;PE.imp (cn7 h) λw H Q z=>by
  obtain⟨G,J,t,s,I,g,q⟩:=z;obtain⟨k,F,g⟩:=h9 g;cases g;exact by9 s I F λB C e=>⟨k,rfl,q _ B C e (by simp[Rep])⟩⟩
theorem Y0(h:Wd (PX X e g))(F:∀an3,isTrue e X.env an3=(do let v<-an3;standAt e.pos;holding [v] (truthy v)):=by intro _;rfl):Wd (PXB X e (bOf g)):=⟨have h:=h.run;PT.imp (cn0 h F) λw H Q ⟨G,L,t,s,J,I,q⟩=>by9 s J I λB C E=>⟨t,rfl,q B C E⟩⟩
theorem am2(h:Wd (PXB X a g)):Wd (PXB X (.UnaryOp .Not a p) (ac1 g)):=⟨have h:=h.run;PT.imp (cn1 h) λw H Q z=>by
  obtain⟨G,J,t,s,I,B,q⟩:=z;obtain⟨k,F,B⟩:=h9 B;cases B;exact⟨G,J,k,s,I,F,λC E e=>q C E e⟩⟩
theorem am1(h:Wd (PXB X a g)):Wd (PXW X (.BoolOp .And [a] p) g):=⟨have h:=h.run;cf8 h⟩
theorem ab5(h:Wd (PXB X a g)):Wd (PXW X (.BoolOp .Or [a] p) g):=⟨have h:=h.run;cm7 h⟩
theorem al2(B:Wd (PXB X a N))(C:Wd (PXW X (.BoolOp .And (b::r) p) O)):Wd (PXW X (.BoolOp .And (a::b::r) p) (V1 N O)):=⟨have B:=B.run;have C:=C.run;PW.imp (cm8 B C) λw H Q z=>by
  obtain⟨G,F,t,s,E,h,q⟩:=z;obtain⟨k,P,h⟩:=h9 h;refine⟨G,F,k,s,E,P,λg J e=> ?_⟩;cases k with
  |false=>cases h;exact au0 (q g J e)
  |true=>exact at9 ⟨g,F,t,e.s,E.mono e.g,h,λI L M=>q I L (e.trans M)⟩⟩
theorem X9(B:Wd (PXB X a N))(C:Wd (PXW X (.BoolOp .Or (b::r) p) O)):Wd (PXW X (.BoolOp .Or (a::b::r) p) (bOr N O)):=⟨have B:=B.run;have C:=C.run;PW.imp (cx8 B C) λw H Q z=>by
  obtain⟨G,F,t,s,E,h,q⟩:=z;obtain⟨k,P,h⟩:=h9 h;refine⟨G,F,k,s,E,P,λg J e=> ?_⟩;cases k with
  |true=>cases h;exact at9 (q g J e)
  |false=>exact au0 ⟨g,F,t,e.s,E.mono e.g,h,λI L M=>q I L (e.trans M)⟩⟩
theorem T5(J:Wd (PXB X c g))(F:Wd (PX X a O))(I:Wd (PX X b P)):Wd (PX X (.IfExp c a b p) (gIf g O P)):=⟨have J:=J.run;have F:=F.run;have I:=I.run;PE.imp (bV4 J F I) λw H Q Z=>by
  obtain⟨G,M,t,s,L,h,q⟩:=Z;obtain⟨k,R,h⟩:=h9 h;refine⟨G,M,k,s,L,R,λN S e=> ?_⟩;cases k with
  |true=>exact at9 ⟨N,M,t,e.s,L.mono e.g,h,λz B C E r=>q z B C (e.trans E) r⟩
  |false=>exact au0 ⟨N,M,t,e.s,L.mono e.g,h,λz B C E r=>q z B C (e.trans E) r⟩⟩
theorem t9:Wd (PXA X [] (gs [])):=⟨PA.imp ad3 λw H Q z=>by
 obtain⟨G,C,t,s,B,h,q⟩:=z;cases h;exact q [] G H (Ext.refl s) j9.nil⟩
def bn8:Expr->Bool
 |.Starred _ _=>false
 |_=>true
theorem cd8(h:bn8 e=true):starEach (e::s) E=(false,eval e E)::starEach s E:=by
 cases e<;>first |rfl|cases h
theorem c8(a:Wd (PX X e g))(r:Wd (PXA X s (gs l)))(O:bn8 e=true:=by rfl):Wd (PXA X (e::s) (gs (g::l))):=⟨have a:=a.run;have r:=r.run;PA.imp (V0 a r (cd8 O)) λw H Q z=>by
  obtain⟨G,F,t,S,C,h,q⟩:=z;obtain⟨x,M,h⟩:=h9 h;obtain⟨U,N,h⟩:=h9 h;cases h;refine⟨G,F,x,S,C,M,λv I W E R=>⟨I,F,U,E.s,C.mono E.g,N,λY J L B P=>q _ J L (E.trans B) (j9.cons (R.mono B.g) P)⟩⟩⟩
theorem c9(h:Wd (PX X e g))(H:bn8 e=true:=by rfl):Wd (PXA X [e] (gs [g])):=c8 h t9 H
theorem at2:∀{l:List L3.G}{Q:A3}{t:List T},gs l Q=some t->t.length=l.length
 |[],_,_,z=>by cases z;rfl
 |a::r,Q,t,h=>by
  obtain⟨x,_,h⟩:=h9 h;obtain⟨X,H,h⟩:=h9 h;cases h;simp[at2 H]
theorem au8(h:n<=lim):n<=sizeLine:=cU0 h ∎
theorem A2{E:List Expr}{l:List L3.G}{k:Nat}(h:Wd (PXA X E (gs l)))(I:l.length<=lim:=by decide):Wd (PX X (.Tuple E k P) (y8 l)):=⟨have h:=h.run;PE.imp (cn5 h) λw H Q z=>by
  obtain⟨G,L,t,s,J,g,q⟩:=z;obtain⟨x,B,g⟩:=h9 g;cases g;refine⟨G,L,x,s,J,B,λv F M e r=>⟨by rw[r.length,at2 B];exact au8 I,λp C=> ?_⟩⟩;refine q _ (upd F p (.tup v)) _ (e.trans (Ext.new e.s C _)) ?_;erw[Rep];exact⟨p,v,rfl,SqT.of t8,r.mono (K6 (e.s.free C) _)⟩⟩
theorem C6{E:List Expr}{l:List L3.G}(h:Wd (PXA X E (gs l)))(I:l.length<=lim:=by decide):Wd (PX X (.List E P) (A1 l)):=⟨have h:=h.run;PE.imp (bJ2 h) λw H Q z=>by
  obtain⟨G,L,t,s,J,g,q⟩:=z;obtain⟨x,B,g⟩:=h9 g;cases g;refine⟨G,L,x,s,J,B,λv F M e r=>⟨by rw[r.length,at2 B];exact au8 I,λp C=> ?_⟩⟩;refine q _ (upd F p (.lst v)) _ (e.trans (Ext.new e.s C _)) ?_;erw[Rep];exact⟨p,v,rfl,t8,r.mono (K6 (e.s.free C) _)⟩⟩
def spT(K:cW0)(n:Nat)(F:List T->Option T):Sp:=λB H Q _=>∃G s t,Sub G H/\j9 K G s B/\s.length=n/\F s=some t/\∀v g h,Ext G H g h->Rep K g t v->Q v h
theorem cf7(n:Nat)(H:S4 X.prog X.w X.K X.mg X.aD CX0 k f d c (spT X.K n F))(r:G9 k X.A)(h:Gl X x)(R:X.mg x=some (.ref f))(P:W.keepIn X.K (.ref f)=true)(b:R9 X.K d c [])
  (a:PXA X (e::E) (gs l)) (S:l.length=n) (N:NoD x) (O:StE X e E) (U:Bks X Z E):
  PX X (.Call (.Name x p) (e::E) [] Z) (gN F l):=
 PE.imp (aN6 H r h R P b .nil aV5 a N O U) λy H Q z=>by
  obtain⟨G,i,t,u,Y,h,q⟩:=z;obtain⟨s,C,h⟩:=h9 h;refine⟨G,i,s,u,Y,C,λw g J B j=> ?_⟩;show spT X.K n F (w++[]) J Q E0;rw[cO5];exact⟨g,s,t,B.s,j,by rw[at2 C,S],h,λv I L M o=>q v I L (B.trans M) o⟩
theorem ah3{E:List Expr}{l:List L3.G}{r:List V->Hp->VK->Prop}{f:List T->Option T}{x:Str}{id:String}{p:Pos}(c:af0 X (.builtin id) r)(R:ao3 X.K r f)(h:Gl X x)(N:X.mg x=none)(S:bootBuiltins x=some (.builtin id))(a:PXA X (e::E) (gs l))(n:x≠"__name__")(b:NoD x)
  (M:StE X e E) (O:Bks X U E):PX X (.Call (.Name x p) (e::E) [] U) (gN f l):=
 PE.imp (aR8 c h N S a n b M O) λw H Q z=>by
  obtain⟨G,W,t,d,P,h,q⟩:=z;obtain⟨s,L,h⟩:=h9 h;exact⟨G,W,s,d,P,L,λi g F B Y=>R g F s i t Q B.s Y h λv C I J Z=>q v C I (B.trans J) Z⟩
theorem bI6{E:List Expr}{l:List L3.G}{r:List V->Hp->VK->Prop}{f:List T->Option T}{x:Str}{id:String}{p:Pos}(c:af0 X (.type id) r)(R:ao3 X.K r f)(h:Gl X x)(N:X.mg x=none)(S:bootBuiltins x=some (.type id))(a:PXA X (e::E) (gs l))(n:x≠"__name__")(b:NoD x)
  (M:StE X e E) (O:Bks X U E):PX X (.Call (.Name x p) (e::E) [] U) (gN f l):=
 PE.imp (bJ4 c h N S a n b M O) λw H Q z=>by
  obtain⟨G,W,t,d,P,h,q⟩:=z;obtain⟨s,L,h⟩:=h9 h;exact⟨G,W,s,d,P,L,λi g F B Y=>R g F s i t Q B.s Y h λv C I J Z=>q v C I (B.trans J) Z⟩
theorem cx6(o:IxR X r)(C:N5 X.K r f)(h:PX X a g)(H:PX X b B)(s:aO4 b):PX X (.Subscript a b p) (g2 f g B):=
 PE.imp (ca2 o h H s) (tX2 C)
end
section
theorem bx9(h:big i=true):Builtin.Int.intBits i<=2^20:=by
 have H:i.natAbs<2^4000:=by simpa[big]using h
 unfold Builtin.Int.intBits;by_cases B:i.natAbs=0
 .have e:i=0:=⋯
  subst e;decide
 .have C:i.natAbs.log2<4000:=(Nat.log2_lt B).mpr H;have E:(2:Nat)^20=1048576:=∎
  split<;>omega
theorem bI4(h:big j=true):Builtin.divisionGoesByPylong i j=false:=by
 refine PyProof.noPylong_of_log2 ?_;have B:j.natAbs<2^4000:=by simpa[big]using h
 by_cases H:j.natAbs=0
 .rw[H];decide
 .have C:j.natAbs.log2<4000:=(Nat.log2_lt H).mpr B;omega
theorem ch0:OpR X (binaryOp .Mult) (rI (λi j=>big i=true/\big j=true) λi j=>.int (i*j)):=opI λ_ _ _ _ _ _ _ h q=>mul_int q (IntMulOk.of_bits (bx9 h.1) (bx9 h.2))
theorem bV8:OpR X (binaryOp .FloorDiv) (rI (λ_ j=>0<j/\big j=true) λi j=>.int (i/j)):=opI λi j _ _ _ _ _ h q=>by
 have e:i/j=i.fdiv j:=(Int.fdiv_eq_ediv_of_nonneg i ⋯).symm;rw[e]at q;exact floordiv_int ⋯ q (.inl (bI4 h.2))
theorem aw2{c:Prop}[Decidable c](h:(if c then some a else none)=some b):c/\b=a:=by
 split at h
 .cases h;exact⟨‹_›,rfl⟩
 .cases h
theorem bT3{K:cW0}:N5 K (λx y H Q=>rI0 (λi j=>.int (i+j)) x y H Q\/cm1 x y H Q) y9:=by
 intro G H t L x y z Q s r R h q;unfold y9 at h;split at h
 .simp only[Rep]at r R;cases h;exact .inl ⟨_,_,r,R,q _ G H (Ext.refl s) (by simp[Rep])⟩
 .simp only[Rep]at r R;obtain⟨a,X,E,F,B⟩:=r;obtain⟨b,Y,I,J,k⟩:=R;obtain⟨l,rfl⟩:=aw2 h;refine .inr ⟨a,b,X,Y,E,I,s _ _ F,s _ _ J,?_,λp C=> ?_⟩
  .rw[B.length,k.length];exact au8 l
  .refine q _ (upd G p (.lst (X++Y))) _ (Ext.new s C _) ?_;erw[Rep];exact⟨p,_,rfl,t8,(B.append k).mono (K6 (s.free C) _)⟩
 .cases h
theorem bn4(h:opN f x y=some z):∃i j,x=.int i/\y=.int j/\f i j=some z:=by
 unfold opN at h;split at h
 .exact⟨_,_,rfl,rfl,h⟩
 .cases h
theorem aC4{K:cW0}{g:Int->Int->V}{t:Int->Int->T}(B:∀K G i j,Rep K G (t i j) (g i j)):N5 K (rI0 g) (opN λi j=>some (t i j)):=by
 intro G H C E x y z Q s r R h q;obtain⟨i,j,rfl,rfl,h⟩:=bn4 h;cases h;erw[Rep]at r R;exact⟨i,j,r,R,q _ G H (Ext.refl s) (B _ _ _ _)⟩
theorem aR1{K:cW0}{C:Int->Int->Prop}{f:Int->Int->Option T}{g:Int->Int->V}{t:Int->Int->T}(B:∀i j z,f i j=some z->C i j/\z=t i j)(E:∀K G i j,Rep K G (t i j) (g i j)):N5 K (rI C g) (opN f):=by
 intro G H F I x y J Q s r R h q;obtain⟨i,j,rfl,rfl,h⟩:=bn4 h;obtain⟨c,rfl⟩:=B _ _ _ h;erw[Rep]at r R;exact⟨i,j,r,R,c,q _ G H (Ext.refl s) (E _ _ _ _)⟩
theorem aF9{f:Int->Int->Int}(K G i j):Rep K G (.int (f i j)) (.int (f i j)):=by simp[Rep]
theorem aN0{f:Int->Int->Bool}(K G i j):Rep K G (.bl (f i j)) (.bl (f i j)):=by simp[Rep]
theorem bR7{K:cW0}:N5 K (rI0 λi j=>.int (i-j)) ay3:=aC4 aF9
theorem bu0{K:cW0}:N5 K (rI0 λi j=>.bl (decide (i<j))) fLt:=aC4 aN0
theorem ba0{K:cW0}:N5 K (rI0 λi j=>.bl (decide (i<=j))) fLe:=aC4 aN0
theorem bu2{K:cW0}:N5 K (rI0 λi j=>.bl (decide (j<i))) fGt:=aC4 aN0
theorem ce6{K:cW0}:N5 K (rI0 λi j=>.bl (decide (j<=i))) fGe:=aC4 aN0
theorem bT0{K:cW0}:N5 K (rI (λ_ j=>0<j/\big j=true) λi j=>.int (i/j)) J7:=aR1 (λi j z h=>by simpa using aw2 h) aF9
theorem bS3{K:cW0}:N5 K (rI (λ_ j=>0<j) λi j=>.int (i%j)) F8:=aR1 (λi j z h=>aw2 h) aF9
theorem bR8{K:cW0}:N5 K (rI cv3 λi j=>.int (i^j.toNat)) ab8:=aR1 (λi j z h=>have⟨H,e⟩:=aw2 h;⟨⟨H.1,⋯,H.2.2⟩,e⟩) aF9
theorem bS2{K:cW0}:N5 K (λx y H Q=>(rI (λi j=>big i=true/\big j=true) (λi j=>.int (i*j)) x y H Q\/rI bE7 (λi j=>.int (i*j)) x y H Q)\/cl5 x y H Q) J9:=by
 intro G H I J x y z Q s r R f q;unfold J9 at f;split at f
 .simp only[Rep]at r R;obtain⟨h,rfl⟩:=aw2 f;erw[cK2,cK8,sm,cW5]at h;rcases h with h|h
  .exact .inl (.inl ⟨_,_,r,R,h,q _ G H (Ext.refl s) (by simp[Rep])⟩)
  .exact .inl (.inr ⟨_,_,r,R,h,q _ G H (Ext.refl s) (by simp[Rep])⟩)
 .rename_i t k;erw[Rep]at r R;obtain⟨a,X,E,F,B⟩:=r;obtain⟨h,rfl⟩:=aw2 f;have l:(lim:Int)<2^63:=∎
  refine .inr ⟨a,k,X,E,R,s _ _ F,⋯,⋯,?_,λp C=> ?_⟩
  .rw[B.length];exact au8 h.2.1
  .refine q _ (upd G p (.lst (List.replicate k.toNat X).flatten)) _ (Ext.new s C _) ?_;erw[Rep];exact⟨p,_,rfl,t8,(B.rep _).mono (K6 (s.free C) _)⟩
 .cases f
theorem bR9{K:cW0}:cc5 K (rU λi=>.int (-i)) O5:=by
 intro G H t x z Q s r h q;cases t<;>first |cases h|skip
 erw[Rep]at r;exact⟨_,r,q _ G H (Ext.refl s) (by simp[Rep])⟩
theorem C4(h:Wd (PX X a g))(H:Wd (PX X b B)):Wd (PX X (.BinOp a .Add b p) (g2 y9 g B)):=⟨have h:=h.run;have H:=H.run;aC8 (cp0.or co9) bT3 h H⟩
theorem av6(h:Wd (PX X a g))(H:Wd (PX X b B)):Wd (PX X (.BinOp a .Sub b p) (g2 ay3 g B)):=⟨have h:=h.run;have H:=H.run;aC8 co1 bR7 h H⟩
theorem G7(h:Wd (PX X a g))(H:Wd (PX X b B)):Wd (PX X (.BinOp a .Mult b p) (g2 J9 g B)):=⟨have h:=h.run;have H:=H.run;aC8 ((ch0.or co5).or co2) bS2 h H⟩
theorem M4(h:Wd (PX X a g))(H:Wd (PX X b B)):Wd (PX X (.BinOp a .FloorDiv b p) (g2 J7 g B)):=⟨have h:=h.run;have H:=H.run;aC8 bV8 bT0 h H⟩
theorem N0(h:Wd (PX X a g))(H:Wd (PX X b B)):Wd (PX X (.BinOp a .Mod b p) (g2 F8 g B)):=⟨have h:=h.run;have H:=H.run;aC8 co6 bS3 h H⟩
theorem aC6(h:Wd (PX X a g))(H:Wd (PX X b B)):Wd (PX X (.BinOp a .Pow b p) (g2 ab8 g B)):=⟨have h:=h.run;have H:=H.run;aC8 co3 bR8 h H⟩
theorem N8(h:Wd (PX X a g)):Wd (PX X (.UnaryOp .USub a p) (g1 O5 g)):=⟨have h:=h.run;cx5 cj8 bR9 h⟩
theorem bL9(n:Nat)(i:Int):ixT n i=ixN n i:=rfl
theorem bO8{s:List T}{X:List V}{K:cW0}{G:Hp}{i:Int}{t:T}(h:j9 K G s X)(e:((ixT s.length i).bind λj=>s[j]?)=some t):∃x,atI X i=some x/\Rep K G t x:=by
 obtain⟨j,H,B⟩:=h9 e;obtain⟨x,C,r⟩:=h.get B;refine⟨x,?_,r⟩;unfold atI;rw[h.length,<-bL9,H];exact C
theorem ce5{K:cW0}:N5 K (rIx K) M8:=by
 intro G H t L x y M Q s r R h q;unfold M8 at h;split at h
 .simp only[Rep]at r R;obtain⟨a,X,B,C,E⟩:=r;obtain⟨v,F,I⟩:=bO8 E h;exact .inr (.inl ⟨a,X,_,v,B,R,seqT s C,F,q v G H (Ext.refl s) I⟩)
 .simp only[Rep]at r R;obtain⟨a,X,B,C,E⟩:=r;obtain⟨v,F,I⟩:=bO8 E h;exact .inl ⟨a,X,_,v,B,R,SqL.of (s _ _ C),F,q v G H (Ext.refl s) I⟩
 .rename_i N i;erw[Rep]at r R;obtain⟨a,B,C⟩:=r;obtain⟨j,J,k⟩:=h9 h;cases n:N[j]? with
  |none=>rw[n]at k;cases k
  |some z=>
   rw[n]at k;cases k;refine .inl ⟨a,_,i,.int z,B,R,s.seq C,?_,q _ G H (Ext.refl s) (by simp[Rep])⟩;unfold atI;rw[cQ8,<-bL9,J];show(N.map V.int)[j]?=_;rw[cQ0,n];rfl
 .cases h
theorem y6(h:Wd (PX X a g))(H:Wd (PX X b B))(s:aO4 b:=by intro _ _;rfl):Wd (PX X (.Subscript a b p) (e8 g B)):=⟨have h:=h.run;have H:=H.run;cx6 cr3 ce5 h H s⟩
theorem e9(h:Wd (PX X a g)):Wd (PX X (.Subscript a (.Constant (.int i) j p) P) (e8 g (gI i))):=y6 h j5
def hiI:Option Nat->Option Int
 |none=>none
 |some n=>some (n:Int)
def bq4{B:Type}(lo:Nat)(H:Option Nat)(x:List B):List B:=match H with
 |none=>x.drop lo
 |some h=>(x.take h).drop lo
theorem bN6(x:List E)(lo:Nat)(H:Option Nat):(x.drop (HT.sIx x.length 0 (some (lo:Int)))).take (HT.sIx x.length x.length (hiI H)-HT.sIx x.length 0 (some (lo:Int)))=bq4 lo H x:=by
 rw[HT.sIx_nat];cases H with
 |none=>
  show(x.drop (min lo x.length)).take (x.length-min lo x.length)=x.drop lo
  (rw[cT6 ∅]);by_cases h:lo<=x.length
  .rw[cU6 h]
  .rw[cO9 ⋯,cO9 ⋯]
 |some h=>
  show(x.drop (min lo x.length)).take (HT.sIx x.length x.length (some ((h:Nat):Int))-min lo x.length)=(x.take h).drop lo;rw[HT.sIx_nat,List.drop_take];by_cases B:lo<=x.length
  .rw[cU6 B];by_cases C:h<=x.length
   .rw[cU6 C]
   .rw[Nat.min_eq_right ⋯,cT6 ∅,cT6 (by simp;omega)]
  .rw[cO9 ⋯,cO9 ⋯];simp
theorem cj0(x:List B)(H:Option Nat):(x.drop (HT.sIx x.length 0 none)).take (HT.sIx x.length x.length (hiI H)-HT.sIx x.length 0 none)=bq4 0 H x:=by
 have h:=bN6 x 0 H;rw[HT.sIx_nat,Nat.zero_min]at h;exact h
def PO1(X:Cx)(e:Option Expr)(o:Option Int):Prop:=PO X e (λ_ H Q=>Q o H)
theorem ah6:PO1 X none none:=bu8
theorem am5:PO1 X (some (.Constant (.int i) j p)) (some i):=by
 have h:=bu7 (X:=X) (bJ3 (B:=i) (j:=j) (p:=p));intro a s w H Q I q;exact h a s w H Q I ⟨i,rfl,q⟩
theorem am0(lo:Nat)(H:Option Nat)(L:Wd (PX X a S))(l:PO1 X F (some (lo:Int))\/(lo=0/\PO1 X F none))(h:PO1 X i (hiI H)):Wd (PX X (.Subscript a (.Slice F i none z) aa) (g1 (ai1 lo H) S)):=⟨by
 have L:=L.run;have y:∀(o:Option Int),(o=some (lo:Int)\/(lo=0/\o=none))->∀(Y:Type) (s:List Y),(s.drop (HT.sIx s.length 0 o)).take (HT.sIx s.length s.length (hiI H)-HT.sIx s.length 0 o)=bq4 lo H s:=by
  rintro o (rfl|⟨rfl,rfl⟩) Y s
  .exact bN6 s lo H
  .exact cj0 s H
 have W:∀(o:Option Int),(o=some (lo:Int)\/(lo=0/\o=none))->PO1 X F o->PX X (.Subscript a (.Slice F i none z) aa) (g1 (ai1 lo H) S):=by
  intro o M l;refine PE.imp (bn0 (bt4.or cl2) L l h) λwW ae Q ⟨G,qQ,af,sG,u,g,q⟩=> ?_
  obtain⟨x,I,g⟩:=h9 g;refine⟨G,qQ,x,sG,u,I,λag Z b e R=> ?_⟩;cases x with
  |tup ts=>
   erw[ai1]at g;split at g
   .cases g
   rename_i j;cases g;erw[Rep]at R;obtain⟨p,s,N,O,k⟩:=R;refine .inr ⟨p,s,N,seqT e.s O,?_⟩;have c:au1 s o (hiI H)=bq4 lo H s:=y o M V s;have t:∀C E (r:Addr),Ext Z b C E->SqT X.K C r (au1 s o (hiI H))->Q (.ref r) E:=λC E r J v=>by
    refine q _ C E (e.trans J) ?_;erw[Rep];refine⟨r,_,rfl,v,?_⟩;rw[c];cases H with
    |none=>exact(k.drop lo).mono J.g
    |some n=>exact((k.take n).drop lo).mono J.g
   refine⟨λw=> ?_,λP B=>t _ _ P (Ext.new e.s B _) (SqT.of t8)⟩;refine j ⟨?_,?_⟩
   .have I:=w.1;rcases M with rfl|⟨rfl,rfl⟩
    .rw[HT.sIx_nat,k.length]at I;exact I
    .exact Nat.zero_min _
   .have f:=w.2;cases H with
    |none=>rfl
    |some n=>
     have U:HT.sIx s.length s.length (some ((n:Nat):Int))=s.length:=f;rw[HT.sIx_nat,k.length]at U;exact U
  |lst ts=>
   cases g;erw[Rep]at R;obtain⟨p,s,N,O,k⟩:=R;refine .inl ⟨p,s,N,SqL.of (e.s _ _ O),λP B=> ?_⟩;have c:au1 s o (hiI H)=bq4 lo H s:=y o M V s;refine q _ _ _ (e.trans (Ext.new e.s B _)) ?_;erw[Rep];refine⟨P,_,rfl,t8,?_⟩;rw[c];cases H with
   |none=>exact(k.drop lo).mono (K6 (e.s.free B) _)
   |some n=>exact((k.take n).drop lo).mono (K6 (e.s.free B) _)
  |_=>cases g
 rcases l with l|⟨d,l⟩
 .exact W _ (.inl rfl) l
 .exact W _ (.inr ⟨d,rfl⟩) l⟩
theorem bl9(h:Wd (PX X a g))(H:Wd (PX X b B)):Wd (PX X (.Compare a [.Lt] [b] p) (g2 fLt g B)):=⟨have h:=h.run;have H:=H.run;ax3 ca3 bu0 h H (Y6 _)⟩
theorem cm4(h:Wd (PX X a g))(H:Wd (PX X b B)):Wd (PX X (.Compare a [.LtE] [b] p) (g2 fLe g B)):=⟨have h:=h.run;have H:=H.run;ax3 bA2 ba0 h H (Y6 _)⟩
theorem bH6(h:Wd (PX X a g))(H:Wd (PX X b B)):Wd (PX X (.Compare a [.Gt] [b] p) (g2 fGt g B)):=⟨have h:=h.run;have H:=H.run;ax3 ca4 bu2 h H (Y6 _)⟩
theorem cm5(h:Wd (PX X a g))(H:Wd (PX X b B)):Wd (PX X (.Compare a [.GtE] [b] p) (g2 fGe g B)):=⟨have h:=h.run;have H:=H.run;ax3 cy5 ce6 h H (Y6 _)⟩
theorem an5(h:Wd (PX X a g))(H:Wd (PX X b B)):Wd (PXB X (.Compare a [.Lt] [b] p) (bOf (g2 fLt g B))):=⟨have h:=h.run;have H:=H.run;ah7 ca3 bu0 h H (Y6 _)⟩
theorem bH9(h:Wd (PX X a g))(H:Wd (PX X b B)):Wd (PXB X (.Compare a [.Gt] [b] p) (bOf (g2 fGt g B))):=⟨have h:=h.run;have H:=H.run;ah7 ca4 bu2 h H (Y6 _)⟩
theorem bm0(h:Wd (PX X a g))(H:Wd (PX X b C))(B:Wd (PX X c E))(F:lastMarks [.LtE,.LtE] [b,c]=false:=by with_unfolding_all rfl):Wd (PX X (.Compare a [.LtE,.LtE] [b,c] p) (aE2 fLe fLe g C E)):=⟨have h:=h.run;have H:=H.run;have B:=B.run;bU7 bA2 ba0 bA2 ba0 h H B F⟩
theorem aq4{K:cW0}{G:Hp}:∀{t:List T}{I:List Int}{X:List V},S5 t=some I->j9 K G t X->X=I.map V.int
 |[],I,X,h,r=>by cases h;simpa[j9]using r
 |.int i::t,I,X,h,r=>by
  obtain⟨E,H,B⟩:=h9 h;cases B;erw[j9]at r;obtain⟨x,F,e,R,C⟩:=r;subst e;erw[Rep]at R;subst R;rw[aq4 H C];rfl
 |.non::_,_,_,h,_=>by cases h
 |.bl _::_,_,_,h,_=>by cases h
 |.str _::_,_,_,h,_=>by cases h
 |.tup _::_,_,_,h,_=>by cases h
 |.lst _::_,_,_,h,_=>by cases h
 |.ref _::_,_,_,h,_=>by cases h
 |.scr _::_,_,_,h,_=>by cases h
theorem aI5{K:cW0}{G:Hp}:∀{t:List T}{I:List Bool}{X:List V},T7 t=some I->j9 K G t X->X=I.map V.bl
 |[],I,X,h,r=>by cases h;simpa[j9]using r
 |.bl i::t,I,X,h,r=>by
  obtain⟨E,H,B⟩:=h9 h;cases B;erw[j9]at r;obtain⟨x,F,e,R,C⟩:=r;subst e;erw[Rep]at R;subst R;rw[aI5 H C];rfl
 |.non::_,_,_,h,_=>by cases h
 |.int _::_,_,_,h,_=>by cases h
 |.str _::_,_,_,h,_=>by cases h
 |.tup _::_,_,_,h,_=>by cases h
 |.lst _::_,_,_,h,_=>by cases h
 |.ref _::_,_,_,h,_=>by cases h
 |.scr _::_,_,_,h,_=>by cases h
theorem bX1(i:Int)(I:List Int):inV (.int i) (I.map V.int)=I.contains i:=by
 unfold inV;induction I with
 |nil=>rfl
 |cons j r B=>
  rw[cI9,cO4,B,List.contains_cons];congr 1;show eqV (.int j) (.int i)=(i==j);rw[cK3];erw[eqV]
  first
   |(simp;exact eq_comm)
   |(constructor<;>intro h<;>simp_all)
theorem bM9(i:List Int):(i.map V.int).all ao1=true:=by
 induction i with
 |nil=>rfl
 |cons j r I=>rw[cI9,cO1,I];rfl
theorem bu1{K:cW0}(n:Bool):N5 K (rIn K n) (if n then W7 else fIn):=by
 have M:∀(G H:Hp) (t C:T) (x y:V) (I:T),Sub G H->Rep K G t x->Rep K G C y->fIn t C=some I->∃p X b,I=.bl b/\y=.ref p/\(SqL K H p X\/SqT K H p X)/\ao1 x=true/\X.all ao1=true/\inV x X=b:=by
  intro G H t C x y I s r R h;unfold fIn at h;split at h<;>first |(cases h;done)|skip
  all_goals
   erw[Rep]at r R;obtain⟨a,X,E,B,F⟩:=R;obtain⟨i,k,O⟩:=h9 h;cases O;have e:=aq4 k F;subst e r;exact⟨a,_,_,rfl,E,by first |exact .inr (seqT s B)|exact .inl (SqL.of (s _ _ B)),rfl,bM9 i,bX1 _ i⟩
 intro G H t C x y I Q s r R h q;cases n with
 |false=>
  obtain⟨p,X,b,e,E,B,F,J,L⟩:=M G H t C x y I s r R h;subst e;refine⟨p,X,E,B,F,J,?_⟩;show Q (.bl (inV x X)) H;rw[L];exact q _ G H (Ext.refl s) (by simp[Rep])
 |true=>
  obtain⟨z,N,h⟩:=h9 h;obtain⟨p,X,b,e,E,B,F,J,L⟩:=M G H t C x y z s r R N;subst e;cases h;refine⟨p,X,E,B,F,J,?_⟩;show Q (.bl (!inV x X)) H;rw[L];exact q _ G H (Ext.refl s) (by simp[Rep])
theorem bH8(h:Wd (PX X a g))(H:Wd (PX X b B))(C:behindInMarks .In b=false:=by with_unfolding_all rfl):Wd (PXB X (.Compare a [.In] [b] p) (bOf (g2 fIn g B))):=⟨have h:=h.run;have H:=H.run;ah7 bJ8 (bu1 false) h H C⟩
theorem az4(h:Wd (PX X a g))(H:Wd (PX X b B))(C:behindInMarks .NotIn b=false:=by with_unfolding_all rfl):Wd (PXB X (.Compare a [.NotIn] [b] p) (bOf (g2 W7 g B))):=⟨have h:=h.run;have H:=H.run;ah7 bn3 (bu1 true) h H C⟩
theorem bw5:∀n M:List Int,at8 n M=HT.lexLt n M
 |[],[]=>rfl
 |[],_::_=>rfl
 |_::_,[]=>rfl
 |x::X,y::Y=>by
  rw[HT.lexLt_cons,<-bw5 X Y];rfl
theorem bS6{K:cW0}:N5 K (cl7 K) bC5:=by
 intro G H t L x y N Q s r R h q;unfold bC5 at h;split at h<;>first |(cases h;done)|skip
 erw[Rep]at r R;obtain⟨a,X,B,C,F⟩:=r;obtain⟨b,Y,k,I,J⟩:=R;obtain⟨n,e,h⟩:=h9 h;obtain⟨M,E,h⟩:=h9 h;cases h;have z:=aq4 e F;have Z:=aq4 E J;subst z Z;refine⟨a,b,n,M,B,k,seqT s C,seqT s I,?_⟩;rw[<-bw5];exact q _ G H (Ext.refl s) (by simp[Rep])
theorem cf0(u:X.A.units<cLine)(h:Wd (PX X a g))(H:Wd (PX X b B)):Wd (PX X (.Compare a [.Lt] [b] p) (g2 bC5 g B)):=⟨have h:=h.run;have H:=H.run;ax3 (co7 u) bS6 h H (Y6 _)⟩
end
theorem ay5:∀{X Y:List T}{b:Bool},ac9 f X Y=some b->∃e:Nat->Bool,(∀j x y,X[j]?=some x->Y[j]?=some y->f x y=some (e j))/\b=(List.range (min X.length Y.length)).all e
 |[],Y,b,h=>by cases h;exact⟨λ_=>true,λj x y e=>by simp at e,∅⟩
 |_::_,[],b,h=>by cases h;exact⟨λ_=>true,λj x y _ e=>by simp at e,∅⟩
 |x::X,y::Y,b,h=>by
  obtain⟨a,H,h⟩:=h9 h;obtain⟨c,C,h⟩:=h9 h;cases h;obtain⟨e,I,F⟩:=ay5 C;refine⟨λj=>match j with |0=>a|j+1=>e j,λj u v E B=> ?_,?_⟩
  .cases j with
   |zero=>simp at E B;subst E B;exact H
   |succ j=>exact I j u v (by simpa using E) (by simpa using B)
  .rw[F,cJ3,cJ3,Nat.succ_min_succ,cT1,cO1,cO3];rfl
section
variable {X:Cx}
theorem ay4(I:Inv X p wW H s):∀(n:Nat) (t u:T) (v:V) (b:Bool),Rep X.K H t v->Rep X.K H u v->eqD n t u=some b->b=true
 |0,_,_,_,_,_,_,z=>by cases z
 |n+1,t,u,v,b,R,B,h=>by
  unfold eqD at h;split at h<;>first |(cases h;done)|(rename_i e;cases e)
  .cases h;rfl
  .simp only[Rep]at R B;cases h;subst R;cases B;simp
  .simp only[Rep]at R B;cases h;subst R;cases B;simp
  .simp only[Rep]at R B;cases h;subst R;cases B;simp
  .rename_i x y;erw[Rep]at R B;obtain⟨a,i,F,L,M⟩:=R;obtain⟨Z,d,J,E,C⟩:=B;subst F;cases J;have e:=I.tuple_inj L E;subst e;obtain⟨c,f,h⟩:=h9 h;cases h;obtain⟨e,S,P⟩:=ay5 f;have l:x.length=y.length:=M.length.symm.trans C.length;have :c=true:=by
    rw[P,cO2];intro j N;rw[List.mem_range,l,Nat.min_self]at N;have Q:x[j]?=some x[j]:=cP8 ⋯;have O:y[j]?=some y[j]:=cP8 N;obtain⟨w,U,W⟩:=M.get Q;obtain⟨o,k,Y⟩:=C.get O;rw[U]at k;cases k;exact ay4 I n _ _ _ _ W Y (S j _ _ Q O)
   rw[this,l];simp
  .rename_i x y;erw[Rep]at R B;obtain⟨a,i,F,L,M⟩:=R;obtain⟨Z,d,J,E,C⟩:=B;subst F;cases J;rw[L]at E;cases E;have l:x.length=y.length:=M.length.symm.trans C.length;rw[cW7 l]at h;obtain⟨e,S,P⟩:=ay5 h;rw[P,cO2];intro j N;rw[List.mem_range,l,Nat.min_self]at N;have Q:x[j]?=some x[j]:=cP8 ⋯;have O:y[j]?=some y[j]:=cP8 N;obtain⟨w,U,W⟩:=M.get Q;obtain⟨o,k,Y⟩:=C.get O;rw[U]at k;cases k;exact ay4 I n _ _ _ _ W Y (S j _ _ Q O)
  .rename_i g;cases h;erw[Rep]at R B;obtain⟨a,F,L⟩:=R;obtain⟨Z,d,J,E,C⟩:=B;subst F;cases J;have e:=I.list_inj L (SqL.of E);erw[j9]at C;subst C;cases g with
   |nil=>rfl
   |cons aa r=>cases e
theorem bo8{A:Around}{n:Nat}{B Y:List T}{J W:List V}{U z:List Value}{e:Nat->Bool}(i:∀t u v w b (L N:Value),Rep X.K H t v->Rep X.K H u w->C9 v L->C9 w N->eqD n t u=some b->SeqAt.EqAt A s L N b)
  (E:j9 X.K H B J) (F:j9 X.K H Y W) (r:B9 J U) (R:B9 W z) (a:∀j x y,B[j]?=some x->Y[j]?=some y->eqD n x y=some (e j)):
  ∀j (h:j<U.toArray.size) (C:j<z.toArray.size),SeqAt.EqAt A s U.toArray[j] z.toArray[j] (e j):=by
 intro j h C;have l1:B.length=U.length:=by rw[<-r.length,E.length]
 have l2:Y.length=z.length:=by rw[<-R.length,F.length]
 have S:j<U.length:=by simpa using h
 have Z:j<z.length:=by simpa using C
 have Q:B[j]?=some B[j]:=cP8 ⋯;have I:Y[j]?=some Y[j]:=cP8 ⋯;obtain⟨p,k,d⟩:=E.get Q;obtain⟨w2,c,f⟩:=F.get I;obtain⟨l,m1,m2⟩:=r.get k;obtain⟨o,M,g⟩:=R.get c;rw[cP8 S]at m1;rw[cP8 Z]at M;have O:U.toArray[j]=l:=by simpa using m1
 have P:z.toArray[j]=o:=by simpa using M
 rw[O,P];exact i _ _ _ _ _ _ _ d f m2 g (a j _ _ Q I)
theorem bF2(A:Around):A.in1.units<=A.units+1:=by first |exact cT8 _|exact Nat.le_of_eq rfl|(unfold Around.in1;simp)|(unfold Around.in1;simp;omega)
theorem bl6(I:Inv X aA wW aa s):∀(n:Nat) (A:Around) (t u:T) (v w:V) (b:Bool) (C W:Value),A.units+n<cLine->Rep X.K aa t v->Rep X.K aa u w->C9 v C->C9 w W->eqD n t u=some b->SeqAt.RcAt A s C W b/\SeqAt.RcNeAt A s C W (!b)/\SeqAt.EqAt A s C W b
 |0,_,_,_,_,_,_,_,_,_,_,_,_,_,h=>by cases h
 |n+1,A,t,u,v,w,b,C,W,hu,r,B,M,N,h=>by
  have ih:∀t u v w b (C W:Value),Rep X.K aa t v->Rep X.K aa u w->C9 v C->C9 w W->eqD n t u=some b->SeqAt.EqAt A.in1 s C W b:=λt u v w b C W q1 q2 q3 q4 q5=>
   (bl6 I n A.in1 t u v w b C W (by have :=bF2 A;omega) q1 q2 q3 q4 q5).2.2
  unfold eqD at h;split at h<;>first |(cases h;done)|(rename_i e;cases e)
  .simp only[Rep]at r B;cases h;subst r B;cases M;cases N;exact⟨SeqAt.RcAt.none_none,SeqAt.RcNeAt.none_none,SeqAt.EqAt.same _⟩
  .simp only[Rep]at r B;cases h;subst r B;cases M;cases N;exact⟨SeqAt.RcAt.bool_bool _ _,SeqAt.RcNeAt.bool_bool _ _,SeqAt.EqAt.bool_bool _ _⟩
  .simp only[Rep]at r B;cases h;subst r B;obtain⟨t1,rfl⟩:=M;obtain⟨t2,rfl⟩:=N;exact⟨SeqAt.RcAt.int_int _ _ _ _,SeqAt.RcNeAt.int_int _ _ _ _,SeqAt.EqAt.int_int _ _ _ _⟩
  .simp only[Rep]at r B;cases h;subst r B;obtain⟨t1,rfl⟩:=M;obtain⟨t2,rfl⟩:=N;exact⟨SeqAt.RcAt.str_str _ _ _ _,SeqAt.RcNeAt.str_str _ _ _ _,SeqAt.EqAt.str_str _ _ _ _⟩
  .rename_i x y;have i:=ay4 I (n+1) (.tup x) (.tup y);have S:=h;have o:=r;have z:=B;erw[Rep]at r B;obtain⟨a,vs,O,Y,d⟩:=r;obtain⟨E,af,Q,Z,H⟩:=B;subst O Q;cases M;cases N;obtain⟨U,J,p,_⟩:=I.tuple Y;obtain⟨zs,L,P,_⟩:=I.tuple Z;obtain⟨c,hc,h⟩:=h9 h;cases h;obtain⟨e,he,f⟩:=ay5 hc;have l1:U.toArray.size=x.length:=by rw[cT4,<-J.length,d.length]
   have l2:zs.toArray.size=y.length:=by rw[cT4,<-L.length,H.length]
   have j:=bo8 ih d H J L he;have R:=SeqAt.RcAt.tuples (A:=A) p P ⋯ j;have ae:=SeqAt.RcNeAt.tuples (A:=A) p P ⋯ j;rw[l1,l2,<-f]at R;rw[l1,l2,<-f]at ae;refine⟨R,ae,?_⟩;by_cases F:a=E
   .subst F;rw[i _ _ o z S];exact SeqAt.EqAt.same _
   .exact SeqAt.EqAt.of_refs F R
  .rename_i x y;have i:=ay4 I (n+1) (.lst x) (.lst y);have S:=h;have o:=r;have z:=B;erw[Rep]at r B;obtain⟨a,vs,O,Y,d⟩:=r;obtain⟨E,af,Q,Z,H⟩:=B;subst O Q;cases M;cases N;obtain⟨U,J,p,_⟩:=I.list (SqL.of Y);obtain⟨zs,L,P,_⟩:=I.list (SqL.of Z);have l1:U.toArray.size=x.length:=by rw[cT4,<-J.length,d.length]
   have l2:zs.toArray.size=y.length:=by rw[cT4,<-L.length,H.length]
   have fin:SeqAt.RcAt A s (.ref a) (.ref E) b/\SeqAt.RcNeAt A s (.ref a) (.ref E) (!b):=by
    by_cases l:x.length=y.length
    .rw[cW7 l]at h;obtain⟨e,he,f⟩:=ay5 h;have j:=bo8 ih d H J L he;have R:=SeqAt.RcAt.lists (A:=A) p.isList P.isList (by rw[l1,l2,l]) ⋯ j;have ae:=SeqAt.RcNeAt.lists (A:=A) p.isList P.isList (by rw[l1,l2,l]) ⋯ j;rw[<-l,Nat.min_self,<-l1]at f;rw[f];exact⟨R,ae⟩
    .rw[cW6 l]at h;cases h;have g:(U.toArray.size !=zs.toArray.size)=true:=by rw[l1,l2];simpa using l
     exact⟨SeqAt.RcAt.lists_lengths p.isList P.isList g ⋯,SeqAt.RcNeAt.lists_lengths p.isList P.isList g ⋯⟩
   refine⟨fin.1,fin.2,?_⟩;by_cases F:a=E
   .subst F;rw[i _ _ o z S];exact SeqAt.EqAt.same _
   .exact SeqAt.EqAt.of_refs F fin.1
  .rename_i k;have i:=ay4 I (n+1) (.scr k) (.lst []);have S:=h;have o:=r;have z:=B;cases h;erw[Rep]at r B;obtain⟨a,O,Y⟩:=r;obtain⟨E,af,Q,Z,H⟩:=B;subst O Q;cases M;cases N;erw[j9]at H;subst H;obtain⟨U,J,p,_⟩:=I.list Y;obtain⟨zs,L,P,_⟩:=I.list (SqL.of Z);cases L;have l1:U.toArray.size=k.length:=by rw[cT4,<-J.length,cQ8]
   have fin:SeqAt.RcAt A s (.ref a) (.ref E) k.isEmpty/\SeqAt.RcNeAt A s (.ref a) (.ref E) (!k.isEmpty):=by
    cases k with
    |nil=>
     cases J;exact⟨SeqAt.RcAt.lists (e:=λ_=>true) (A:=A) p.isList P.isList rfl ⋯ (λag h1=>absurd h1 ∅),SeqAt.RcNeAt.lists (e:=λ_=>true) (A:=A) p.isList P.isList rfl ⋯ (λag h1=>absurd h1 ∅)⟩
    |cons ai ah=>
     have g:(U.toArray.size !=([]:List Value).toArray.size)=true:=by rw[l1];simp
     exact⟨SeqAt.RcAt.lists_lengths p.isList P.isList g ⋯,SeqAt.RcNeAt.lists_lengths p.isList P.isList g ⋯⟩
   refine⟨fin.1,fin.2,?_⟩;by_cases F:a=E
   .subst F;rw[i _ _ o z S];exact SeqAt.EqAt.same _
   .exact SeqAt.EqAt.of_refs F fin.1
end
section
def bz4(K:cW0)(n:Bool):R2:=λx y H Q=>∃t u k,Rep K H t x/\Rep K H u y/\eqD 8 t u=some k/\Q (.bl (if n then !k else k)) H
theorem bJ9(F:X.A.units+8<cLine):OpR X (compareOp .Eq) (bz4 X.K false):=by
 intro a s w H x y v u Q I r R h;obtain⟨t,J,k,B,C,E,q⟩:=h;exact(bl6 I 8 X.A t J x y k v u F B C r R E).1 _ _ _ _ ⟨.bl k,H,I,rfl,q⟩
theorem bJ7(F:X.A.units+8<cLine):OpR X (compareOp .NotEq) (bz4 X.K true):=by
 intro a s w H x y v u Q I r R h;obtain⟨t,J,k,B,C,E,q⟩:=h;exact(bl6 I 8 X.A t J x y k v u F B C r R E).2.1 _ _ _ _ ⟨.bl !k,H,I,rfl,q⟩
theorem bu3{K:cW0}:N5 K (bz4 K false) fEq:=by
 intro G H t C x y z Q s r R f q;obtain⟨k,h,B⟩:=h9 f;cases B;exact⟨t,C,k,r.mono s,R.mono s,h,q _ G H (Ext.refl s) (by simp[Rep])⟩
theorem bt9{K:cW0}:N5 K (bz4 K true) fNe:=by
 intro G H t C x y z Q s r R f q;obtain⟨k,h,B⟩:=h9 f;cases B;exact⟨t,C,k,r.mono s,R.mono s,h,q _ G H (Ext.refl s) (by simp[Rep])⟩
theorem hu8(h:G9 k A):A.units+8<cLine:=by have :=h.units;omega
theorem Y5(r:G9 k X.A)(h:Wd (PX X a g))(H:Wd (PX X b B)):Wd (PX X (.Compare a [.Eq] [b] p) (g2 fEq g B)):=⟨have h:=h.run;have H:=H.run;ax3 (bJ9 (hu8 r)) bu3 h H (Y6 _)⟩
theorem cm3(r:G9 k X.A)(h:Wd (PX X a g))(H:Wd (PX X b B)):Wd (PX X (.Compare a [.NotEq] [b] p) (g2 fNe g B)):=⟨have h:=h.run;have H:=H.run;ax3 (bJ7 (hu8 r)) bt9 h H (Y6 _)⟩
theorem aa1(r:G9 k X.A)(h:Wd (PX X a g))(H:Wd (PX X b B)):Wd (PXB X (.Compare a [.Eq] [b] p) (bOf (g2 fEq g B))):=⟨have h:=h.run;have H:=H.run;ah7 (bJ9 (hu8 r)) bu3 h H (Y6 _)⟩
theorem W6(r:G9 k X.A)(h:Wd (PX X a g))(H:Wd (PX X b B)):Wd (PXB X (.Compare a [.NotEq] [b] p) (bOf (g2 fNe g B))):=⟨have h:=h.run;have H:=H.run;ah7 (bJ7 (hu8 r)) bt9 h H (Y6 _)⟩
theorem bw8{K:cW0}{G:Hp}{t:T}{v:V}(h:Rep K G t v):decide (v=V.non)=U7 t:=by
 cases t<;>erw[Rep]at h<;>unfold U7
 .subst h;simp
 .subst h;simp
 .subst h;simp
 .subst h;simp
 .obtain⟨a,_,rfl,_⟩:=h;simp
 .obtain⟨a,_,rfl,_⟩:=h;simp
 .subst h;simp
 .obtain⟨a,rfl,_⟩:=h;simp
 .obtain⟨a,_,_,_,_,rfl,_⟩:=h;simp
theorem bG9{K:cW0}{G:Hp}{b:Bool}:Rep K G (.bl b) (.bl b):=by simp[Rep]
theorem bS8{K:cW0}:N5 K (λx y H Q=>y=.non/\Q (.bl (decide (x=.non))) H) ab9:=by
 intro G H B t x y z Q s R r h q;cases t<;>first |(cases h;done)|skip
 erw[Rep]at r;cases h;refine⟨r,?_⟩;rw[bw8 R];exact q _ G H (Ext.refl s) bG9
theorem bH0{K:cW0}:N5 K (λx y H Q=>y=.non/\Q (.bl (!decide (x=.non))) H) bp7:=by
 intro G H B t x y z Q s R r h q;cases t<;>first |(cases h;done)|skip
 erw[Rep]at r;cases h;refine⟨r,?_⟩;rw[bw8 R];exact q _ G H (Ext.refl s) bG9
theorem ap4(h:Wd (PX X a g))(H:Wd (PX X b B)):Wd (PXB X (.Compare a [.Is] [b] p) (bOf (g2 ab9 g B))):=⟨have h:=h.run;have H:=H.run;ah7 co8 bS8 h H (Y6 _)⟩
theorem bm1(h:Wd (PX X a g))(H:Wd (PX X b B)):Wd (PXB X (.Compare a [.IsNot] [b] p) (bOf (g2 bp7 g B))):=⟨have h:=h.run;have H:=H.run;ah7 cg9 bH0 h H (Y6 _)⟩
theorem bS7{K:cW0}:ao3 K (λI H Q=>∃p y,I=[.ref p]/\(SqL K H p y\/SqT K H p y)/\Q (.int y.length) H) A7:=by
 intro G H t I z Q s r h q
 match t,h with
 |[.tup u],h=>
  cases h;erw[j9]at r;obtain⟨x,X,e,R,E⟩:=r;subst e E;erw[Rep]at R;obtain⟨p,y,B,C,F⟩:=R;subst B;refine⟨p,y,rfl,.inr (seqT s C),?_⟩;rw[F.length];exact q _ G H (Ext.refl s) (by simp[Rep])
 |[.lst u],h=>
  cases h;erw[j9]at r;obtain⟨x,X,e,R,E⟩:=r;subst e E;erw[Rep]at R;obtain⟨p,y,B,C,F⟩:=R;subst B;refine⟨p,y,rfl,.inl (SqL.of (s _ _ C)),?_⟩;rw[F.length];exact q _ G H (Ext.refl s) (by simp[Rep])
 |[.scr n],h=>
  cases h;erw[j9]at r;obtain⟨x,X,e,R,E⟩:=r;subst e E;erw[Rep]at R;obtain⟨p,B,C⟩:=R;subst B;refine⟨p,_,rfl,.inl (s.seq C),?_⟩;rw[cQ8];exact q _ G H (Ext.refl s) (by simp[Rep])
theorem A5(C:X.mg "len"=none)(h:Wd (PXA X [e] (gs [g])))(B:Gl X "len":=by rfl)(H:StE X e []:=by rfl)(l:Bks X P []:=by rfl):Wd (PX X (.Call (.Name "len" p) [e] [] P) (gN A7 [g])):=⟨have h:=h.run;ah3 bq7 bS7 B C PySem.boot_len h ∎ ∎ H l⟩
theorem aj3{K:cW0}{G:Hp}{t:T}{X:List V}(h:j9 K G [t] X):∃x,X=[x]/\Rep K G t x:=by
 erw[j9]at h;obtain⟨x,r,e,H,B⟩:=h;subst B;exact⟨x,e,H⟩
theorem aC1{K:cW0}{G:Hp}{t u:T}{X:List V}(h:j9 K G [t,u] X):∃x y,X=[x,y]/\Rep K G t x/\Rep K G u y:=by
 erw[j9]at h;obtain⟨x,r,e,H,y,R,E,B,C⟩:=h;subst C E;exact⟨x,y,e,H,B⟩
theorem bT4{K:cW0}:ao3 K (λX H Q=>∃i,X=[.int i]/\Q (.int (if i<0 then -i else i)) H) bC6:=by
 intro G H t X z Q s r h q
 match t,h with
 |[.int i],h=>
  cases h;obtain⟨x,e,R⟩:=aj3 r;erw[Rep]at R;subst R;exact⟨i,e,q _ G H (Ext.refl s) (by simp[Rep])⟩
theorem cf2(C:X.mg "abs"=none)(h:Wd (PXA X [e] (gs [g])))(B:Gl X "abs":=by rfl)(H:StE X e []:=by rfl)(l:Bks X P []:=by rfl):Wd (PX X (.Call (.Name "abs" p) [e] [] P) (gN bC6 [g])):=⟨have h:=h.run;ah3 bY2 bT4 B C boot_abs h ∎ ∎ H l⟩
theorem bS5{K:cW0}:ao3 K (λX H Q=>∃i j,X=[.int i,.int j]/\Q (.int (if j>i then j else i)) H) aH8:=by
 intro G H t X z Q s r h q
 match t,h with
 |[.int i,.int j],h=>
  cases h;obtain⟨x,y,e,R,B⟩:=aC1 r;erw[Rep]at R B;subst R B;exact⟨i,j,e,q _ G H (Ext.refl s) (by simp[Rep])⟩
theorem bS4{K:cW0}:ao3 K (λX H Q=>∃i j,X=[.int i,.int j]/\Q (.int (if j<i then j else i)) H) aW9:=by
 intro G H t X z Q s r h q
 match t,h with
 |[.int i,.int j],h=>
  cases h;obtain⟨x,y,e,R,B⟩:=aC1 r;erw[Rep]at R B;subst R B;exact⟨i,j,e,q _ G H (Ext.refl s) (by simp[Rep])⟩
theorem bu6(E:X.mg "max"=none)(h:Wd (PXA X [a,b] (gs [g,B])))(H:X.calm=true:=by rfl)(C:Gl X "max":=by rfl)(e:starEach [a,b] X.env=(false,eval a X.env)::starEach [b] X.env:=by rfl)(l:(backTo P (starEach [b] X.env)).any (·.1)=false:=by rfl):Wd (PX X (.Call (.Name "max" p) [a,b] [] P) (gN aH8 [g,B])):=⟨have h:=h.run;ah3 (bO4 H) bS5 C E boot_max h ∎ ∎ e l⟩
theorem ce9(E:X.mg "min"=none)(h:Wd (PXA X [a,b] (gs [g,B])))(H:X.calm=true:=by rfl)(C:Gl X "min":=by rfl)(e:starEach [a,b] X.env=(false,eval a X.env)::starEach [b] X.env:=by rfl)(l:(backTo P (starEach [b] X.env)).any (·.1)=false:=by rfl):Wd (PX X (.Call (.Name "min" p) [a,b] [] P) (gN aW9 [g,B])):=⟨have h:=h.run;ah3 (bO2 H) bS4 C E boot_min h ∎ ∎ e l⟩
theorem bS9{K:cW0}:ao3 K (λX H Q=>(∃i,X=[.int i]/\Q (.int i) H)\/∃k,X=[.bl k]/\Q (.int (if k then 1 else 0)) H) aj9:=by
 intro G H t X z Q s r h q
 match t,h with
 |[.int i],h=>
  cases h;obtain⟨x,e,R⟩:=aj3 r;erw[Rep]at R;subst R;exact .inl ⟨i,e,q _ G H (Ext.refl s) (by simp[Rep])⟩
 |[.bl k],h=>
  cases h;obtain⟨x,e,R⟩:=aj3 r;erw[Rep]at R;subst R;exact .inr ⟨k,e,q _ G H (Ext.refl s) (by simp[Rep])⟩
theorem as7(C:X.mg "int"=none)(h:Wd (PXA X [e] (gs [g])))(B:Gl X "int":=by rfl)(H:StE X e []:=by rfl)(l:Bks X P []:=by rfl):Wd (PX X (.Call (.Name "int" p) [e] [] P) (gN aj9 [g])):=⟨have h:=h.run;bI6 bO5 bS9 B C boot_int h ∎ ∎ H l⟩
theorem bH4(l:List B)(f:B->Bool)(d:B):(List.range l.length).all (λi=>f (l.getD i d))=l.all f:=by
 induction l with
 |nil=>rfl
 |cons x r I=>
  rw[cJ3,cT1,cO1,cO3,cO1,<-I];rfl
theorem bH3(l:List B)(f:B->Bool)(d:B):(List.range l.length).any (λi=>f (l.getD i d))=l.any f:=by
 induction l with
 |nil=>rfl
 |cons x r I=>
  rw[cJ3,cT1,cO4,List.any_map,cO4,<-I];rfl
theorem bq8{b:List Bool}{U:List Value}(r:B9 (b.map V.bl) U){i:Nat}{v:Value}(h:U.toArray[i]?=some v):v=.bool (b.getD i false):=by
 have H:U[i]?=some v:=by simpa using h
 have l:=r.length;have E:i<U.length:=by
  rcases cU3 i U.length with q|q
  .exact q
  .rw[cP9 q]at H;cases H
 have B:i<b.length:=by rw[cQ8]at l;omega
 have q:(b.map V.bl)[i]?=↑(b[i]):=by rw[cQ0,cP8 B];rfl
 obtain⟨u,C,R⟩:=r.get q;rw[H]at C;cases C;rw[show v=Value.bool b[i]from R];simp[List.getD,cP8 B]
theorem bO7(c:X.calm=true):af0 X (.builtin "all") (λx H Q=>∃(p:Addr) (B:List Bool),x=[.ref p]/\H p=⇑(B.map V.bl)/\Q (.bl (B.all id)) H):=by
 intro a s w H x Y Q I r h;obtain⟨p,B,rfl,E,q⟩:=h;obtain⟨u,rfl,M⟩:=ar3 r;cases M;obtain⟨C,R,P,U⟩:=I.list (SqL.of E);have l:=R.length;rw[cQ8]at l;refine PySem.call_all_walk (cX4 P.isList ?_);have L:p<s.sz:=by obtain⟨o,e,_⟩:=P.isList;exact cL4 e
 refine⟨s.sz,_,_,_,_,_,λi=>id (B.getD i false),rfl,Walks.list (A:=X.A.in1) (show X.A.in1.handled=none from I.ok.hd c) s.sz p (cV0 L) C.toArray,⟨⟨_,cL1 _ rfl,rfl,rfl⟩,P.isList.push _⟩,?_,λS t k=> ?_⟩
 .intro i v W O N J F;rw[bq8 R J];exact cX7 F
 .have e:(List.range C.toArray.size).all (λi=>id (B.getD i false))=B.all id:=by
   rw[cT4,<-l];exact bH4 B id false
  rw[e];refine⟨.bl (B.all id),H,?_,rfl,q⟩;exact I.kept λb o e=>k b o (λz=>cV0 (cL4 e) (by simpa using z)) (cL0 _ e)
theorem bO6(c:X.calm=true):af0 X (.builtin "any") (λx H Q=>∃(p:Addr) (B:List Bool),x=[.ref p]/\H p=⇑(B.map V.bl)/\Q (.bl (B.any id)) H):=by
 intro a s w H x Y Q I r h;obtain⟨p,B,rfl,E,q⟩:=h;obtain⟨u,rfl,M⟩:=ar3 r;cases M;obtain⟨C,R,P,U⟩:=I.list (SqL.of E);have l:=R.length;rw[cQ8]at l;refine PySem.call_any_walk (cX4 P.isList ?_);have L:p<s.sz:=by obtain⟨o,e,_⟩:=P.isList;exact cL4 e
 refine⟨s.sz,_,_,_,_,_,λi=>id (B.getD i false),rfl,Walks.list (A:=X.A.in1) (show X.A.in1.handled=none from I.ok.hd c) s.sz p (cV0 L) C.toArray,⟨⟨_,cL1 _ rfl,rfl,rfl⟩,P.isList.push _⟩,?_,λS t k=> ?_⟩
 .intro i v W O N J F;rw[bq8 R J];exact cX7 F
 .have e:(List.range C.toArray.size).any (λi=>id (B.getD i false))=B.any id:=by
   rw[cT4,<-l];exact bH3 B id false
  rw[e];refine⟨.bl (B.any id),H,?_,rfl,q⟩;exact I.kept λb o e=>k b o (λz=>cV0 (cL4 e) (by simpa using z)) (cL0 _ e)
theorem bT2{K:cW0}:ao3 K (λX H Q=>∃(p:Addr) (b:List Bool),X=[.ref p]/\H p=⇑(b.map V.bl)/\Q (.bl (b.all id)) H) af9:=by
 intro G H t X I Q s r h q
 match t,h with
 |[.lst u],h=>
  obtain⟨b,B,C⟩:=h9 h;cases C;obtain⟨x,e,R⟩:=aj3 r;erw[Rep]at R;obtain⟨p,y,k,E,F⟩:=R;subst k;have z:=aI5 B F;subst z;exact⟨p,b,e,s _ _ E,q _ G H (Ext.refl s) (by simp[Rep])⟩
theorem bT1{K:cW0}:ao3 K (λX H Q=>∃(p:Addr) (b:List Bool),X=[.ref p]/\H p=⇑(b.map V.bl)/\Q (.bl (b.any id)) H) bc2:=by
 intro G H t X I Q s r h q
 match t,h with
 |[.lst u],h=>
  obtain⟨b,B,C⟩:=h9 h;cases C;obtain⟨x,e,R⟩:=aj3 r;erw[Rep]at R;obtain⟨p,y,k,E,F⟩:=R;subst k;have z:=aI5 B F;subst z;exact⟨p,b,e,s _ _ E,q _ G H (Ext.refl s) (by simp[Rep])⟩
theorem aj2(E:X.mg "all"=none)(h:Wd (PXA X [e] (gs [g])))(H:X.calm=true:=by rfl)(C:Gl X "all":=by rfl)(B:StE X e []:=by rfl)(l:Bks X P []:=by rfl):Wd (PX X (.Call (.Name "all" p) [e] [] P) (gN af9 [g])):=⟨have h:=h.run;ah3 (bO7 H) bT2 C E boot_all h ∎ ∎ B l⟩
theorem ba3(E:X.mg "any"=none)(h:Wd (PXA X [e] (gs [g])))(H:X.calm=true:=by rfl)(C:Gl X "any":=by rfl)(B:StE X e []:=by rfl)(l:Bks X P []:=by rfl):Wd (PX X (.Call (.Name "any" p) [e] [] P) (gN bc2 [g])):=⟨have h:=h.run;ah3 (bO6 H) bT1 C E boot_any h ∎ ∎ B l⟩
def kdN:Kd->String
 |.int=>"int"|.bool=>"bool"|.tuple=>"tuple"|.list=>"list"|.str=>"str"
def cC7(K:cW0)(k:Kd):List V->Hp->VK->Prop:=λX H Q=>∃t x b,X=[x,.ty (kdN k)]/\Rep K H t x/\isK k t=some b/\Q (.bl b) H
theorem aE0{K:cW0}(k:Kd)(n:String)(h:n="NoneType"\/n="bool"\/n="int"\/n="str"\/n="tuple"\/n="list"):
  W.kitOne K (.type n) (.type (kdN k))=some (n==kdN k||(n=="bool"&&kdN k=="int")):=by
 rcases h with rfl|rfl|rfl|rfl|rfl|rfl<;>cases k<;>first |rfl|(with_unfolding_all rfl)
theorem bY1(k:Kd):af0 X (.builtin "isinstance") (cC7 X.K k):=by
 intro M s w H Z U Q I r h;obtain⟨t,x,b,rfl,R,B,q⟩:=h;obtain⟨u,S,rfl,C,N⟩:=bi3 r;cases N;have fin:∀E,EP X M w Q (.bool b) {s with toks:=E}:=λE=>⟨.bl b,H,I.tok _,rfl,q⟩
 cases t with
 |non=>
  erw[Rep]at R;subst R;cases C;cases B;exact W.kia_one W.kitx_none I.kIn True.intro (by rw[aE0 k "NoneType" ∅];cases k<;>rfl) (λz=>nomatch z) fin
 |bl y=>
  erw[Rep]at R;subst R;cases C;cases B;exact W.kia_one W.kitx_bool I.kIn True.intro (by rw[aE0 k "bool" ∅];cases k<;>rfl) (λz=>nomatch z) fin
 |int y=>
  erw[Rep]at R;subst R;obtain⟨E,rfl⟩:=C;cases B;exact W.kia_one W.kitx_int I.kIn True.intro (by rw[aE0 k "int" ∅];cases k<;>rfl) (λz=>nomatch z) fin
 |str y=>
  erw[Rep]at R;subst R;obtain⟨E,rfl⟩:=C;cases B;exact W.kia_one W.kitx_str I.kIn True.intro (by rw[aE0 k "str" ∅];cases k<;>rfl) (λz=>nomatch z) fin
 |tup O=>
  erw[Rep]at R;obtain⟨a,Y,rfl,J,_⟩:=R;cases C;cases B;obtain⟨i,_,p,_⟩:=I.tuple J;obtain⟨o,F,L,_⟩:=p;exact W.kia_one W.kitx_tuple I.kIn ⟨o,F,L⟩ (by rw[aE0 k "tuple" ∅];cases k<;>rfl) (λz=>nomatch z) fin
 |lst O=>
  erw[Rep]at R;obtain⟨a,Y,rfl,J,_⟩:=R;cases C;cases B;obtain⟨i,_,p,_⟩:=I.list (SqL.of J);obtain⟨o,F,L,_⟩:=p.isList;exact W.kia_one W.kitx_list I.kIn ⟨o,F,L⟩ (by rw[aE0 k "list" ∅];cases k<;>rfl) (λz=>nomatch z) fin
 |ref a=>cases B
 |scr a=>cases B
 |obj P U=>cases B
theorem Z8{p P:Pos}{c:Str}{g:L3.G}(k:Kd)(N:X.mg "isinstance"=none)(O:X.mg c=none)(U:bootBuiltins c=some (.type (kdN k)))(a:Wd (PX X e g))(h:Gl X "isinstance":=by rfl)(M:Gl X c:=by rfl)(n:c≠"__name__":=by decide)(L:NoD c:=by decide)(B:starEach [e,.Name c P] X.env=(false,eval e X.env)::starEach [.Name c P] X.env:=by rfl)(S:starEach [.Name c P] X.env=(false,eval (.Name c P) X.env)::starEach [] X.env:=by rfl)(l:(backTo s (starEach [Expr.Name c P] X.env)).any (·.1)=false:=by rfl):Wd (PX X (.Call (.Name "isinstance" p) [e,.Name c P] [] s) (g1 (af8 k) g)):=⟨by
 have a:=a.run;refine PE.imp (aR8 (bY1 k) h N boot_isinstance (V0 a (V0 (bv0 (v:=.ty (kdN k)) M O U rfl n L) ad3 S) B) ∎ ∎ B l) λw H Q ⟨G,W,t,Y,R,h,q⟩=> ?_
 obtain⟨x,I,h⟩:=h9 h;obtain⟨b,J,h⟩:=h9 h;cases h;refine⟨G,W,x,Y,R,I,λv C F E r=> ?_⟩;exact⟨x,v,b,rfl,r.mono E.s,J,q _ C F E (by simp[Rep])⟩⟩
end
def bd0(K:cW0)(G:Hp)(J:It)(s:List T):Prop:=
 ∀(i:Nat) (g H:Hp),D7 G g->Sub g H->(∀t,s[i]?=some t->J.go i H/\∀x h,J.yld i H x h->∃B,Ext g H B h/\Rep K B t x)/\(s.length<=i->i<=s.length->J.stop i H)
def tI(K:cW0)(i:GL):TI:=λw H R=>∃G Q t,Sub G H/\K5 K G w Q/\i Q=some t/\∀J g h,Ext G H g h->bd0 K g J t->R J h
abbrev PXI(X:Cx)(t i:Expr)(g:GL):Prop:=PI X t i (tI X.K g)
section
theorem be1{K:cW0}{G:Hp}{p:Addr}{X:List V}{E:List T}(h:G p=⇑X)(r:j9 K G E X):bd0 K G (Itl K p) E:=by
 intro i g F s S;have H:SqL K F p X:=SqL.of (S _ _ (s _ _ h));refine⟨λt J=> ?_,λI M=>⟨X,H,by rw[r.length];exact I⟩⟩;obtain⟨x,C,R⟩:=r.get J;refine⟨⟨X,x,H,C⟩,λy L B=> ?_⟩;obtain⟨e,B⟩:=B;subst e;have :=B X H;rw[C]at this;cases this;exact⟨g,Ext.refl S,R.mono s⟩
theorem bk2:∀{X Y:List T}{i:Nat}{t:T},(U4 X Y)[i]?=some t->∃x y,X[i]?=some x/\Y[i]?=some y/\t=.tup [x,y]
 |[],_,_,_,h=>by simp[U4]at h
 |_::_,[],_,_,h=>by simp[U4]at h
 |x::X,y::Y,0,t,h=>by simp[U4]at h;exact⟨x,y,∅,∅,h.symm⟩
 |x::X,y::Y,i+1,t,h=>by
  obtain⟨u,v,H,B,C⟩:=bk2 (X:=X) (Y:=Y) (i:=i) (t:=t) (by simpa[U4]using h);exact⟨u,v,by simpa using H,by simpa using B,C⟩
theorem aP1:∀(X Y:List T),(U4 X Y).length=min X.length Y.length
 |[],_=>by simp[U4]
 |_::_,[]=>by simp[U4]
 |x::X,y::Y=>by erw[U4,cJ3,aP1 X Y,Nat.add_min_add_right]
theorem bQ3{K:cW0}{G:Hp}{p P:Addr}{X Y:List V}{I u:List T}(h:G p=⇑X)(r:j9 K G I X)(M:G P=⇑Y)(R:j9 K G u Y):bd0 K G (Itz K p P) (U4 I u):=by
 intro i g C s S;have H:SqL K C p X:=SqL.of (S _ _ (s _ _ h));have B:SqL K C P Y:=SqL.of (S _ _ (s _ _ M));refine⟨λt O=> ?_,λN j=>⟨X,Y,H,B,?_⟩⟩
 .obtain⟨l,o,e,J,L⟩:=bk2 O;subst L;obtain⟨x,E,c⟩:=r.get e;obtain⟨y,F,d⟩:=R.get J;refine⟨⟨X,Y,x,y,H,B,E,F⟩,λv f Q=> ?_⟩;obtain⟨w,y',q,U,W,k,a,b⟩:=Q;have z:=U X H;have Z:=W Y B;rw[E]at z;cases z;rw[F]at Z;cases Z;subst a b;refine⟨_,Ext.new S k _,?_⟩;have n:=K6 (S.free k) (HO.tup [x,y]);erw[Rep];exact⟨q,[x,y],rfl,SqT.of t8,j9.cons ((c.mono s).mono n) (j9.cons ((d.mono s).mono n) j9.nil)⟩
 .rw[aP1]at N;rw[r.length,R.length];omega
theorem bf8:∀{X:List T}{n i:Nat}{t:T},(S7 n X)[i]?=some t->∃x,X[i]?=some x/\t=.tup [.int ((n+i:Nat):Int),x]
 |[],_,_,_,h=>by simp[S7]at h
 |x::X,n,0,t,h=>by simp[S7]at h;exact⟨x,∅,by rw[<-h];simp⟩
 |x::X,n,i+1,t,h=>by
  obtain⟨u,H,B⟩:=bf8 (X:=X) (n:=n+1) (i:=i) (t:=t) (by simpa[S7]using h);exact⟨u,by simpa using H,by rw[B];congr 3;omega⟩
theorem aL4:∀(n:Nat) (X:List T),(S7 n X).length=X.length
 |_,[]=>rfl
 |n,x::X=>by simp[S7,aL4 (n+1) X]
theorem bF1{K:cW0}{G:Hp}{p:Addr}{X:List V}{E:List T}(h:G p=⇑X)(r:j9 K G E X):bd0 K G (Ite K p) (S7 0 E):=by
 intro i g F S s;have H:SqL K F p X:=SqL.of (s _ _ (S _ _ h));refine⟨λt J=> ?_,λB Q=>⟨X,H,by rw[r.length];rw[aL4]at B;exact B⟩⟩;obtain⟨U,e,I⟩:=bf8 J;subst I;obtain⟨x,C,R⟩:=r.get e;refine⟨⟨X,x,H,C⟩,λv P L=> ?_⟩;obtain⟨W,q,M,k,N,O⟩:=L;have z:=M X H;rw[C]at z;cases z;subst N O;refine⟨_,Ext.new s k _,?_⟩;have n:=K6 (s.free k) (HO.tup [.int i,x]);erw[Rep];exact⟨q,[.int i,x],rfl,SqT.of t8,j9.cons (by simp[Rep]) (j9.cons ((R.mono S).mono n) j9.nil)⟩
theorem by6{K:cW0}{G:Hp}{lo:Int}{n:Nat}:bd0 K G (Itr lo n) (O2 lo n):=by
 intro i g C S s;refine⟨λt h=> ?_,λH F=> ?_⟩
 .unfold O2 at h;rw[cQ0]at h;by_cases B:i<n
  .rw[cQ1 B]at h;cases h;refine⟨B,λx E y=> ?_⟩;obtain⟨e,y⟩:=y;subst e y;exact⟨g,Ext.refl s,by simp[Rep]⟩
  .rw[cP9 (by simpa using B)]at h;cases h
 .unfold O2 at H;rw[cQ8,cQ9]at H;exact H
theorem z8{g:L3.G}(h:Wd (PX X e g)):Wd (PXI X O e (itL g)):=⟨have h:=h.run;PI.imp (cg1 h) λw H R z=>by
 obtain⟨G,N,P,s,Q,J,q⟩:=z;obtain⟨t,I,B⟩:=h9 J;refine⟨G,N,t,s,Q,I,λv C F E r=> ?_⟩;cases t<;>first |(cases B;done)|skip
 cases B;erw[Rep]at r;obtain⟨p,x,L,k,M⟩:=r;exact⟨p,L,⟨x,SqL.of (E.s _ _ k)⟩,q _ C F E (be1 k M)⟩⟩
theorem P3{p t:Pos}{M:List Expr}{k:Nat}{g C:L3.G}(P:X.mg "zip"=none)(B:Wd (PXA X [a,b] (gs [g,C])))(h:Gl X "zip":=by rfl)(s:starEach [a,b] X.env=[(false,eval a X.env),(false,eval b X.env)]:=by rfl)(S:starEach [b] X.env=[(false,eval b X.env)]:=by rfl):Wd (PXI X (.Tuple M k t) (.Call (.Name "zip" p) [a,b] [] n) (itZ g C)):=⟨have B:=B.run;PI.imp (cn4 h P B s S) λw H R z=>by
 obtain⟨G,Z,o,d,Q,h,q⟩:=z;obtain⟨j,N,h⟩:=h9 h;obtain⟨l,O,h⟩:=h9 h;cases h;obtain⟨x,U,F⟩:=h9 N;obtain⟨f,W,I⟩:=h9 O;cases x<;>first |(cases F;done)|skip
 cases f<;>first |(cases I;done)|skip
 cases F;cases I;refine⟨G,Z,[.lst j,.lst l],d,Q,?_,λu J L E c=> ?_⟩
 .simp only[gs,U,W,cI7]
 .obtain⟨aa,ae,e,r,y⟩:=aC1 c;erw[Rep]at r y;obtain⟨p,v,m1,m2,m3⟩:=r;obtain⟨Y,i,n1,n2,n3⟩:=y;subst m1 n1;exact⟨p,Y,e,⟨v,SqL.of (E.s _ _ m2)⟩,⟨i,SqL.of (E.s _ _ n2)⟩,q _ J L E (bQ3 m2 m3 n2 n3)⟩⟩
theorem V6{p t:Pos}{J:List Expr}{k:Nat}{g:L3.G}(M:X.mg "enumerate"=none)(B:Wd (PXA X [a] (gs [g])))(h:Gl X "enumerate":=by rfl)(s:starEach [a] X.env=[(false,eval a X.env)]:=by rfl):Wd (PXI X (.Tuple J k t) (.Call (.Name "enumerate" p) [a] [] Y) (itE g)):=⟨have B:=B.run;PI.imp (cg2 h M B s) λw H R z=>by
 obtain⟨G,O,Z,S,Q,h,q⟩:=z;obtain⟨W,L,h⟩:=h9 h;cases h;obtain⟨U,N,C⟩:=h9 L;cases U<;>first |(cases C;done)|skip
 cases C;refine⟨G,O,[.lst W],S,Q,?_,λb F I E P=> ?_⟩
 .simp only[gs,N,cI7]
 .obtain⟨x,e,r⟩:=aj3 P;erw[Rep]at r;obtain⟨p,v,m1,m2,m3⟩:=r;subst m1;exact⟨p,e,⟨v,SqL.of (E.s _ _ m2)⟩,q _ F I E (bF1 m2 m3)⟩⟩
theorem J5(J:X.mg "range"=none)(B:Wd (PXA X [a] (gs [F])))(h:Gl X "range":=by rfl)(s:starEach [a] X.env=[(false,eval a X.env)]:=by rfl):Wd (PXI X U (.Call (.Name "range" p) [a] [] P) (itR F)):=⟨have B:=B.run;PI.imp (bI9 h J B s) λw H R z=>by
  obtain⟨G,M,W,S,Q,h,q⟩:=z;obtain⟨n,I,h⟩:=h9 h;obtain⟨t,L,k⟩:=h9 I;cases t<;>first |(cases k;done)|skip
  cases k;refine⟨G,M,[.int n],S,Q,?_,λv g C E N=> ?_⟩
  .simp only[gs,L,cI7]
  .obtain⟨x,e,r⟩:=aj3 N;erw[Rep]at r;subst r;split at h
   .rename_i O;cases h;have l:(lim:Int)<2^62:=∎
    exact⟨n,e,⋯,⋯,q _ g C E by6⟩
   .cases h⟩
end
def tGt(K:cW0)(i:List Nat)(st:St1):TG:=λv W H Q=>∃G B t C,Sub G H/\K5 K G W B/\Rep K G t v/\st t B=some C/\
 ∀w,K5 K G w C->w.length=W.length->(∀k,k∉i->w[k]?=W[k]?)->Q w H
abbrev PXG(X:Cx)(t:Expr)(i:List Nat)(st:St1):Prop:=PG X t (tGt X.K i st)
section
theorem o9(i:Nat)(h:ah8 X.N=true:=by rfl)(B:X.N[i]?=some x:=by rfl)(F:Loc X.env.scope x:=by first |exact .inl rfl|exact .inr rfl)(f:LcF X x:=by first |exact .inl rfl|exact .inr rfl):Wd (PXG X (.Name x p) [i] (stN i)):=⟨have h:=O8 h;PG.imp (av9 h B F f) λv w H Q z=>by
  obtain⟨G,I,t,J,S,E,r,s,q⟩:=z;cases s;refine q _ (E.set r) ∅ λk C=> ?_
  rw[cQ3 (by simp at C;omega)]⟩
theorem D4(i j:Nat)(c:X.calm=true:=by rfl)(I:PG X B (ar8 i):=by exact av9 (O8 rfl) rfl (by first |exact .inl rfl|exact .inr rfl))(J:PG X E (ar8 j):=by exact av9 (O8 rfl) rfl (by first |exact .inl rfl|exact .inr rfl))(O:(assignEach [B,E] X.env).map (·.2)=assign B X.env::(assignEach [E] X.env).map (·.2):=by rfl)(P:(assignEach [E] X.env).map (·.2)=assign E X.env::(assignEach [] X.env).map (·.2):=by rfl)(n:(assignEach [B,E] X.env).length=2:=by rfl)(R:(assignEach [B,E] X.env).findIdx? (·.1)=none:=by rfl):Wd (PXG X (.Tuple [B,E] k p) [i,j] (st2 i j)):=⟨PG.imp (bJ0 c (ax5 I (ax5 J bu9 P) O) n R) λv w H Q z=>by
  obtain⟨G,Z,t,b,s,N,r,h,q⟩:=z
  match t,h with
  |.tup [x,y],h=>
   cases h;erw[Rep]at r;obtain⟨a,d,e,M,S⟩:=r;obtain⟨Y,C,F,U,W⟩:=aC1 S;subst F;refine⟨a,_,e,seqT s M,rfl,Y,[C],rfl,C,[],rfl,rfl,?_⟩;refine q _ ((N.set U).set W) ∅ λk L=> ?_
   simp at L;rw[cQ3 ⋯,cQ3 ⋯]⟩
theorem au9(i j l:Nat)(c:X.calm=true:=by rfl)(F:PG X C (ar8 i):=by exact av9 (O8 rfl) rfl (by first |exact .inl rfl|exact .inr rfl))(I:PG X B (ar8 j):=by exact av9 (O8 rfl) rfl (by first |exact .inl rfl|exact .inr rfl))(J:PG X E (ar8 l):=by exact av9 (O8 rfl) rfl (by first |exact .inl rfl|exact .inr rfl))(O:(assignEach [C,B,E] X.env).map (·.2)=assign C X.env::(assignEach [B,E] X.env).map (·.2):=by rfl)(P:(assignEach [B,E] X.env).map (·.2)=assign B X.env::(assignEach [E] X.env).map (·.2):=by rfl)(S:(assignEach [E] X.env).map (·.2)=assign E X.env::(assignEach [] X.env).map (·.2):=by rfl)(n:(assignEach [C,B,E] X.env).length=3:=by rfl)(U:(assignEach [C,B,E] X.env).findIdx? (·.1)=none:=by rfl):Wd (PXG X (.Tuple [C,B,E] k p) [i,j,l] (st3 i j l)):=⟨PG.imp (bJ0 c (ax5 F (ax5 I (ax5 J bu9 S) P) O) n U) λaa wW H Q g=>by
  obtain⟨G,o,t,u,s,N,r,h,q⟩:=g
  match t,h with
  |.tup [ae,af,ag],h=>
   cases h;erw[Rep]at r;obtain⟨a,xs,e,M,R⟩:=r;erw[j9]at R;obtain⟨v,w,W,x,d,r2,Y,y,f,r3,Z,z,b⟩:=R;subst b Z Y W;refine⟨a,_,e,seqT s M,rfl,v,_,rfl,d,_,rfl,f,_,rfl,rfl,?_⟩;refine q _ (((N.set x).set y).set z) ∅ λk L=> ?_
   simp at L;rw[cQ3 ⋯,cQ3 ⋯,cQ3 ⋯]⟩
end
def tnm:Expr->List Str
 |.Name x _=>[x]
 |.Tuple E _ _=>E.filterMap λe=>match e with |.Name x _=>some x|_=>none
 |_=>[]
def cN(X:Cx)(t:Expr)(a:List Nat):List Str:=tnm t++a.map λi=>X.N.getD i ""
section
abbrev aB8(X:Cx)(i:List Expr)(g:GB):Prop:=aT8 X i (tXB X.K g)
theorem o8:Wd (aB8 X [] u5):=⟨λa s w H Q I z=>by
 obtain⟨G,C,t,S,B,h,q⟩:=z;cases h;exact bV2 a s w H Q I (q G H (Ext.refl S))⟩
theorem be6(h:Wd (PXB X c g)):Wd (aB8 X [c] g):=⟨have h:=h.run;bV1 h⟩
theorem aD9{K:cW0}{it:GL}{p:List Nat}{st:St1}{f:GB}{k:L3.G}{n:Nat}{F:List Nat}(aj:p.all (λi=>decide (i<n))=true):
  ∀w H Q,tX K (o0 it n F st f k) w H Q->tLC (tI K it) (tGt K p st) (tXB K f) (tX K k) n F w H Q:=λw H Q zz=>by
 obtain⟨G,Z,az,sG,ah,I,q⟩:=zz;obtain⟨t,h1,I⟩:=h9 I;split at I
 case isFalse=>cases I
 case isTrue ax=>
 obtain⟨rs,h2,I⟩:=h9 I;cases I;refine⟨G,Z,t,sG,ah,h1,λaw P H' J wk a M=> ?_⟩;have af:P a=none:=J.s.free M;refine⟨λi m y C=>m=t.length-i/\i<=t.length/\y.length<=i/\∃g r c,D7 P g/\Sub g C/\T8 H' C/\(∀b,H' b≠none->P b=none->g b=none)/\g a=none/\C a=⇑y/\j9 K g r y/\
   aa6 (Z6 n F Z) st f k (t.drop i)=some c/\rs=r++c,⟨t.length,∅,cV7 _,cT8 _,P,[],rs,D7.refl _,?_,bi5 (K6 M _),λ_ _ z=>z,af,t8,j9.nil,by simpa using h2,∅⟩,?_⟩
 .exact⟨λb o z=>by rw[n6 (C5 z af)];exact J.s b o z,J.s.t.new M,J.s.n⟩
 rintro i m y C ⟨rfl,hi,ay,g,r,c,s,S,O,fr,d,L,v,h,Y⟩;have aq:K5 K g (Z5 n F w) (Z6 n F Z):=(ah.cap n F).mono (J.g.trans s);by_cases X:i<t.length
 .right;have ht:t[i]?=some t[i]:=cP8 X;obtain⟨go,yl⟩:=(wk i g C s S).1 _ ht;refine⟨go,λav H2 hy=> ?_⟩;obtain⟨x,R,ar⟩:=yl av H2 hy;rw[cO7 X]at h;obtain⟨u,k1,h⟩:=h9 h;obtain⟨bq,k2,h⟩:=h9 h;refine⟨x,Z6 n F Z,t[i],u,R.s,aq.mono R.g,ar,k1,λaA ai ao ak=>⟨⟨ao,λj au W=> ?_⟩,?_⟩⟩
  .by_cases hj:j∈p
   .exfalso;have ag:j<n:=by
     have :=List.all_eq_true.mp aj j hj;simpa using this
    unfold Z5 at W;rw[cP6 (by simpa using ag),cQ2,cW7 ag]at W;cases W
   .rw[ak j hj];exact W
  .refine⟨x,u,bq,R.s,ai,k2,λG3 H3 U=> ?_⟩;have e:=R.trans U;cases bq with
   |true=>
    obtain⟨t1,k3,h⟩:=h9 h;obtain⟨r3,k4,h⟩:=h9 h;cases h;refine at9 ⟨G3,u,t1,U.s,ai.mono U.g,k3,λau G4 H4 e4 rv=> ?_⟩;have E:=e.trans e4;have ae:H4 a=⇑y:=E.h.lst L;have aa:G4 a=none:=E.fr a (by rw[L];simp) d;refine⟨ae,?_,t.length-(i+1),⋯,rfl,X,by rw[cQ7,cR2];omega,G4,r++[t1],r3,s.trans E.g,?_,?_,?_,aa,t8,(v.mono E.g).append (j9.cons rv j9.nil),k4,by rw[Y];simp⟩
    .have :(lim:Nat)<sizeLine:=∎
     omega
    .exact⟨λb o z=>by rw[n6 (C5 z aa)];exact E.s b o z,E.s.t.lst ae,E.s.n⟩
    .exact(O.trans E.h).upd M
    .intro b B N;have l:C b≠none:=O.ne B;exact E.fr b l (fr b B N)
   |false=>
    refine au0 ⟨t.length-(i+1),⋯,rfl,X,⋯,G3,r,c,s.trans e.g,U.s,O.trans e.h,?_,e.fr a (by rw[L];simp) d,e.h.lst L,v.mono e.g,h,Y⟩;intro b B N;have l:C b≠none:=O.ne B;exact e.fr b l (fr b B N)
 .left;have ei:i=t.length:=⋯
  subst ei;refine⟨(wk _ g C s S).2 (cT8 _) (cT8 _),?_⟩;rw[cO8]at h;cases h;rw[cO5]at Y;subst Y;have sn:=K6 d (HO.lst y);refine q _ (upd g a (.lst y)) C (J.trans ⟨s.trans sn,⟨λb o z=> ?_,S.t,aD2 S.n rfl⟩,O,λb B N=> ?_⟩) ?_
  .by_cases B:b=a
   .subst B;rw[t8]at z;cases z;exact L
   .rw[n6 B]at z;exact S b o z
  .rw[n6 (λz=>B (by rw[z];exact M))];exact fr b B N
  .simp only[Rep];exact⟨a,y,rfl,t8,v.mono sn⟩
theorem A9{O:GL}{N:List Nat}{st:St1}{g:GB}{e:L3.G}{n:Nat}{a:List Nat}(M:Wd (PXI X t r O))(L:∀{c C s H f},Wd (PXG (L7 X S c C (cN X t a) s H f) t N st))(h:∀{c C s H f},Wd (aB8 (L7 X S c C (cN X t a) s H f) W g))(J:∀{c C s H f},Wd (PX (L7 X S c C (cN X t a) s H f) P e))(Q:X.calm=true:=by rfl)(k:aj6 X.env.scope X.N S (cN X t a) n a=true:=by rfl)(R:N.all (λi=>decide (i<n))=true:=by rfl)(U:NFo X r:=by intro _;rfl):Wd (PX X (.ListComp P [⟨t,r,W,0⟩] S p) (o0 O n a st g e)):=⟨have M:=M.run;have L:=λx B E F I=>(@L x B E F I).run;have h:=λx B E F I=>(@h x B E F I).run;have J:=λx B E F I=>(@J x B E F I).run;PE.imp (ca1 (g:=tGt X.K N st) (w:=tXB X.K g) (x:=tX X.K e) _ n a Q k M L h J U) (aD9 R)⟩
end
def aF2(K:cW0)(G H:Hp)(D:ao9):Out->Prop
 |.nx Q=>∀w g h,Ext G H g h->K5 K g w Q->D.nx w h
 |.bk Q=>∀w g h,Ext G H g h->K5 K g w Q->D.bk w h
 |.ct Q=>∀w g h,Ext G H g h->K5 K g w Q->D.ct w h
 |.ret t=>∀v g h,Ext G H g h->Rep K g t v->D.rt v h
theorem aF2.ext{K:cW0}{G H C F:Hp}{D:ao9}{o:Out}(e:Ext G H C F)(h:aF2 K G H D o):aF2 K C F D o:=by
 cases o with
 |nx Q=>exact λw g B E r=>h w g B (e.trans E) r
 |bk Q=>exact λw g B E r=>h w g B (e.trans E) r
 |ct Q=>exact λw g B E r=>h w g B (e.trans E) r
 |ret t=>exact λv g B E r=>h v g B (e.trans E) r
def tXS(K:cW0)(g:GS):TS:=λD w H=>∃G Q o,Sub G H/\K5 K G w Q/\g Q=some o/\aF2 K G H D o
abbrev PXS(X:Cx)(st:Stmt)(g:GS):Prop:=PS X st (tXS X.K g)
abbrev aq9(X:Cx)(st:List Stmt)(g:GS):Prop:=PSs X st (tXS X.K g)
section
variable {st:Stmt}
theorem F0:Wd (aq9 X [] z9):=⟨PSs.imp aN5 λD w H z=>by
 obtain⟨G,B,o,s,Q,h,q⟩:=z;cases h;exact q w G H (Ext.refl s) Q⟩
theorem k9{g1 g2:GS}(B:Wd (PXS X st g1))(C:Wd (aq9 X R g2)):Wd (aq9 X (st::R) (m8 g1 g2)):=⟨have B:=B.run;have C:=C.run;PSs.imp (Q6 B C) λD w H z=>by
 obtain⟨G,F,o,s,E,h,q⟩:=z;obtain⟨O,k,h⟩:=h9 h;refine⟨G,F,O,s,E,k,?_⟩;cases O with
 |nx Q=>exact λW g I e r=>⟨g,Q,o,e.s,r,h,q.ext e⟩
 |bk Q=>cases h;exact q
 |ct Q=>cases h;exact q
 |ret t=>cases h;exact q⟩
theorem j7{g1:GS}(h:Wd (PXS X st g1)):Wd (aq9 X [st] g1):=⟨have h:=h.run;am4 h⟩
theorem m6(h:Wd (PX X e g)):Wd (PXS X (.Return (some e) p) (t5 g)):=⟨have h:=h.run;PS.imp (aV2 h) λD w H z=>by
 obtain⟨G,I,o,s,Q,B,q⟩:=z;obtain⟨t,k,B⟩:=h9 B;cases B;exact⟨G,I,t,s,Q,k,λv C E F r=>q v C E F r⟩⟩
def bK4:Expr->Bool
 |.ListComp ..=>false
 |.SetComp ..=>false
 |.DictComp ..=>false
 |_=>true
theorem bR1(h:bK4 e=true):swapsWith e t n E=pure false:=by
 cases e<;>first |rfl|cases h
theorem u8(i:Nat)(h:Wd (PX X e g))(N:ah8 X.N=true:=by rfl)(I:X.N[i]?=some x:=by rfl)(J:Loc X.env.scope x:=by first |exact .inl rfl|exact .inr rfl)(s:bK4 e=true:=by rfl)(f:LcF X x:=by first |exact .inl rfl|exact .inr rfl):Wd (PXS X (.Assign [.Name x P] e p) (o6 i g)):=⟨have N:=O8 N;have h:=h.run;PS.imp (ax4 N I J h (bR1 s) f) λD w H z=>by
 obtain⟨G,L,o,S,Q,B,q⟩:=z;obtain⟨t,k,B⟩:=h9 B;cases B;exact⟨G,L,t,S,Q,k,λv C F E r=>q _ C F E ((Q.mono E.g).set r)⟩⟩
theorem aG2(h:Wd (PX X e g))(B:Wd (PXG X C i S))(s:swapsWithSole [C] e p.line X.env=pure false:=by rfl)(w:swappedStores [C] e X.env=pure none:=by rfl)(L:(assignEach [C] X.env).map (·.2)=[assign C X.env]:=by rfl):Wd (PXS X (.Assign [C] e p) (sSt S g)):=⟨have h:=h.run;have B:=B.run;PS.imp (aV3 h B s w L) λD P H z=>by
 obtain⟨G,I,o,O,Q,B,q⟩:=z;obtain⟨t,k,B⟩:=h9 B;obtain⟨N,M,B⟩:=h9 B;cases B;exact⟨G,I,t,O,Q,k,λv F J E R=>⟨F,I,t,N,E.s,Q.mono E.g,R,M,λW r _ _=>q W F J E r⟩⟩⟩
theorem K3(E:Wd (PXB X c L))(B:Wd (aq9 X a I))(C:Wd (aq9 X b J)):Wd (PXS X (.If c a b p) (sIf L I J)):=⟨have E:=E.run;have B:=B.run;have C:=C.run;PS.imp (bj0 E B C) λD w H z=>by
 obtain⟨G,F,o,s,Q,h,q⟩:=z;obtain⟨k,M,h⟩:=h9 h;refine⟨G,F,k,s,Q,M,λg N e=> ?_⟩;cases k with
 |true=>exact at9 ⟨g,F,o,e.s,Q.mono e.g,h,q.ext e⟩
 |false=>exact au0 ⟨g,F,o,e.s,Q.mono e.g,h,q.ext e⟩⟩
theorem N1(M:Wd (PXI X f Y it))(H:Wd (PXG X f is s))(P:Wd (aq9 X y b))(v:PassesOwn (model X.prog X.w) X.A X.env X.xe:=by exact PassesOwn.never)(u:X.calm=true:=by rfl)(hs:NFo X Y:=by intro _;rfl):Wd (PXS X (.For f Y y [] ah) (P1 it s b)):=⟨have M:=M.run;have H:=H.run;have P:=P.run;PS.imp (bI7 v u M H P hs) λD wW af zz=>by
 obtain⟨G,a,o,sG,U,H,q⟩:=zz;obtain⟨t,n,H⟩:=h9 H;refine⟨G,a,t,sG,U,n,λag O S J k=> ?_⟩;refine⟨λi m W F=>m=t.length-i/\i<=t.length/\∃C N,Ext O S C F/\K5 X.K C W N/\N4 s b (t.drop i) N=some o,⟨t.length,∅,cV7 _,O,a,Ext.refl J.s,U.mono J.g,by simpa using H⟩,?_⟩;rintro i m W F ⟨rfl,M,C,N,x,d,h⟩;by_cases R:i<t.length
 .right;have ht:t[i]?=some t[i]:=cP8 R;obtain⟨l,yl⟩:=(k i C F x.g x.s).1 _ ht;rw[cO7 R]at h;obtain⟨c,k1,h⟩:=h9 h;obtain⟨Z,k2,h⟩:=h9 h;refine⟨l,λw L=>∃g Q,Ext O S g L/\K5 X.K g w Q/\N4 s b (t.drop (i+1)) Q=some o,λw L ⟨g,Q,x2,r2,p⟩=>⟨t.length-(i+1),⋯,rfl,R,g,Q,x2,r2,p⟩,λae L hy=> ?_⟩;obtain⟨g,e,rx⟩:=yl ae L hy;refine⟨g,N,t[i],c,e.s,d.mono e.g,rx,k1,λaj z _ _=>⟨g,c,Z,e.s,z,k2,?_⟩⟩;cases Z with
  |nx Q=>exact λw B I E r=>⟨B,Q,x.trans (e.trans E),r,h⟩
  |ct Q=>exact λw B I E r=>⟨B,Q,x.trans (e.trans E),r,h⟩
  |bk Q=>cases h;exact λw B I E r=>q w B I (J.trans (x.trans (e.trans E))) r
  |ret ai=>cases h;exact λaa B I E r=>q aa B I (J.trans (x.trans (e.trans E))) r
 .left;have j:i=t.length:=⋯
  subst j;refine⟨(k _ C F x.g x.s).2 (cT8 _) (cT8 _),?_⟩;rw[cO8]at h;cases h;exact q W C F (J.trans x) d⟩
theorem aG1(f:A3->Nat)(M:Wd (PXB X c J))(L:Wd (aq9 X y b))(p:PassesOwn (model X.prog X.w) X.A X.env X.xe:=by exact PassesOwn.never):Wd (PXS X (.While c y [] i) (λC=>K8 J b (f C) C)):=⟨have M:=M.run;have L:=L.run;PS.imp (bm6 p M L) λD j H z=>by
 obtain⟨G,C,o,s,Z,Y,q⟩:=z;refine⟨λm W O=>∃I F,Ext G H I O/\K5 X.K I W F/\K8 J b m F=some o,⟨f C,G,C,Ext.refl s,Z,Y⟩,?_⟩;rintro m W O ⟨I,F,x,R,h⟩;cases m with
 |zero=>cases h
 |succ n=>
  obtain⟨k,a,h⟩:=h9 h;refine⟨I,F,k,x.s,R,a,λN S e=> ?_⟩;cases k with
  |false=>
   cases h;exact q W N S (x.trans e) (R.mono e.g)
  |true=>
   obtain⟨P,d,h⟩:=h9 h;refine⟨λw B=>∃g Q,Ext G H g B/\K5 X.K g w Q/\K8 J b n Q=some o,λw B U=>⟨n,cU5 n,U⟩,⟨N,F,P,e.s,R.mono e.g,d,?_⟩⟩;cases P with
   |nx Q=>exact λw g B E r=>⟨g,Q,x.trans (e.trans E),r,h⟩
   |ct Q=>exact λw g B E r=>⟨g,Q,x.trans (e.trans E),r,h⟩
   |bk Q=>cases h;exact λw g B E r=>q w g B (x.trans (e.trans E)) r
   |ret t=>cases h;exact λv g B E r=>q v g B (x.trans (e.trans E)) r⟩
theorem aC5{e t r:Expr}{Q:List Expr}{s:Scope}{Y:GL}{R:List Nat}{st:St1}{g:GB}{L:L3.G}{x:Str}{p Z:Pos}(i:Nat){n:Nat}{a:List Nat}(P:Wd (PXI X t r Y))(h:∀{c C S o f},Wd (PXG (L7 X s c C (cN X t a) S o f) t R st))(M:∀{c C S o f},Wd (aB8 (L7 X s c C (cN X t a) S o f) Q g))(O:∀{c C S o f},Wd (PX (L7 X s c C (cN X t a) S o f) e L))(N:ah8 X.N=true:=by rfl)(j:X.calm=true:=by rfl)(k:aj6 X.env.scope X.N s (cN X t a) n a=true:=by rfl)(l:R.all (λi=>decide (i<n))=true:=by rfl)(y:X.N[i]?=some x:=by rfl)(u:X.env.scope.names.lookup x=some .local:=by rfl)(w:swapsWith (.ListComp e [⟨t,r,Q,0⟩] s aa) (some (.Name x p)) Z.line X.env=pure true:=by rfl)(v:NFo X r:=by intro _;rfl):Wd (PXS X (.Assign [.Name x p] (.ListComp e [⟨t,r,Q,0⟩] s aa) Z) (o6 i (o0 Y n a st g L))):=⟨have N:=O8 N;have P:=P.run;have h:=λB E F I J=>(@h B E F I J).run;have M:=λB E F I J=>(@M B E F I J).run;have O:=λB E F I J=>(@O B E F I J).run;PS.imp (as8 (g:=tGt X.K R st) (tc:=tXB X.K g) (te:=tX X.K L) (i:=i) _ n a j k P h M O N y u w v) λD wW H zz=>by
 obtain⟨G,qQ,af,sG,W,h,q⟩:=zz;obtain⟨ae,z,h⟩:=h9 h;cases h;exact aD9 l wW H _ ⟨G,qQ,ae,sG,W,z,λag b d U r1=>q _ b d U ((W.mono U.g).set r1)⟩⟩
end
section
variable {K:cW0}
theorem ag6{N:List Str}{v:List V}{s:List T}{G:Hp}(r:j9 K G s v)(h:s.length<=N.length):K5 K G (L2.start N v) (A0 N.length s):=by
 refine⟨by simp[L2.start,A0,r.length],λi t q=> ?_⟩;unfold A0 at q;unfold L2.start;by_cases H:i<s.length
 .rw[cP6 (by simpa using H),cQ0]at q;cases e:s[i]? with
  |none=>rw[e]at q;cases q
  |some u=>
   rw[e]at q;cases q;obtain⟨x,B,R⟩:=r.get e;refine⟨x,?_,R⟩;rw[cP6 (by rw[cQ8,r.length];exact H),cQ0,B];rfl
 .rw[cP7 (by simpa using H),cQ2]at q;split at q<;>cases q
theorem fnT{x L:Str}{st:Stmt}{f:Addr}{d:FuncData}{N p:List Str}{k:Nat}{g:GS}(F:Fun K x L st f d)(S:Q1 N p (t7 st))(n:p.length<=N.length)
  (b:∀(c:Value) (A:Around) (a:List Env) (s:Shared) (H:Hp) (E:XK),G9 k (A.deeper (envOfC L (t7 st) s.sz f c))->aq9 (F9 CX0 P w K Y U N L (t7 st) f c A a s H E).nox (O9 st) g):
  S4 P w K Y U CX0 (k+1) f d p (spT K p.length (A6 p.length N.length g)):=by
 refine F.ok S (λi H Q E h=> ?_) (λc A a s H i Q E X h=> ?_)
 .obtain⟨G,R,t,O,r,l,_⟩:=h;rw[r.length,l]
 .obtain⟨G,R,t,O,r,l,B,q⟩:=h;refine⟨_,b c A a s H E X,?_⟩;unfold A6 at B;rw[cW7 l]at B;have W:=ag6 (N:=N) r ⋯;cases J:g (A0 N.length R)with
  |none=>rw[J]at B;cases B
  |some o=>
   rw[J]at B;refine⟨G,_,o,O,W,J,?_⟩;cases o with
   |nx M=>cases B;exact λu C I e _=>q .non C I e (by simp[Rep])
   |ret j=>cases B;exact λv C I e Z=>q v C I e Z
   |bk M=>cases B
   |ct M=>cases B
end
section
def Cal(P:Program)(w:World)(K:cW0)(M:Str->Option Value)(a:Heap)(x:Str)(k n:Nat)(F:List T->Option T):Prop:=
 ∃f d p,M x=some (.ref f)/\W.keepIn K (.ref f)=true/\R9 K d p []/\S4 P w K M a CX0 k f d p (spT K n F)
theorem j6(h:Cal X.prog X.w X.K X.mg X.aD x k n F)(r:G9 N X.A)(a:Wd (PXA X (e::E) (gs l)))(I:k<=N:=by decide)(g:Gl X x:=by rfl)(L:l.length=n:=by rfl)(B:NoD x:=by decide)(C:StE X e E:=by rfl)(M:Bks X P E:=by rfl):Wd (PX X (.Call (.Name x p) (e::E) [] P) (gN F l)):=⟨by
 have a:=a.run;obtain⟨f,d,s,J,O,b,H⟩:=h;exact cf7 n H (r.mono I) g J O b a L B C M⟩
theorem ae2(h:∃t,X.mg x=some (.int i t))(g:Gl X x:=by rfl)(H:NoD x:=by decide):Wd (PX X (.Name x p) (gC (.int i))):=⟨by
 obtain⟨t,h⟩:=h;exact bU6 g h H⟩
theorem ah1(h:∃a,X.mg x=some (.ref a)/\∀G,Rep X.K G t (.ref a))(g:Gl X x:=by rfl)(H:NoD x:=by decide):Wd (PX X (.Name x p) (gC t)):=⟨by
 obtain⟨a,h,r⟩:=h;exact cf6 g h r H⟩
theorem bl8(i j:Nat)(B:Wd (PXA X [a,b] (gs [L,M])))(c:X.calm=true:=by rfl)(N:ah8 X.N=true:=by rfl)(O:X.N[i]?=some x:=by rfl)(S:X.N[j]?=some y:=by rfl)(R:i≠j:=by decide)(U:X.env.scope.names.lookup x=some .local:=by rfl)(W:X.env.scope.names.lookup y=some .local:=by rfl)(w:swappedStores [.Tuple [.Name x F,.Name y I] C p] (.Tuple [a,b] k P) X.env=pure (some [x,y]):=by rfl)(s:swapsWithSole [.Tuple [.Name x F,.Name y I] C p] (.Tuple [a,b] k P) Z.line X.env=pure false:=by rfl):Wd (PXS X (.Assign [.Tuple [.Name x F,.Name y I] C p] (.Tuple [a,b] k P) Z) (bl4 i j L M)):=⟨have N:=O8 N;have B:=B.run;PS.imp (cn2 c N O S R U W B w s) λD wW H o=>by
 obtain⟨G,d,aa,n,Q,h,q⟩:=o;obtain⟨t,Y,h⟩:=h9 h;obtain⟨u,k,h⟩:=h9 h;cases h;refine⟨G,d,[t,u],n,Q,by erw[gs,Y,k,cI7],λvs g J E r=> ?_⟩;obtain⟨v,z,e,f,l⟩:=aC1 r;exact⟨v,z,e,q _ g J E (((Q.mono E.g).set f).set l)⟩⟩
end
theorem ah9(a:List Nat):∀Q:A3,(D5 a Q).length=Q.length:=by
 unfold D5;induction a with
 |nil=>intro Q;rfl
 |cons i a I=>intro Q;rw[cJ1,I,cR1]
theorem az7(i:Nat)(a:List Nat)(Q:A3):D5 (i::a) Q=D5 a (Q.set i none):=rfl
theorem aq2(a:List Nat):∀(Q:A3) (i:Nat) (o:Option T),i∉a->D5 a (Q.set i o)=(D5 a Q).set i o:=by
 unfold D5;induction a with
 |nil=>intro Q i o _;rfl
 |cons j a I=>
  intro Q i o h;have H:i≠j:=λz=>h (by rw[z];exact cS2)
  rw[cJ1,cJ1,List.set_comm _ _ H,I _ _ _ λz=>h (cS1 _ z)]
theorem bf1(a:List Nat):∀(Q:A3) (i:Nat),D5 a (Q.set i none)=(D5 a Q).set i none:=by
 unfold D5;induction a with
 |nil=>intro Q i;rfl
 |cons j a I=>
  intro Q i
  (rw[cJ1,cJ1]);by_cases h:i=j
  .subst h;rw[cT3,<-I,cT3]
  .rw[List.set_comm _ _ h,I]
theorem bo1(a:List Nat):∀(Q:A3) (i:Nat) (t:T),(D5 a Q)[i]?=some (some t)->Q[i]?=some (some t)/\i∉a:=by
 unfold D5;induction a with
 |nil=>intro Q i t h;exact⟨h,∅⟩
 |cons j a I=>
  intro Q i t h;rw[cJ1]at h;obtain⟨H,B⟩:=I _ _ _ h;by_cases e:j=i
  .subst e;by_cases l:j<Q.length
   .rw[cQ4 l]at H;cases H
   .rw[cP9 (by simpa using l)]at H;cases H
  .rw[cQ3 e]at H;exact⟨H,λz=>by rcases cI4 z with z|z;exact e z.symm;exact B z⟩
theorem aq5(a:List Nat)(Q:A3)(i:Nat)(t:T)(h:Q[i]?=some (some t))(H:i∉a):(D5 a Q)[i]?=some (some t):=by
 revert Q;unfold D5;induction a with
 |nil=>intro Q h;exact h
 |cons j a I=>
  intro Q h;rw[cJ1];refine I (λz=>H (cS1 _ z)) _ ?_;rw[cQ3 λz=>H (by rw[<-z];exact cS2)];exact h
theorem K5.setN{K:cW0}{G:Hp}{W:L2.St}{Q:A3}{i:Nat}{o:Option V}(h:K5 K G W Q):K5 K G (W.set i o) (Q.set i none):=by
 refine⟨by simpa using h.1,λj u q=> ?_⟩;by_cases e:i=j
 .subst e;by_cases H:i<Q.length
  .rw[cQ4 H]at q;cases q
  .rw[cP9 (by simpa using H)]at q;cases q
 .rw[cQ3 e]at q;obtain⟨w,B,C⟩:=h.2 j u q;exact⟨w,by rw[cQ3 e];exact B,C⟩
inductive ai5(K:cW0)(G:Hp):T->HO->Prop where
 |lst {ts:List T}{xs:List V}(h:j9 K G ts xs):ai5 K G (.lst ts) (.lst xs)
def aM9:HO->Prop
 |.lst _=>True
 |.dK _=>True
 |_=>False
section
variable {K:cW0}{G g H:Hp}
theorem ai5.mono(e:D7 G g)(B:ai5 K G t o):ai5 K g t o:=by
 cases B with
 |lst B=>exact .lst (B.mono e)
theorem ai5.no(B:ai5 K G t o):aj4 o=true:=by cases B<;>rfl
theorem ai5.rep(B:ai5 K G t o)(e:G a=some o):Rep K G t (.ref a):=by
 cases B with
 |lst B=>erw[Rep];exact⟨a,_,rfl,e,B⟩
theorem ai5.sl(B:ai5 K G t o):aM9 o:=by cases B<;>exact True.intro
theorem ai5.upd(B:ai5 K G t C)(n:H a=some C)(b:Tbs H):Tbs (L2.upd H a o):=b.upd λx e=>by
 rw[n]at e;cases e;cases B with
 |lst B=>exact⟨λ_ z=>HO.noConfusion z,λ_ _ z=>HO.noConfusion z⟩
end
structure RO(K:cW0)(G0 H0:Hp)(aB:List Nat)(G H:Hp)(wW:L2.St)(qQ:A3):Prop where
 x:Ext G0 H0 G H
 r:K5 K G wW (D5 aB qQ)
 o:∀i∈aB,∃a xs ts,qQ[i]?=some (some ts)/\wW[i]?=some (some (.ref a))/\H0 a=none/\G a=none/\H a=some xs/\ai5 K G ts xs
 d:∀i∈aB,∀j∈aB,∀a,wW[i]?=some (some (.ref a))->wW[j]?=some (some (.ref a))->i=j
section
variable {K:cW0}{G0 H0 G H g l:Hp}
theorem RO.len(h:RO K G0 H0 B G H w Q):w.length=Q.length:=by rw[h.r.1,ah9]
theorem RO.step(h:RO K G0 H0 aB G H wW qQ)(e:Ext G H g l):RO K G0 H0 aB g l wW qQ where
 x:=h.x.trans e
 r:=h.r.mono e.g
 o:=λi hi=>by
  obtain⟨a,xs,ts,h1,h2,h3,h4,h5,h6⟩:=h.o i hi;exact⟨a,xs,ts,h1,h2,h3,e.fr a (by rw[h5];simp) h4,e.h.yes h5 h6.no,h6.mono e.g⟩
 d:=h.d
theorem RO.start(s:Sub G H)(R:K5 K G w Q):RO K G H [] G H w Q:=⟨Ext.refl s,R,λI h=>absurd h ∅,λI h=>absurd h ∅⟩
theorem RO.set(h:RO K G0 H0 aB G H wW qQ)(hi:i∉aB)(r:Rep K G t v):RO K G0 H0 aB G H (wW.set i (some v)) (qQ.set i (some t)) where
 x:=h.x
 r:=by rw[aq2 aB qQ i _ hi];exact h.r.set r
 o:=λj hj=>by
  obtain⟨a,xs,ts,h1,h2,h3⟩:=h.o j hj;have hne:i≠j:=λz=>hi (by rw[z];exact hj)
  exact⟨a,xs,ts,by rw[cQ3 hne];exact h1,by rw[cQ3 hne];exact h2,h3⟩
 d:=λj hj k hk a h1 h2=>by
  rw[cQ3 λz=>hi (by rw[z];exact hj)]at h1;rw[cQ3 λz=>hi (by rw[z];exact hk)]at h2;exact h.d j hj k hk a h1 h2
theorem RO.newO(h:RO K G0 H0 Q G H w Z)(M:I∉Q)(P:I<w.length)(F:H p=none)(v:ai5 K G t s):
  RO K G0 H0 (I::Q) G (upd H p s) (w.set I (some (.ref p))) (Z.set I (some t)):=by
 have X:G p=none:=h.x.s.free F;have f:I<Z.length:=by rw[<-h.len];exact P
 have fresh:∀J∈Q,w[J]?≠some (some (.ref p)):=λJ E z=>by
  obtain⟨a,y,u,C,B,S,U,L,W⟩:=h.o J E;rw[z]at B;cases B;rw[F]at L;cases L
 refine⟨⟨h.x.g,⟨λb n q=> ?_,h.x.s.t.new F,h.x.s.n⟩,h.x.h.trans (bi5 (K6 F _)),h.x.fr⟩,?_,λJ E=> ?_,λJ E k c a C B=> ?_⟩
 .rw[n6 (C5 q X)];exact h.x.s b n q
 .rw[az7,cT3,bf1];exact h.r.setN
 .rcases cI4 E with e|E
  .subst e;exact⟨p,s,t,cQ4 f,cQ4 P,h.x.h.free F,X,t8,v⟩
  .obtain⟨a,y,u,C,B,S,U,L,W⟩:=h.o J E;have Y:I≠J:=λz=>M (by rw[z];exact E)
   exact⟨a,y,u,by rw[cQ3 Y];exact C,by rw[cQ3 Y];exact B,S,U,by rw[n6 (C5 L F)];exact L,W⟩
 .rcases cI4 E with e|N<;>rcases cI4 c with R|O
  .rw[e,R]
  .subst e;rw[cQ4 P]at C;cases C;rw[cQ3 λz=>M (by rw[z];exact O)]at B;exact absurd B (fresh k O)
  .subst R;rw[cQ4 P]at B;cases B;rw[cQ3 λz=>M (by rw[z];exact N)]at C;exact absurd C (fresh J N)
  .rw[cQ3 λz=>M (by rw[z];exact N)]at C;rw[cQ3 λz=>M (by rw[z];exact O)]at B;exact h.d J N k O a C B
theorem RO.new(h:RO K G0 H0 B G H w Q)(C:I∉B)(E:I<w.length)(F:H p=none)(R:j9 K G t X):
  RO K G0 H0 (I::B) G (upd H p (.lst X)) (w.set I (some (.ref p))) (Q.set I ⇑t):=h.newO C E F (.lst R)
theorem RO.putO(h:RO K G0 H0 B G H w Q)(C:I∈B)(E:w[I]?=some (some (.ref a)))(p:ai5 K G u y):
  RO K G0 H0 B G (upd H a y) w (Q.set I (some u)):=by
 obtain⟨t,ae,aa,F,L,M,N,P,R⟩:=h.o I C;rw[E]at L;cases L;have U:I<Q.length:=by
  rcases cU3 I Q.length with q|q
  .exact q
  .rw[cP9 q]at F;cases F
 refine⟨⟨h.x.g,⟨λb n q=> ?_,R.upd P h.x.s.t,h.x.s.n⟩,h.x.h.upd M,h.x.fr⟩,?_,λJ O=> ?_,h.d⟩
 .rw[n6 (C5 q N)];exact h.x.s b n q
 .have e:∀(B:List Nat),I∈B->∀Q:A3,D5 B (Q.set I (some u))=D5 B Q:=by
   intro B;unfold D5;induction B with
   |nil=>intro C;exact absurd C ∅
   |cons J B W=>
    intro C Q
    (rw[cJ1,cJ1]);by_cases z:I=J
    .subst z;rw[cT3]
    .rw[List.set_comm _ _ z];exact W ((cI4 C).resolve_left z) _
  rw[e B C];exact h.r
 .by_cases z:I=J
  .subst z;exact⟨a,y,u,cQ4 U,E,M,N,t8,p⟩
  .obtain⟨b,s,v,X,k,Y,Z,c,f⟩:=h.o J O;have S:b≠a:=λq=>z (h.d I C J O a E (by rw[<-q];exact k))
   exact⟨b,s,v,by rw[cQ3 z];exact X,k,Y,Z,by rw[n6 S];exact c,f⟩
theorem RO.put(h:RO K G0 H0 B G H w Q)(E:I∈B)(C:w[I]?=some (some (.ref a)))(R:j9 K G u y):
  RO K G0 H0 B G (upd H a (.lst y)) w (Q.set I ⇑u):=h.putO E C (.lst R)
theorem RO.freeze(h:RO K G0 H0 F G H w U)(S:I∈F):∃C a X t,D7 G C/\RO K G0 H0 (F.filter (· !=I)) C H w U/\U[I]?=some (some t)/\w[I]?=some (some (.ref a))/\Rep K C t (.ref a)/\C a=some X:=by
 obtain⟨a,X,t,O,L,Y,Z,c,P⟩:=h.o I S;have s:=K6 Z X;have p:Rep K (upd G a X) t (.ref a):=(P.mono s).rep t8;refine⟨upd G a X,a,X,t,s,⟨⟨h.x.g.trans s,⟨λb aa q=> ?_,h.x.s.t,aD2 h.x.s.n P.no⟩,h.x.h,λb R n=> ?_⟩,⟨?_,λJ ae q=> ?_⟩,λJ B=> ?_,λJ B k u b e W=> ?_⟩,O,L,p,t8⟩
 .by_cases z:b=a
  .subst z;rw[t8]at q;cases q;exact c
  .rw[n6 z]at q;exact h.x.s b aa q
 .rw[n6 λz=>R (by rw[z];exact Y)];exact h.x.fr b R n
 .rw[ah9];exact h.len
 .obtain⟨Q,q2⟩:=bo1 _ _ _ _ q;by_cases z:J=I
  .subst z;rw[O]at Q;cases Q;exact⟨.ref a,L,p⟩
  .have B:J∉F:=λag=>q2 (List.mem_filter.mpr ⟨ag,by simpa using z⟩)
   obtain⟨af,N,E⟩:=h.r.2 J ae (aq5 _ _ _ _ Q B);exact⟨af,N,E.mono s⟩
 .obtain⟨B,M⟩:=List.mem_filter.mp B;have M:J≠I:=by simpa using M
  obtain⟨b,zs,vs,N,E,v,y,k5,k6⟩:=h.o J B;have f:b≠a:=λz=>M (h.d J B I S b E (by rw[z];exact L))
  exact⟨b,zs,vs,N,E,v,by rw[n6 f];exact y,k5,k6.mono s⟩
 .exact h.d J (List.mem_filter.mp B).1 k (List.mem_filter.mp u).1 b e W
mutual
theorem Rep.del{as:List Addr}(C:∀a∈as,∃x,G a=some x/\aM9 x):∀{t:T}{v:V},aj8 t=true->Rep K G t v->Rep K (λb=>if b∈as then none else G b) t v
 |.non,_,_,h=>by simpa[Rep]using h
 |.bl _,_,_,h=>by simpa[Rep]using h
 |.int _,_,_,h=>by simpa[Rep]using h
 |.str _,_,_,h=>by simpa[Rep]using h
 |.ref _,_,_,h=>by simpa[Rep]using h
 |.lst _,_,f,_=>by simp[aj8]at f
 |.scr _,_,f,_=>by simp[aj8]at f
 |.obj _ _,_,f,_=>by simp[aj8]at f
 |.tup s,_,f,h=>by
  erw[Rep]at h⊢;erw[aj8]at f;obtain⟨a,x,E,B,F⟩:=h;refine⟨a,x,E,?_,j9.del C f F⟩;rcases B with(B|⟨o,B⟩)|B
  .refine .inl (.inl ?_);show(if a∈as then none else G a)=_;rw[cW6 λz=>by obtain⟨y,q,n⟩:=C a z;rw[B]at q;cases q;exact n];exact B
  .refine .inl (.inr ⟨o,?_⟩);show(if a∈as then none else G a)=_;rw[cW6 λz=>by obtain⟨y,q,n⟩:=C a z;rw[B]at q;cases q;exact n];exact B
  .exact .inr B
theorem j9.del{as:List Addr}(B:∀a∈as,∃X,G a=some X/\aM9 X):∀{s:List T}{X:List V},aH7 s=true->j9 K G s X->j9 K (λb=>if b∈as then none else G b) s X
 |[],_,_,h=>by simpa[j9]using h
 |t::s,_,f,h=>by
  erw[j9]at h⊢;erw[aH7,cK2]at f;obtain⟨x,r,C,E,F⟩:=h;exact⟨x,r,C,Rep.del B f.1 E,j9.del B f.2 F⟩
end
theorem j9.set(r:Rep K G t v):∀{s:List T}{X:List V}(n:Nat),j9 K G s X->j9 K G (s.set n t) (X.set n v)
 |[],X,n,h=>by erw[j9]at h;subst h;simp[j9]
 |u::s,X,0,h=>by
  erw[j9]at h;obtain⟨x,q,e,C,B⟩:=h;subst e;exact j9.cons r B
 |u::s,X,n+1,h=>by
  erw[j9]at h;obtain⟨x,q,e,C,B⟩:=h;subst e;exact j9.cons C (j9.set r n B)
def ab7(w:L2.St)(B:List Nat):List Addr:=B.filterMap λi=>match(w[i]?).join with |some (V.ref a)=>some a|_=>none
theorem RO.mem(h:RO K G0 H0 B G H w Q)(L:b∈ab7 w B):∃I∈B,∃X t,Q[I]?=some (some t)/\w[I]?=some (some (.ref b))/\H0 b=none/\G b=none/\H b=some X/\ai5 K G t X:=by
 obtain⟨I,E,e⟩:=List.mem_filterMap.mp L;obtain⟨a,X,t,F,C,J⟩:=h.o I E;rw[C]at e;cases e;exact⟨I,E,X,t,F,C,J⟩
theorem RO.of_mem(C:I∈B)(h:w[I]?=some (some (.ref a))):a∈ab7 w B:=
 List.mem_filterMap.mpr ⟨I,C,by rw[h];rfl⟩
theorem RO.peek(h:RO K G0 H0 B G H w u):∃M,Sub M H/\K5 K M w u/\Ext G0 H0 M H/\∀g l,Ext M H g l->∃R,D7 G R/\RO K G0 H0 B R l w u/\∀t v,(aj8 t=true\/∃p s,v=.ref p/\t=.lst s/\aH7 s=true/\H p=none)->Rep K g t v->Rep K R t v:=by
 have N:D7 G (λb=>if b∈ab7 w B then H b else G b):=λb O q=>by
  show(if b∈ab7 w B then H b else G b)=_;rw[cW6 λz=>by obtain⟨_,_,_,_,_,_,_,Z,_⟩:=h.mem z;rw[q]at Z;cases Z];exact q
 have y:D7 (λb=>if b∈ab7 w B then H b else G b) H:=λb O q=>by
  have q:(if b∈ab7 w B then H b else G b)=some O:=q;split at q
  .exact q
  .exact h.x.s b O q
 have n:∀b P,(λb=>if b∈ab7 w B then H b else G b) b≠some (.tbl P):=λb P q=>by
  have q:(if b∈ab7 w B then H b else G b)=some (.tbl P):=q;split at q
  .rename_i z;obtain⟨_,_,X,_,_,_,_,_,Q,z6⟩:=h.mem z;rw[Q]at q;cases q;exact absurd z6.no (by simp[aj4])
  .exact h.x.s.n b P q
 refine⟨λb=>if b∈ab7 w B then H b else G b,⟨y,h.x.s.t,n⟩,⟨h.len,λI t q=> ?_⟩,⟨h.x.g.trans N,⟨y,h.x.s.t,n⟩,h.x.h,λb L W=> ?_⟩,λg l e=> ?_⟩
 .by_cases C:I∈B
  .obtain⟨a,X,s,U,F,c,h4,J,E⟩:=h.o I C;rw[U]at q;cases q;refine⟨.ref a,F,(E.mono N).rep ?_⟩;show(if a∈ab7 w B then H a else G a)=_;rw[cW7 (RO.of_mem C F)];exact J
  .obtain⟨v,k1,k2⟩:=h.r.2 I t (aq5 _ _ _ _ q C);exact⟨v,k1,k2.mono N⟩
 .show(if b∈ab7 w B then H b else G b)=none;rw[cW6 λz=>by obtain⟨_,_,_,_,_,_,z3,_⟩:=h.mem z;exact L z3];exact h.x.fr b L W
 .have g1:∀a∈ab7 w B,∃X,g a=some X/\aM9 X:=λa k=>by
   obtain⟨I,C,X,s,_,_,_,_,J,E⟩:=h.mem k;exact⟨X,e.g a _ (by show(if a∈ab7 w B then H a else G a)=_;rw[cW7 k];exact J),E.sl⟩
  have S:D7 G (λb=>if b∈ab7 w B then none else g b):=λb O q=>by
   show(if b∈ab7 w B then none else g b)=_;rw[cW6 λz=>by obtain⟨_,_,_,_,_,_,_,Z,_⟩:=h.mem z;rw[q]at Z;cases Z];exact e.g b O (N b O q)
  have n2:∀b P,(λb=>if b∈ab7 w B then none else g b) b≠some (.tbl P):=λb P q=>by
   have q:(if b∈ab7 w B then none else g b)=some (.tbl P):=q;split at q
   .cases q
   .exact e.s.n b P q
  refine⟨λb=>if b∈ab7 w B then none else g b,S,⟨⟨h.x.g.trans S,⟨λb O q=> ?_,e.s.t,n2⟩,h.x.h.trans e.h,λb L W=> ?_⟩,h.r.mono S,λI C=> ?_,h.d⟩,λt v f Y=> ?_⟩
  .have q:(if b∈ab7 w B then none else g b)=some O:=q;split at q
   .cases q
   .exact e.s b O q
  .show(if b∈ab7 w B then none else g b)=none;split
   .rfl
   .rename_i z;refine e.fr b ?_ ?_
    .exact h.x.h.ne L
    .show(if b∈ab7 w B then H b else G b)=none;rw[cW6 z];exact h.x.fr b L W
  .obtain⟨a,X,s,U,F,c,h4,J,E⟩:=h.o I C;refine⟨a,X,s,U,F,c,?_,e.h.yes J E.no,E.mono S⟩;rw[cW7 (RO.of_mem C F)]
  .rcases f with f|⟨p,s,rfl,rfl,f,hp⟩
   .exact Rep.del g1 f Y
   .simp only[Rep]at Y⊢;obtain⟨a,X,e1,e2,e3⟩:=Y;cases e1;refine⟨p,X,rfl,?_,j9.del g1 f e3⟩;rw[cW6 λz=>by obtain⟨_,_,_,_,_,_,_,_,Q,_⟩:=h.mem z;rw[hp]at Q;cases Q];exact e2
end
theorem an8{B:Type}{X:List B}{i:Nat}{x:B}(h:X[i]?=some x):i<X.length:=by
 rcases cU3 i X.length with q|q
 .exact q
 .rw[cP9 q]at h;cases h
def bj9(K:cW0)(B h G:Hp)(a:List Nat)(D:ao9):Out->Prop
 |.nx Q=>∀w g H,D7 G g->RO K B h a g H w Q->D.nx w H
 |.ret t=>∀v g H,Ext B h g H->Rep K g t v->D.rt v H
 |_=>False
theorem bj9.mono{K:cW0}{g H G B:Hp}{a:List Nat}{D:ao9}{o:Out}(s:D7 G B)(h:bj9 K g H G a D o):bj9 K g H B a D o:=by
 cases o with
 |nx Q=>exact λw C E S R=>h w C E (s.trans S) R
 |ret t=>exact h
 |bk Q=>exact h
 |ct Q=>exact h
def tXO(K:cW0)(B h:Hp)(a C:List Nat)(g:GS):TS:=λD w H=>∃G Q o,RO K B h a G H w Q/\g Q=some o/\bj9 K B h G C D o
def NB(g:GS):Prop:=∀B o,g B=some o->(∀Q,o≠.bk Q)/\∀Q,o≠.ct Q
theorem aW0(h:∀Q o,g Q=some o->∃B,o=.nx B):NB g:=λQ o e=>by
 obtain⟨B,rfl⟩:=h Q o e;exact⟨λ_ z=>(nomatch z),λ_ z=>(nomatch z)⟩
theorem aV9:NB (o6 i g):=aW0 λQ o e=>by
 obtain⟨t,_,e⟩:=h9 e;cases e;exact⟨_,rfl⟩
theorem cq2:NB (aF7 i g):=aW0 λQ o e=>by
 obtain⟨t,_,e⟩:=h9 e;split at e
 .split at e
  .cases e;exact⟨_,rfl⟩
  .cases e
 .cases e
theorem cp9:NB (aZ8 i B g):=aW0 λQ o e=>by
 obtain⟨t,_,e⟩:=h9 e;obtain⟨k,_,e⟩:=h9 e;split at e
 .obtain⟨n,_,e⟩:=h9 e;cases e;exact⟨_,rfl⟩
 .cases e
theorem cp8:NB (t5 g):=λQ o e=>by
 obtain⟨t,_,e⟩:=h9 e;cases e;exact⟨λ_ z=>(nomatch z),λ_ z=>(nomatch z)⟩
theorem bv6:NB z9:=aW0 λQ o e=>by cases e;exact⟨_,rfl⟩
theorem cp7(h:NB a)(H:NB b):NB (m8 a b):=λB o e=>by
 obtain⟨O,k,e⟩:=h9 e;cases O with
 |nx Q=>exact H _ _ e
 |ret t=>cases e;exact⟨λ_ z=>(nomatch z),λ_ z=>(nomatch z)⟩
 |bk Q=>exact absurd rfl ((h _ _ k).1 _)
 |ct Q=>exact absurd rfl ((h _ _ k).2 _)
theorem cy7(h:NB a)(H:NB b):NB (sIf c a b):=λQ o e=>by
 obtain⟨k,_,e⟩:=h9 e;cases k with
 |true=>exact h _ _ e
 |false=>exact H _ _ e
theorem ca6{st:St1}{b:GS}(h:NB b):∀X,NB (N4 st b X)
 |[]=>bv6
 |x::X=>λB o e=>by
  obtain⟨C,_,e⟩:=h9 e;obtain⟨O,k,e⟩:=h9 e;cases O with
  |nx Q=>exact ca6 h X _ _ e
  |ret t=>cases e;exact⟨λ_ z=>(nomatch z),λ_ z=>(nomatch z)⟩
  |bk Q=>exact absurd rfl ((h _ _ k).1 _)
  |ct Q=>exact absurd rfl ((h _ _ k).2 _)
theorem cq0{i:GL}{st:St1}{b:GS}(h:NB b):NB (P1 i st b):=λQ o e=>by
 obtain⟨x,_,e⟩:=h9 e;exact ca6 h x _ _ e
structure PXO(X:Cx)(aB aB':List Nat)(st:Stmt)(g:GS):Prop where
 nb:NB g
 ps:∀G0 H0,PS X st (tXO X.K G0 H0 aB aB' g)
structure aB7(X:Cx)(aB aB':List Nat)(st:List Stmt)(g:GS):Prop where
 nb:NB g
 ps:∀G0 H0,PSs X st (tXO X.K G0 H0 aB aB' g)
section
variable {st:Stmt}
theorem aG3:aB7 X a a [] z9:=⟨bv6,λg B=>PSs.imp aN5 λD w H z=>by
 obtain⟨G,Q,o,R,h,q⟩:=z;cases h;exact q w G H (D7.refl _) R⟩
theorem D8{g1 g2:GS}(h:PXO X a I st g1)(E:aB7 X I J M g2):aB7 X a J (st::M) (m8 g1 g2):=⟨cp7 h.nb E.nb,λB C=>PSs.imp (Q6 (h.ps B C) (E.ps B C)) λD w H z=>by
 obtain⟨G,L,o,R,g,q⟩:=z;obtain⟨O,k,g⟩:=h9 g;refine⟨G,L,O,R,k,?_⟩;cases O with
 |nx Q=>exact λW F N s r=>⟨F,Q,o,r,g,q.mono s⟩
 |bk Q=>exact absurd rfl ((h.nb _ _ k).1 _)
 |ct Q=>exact absurd rfl ((h.nb _ _ k).2 _)
 |ret t=>cases g;exact q⟩
theorem S9{g1:GS}(h:PXO X a B st g1):aB7 X a B [st] g1:=⟨h.nb,λg H=>am4 (h.ps g H)⟩
theorem ap5(h:Wd (PX X e g)):PXO X a M (.Return (some e) P) (t5 g):=have h:=h.run;⟨cp8,λJ L=>PS.imp (aV2 h) λD w H z=>by
 obtain⟨G,Q,o,R,B,q⟩:=z;obtain⟨t,k,B⟩:=h9 B;cases B;obtain⟨p,s,r,x,_⟩:=R.peek;exact⟨p,Q,t,s,r,k,λv C E F I=>q v C E (x.trans F) I⟩⟩
theorem ab6(i:Nat)(h:Wd (PX X e g))(N:ah8 X.N=true:=by rfl)(J:i∉a:=by decide)(I:X.N[i]?=some x:=by rfl)(L:Loc X.env.scope x:=by first |exact .inl rfl|exact .inr rfl)(s:swapsWith e (some (.Name x P)) p.line X.env=pure false:=by rfl)(f:LcF X x:=by first |exact .inl rfl|exact .inr rfl):PXO X a a (.Assign [.Name x P] e p) (o6 i (gM a g)):=have N:=O8 N;have h:=h.run;⟨aV9,λM O=>PS.imp (ax4 N I L h s f) λD w H z=>by
 obtain⟨G,Q,o,R,B,q⟩:=z;obtain⟨t,k,B⟩:=h9 B;cases B;exact⟨G,D5 a Q,t,R.x.s,R.r,k,λv C F E r=>q _ C F E.g ((R.step E).set J r)⟩⟩
theorem aG4{x:Str}{P lp:Pos}(i:Nat)(h:ah8 X.N=true:=by rfl)(E:i∉a:=by decide)(B:X.N[i]?=some x:=by rfl)(L:Loc X.env.scope x:=by first |exact .inl rfl|exact .inr rfl)(J:swapsWith (.List [] lp) (some (.Name x P)) M.line X.env=pure false:=by rfl)(f:LcF X x:=by first |exact .inl rfl|exact .inr rfl):PXO X a (i::a) (.Assign [.Name x P] (.List [] lp) M) (o6 i (gC (.lst []))):=have h:=O8 h;⟨aV9,λN O C s w H D I z=>by
 obtain⟨G,Q,o,R,g,q⟩:=z;cases g;refine ax4 h B L (bJ2 ad3) J f C s w H D I ⟨cV7 _,λp F=> ?_⟩;exact q _ G _ (D7.refl _) (R.new E (by rw[I.len];exact an8 B) F j9.nil)⟩
theorem aw0{K:cW0}{g B G H:Hp}{w:L2.St}{Q:A3}{i:Nat}(R:RO K g B C G H w Q)(J:i∈C){t:List T}(e:(Q[i]?).join=⇑t):∃a x,w[i]?=some (some (.ref a))/\H a=⇑x/\j9 K G t x:=by
 obtain⟨a,x,L,E,F,_,_,I,h⟩:=R.o i J;rw[E]at e;cases e;cases h with
 |lst h=>exact⟨a,_,F,I,h⟩
theorem bm3{x:Str}{p E c:Pos}{g:L3.G}(i:Nat)(J:Wd (PX X e g))(L:i∈C:=by decide)(j:X.N[i]?=some x:=by rfl)(v:Vis X.env.scope x:=by first |exact .inl rfl|exact .inr (.inl rfl)|exact .inr (.inr rfl))(b:NoD x:=by decide)(d:(x==("__classdict__":Str))=false:=by decide)(Z:attributeBase (.Name x p) "append" X.env (eval (.Name x p) X.env)=eval (.Name x p) X.env:=by rfl)(f:((backTo c (starEach [e] X.env)).all (λx=> !x.1)&&(backToKw c (keywordEach [] X.env)).all (λx=>x.1.isSome)
   &&decide ([e].length+([]:List Keyword).length+(if([]:List Keyword).isEmpty then 0 else 1)<30))=true:=by rfl) (k:(E.endLine==c.line)=true:=by rfl) (P:StE X e []:=by rfl) (l:Bks X c []:=by rfl) (o:swapsWith (.Call (.Attribute (.Name x p) "append" E) [e] [] c) none y.line X.env=pure false:=by rfl):PXO X C C (.Expr (.Call (.Attribute (.Name x p) "append" E) [e] [] c) y) (aF7 i (gM C g)):=have J:=J.run;⟨cq2,λG0 H0 U s w H D I zz=>by
 obtain⟨G,Q,af,R,h,q⟩:=zz;obtain⟨t,u,h⟩:=h9 h;cases B:(Q[i]?).join with
 |none=>rw[B]at h;cases h
 |some tl=>
  rw[B]at h
  match tl,B,h with
  |.lst ts,B,h=>
   dsimp only at h;split at h
   case isFalse=>cases h
   case isTrue n=>
   cases h;obtain⟨a,xs,F,W,h3⟩:=aw0 R L B;refine ap7 (bj1 PySem.F.plainAttrs_list PySem.F.slot_list_append PySem.F.type_list_append aK7 (as9 j v b d) (V0 J ad3 P) Z f k P l) o U s w H D I ⟨.ref a,F,.inl ⟨rfl,xs,SqL.of W⟩,G,D5 C Q,t,R.x.s,R.r,u,λaa S H1 M z=> ?_⟩;have r:=R.step M;obtain⟨a',ae,N,Y,O⟩:=aw0 r L B;rw[F]at N;cases N;refine⟨a,ae,aa,rfl,rfl,Y,?_,?_⟩
   .rw[O.length];exact cU2 n ∎
   .exact q w S _ M.g (r.put L F (O.append (j9.cons z j9.nil)))⟩
theorem bU1{x:Str}{p s:Pos}{B:Expr}{g P:L3.G}(i:Nat)(F:Wd (PX X e g))(J:Wd (PX X B P))(L:i∈O:=by decide)(hi:X.N[i]?=some x:=by rfl)(hv:Vis X.env.scope x:=by first |exact .inl rfl|exact .inr (.inl rfl)|exact .inr (.inr rfl))(hd:NoD x:=by decide)(aa:(x==("__classdict__":Str))=false:=by decide)(ha:∀v,assign (.Subscript (.Name x p) B s) X.env v=(do
   let o<-holding [v] (eval (.Name x p) X.env)
   let M<-holding [v,o] (eval B X.env)
   standAt s
   holding [v,o,M] (setItem o M v)
   release [v,o,M] []):=by intro _;rfl) (hs:swapsWithSole [.Subscript (.Name x p) B s] e af.line X.env=pure false:=by rfl) (hw:swappedStores [.Subscript (.Name x p) B s] e X.env=pure none:=by rfl) (z:(assignEach [.Subscript (.Name x p) B s] X.env).map (·.2)=[assign (.Subscript (.Name x p) B s) X.env]:=by rfl):PXO X O O (.Assign [.Subscript (.Name x p) B s] e af) (aZ8 i P (gF g)):=have F:=F.run;have J:=J.run;⟨cp9,λG0 H0 j ag w H D I zz=>by
 obtain⟨G,Q,ak,R,h,q⟩:=zz;obtain⟨t,E,h⟩:=h9 h;obtain⟨tk,N,h⟩:=h9 h;obtain⟨t',k3,E⟩:=h9 E;split at E
 case isFalse=>cases E
 case isTrue ae=>
 cases E;cases C:(Q[i]?).join with
 |none=>rw[C]at h;cases h
 |some tl=>
  rw[C]at h
  match tl,tk,C,N,h with
  |.lst ts,.int k,C,N,h=>
   dsimp only at h;obtain⟨n,hn,h⟩:=h9 h;cases h;obtain⟨b,sp,rp,_,un⟩:=R.peek;refine aV3 F (bm9 (as9 hi hv hd aa) J aQ8 ha) hs hw z j ag w H D I ⟨b,Q,t,sp,rp,k3,λv W d l r1=> ?_⟩;obtain⟨G2,s2,R2,y⟩:=un W d l;have rv:=y t v (.inl ae) r1;obtain⟨a,xs,a1,a2,a3⟩:=aw0 R2 L C;obtain⟨c,sq,rq,_,ah⟩:=R2.peek;refine⟨.ref a,a1,c,Q,.int k,sq,rq,N,λao Y f u S=> ?_⟩;obtain⟨Z,U,r,aj⟩:=ah Y f u;erw[Rep]at S;obtain⟨a',ai,b1,b2,b3⟩:=aw0 r L C;rw[a1]at b1;cases b1;refine⟨a,ai,k,n,rfl,S,b2,by rw[b3.length];exact hn,?_⟩;exact q w Z _ (s2.trans U) (r.put L a1 (b3.set (rv.mono U) n))⟩
theorem aN3(B:Wd (PXB X c U))(J:aB7 X F I a O)(L:aB7 X F I b P):PXO X F I (.If c a b Y) (sIf U O P):=have B:=B.run;⟨cy7 J.nb L.nb,λg E=>PS.imp (bj0 B (J.ps g E) (L.ps g E)) λD w H z=>by
 obtain⟨G,Q,o,R,h,q⟩:=z;obtain⟨k,W,h⟩:=h9 h;obtain⟨p,s,r,_,un⟩:=R.peek;refine⟨p,Q,k,s,r,W,λM N e=> ?_⟩;obtain⟨C,S,R2,_⟩:=un M N e;cases k with
 |true=>exact at9 ⟨C,Q,o,R2,h,q.mono S⟩
 |false=>exact au0 ⟨C,Q,o,R2,h,q.mono S⟩⟩
theorem RO.stored{K:cW0}{G0 H0 G H:Hp}{wW wW':L2.St}{qQ qQ':A3}{is:List Nat}{st:St1}{t:T}(R:RO K G0 H0 aB G H wW qQ)(hn:∀i∈is,i∉aB)(hk:∀qQ qQ',st t qQ=some qQ'->∀i,i∉is->qQ'[i]?=qQ[i]?)
  (e:st t qQ=some qQ') (r:K5 K G wW' (D5 aB qQ')) (hs:∀k,k∉is->wW'[k]?=wW[k]?):RO K G0 H0 aB G H wW' qQ' where
 x:=R.x
 r:=r
 o:=λi hi=>by
  obtain⟨a,xs,ts,h1,h2,h3⟩:=R.o i hi;have hni:i∉is:=λz=>hn i z hi
  exact⟨a,xs,ts,by rw[hk _ _ e i hni];exact h1,by rw[hs i hni];exact h2,h3⟩
 d:=λi hi j hj a h1 h2=>by
  rw[hs i λz=>hn i z hi]at h1;rw[hs j λz=>hn j z hj]at h2;exact R.d i hi j hj a h1 h2
structure bY8(is:List Nat)(st:St1):Prop where
 m:∀aB,(∀i∈is,i∉aB)->∀t qQ,(st t qQ).map (D5 aB)=st t (D5 aB qQ)
 k:∀t qQ qQ',st t qQ=some qQ'->∀i,i∉is->qQ'[i]?=qQ[i]?
theorem ck9(i:Nat):bY8 [i] (stN i):=⟨λa h t Q=>by
  show some (D5 a (Q.set i (some t)))=some ((D5 a Q).set i (some t));rw[aq2 a Q i _ (h i ∅)],λt Q B e j H=>by
  cases e;rw[cQ3 (by simp at H;omega)]⟩
theorem cl1(i j:Nat):bY8 [i,j] (st2 i j):=⟨λa h t Q=>by
  match t with
  |.tup [x,y]=>
   show some (D5 a ((Q.set i (some x)).set j (some y)))=some (((D5 a Q).set i (some x)).set j (some y));rw[aq2 a _ j _ (h j ∅),aq2 a Q i _ (h i ∅)]
  |.non=>rfl
  |.bl _=>rfl
  |.int _=>rfl
  |.str _=>rfl
  |.lst _=>rfl
  |.ref _=>rfl
  |.scr _=>rfl
  |.obj _ _=>rfl
  |.tup []=>rfl
  |.tup [_]=>rfl
  |.tup (_::_::_::_)=>rfl,λt Q B e k H=>by
  match t,e with
  |.tup [x,y],e=>
   cases e;simp at H;rw[cQ3 ⋯,cQ3 ⋯]⟩
theorem ap6{Y U:Expr}{y:List Stmt}{j:GL}{L:List Nat}{s:St1}{b:GS}(C:Wd (PXI X Y U j))(H:Wd (PXG X Y L s))(J:aB7 X a a y b)(hp:PassesOwn (model X.prog X.w) X.A X.env X.xe:=by exact PassesOwn.never)(hc:X.calm=true:=by rfl)(u:bY8 L s:=by first |exact ck9 _|exact cl1 _ _)(hn:L.all (λi=> !(a.contains i))=true:=by decide)(hs:NFo X U:=by intro _;rfl):PXO X a a (.For Y U y [] ai) (P1 (gLM a j) s b):=have C:=C.run;have H:=H.run;⟨cq0 J.nb,λN P=>PS.imp (bI7 hp hc C H (J.ps N P) hs) λD wW ag zz=>by
 obtain⟨G,p,o,R,H,q⟩:=zz;have f:∀i∈L,i∉a:=λi C=>by
  have :=List.all_eq_true.mp hn i C;simpa using this
 obtain⟨t,h1,H⟩:=h9 H;refine⟨G,D5 a p,t,R.x.s,R.r,h1,λah M H' d v=> ?_⟩;refine⟨λi m Z E=>m=t.length-i/\i<=t.length/\∃B F,D7 M B/\RO X.K N P a B E Z F/\N4 s b (t.drop i) F=some o,⟨t.length,∅,cV7 _,M,p,D7.refl _,R.step d,by simpa using H⟩,?_⟩;rintro i m Z E ⟨rfl,C,B,F,sg,r,h⟩;by_cases S:i<t.length
 .right;have ht:t[i]?=some t[i]:=cP8 S;obtain⟨go,yl⟩:=(v i B E sg r.x.s).1 _ ht;rw[cO7 S]at h;obtain⟨W,l,h⟩:=h9 h;obtain⟨n,k,h⟩:=h9 h;refine⟨go,λw I=>∃g Q,D7 M g/\RO X.K N P a g I w Q/\N4 s b (t.drop (i+1)) Q=some o,λw I ⟨g,Q,x2,r2,h2⟩=>⟨t.length-(i+1),⋯,rfl,S,g,Q,x2,r2,h2⟩,λaf I hy=> ?_⟩;obtain⟨g,e,rx⟩:=yl af I hy;have R2:=r.step e;have mk:s t[i] (D5 a F)=some (D5 a W):=by rw[<-u.m a f,l];rfl
  refine⟨g,D5 a F,t[i],D5 a W,e.s,R2.r,rx,mk,λak aa _ hk=>⟨g,W,n,R2.stored f (u.k _) l aa hk,k,?_⟩⟩;cases n with
  |nx Q=>exact λw O c s3 x=>⟨O,Q,sg.trans (e.g.trans s3),x,h⟩
  |ct Q=>exact absurd rfl ((J.nb _ _ k).2 _)
  |bk Q=>exact absurd rfl ((J.nb _ _ k).1 _)
  |ret aj=>cases h;exact λae O c z r3=>q ae O c z r3
 .left;have ei:i=t.length:=⋯
  subst ei;refine⟨(v _ B E sg r.x.s).2 (cT8 _) (cT8 _),?_⟩;rw[cO8]at h;cases h;exact q Z B E (d.g.trans sg) r⟩
end
section
variable {K:cW0}
theorem fnO{x L:Str}{st:Stmt}{f:Addr}{d:FuncData}{N p:List Str}{k:Nat}{g:GS}{W:List Nat}(F:Fun K x L st f d)(S:Q1 N p (t7 st))(u:p.length<=N.length)
  (b:∀(c:Value) (A:Around) (a:List Env) (s:Shared) (H:Hp) (E:XK),G9 k (A.deeper (envOfC L (t7 st) s.sz f c))->aB7 (F9 CX0 P w K i X N L (t7 st) f c A a s H E).nox [] W (O9 st) g):
  S4 P w K i X CX0 (k+1) f d p (spT K p.length (A6 p.length N.length g)):=by
 refine F.ok S (λn H Q E h=> ?_) (λc A a s H n Q E Z h=> ?_)
 .obtain⟨G,U,t,O,r,l,_⟩:=h;rw[r.length,l]
 .obtain⟨G,U,t,O,r,l,B,q⟩:=h;refine⟨_,(b c A a s H E Z).ps G H,?_⟩;unfold A6 at B;rw[cW7 l]at B;have Y:=ag6 (N:=N) r ⋯;cases J:g (A0 N.length U)with
  |none=>rw[J]at B;cases B
  |some o=>
   rw[J]at B;refine⟨G,_,o,RO.start O Y,J,?_⟩;cases o with
   |nx M=>cases B;exact λz C I _ R=>q .non C I R.x (by simp[Rep])
   |ret y=>cases B;exact λv C I e j=>q v C I e j
   |bk M=>cases B
   |ct M=>cases B
end
theorem cz4(o:Obj)(f):(o.mapFields f).dict=o.dict:=by
 unfold Obj.mapFields;split<;>rfl
structure Fly(B:Heap)(l:List Env)(e:Addr)(C fl:Value)(h:Heap):Prop where
 st:B.StaysIn h
 new:B.get? e=none
 fr:h.FunFrames B l
 ob:∃oe vs T oT ts,h.get? e=some oe/\(oe.cls=C/\oe.dict=none)/\oe.data=.fields vs/\vs[1]?=some (.ref T)/\vs[2]?=some .none/\B.get? T=none/\T≠e/\h.get? T=some oT/\oT.data=.fields ts/\ts[3]?=some fl
section
variable {L e:Addr}
theorem aH6(F:Fly B l e C Y s.heap)
  (k:∀J,Fly B l e C (g.elim .none λf=>rawInt f) J->s.heap.UpToSlots J->Q () {s with heap:=J}):wpAny M A (setFlight (.ref e) g) Q E s:=by
 obtain⟨X,v,T,Z,t,P,c,d,N,U,O,R,hT,I,W⟩:=F.ob;have S:3<t.size:=(Array.getElem?_eq_some_iff.mp W).1;have a:∀b,b≠T->(s.heap.update T (Obj.mapFields (·.setIfInBounds 3 (g.elim .none λf=>rawInt f)))).get? b=s.heap.get? b:=λb h=>cL2 _ _ (Ne.symm h)
 have plain:∀b o,s.heap.get? b=some o->(∀w,o.data≠.fields w)->b≠T:=λb o h H z=>by
  rw[z,hT]at h;cases h;exact H t I
 unfold setFlight
 (refine cW8 (cX0 P d N ?_));rw[cW7 (by simp :(Value.ref T !=Value.none)=true)]
 refine wpAny_setField hT I S (k _ ⟨λb o h=> ?_,F.new,F.fr.of_keeps λb o h H=>⟨o,?_,rfl⟩,X,v,T,_,_,?_,c,d,N,U,O,R,cL3 _ hT (Obj.isFreed_of_fields (Obj.data_mapFields I _)),Obj.data_mapFields I _,?_⟩ λb o h H=>⟨o.slots,?_⟩)
 .rw[a b λz=>by rw[z,O]at h;cases h];exact F.st b o h
 .rw[a b (plain b o h H)];exact h
 .rw[a e (Ne.symm R)];exact P
 .simp[S]
 .rw[a b (plain b o h H)];exact h
theorem bf6(i:A.frames=some (E::J))(j:E.frame=some L)(r:s.heap.FunFrames B (E::J))(x:B.StaysIn s.heap)(w:B.get? e=none)
  (F:s.heap.get? e=some I) (d:I.data=.fields v) (P:v[2]?=some .none) (u:I.dict=none)
  (k:∀M,Fly B (E::J) e I.cls (rawInt L) M->s.heap.UpToSlots M->Q () {s with heap:=M}):
  wpAny ae A (do let a<-frameOf E;let p<-entryPlaceOf L af;let b<-EntryCells.newEntry R a .none (rawInt L) .none p;setField (.ref e) 1 b) Q aa s:=by
 have f:1<v.size:=by have :=(Array.getElem?_eq_some_iff.mp P).1;omega
 have y:e∉(E::J).filterMap (·.frame):=λz=>by
  obtain⟨_,o,X,n⟩:=r.mem z;rw[F]at X;cases X;exact n v d
 refine cW8 (wpAny_frameOf_fun i r j λH S=>cW8 (wpAny_entryPlaceOf λp Y=> ?_))
 (unfold EntryCells.newEntry newFields);(refine cW8 (cX2 ?_ (Y.sizeOk5 _ _ _ _ _)));have U:H.get? e=some I:=(S.2.1 e y).trans F
 have c:B.StaysIn H:=λb o h=>(S.2.1 b λz=>by rw[(r.mem z).1]at h;cases h).trans (x b o h)
 generalize t:({cls:=.type "traceback",dict:=none,data:=.fields ([R,.ref L,.none,rawInt L,.none]++(if p.isEmpty then List.replicate 6 Value.none else p)).toArray}:Obj)=O;have N:O.data=.fields ([R,.ref L,.none,rawInt L,.none]++(if p.isEmpty then List.replicate 6 Value.none else p)).toArray:=by rw[<-t]
 have g:O.isFreed=false:=Obj.isFreed_of_fields N;have W:=cL0 (h:=H) O U;have Z:H.objs.size≠e:=cU9 (cL4 U);refine wpAny_setField W d f (k _ ⟨λb o h=> ?_,w,r.of_keeps λb o h n=> ?_,_,_,H.objs.size,O,_,cL3 _ W (Obj.isFreed_of_fields (Obj.data_mapFields d _)),⟨Obj.cls_mapFields _ _,(cz4 _ _).trans u⟩,Obj.data_mapFields d _,?_,?_,c.fresh,Z,?_,N,?_⟩ λb o h n=> ?_)
 .have C:b≠e:=λz=>by rw[z,w]at h;cases h
  (rw[cL2 _ _ (Ne.symm C)]);exact cL0 _ (c b o h)
 .have C:b≠e:=λz=>by rw[z,F]at h;cases h;exact n v d
  obtain⟨l,q⟩:=S.2.2 b o h;exact⟨{o with slots:=l},by rw[cL2 _ _ (Ne.symm C)];exact cL0 _ q,rfl⟩
 .simp[f]
 .rw[Array.getElem?_setIfInBounds_ne ∎];exact P
 .rw[cL2 _ _ (Ne.symm Z)];exact cL1 H g
 .rcases Y with rfl|⟨_,_,_,_,_,_,_,rfl⟩<;>simp
 .have C:b≠e:=λz=>by rw[z,F]at h;cases h;exact n v d
  obtain⟨l,q⟩:=S.2.2 b o h;exact⟨l,by rw[cL2 _ _ (Ne.symm C)];exact cL0 _ q⟩
theorem bM8(N:A.frames=some (v::a))(H:v.frame=some L)(r:s.heap.FunFrames B (v::a))(t:B.StaysIn s.heap)(w:B.get? e=none)
  (C:s.heap.get? e=some o) (d:o.data=.fields F) (I:F[1]?=some .none) (J:F[2]?=some .none) (i:o.dict=none)
  (k:∀h,Fly B (v::a) e o.cls (rawInt L) h->s.heap.UpToSlots h->Q () {s with heap:=h}):wpAny M A (noteFrame (.ref e) v) Q E s:=by
 unfold noteFrame;erw[H]
 (refine cW8 (cX0 C d I ?_));rw[cW6 ∎]
 exact bf6 N H r t w C d J i k
theorem bp5(W:A.frames=some (v::N))(P:v.frame=some L)(F:Fly B (v::N) e C .none s.heap)
  (k:∀I,Fly B (v::N) e C (rawInt L) I->s.heap.UpToSlots I->Q () {s with heap:=I}):wpAny M A (noteFrame (.ref e) v) Q E s:=by
 obtain⟨j,l,T,g,t,R,c,d,S,U,X,Y,hT,J,O⟩:=F.ob;obtain⟨c,i⟩:=c;subst c;have Z:3<t.size:=(Array.getElem?_eq_some_iff.mp O).1;have a:∀b,b≠T->(s.heap.update T (Obj.mapFields (·.setIfInBounds 3 Value.none))).get? b=s.heap.get? b:=λb h=>cL2 _ _ (Ne.symm h)
 have plain:∀b o,s.heap.get? b=some o->(∀w,o.data≠.fields w)->b≠T:=λb o h H z=>by
  rw[z,hT]at h;cases h;exact H t J
 unfold noteFrame;erw[P]
 (refine cW8 (cX0 R d S ?_));rw[cW7 (by simp :(Value.ref T !=Value.none)=true)]
 (refine cW8 (cX0 hT J O ?_));rw[cW6 (by simp[rawInt]:¬((Value.none==rawInt L)=true))]
 refine cW8 (wpAny_setField hT J Z ?_);refine bf6 W P (F.fr.of_keeps λb o h H=>⟨o,(a b (plain b o h H)).trans h,rfl⟩) (λb o h=>(a b λz=>by rw[z,X]at h;cases h).trans (F.st b o h)) F.new ((a e (Ne.symm Y)).trans R) d U i
  λI f u=>k I f λb o h H=>u b o ((a b (plain b o h H)).trans h) H
theorem Fly.pop(F:Fly b (E::a) e c f H):Fly b a e c f H:=⟨F.st,F.new,F.fr.2.2,F.ob⟩
theorem bC3(J:A.frames=some (v::a))(N:v.frame=some L)(r:s.heap.FunFrames B (v::a))(t:B.StaysIn s.heap)(w:B.get? e=none)
  (O:s.heap.get? e=some o) (d:o.data=.fields C) (I:C[1]?=some .none) (H:C[2]?=some .none) (i:o.dict=none)
  (k:∀h,Fly B a e o.cls .none h->s.heap.UpToSlots h->Q () {s with heap:=h}):wpAny M A (leaving v (.ref e)) Q E s:=by
 unfold leaving;exact cW8 (bM8 J N r t w O d I H i λh F u=>aH6 (g:=none) F λH f U=>k H f.pop (u.trans U))
theorem bf5(I:A.frames=some (v::a))(J:v.frame=some L)(F:Fly B (v::a) e C .none s.heap)
  (k:∀h,Fly B a e C .none h->s.heap.UpToSlots h->Q () {s with heap:=h}):wpAny M A (leaving v (.ref e)) Q E s:=by
 unfold leaving;exact cW8 (bp5 I J F λh F u=>aH6 (g:=none) F λH f U=>k H f.pop (u.trans U))
end
structure ai4(P:Program)(w:World)(aE:List Env)(H:Hp)(s:Shared)(B:Heap)(ea:Addr)(C fl:Value)(H':Hp)(s':Shared):Prop where
 os:s'.os=s.os
 bare:AllBare s'.gens
 un:Un (frs aE) [] H H' s.heap s'.heap
 hok:HOk P w H' s'.heap
 ne:H' ea=none
 fly:Fly B aE ea C fl s'.heap
 old:∀b o,s'.heap.get? b=some o->(∃u,s.heap.get? b=some u)->b∉frs aE->B.get? b=some o
 trk:∀b,H' b≠none->∃o,B.get? b=some o
def CX1(P:Program)(w:World):CXT:=λF H s E e S=>∃a C h B,e=.ref a/\ai4 P w F H s B a C .none h S/\E C none h
section
theorem aH2(x:HOk P w H h)(k:∀b,H b≠none->∃o,h.get? b=some o/\B.get? b=some o):HOk P w H B:=λa o e=>
 (x a o e).stay (λb u C q=>by
  have n:H b≠none:=by
   rcases C with z|z
   .rw[z,e];simp
   .rw[z];simp
  obtain⟨O,Q,E⟩:=k b n;rw[Q]at q;cases q;exact E) (λ_ z=>z) λ_ _ z=>z
theorem bK1(x:ae7 P w H h a o):∃O,h.get? a=some O:=by
 cases o with
 |lst X=>obtain⟨_,_,_,_,e⟩:=x;exact⟨_,e⟩
 |tup X=>obtain⟨_,_,_,O,e,_⟩:=x;exact⟨_,e⟩
 |dK k=>obtain⟨_,_,_,_,o,_,_,e,_⟩:=x;exact⟨_,e⟩
 |dT k=>obtain⟨_,_,_,_,o,_,_,e,_⟩:=x;exact⟨_,e⟩
 |set S n=>obtain⟨o,_,_,_,e,_⟩:=x;exact⟨_,e⟩
 |ins C d F=>obtain⟨_,_,_,e,_⟩:=x;exact⟨_,e⟩
 |aB y=>obtain⟨_,e⟩:=x;exact⟨_,e⟩
 |xd F=>obtain⟨_,⟨_,_,_,e,_⟩,_⟩:=x;exact⟨_,e⟩
 |rng lo i=>obtain⟨_,_,_,e⟩:=x;exact⟨_,e⟩
 |frz O u=>obtain⟨e,_⟩:=x;exact⟨_,e⟩
 |tbl p=>exact⟨_,(show h.get? a=some _ from x)⟩
 |met f y=>exact⟨_,(show h.get? a=some _ from x)⟩
 |ext B=>obtain⟨_,⟨_,e⟩,_⟩:=x;exact⟨_,e⟩
theorem ai4.turn(T:ai4 P j a Y W M e c p Q S)(F:Fly M a e c f J)(X:S.heap.UpToSlots J):ai4 P j a Y W M e c f Q {S with heap:=J}:=by
 have same:∀b O,S.heap.get? b=some O->(∃v,W.heap.get? b=some v)->b∉frs a->J.get? b=some O:=λb O q v N=>F.st b O (T.old b O q v N)
 have i:∀b,Q b≠none->∃O,S.heap.get? b=some O/\J.get? b=some O:=λb q=>by
  obtain⟨O,z⟩:=T.trk b q;exact⟨O,T.fly.st b O z,F.st b O z⟩
 refine⟨T.os,T.bare,⟨λb O q n N h=> ?_,λb O q n N h=> ?_,λb O q n h=>T.un.free b O q n h,λb O q h=> ?_,T.un.tups,T.un.frzs,T.un.tbls⟩,aH2 T.hok i,T.ne,F,λb O q v N=> ?_,T.trk⟩
 .exact same b O (T.un.keep b O q n N h) ⟨O,q⟩ N
 .obtain⟨l,z⟩:=T.un.slot b O q n N h;have d:∀L,O.data≠.fields L:=λL y=>by
   obtain⟨_,R,Z,I⟩:=T.fly.fr.mem N;rw[z]at Z;cases Z;exact I L y
  obtain⟨g,Z⟩:=X b _ z d;exact⟨g,Z⟩
 .obtain⟨E,z⟩:=T.un.there b O q h;by_cases N:b∈frs a
  .obtain⟨_,R,Z,I⟩:=T.fly.fr.mem N;obtain⟨l,k⟩:=X b R Z I;exact⟨_,k⟩
  .exact⟨E,same b E z ⟨O,q⟩ N⟩
 .obtain⟨v,U⟩:=v;obtain⟨E,z⟩:=T.un.there b v U ∅;have Z:=T.old b E z ⟨v,U⟩ N;have I:=F.st b E Z;rw[I]at q;cases q;exact Z
end
section
theorem ai4.inv(T:ai4 X.prog X.w X.stack h S L e c f F E)(I:Inv X a W h S):Inv X a W F E:=by
 obtain⟨J,g,d,t,O⟩:=E;obtain rfl:O=S.os:=T.os;exact I.call (h':=J) (g':=g) (d':=d) (t':=t) (ch:=[]) T.un T.hok T.bare (λ_ z=>absurd z ∅)
theorem ap8{P:Program}{w:World}{K:cW0}{mg:Str->Option Value}{k:Heap}{N:List Str}{Q:Str}{S:Scope}{f:Addr}{c:Value}{A:Around}{a:List Env}{s:Shared}{j:Hp}{E:XK}:
  aa8 (CX1 P w) (F9 (CX1 P w) P w K mg k N Q S f c A a s j E) E:=λaA wW H ae e d I h=>by
 obtain⟨i,C,W,B,rfl,T,q⟩:=h;have p:∀b o,s.heap.get? b=some o->b≠s.sz:=λb o z=>cV0 (cL4 z)
 refine bf5 (v:=envOfC Q S s.sz f c) (a:=a) (L:=s.sz) I.ok.frames rfl T.fly λl F u=> ?_
 have T2:ai4 P w (envOfC Q S s.sz f c::a) H ae B i C .none W d:=T;have aa:∀b,W b≠none->∃o,d.heap.get? b=some o/\l.get? b=some o:=λb q=>by
  obtain⟨o,z⟩:=T.trk b q;exact⟨o,T.fly.st b o z,F.st b o z⟩
 have r:∀b,b∉frs a->(∃o,s.heap.get? b=some o)->b∉frs (envOfC Q S s.sz f c::a):=λb J ⟨o,z⟩ y=>by
  rcases cI4 (show b∈s.sz::frs a from y)with y|y
  .exact p b o z y
  .exact J y
 have same:∀b o,d.heap.get? b=some o->(∃v,s.heap.get? b=some v)->b∉frs a->B.get? b=some o:=λb o q v J=>by
  obtain⟨v,R⟩:=v;obtain⟨v2,t⟩:=I.aD.there b v R (by simp[F9]);exact T.old b o q ⟨v2,t⟩ (r b J ⟨v,R⟩)
 refine⟨i,C,W,B,rfl,⟨T.os.trans I.os,T.bare,⟨λb o z n J X=> ?_,λb o z n J X=> ?_,λb o z n X=> ?_,λb o z X=> ?_,λb x z=>T.un.tups b x (I.aD.tups b x z),λb o x z=>T.un.frzs b o x (I.aD.frzs b o x z),λb ps z=> ?_⟩,aH2 T.hok aa,T.ne,F,λb o z v J=> ?_,T.trk⟩,q⟩
 .have Z:=I.aD.keep b o z n J (by simp[F9]);have n1:=I.aD.free b o z n (by simp[F9]);have L:=T.un.keep b o Z n1 (r b J ⟨o,z⟩) ∅;exact F.st b o (same b o L ⟨o,z⟩ J)
 .obtain⟨sl,Z⟩:=I.aD.slot b o z n J (by simp[F9]);have n1:=I.aD.free b o z n (by simp[F9]);obtain⟨ag,L⟩:=T.un.any Z n1 ∅;have nf:∀g,o.data≠.fields g:=λg y=>by
   obtain⟨_,O,M,U⟩:=T.fly.fr.mem (show b∈(envOfC Q S s.sz f c::a).filterMap (·.frame)from cS1 _ J);rw[L]at M;cases M;exact U g y
  obtain⟨af,M⟩:=u b _ L nf;exact⟨af,M⟩
 .obtain⟨o',Z⟩:=I.aD.there b o z (by simp[F9]);exact T.un.free b o' Z (I.aD.free b o z n (by simp[F9])) ∅
 .obtain⟨Y,Z⟩:=I.aD.there b o z (by simp[F9]);obtain⟨O,L⟩:=T.un.there b Y Z ∅;by_cases J:b∈frs a
  .obtain⟨_,o3,M,U⟩:=T.fly.fr.mem (show b∈(envOfC Q S s.sz f c::a).filterMap (·.frame)from cS1 _ J);obtain⟨sl,z5⟩:=u b o3 M U;exact⟨_,z5⟩
  .exact⟨O,F.st b O (same b O L ⟨o,z⟩ J)⟩
 .obtain⟨m1,Z⟩:=I.aD.tbls b ps z;obtain⟨m2,L⟩:=T.un.tbls b _ Z;exact⟨m1++m2,by rw[L,Array.append_assoc]⟩
 .obtain⟨v,R⟩:=v;obtain⟨Y,Z⟩:=I.aD.there b v R (by simp[F9]);obtain⟨O,L⟩:=T.un.there b Y Z ∅;have M:=same b O L ⟨v,R⟩ J;have U:=F.st b O M;rw[U]at z;cases z;exact M
end
theorem ci7{K:cW0}{h:Heap}{C:Addr}{L:List Value}{U:String}(X:K.In h)(q:W.excIn K C L U=true):
  ∃b N J Q s t S sub ab c d k B E F H R,h.get? C=some (excClassObj J Q C N s b t S sub ab c d k B E F H U)/\h.Ns N R/\R "__init__"=none/\OwnTail h L b:=by
 unfold W.excIn at q;split at q
 case h_2=>cases q
 case h_1 d Z Y o=>
 split at q
 case h_2=>cases q
 case h_1 g b k B E F n H O P=>
 (erw[cK2,beq_iff_eq,cK7]at q);(obtain⟨⟨⟨⟨⟨rfl,rfl⟩,M⟩,e⟩,I⟩,i⟩:=q);(obtain⟨J,s,j,f,Q,a,S,sub,ab,c,del⟩:=Z);dsimp only at O M I i
 subst O M;obtain rfl:Y=#[k,B,E,F,some (.builtin n),H]:=by
  obtain⟨l⟩:=Y;simp only at P;rw[P]
 exact⟨b,f,J,Q,s,a,S,sub,ab,c,d,k,B,E,F,H,_,X _ _ o,.of_isNs (W.isNs_of_in X I),W.nsMap_none_of_in X I i,W.tail_of_in X e⟩
section
variable {K:cW0}
def ck7(E:XK)(C:Value):TS:=λ_ _ H=>E C none H
theorem bU9{x:Str}{np ae au:Pos}{m:Str}{k:Nat}{r:Pos}{C:Addr}{aa:List Value}{Bn af ar:String}(hm:g x=some (.ref C))(U:W.excIn K C aa af=true)(FB:ExcBaseFacts Bn af ar aa)
  (hg:Gl (F9 (CX1 P w) P w K g R N Q S f c A a s X E) x) (hd:NoD x)
  (p:starEach [.Constant (.str m) k r] (F9 (CX1 P w) P w K g R N Q S f c A a s X E).env=[(false,eval (.Constant (.str m) k r) (F9 (CX1 P w) P w K g R N Q S f c A a s X E).env)]):
  PS (F9 (CX1 P w) P w K g R N Q S f c A a s X E) (.Raise (some (.Call (.Name x np) [.Constant (.str m) k r] [] ae)) none au) (ck7 E (.ref C)):=by
 intro aA av wW ag D I q;obtain⟨bm,Nn,nm,qn,bs,aj,sn,sub,ab,ah,dd,k0,k1,k2,k3,k5,mN,hC,hN,aq,T⟩:=ci7 I.mod.kin U;refine wpAny_Raise_call_subT (C:=C) (nm:=nm) (q:=qn) (N:=Nn) (bs:=bs) (bm:=bm) (hdct:=aj) (sn:=sn) (sub:=sub) (ab:=ab) (col:=ah) (dd:=dd) (k0:=k0) (k1:=k1) (k2:=k2) (k3:=k3) (k5:=k5) FB (mN:=mN) (T.hasType FB.hasBase) (I.ok.hd rfl) ?_ aq (aq3 I hg hm ⟨rfl,?_⟩ hd)
 .rw[p];rfl
 rw[p];refine Calls.evalArgs_plain (thn (V0 (X:=F9 (CX1 P w) P w K g R N Q S f c A a s X E) bJ1 ad3 p ae aA av wW ag (λL h=>∃y,L=[y]/\E (.ref C) none h) I ⟨_,rfl,q⟩) λus H ⟨L,h,i,r1,y,ey,q1⟩=> ?_);subst ey;obtain⟨ay,rfl,_⟩:=ar3 r1;refine⟨rfl,by show 1<=sizeLine;decide,i.bk _ _ hC,hN.keeps i.bk,T.keeps i.bk,λh' e M=> ?_⟩;obtain⟨ax,ak,_,_⟩:=M.there;have ai:∀b∈frs (envOfC Q S s.sz f c::a),h b=none:=i.stkFree;have u:H.heap.FunFrames R (envOfC Q S s.sz f c::a):=i.stack;have ao:∀l∈(envOfC Q S s.sz f c::a),∀b,l.frame=some b->b∈frs (envOfC Q S s.sz f c::a):=λl Y b hb=>List.mem_filterMap.mpr ⟨l,Y,hb⟩
 have nw:(W.hideAll H.heap (frs (envOfC Q S s.sz f c::a))).get? e=none:=by
  cases z:(W.hideAll H.heap (frs (envOfC Q S s.sz f c::a))).get? e with
  |none=>rfl
  |some o=>
   have :=W.of_hideAll _ z;rw[M.new]at this;cases this
 have hL:∀b o,s.heap.get? b=some o->b≠s.sz:=λb o z=>cV0 (cL4 z)
 have t:∀b,b∉frs a->(∃o,s.heap.get? b=some o)->b∉frs (envOfC Q S s.sz f c::a):=λb B ⟨o,z⟩ y=>by
  rcases cI4 (show b∈s.sz::frs a from y)with y|y
  .exact hL b o z y
  .exact B y
 refine bC3 (s:={H with heap:=h'}) (B:=W.hideAll H.heap (frs (envOfC Q S s.sz f c::a))) (v:=envOfC Q S s.sz f c) (a:=a) (L:=s.sz) i.ok.frames rfl
  ((W.funFrames_hide u ao).of_keeps λb o z _=>⟨o,M.keeps b o z,rfl⟩) (λb o z=>M.keeps b o (W.of_hideAll _ z)) nw ak rfl rfl rfl rfl λh2 F u2=> ?_
 have d:∀b o,H.heap.get? b=some o->b∉frs (envOfC Q S s.sz f c::a)->(W.hideAll H.heap (frs (envOfC Q S s.sz f c::a))).get? b=some o:=λb o z B=>W.hideAll_get _ z B
 have trk:∀b,h b≠none->∃o,(W.hideAll H.heap (frs (envOfC Q S s.sz f c::a))).get? b=some o:=λb z=>by
  cases y:h b with
  |none=>exact absurd y z
  |some ho=>
   obtain⟨o,j⟩:=bK1 (i.hok _ _ y);exact⟨o,d b o j λB=>z (ai b B)⟩
 refine⟨e,.ref C,h,_,rfl,⟨i.os,i.bare,⟨λb o z n B U=> ?_,λb o z n B U=> ?_,λb o z n U=>i.aD.free b o z n (by simp[F9]),λb o z U=> ?_,i.aD.tups,i.aD.frzs,i.aD.tbls⟩,aH2 i.hok λb z=> ?_,?_,F,λb o z v B=> ?_,trk⟩,q1⟩
 .have Z:=i.aD.keep b o z n B (by simp[F9]);exact F.st b o (d b o Z (t b B ⟨o,z⟩))
 .obtain⟨sl,Z⟩:=i.aD.slot b o z n B (by simp[F9]);have nf:∀L,o.data≠.fields L:=λL y=>by
   obtain⟨_,o2,J,z4⟩:=u.mem (show b∈(envOfC Q S s.sz f c::a).filterMap (·.frame)from cS1 _ B);rw[Z]at J;cases J;exact z4 L y
  obtain⟨aw,J⟩:=u2 b _ (M.keeps _ _ Z) nf;exact⟨aw,J⟩
 .obtain⟨O,Z⟩:=i.aD.there b o z (by simp[F9]);by_cases B:b∈frs a
  .obtain⟨_,o3,J,z4⟩:=u.mem (show b∈(envOfC Q S s.sz f c::a).filterMap (·.frame)from cS1 _ B);obtain⟨sl,z5⟩:=u2 b o3 (M.keeps _ _ J) z4;exact⟨_,z5⟩
  .exact⟨O,F.st b O (d b O Z (t b B ⟨o,z⟩))⟩
 .obtain⟨o,y⟩:=trk b z;exact⟨o,W.of_hideAll _ y,F.st b o y⟩
 .cases y:h e with
  |none=>rfl
  |some ho=>
   obtain⟨o,j⟩:=bK1 (i.hok _ _ y);rw[M.new]at j;cases j
 .obtain⟨v,Y⟩:=v;obtain⟨O,Z⟩:=i.aD.there b v Y (by simp[F9]);have z2:=d b O Z (t b B ⟨v,Y⟩);have J:=F.st b O z2;rw[J]at z;cases z;exact z2
end
def aO2(M:Str->Option Value)(c:Str):Value:=(M c).getD .none
def bj8(K:cW0)(M:Str->Option Value)(E:XK)(G H:Hp)(D:ao9):bD2->Prop
 |.o o=>aF2 K G H D o
 |.exc c=>∀g h,Ext G H g h->E (aO2 M c) none h
theorem bj8.ext{K:cW0}{M:Str->Option Value}{E:XK}{G H g B:Hp}{D:ao9}{r:bD2}(e:Ext G H g B)(h:bj8 K M E G H D r):bj8 K M E g B D r:=by
 cases r with
 |o o=>exact aF2.ext e h
 |exc c=>exact λC F I=>h C F (e.trans I)
def tXR(K:cW0)(M:Str->Option Value)(E:XK)(g:GR):TS:=λD w H=>∃G Q r,Sub G H/\K5 K G w Q/\g Q=some r/\bj8 K M E G H D r
abbrev PXR(X:Cx)(E:XK)(st:Stmt)(g:GR):Prop:=PS X st (tXR X.K X.mg E g)
abbrev aL6(X:Cx)(E:XK)(st:List Stmt)(g:GR):Prop:=PSs X st (tXR X.K X.mg E g)
def spR(K:cW0)(M:Str->Option Value)(n:Nat)(F:List T->Option Res):Sp:=λB H Q E=>∃G s r,Sub G H/\j9 K G s B/\s.length=n/\F s=some r/\
 match r with
 |.val t=>∀v g h,Ext G H g h->Rep K g t v->Q v h
 |.exc c=>∀g h,Ext G H g h->E (aO2 M c) none h
def bE6(P:Program)(w:World)(K:cW0)(M:Str->Option Value)(a:Heap)(x:Str)(k n:Nat)(F:List T->Option Res):Prop:=
 ∃f d p,M x=some (.ref f)/\W.keepIn K (.ref f)=true/\R9 K d p []/\S4 P w K M a (CX1 P w) k f d p (spR K M n F)
def tRE(K:cW0)(M:Str->Option Value)(E:XK)(F:List T->Option Res)(l:List L3.G):TE:=λw H Q=>∃G B x r,Sub G H/\K5 K G w B/\gs l B=some x/\F x=some r/\
 match r with
 |.val t=>∀v g h,Ext G H g h->Rep K g t v->Q v h
 |.exc c=>∀g h,Ext G H g h->E (aO2 M c) none h
section
variable {st:Stmt}
theorem bM4:∀{l:List L3.G}{Q:A3}{X:List T},gs l Q=some X->X.length=l.length
 |[],_,_,z=>by cases z;rfl
 |a::l,Q,X,h=>by
  obtain⟨x,_,h⟩:=h9 h;obtain⟨y,H,h⟩:=h9 h;cases h;simp[bM4 H]
theorem aj1(h:bE6 X.prog X.w X.K X.mg X.aD x k n F)(i:aa8 (CX1 X.prog X.w) X E)(d:G9 j X.A)(S:k<=j)(R:Gl X x)
  (a:PXA X (e::s) (gs l)) (W:l.length=n:=by rfl) (N:NoD x:=by decide) (O:StE X e s:=by rfl) (Y:Bks X o s:=by rfl):
  PE X (.Call (.Name x aa) (e::s) [] o) (tRE X.K X.mg E F l):=by
 obtain⟨f,fd,ps,U,p,b,H⟩:=h;refine PE.imp (aN6 H (d.mono S) R U p b .nil i a N O Y) λwW H Q ⟨G,t,L,r,y,Z,J,P,q⟩=> ?_
 refine⟨G,t,L,y,Z,J,λvs M z I u=> ?_⟩;refine⟨M,L,r,I.s,by rw[cO5];exact u,by rw[bM4 J];exact W,P,?_⟩;cases r with
 |val ae=>exact λv g B C w=>q v g B (I.trans C) w
 |exc c=>exact λg B C=>q g B (I.trans C)
theorem al1(h:bE6 X.prog X.w X.K X.mg X.aD x k n F)(P:G9 R X.A)(a:Wd (PXA X (e::E) (gs l)))(L:k<=R:=by decide)(J:Gl X x:=by rfl)(M:l.length=n:=by rfl)(b:NoD x:=by decide)(I:StE X e E:=by rfl)(N:Bks X s E:=by rfl):Wd (PX X (.Call (.Name x p) (e::E) [] s) (gN (X0 F) l)):=⟨have a:=a.run;PE.imp (aj1 (E:=λ_ _ _=>False) h (λ_ _ _ _ _ _ _ ⟨_,_,_,_,_,_,z⟩=>z.elim) P L J a M b I N) λw H Q Z=>by
  obtain⟨G,S,t,U,O,g,q⟩:=Z;obtain⟨W,B,g⟩:=h9 g;obtain⟨r,C,g⟩:=h9 g;refine⟨G,S,W,r,U,O,B,C,?_⟩;cases r with
  |val u=>cases g;exact q
  |exc c=>cases g⟩
theorem bt7:aL6 X E [] (U6 z9):=PSs.imp aN5 λD w H z=>by
 obtain⟨G,B,r,s,Q,h,q⟩:=z;cases h;exact q w G H (Ext.refl s) Q
theorem Y4{g1 g2:GR}(B:PXR X E st g1)(C:aL6 X E J g2):aL6 X E (st::J) (af7 g1 g2):=PSs.imp (Q6 B C) λD w H z=>by
 obtain⟨G,I,r,s,F,h,q⟩:=z;obtain⟨R,k,h⟩:=h9 h;refine⟨G,I,R,s,F,k,?_⟩;cases R with
 |exc c=>cases h;exact q
 |o O=>
  cases O with
  |nx Q=>exact λW g L e r=>⟨g,Q,_,e.s,r,h,q.ext e⟩
  |bk Q=>cases h;exact q
  |ct Q=>cases h;exact q
  |ret t=>cases h;exact q
theorem ai9{g1:GR}(h:PXR X E st g1):aL6 X E [st] g1:=am4 h
theorem ae1(h:PXS X st g):PXR X E st (U6 g):=PS.imp h λD w H z=>by
 obtain⟨G,C,r,s,Q,B,q⟩:=z;obtain⟨o,k,B⟩:=h9 B;cases B;exact⟨G,C,o,s,Q,k,q⟩
theorem bG5(M:PXB X c I)(J:aL6 X E a C)(L:aL6 X E b F):PXR X E (.If c a b p) (rIf I C F):=PS.imp (bj0 M J L) λD w H z=>by
 obtain⟨G,B,r,s,Q,h,q⟩:=z;obtain⟨k,N,h⟩:=h9 h;refine⟨G,B,k,s,Q,N,λg O e=> ?_⟩;cases k with
 |true=>exact at9 ⟨g,B,r,e.s,Q.mono e.g,h,q.ext e⟩
 |false=>exact au0 ⟨g,B,r,e.s,Q.mono e.g,h,q.ext e⟩
theorem al0(h:PE X (.Call (.Name x p) (e::s) [] C) (tRE X.K X.mg E F l))(N:swapsWith (.Call (.Name x p) (e::s) [] C) none P.line X.env=pure false:=by rfl):
  PXR X E (.Expr (.Call (.Name x p) (e::s) [] C) P) (ak8 F l):=PS.imp (ap7 h N) λD w H z=>by
 obtain⟨G,O,r,S,Q,g,q⟩:=z;obtain⟨U,L,g⟩:=h9 g;obtain⟨R,M,g⟩:=h9 g;refine⟨G,O,U,R,S,Q,L,M,?_⟩;cases R with
 |val t=>cases g;exact λv I J B _=>q w I J B (Q.mono B.g)
 |exc c=>cases g;exact q
end
section
variable {K:cW0}
theorem be4(F:∃C,M x=some (.ref C)/\W.excIn K C b n=true)(FB:ExcBaseFacts L n i b)
  (g:Gl (F9 (CX1 P w) P w K M a N Q s f c A B S h E) x) (d:NoD x:=by decide)
  (e:starEach [.Constant (.str m) k p] (F9 (CX1 P w) P w K M a N Q s f c A B S h E).env=[(false,eval (.Constant (.str m) k p) (F9 (CX1 P w) P w K M a N Q s f c A B S h E).env)]:=by rfl):
  PXR (F9 (CX1 P w) P w K M a N Q s f c A B S h E) E (.Raise (some (.Call (.Name x U) [.Constant (.str m) k p] [] O)) none X) (bT7 x):=by
 obtain⟨C,F,I⟩:=F;refine PS.imp (bU9 F I FB g d e) λD Z H ⟨G,Y,r,J,R,g,q⟩=> ?_
 cases g;have :=q G H (Ext.refl J);rw[aO2,show(F9 (CX1 P w) P w K M a N Q s f c A B S h E).mg x=some (.ref C)from F]at this;exact this
theorem fnR{x M:Str}{st:Stmt}{f:Addr}{d:FuncData}{N p:List Str}{k:Nat}{g:GR}(F:Fun K x M st f d)(S:Q1 N p (t7 st))(z:p.length<=N.length)
  (b:∀(C:Value) (A:Around) (a:List Env) (s:Shared) (H:Hp) (E:XK),G9 k (A.deeper (envOfC M (t7 st) s.sz f C))->aL6 (F9 (CX1 P w) P w K O X N M (t7 st) f C A a s H E) E (O9 st) g):
  S4 P w K O X (CX1 P w) (k+1) f d p (spR K O p.length (aA9 p.length N.length g)):=by
 obtain⟨oc,od,kV,y,pm,u,C,ct,aa,rfl,lk,Y⟩:=F.ex;refine bC2 lk Y S (λn H Q E h=> ?_) λA a s H n Q E i h=> ?_
 .obtain⟨G,t,r,W,R,l,_⟩:=h;rw[R.length,l]
 .obtain⟨G,t,r,W,R,l,B,q⟩:=h;refine⟨_,b C A a s H E i,?_⟩;unfold aA9 at B;rw[cW7 l]at B;have Z:=ag6 (N:=N) R ⋯;cases L:g (A0 N.length t)with
  |none=>rw[L]at B;cases B
  |some o=>
   rw[L]at B;refine⟨G,_,o,W,Z,L,?_⟩;cases o with
   |exc c=>cases B;exact q
   |o o=>
    cases o with
    |nx U=>cases B;exact λae I J e _=>q .non I J e (by simp[Rep])
    |ret t'=>cases B;exact λv I J e j=>q v I J e j
    |bk U=>cases B
    |ct U=>cases B
end
def aB9(h:Heap)(e:Addr):Prop:=∃o v,h.get? e=some o/\o.data=.fields v/\v[2]?=some .none
theorem bi2:entryFor table "proto.unchain"=some Builtin.«proto.unchain»:=entryFor_of_fast (by kernel_rfl)
section
theorem aQ5(h:s.heap.get? a=some o)(H:o.data=.fields C)(B:i<C.size)
  (k:Q () {s with heap:=s.heap.update a (Obj.mapFields (·.setIfInBounds i v))}):wpAny M A (updateField a i v) Q E s:=by
 unfold updateField
 (refine cW8 (wpAny_load h ?_));rw[H]
 dsimp only;rw[cW7 B];exact wpAny_update h k
theorem ba1(F:A.handled=some (.ref x))(L:aB9 s.heap x)(C:s.heap.get? e=some O)(B:O.data=.fields W)(N:2<W.size)(I:x≠e)
  (k:E (.ref e) {s with heap:=s.heap.update e (Obj.mapFields (·.setIfInBounds 2 (.ref x)))}):wpAny (model p w) A (raiseNew (.ref e):Sem P) Q E s:=by
 obtain⟨o,v,J,H,h⟩:=L;unfold raiseNew
 (refine cW8 (wpAny_handled ?_));rw[F]
 dsimp only;have M:(Value.ref x !=Value.ref e)=true:=by
  rw[bne_iff_ne];exact λz=>I (Value.ref.inj z)
 rw[cW7 M];refine cW8 (wpAny_holding (wpAny_runValue (codeAny_builtin bi2 ?_)));unfold Builtin.«proto.unchain»;refine cW8 (cX0 J H h ?_);rw[cW7 ∎];exact cX3 (cW8 (aQ5 C B N (wpAny_throw k)))
theorem aB9.keeps(L:aB9 h e)(k:∀o,h.get? e=some o->H.get? e=some o):aB9 H e:=
 let⟨o,v,a,b,c⟩:=L;⟨o,v,k o a,b,c⟩
theorem aD4(J:A.handled=some (.ref x))(L:aB9 s.heap x)(O:x≠t)
  (I:s.heap.IsListIter t l i) (M:s.heap.IsList l P) (n:P[i]?=none) (k:∀B,Heap.ExtBut t s.heap B->Q none {s with heap:=B}):wpAny (model p w) A (pyNext (.ref t)) Q E s:=by
 obtain⟨o,H,c,h⟩:=id I
 (obtain⟨W,N,_,U,F⟩:=M);unfold pyNext
 refine cW8 (wpAny_attempt (wpAny_callSpecial?_slot (name:=Str.ofString "__next__") I.typeIs slot_listiter_next (cW9 slot_listiter_next I.typeIs entry_listiter_next ?_ (args_listiter_next _))))
 (show wpAny _ _ (field (.ref t) 0>>=_) _ _ s);(refine cW8 (cX0 H h (x:=.ref l) rfl ?_));(show wpAny _ _ (if(Value.ref l==Value.none)=true then _ else _) _ _ s);rw[cW6 (λz=>Bool.noConfusion z:¬((Value.ref l==Value.none)=true))]
 (show wpAny _ _ (field (.ref t) 1>>=_) _ _ s);(refine cW8 (cX0 H h (x:=.int i 0) rfl ?_));(show wpAny _ _ (seqItems? (.ref l)>>=_) _ _ s);(refine cW8 (cX5 N F ?_));erw[cN7,n]
 (refine cW8 (wpAny_rule (cW8 (wpAny_setField H h ∅ ?_))));(show wpAny _ _ (newExc (.type "StopIteration") []>>=_) _ _ _);refine cW8 ?_
 erw[newExc,newTuple]
 (refine cW8 (cX2 ?_ (by size_fits)));(refine cW8 (m:=firstArgMember _ _) (wpAny_of_eq (a:=Value.none) (by first |rfl|(erw[firstArgMember];rfl)) ?_));(refine cX2 ?_ (by size_fits));have e:Heap.ExtBut t s.heap (s.heap.update t (Obj.mapFields (·.setIfInBounds 0 .none))):=(Heap.SameBut.update ..).extBut
 have X:x<s.sz:=by obtain⟨_,_,a,_⟩:=L;exact cL4 a
 refine ba1 (W:=_) (show A.in1.handled=some (.ref x)from J) ?_ (cL1 _ rfl) rfl (by simp;omega) ?_ ?_
 .exact L.keeps λR q=>cL0 _ (cL0 _ (e x R O q))
 .rw[cL5,Heap.size_after_update];exact cV0 (cU4 X)
 refine cW8 (wpAny_isInstance (T:="StopIteration") (b:=true) ⟨_,cL3 _ (cL1 _ rfl) rfl,rfl⟩ isSubtype_stop ?_);refine cX3 (k _ λb S C q=> ?_);rw[cL2]
 .exact cL0 _ (cL0 _ (e b S C q))
 .rw[cL5,Heap.size_after_update];exact Ne.symm (cV0 (cU4 (cL4 q)))
theorem bs7(I ax x:Addr)(hne:ax≠I)(hx:x≠I)(hh:A.handled=some (.ref x))(items:Array Value):
  Walks prog w A I [I,ax,x] [I] items.size (λi v=>items[i]?=some v) (λi h=>(h.IsListIter I ax i/\h.IsList ax items)/\aB9 h x) where
 sub:=λc hc=>by simp at hc;simp[hc]
 frame:=λ_ _ _ st hk=>⟨⟨st.1.1.at λo e=>hk I ∅ o e,st.1.2.at λo e=>hk ax ∅ o e⟩,st.2.keeps λo e=>hk x ∅ o e⟩
 item:=λj s0 Q0 E0 hj st hQ=>by
  refine wpAny_pyNext_list_item st.1.1 st.1.2 (x:=items[j]) (by simp[hj]) λh' hit' hs'=> ?_
  exact hQ _ h' s0.toks (by simp[hj]) ⟨⟨hit',st.1.2.extBut hs'.extBut hne⟩,st.2.keeps λo e=>hs'.extBut x o hx e⟩ λb o hb e=>hs'.extBut b o (λh=>hb (by simp[h])) e
 done:=λs Q E st hQ=>aD4 hh st.2 hx st.1.1 st.1.2 ∅ λh' he'=>hQ h' s.toks λb o hb e=>he' b o (λh=>hb (by simp[h])) e
 self:=λ_ _ _ _ st hQ=>wpAny_pyIter_listiter st.1.1 hQ
end
section
variable {K:cW0}
open PySem.W in
theorem bN1(X:K.In s.heap)(I:InstAt s.heap x o D none)(a:findIn K (.ref D) "__getattribute__"=some (some (.builtin "BaseException.__getattribute__")))(F:findIn K (.ref D) "__getattr__"=some none)
  (H:findObj K D none "__class__"=some (.bind (.builtin "getset_descriptor.__get__") (.builtin "object.__class__"))) (M:mroIn K D (.type "object")=some true) (h:mroIn K D (.type "BaseException")=some true)
  (k:Q (some (.ref D)) {s with toks:=s.toks+1}):wpAny (model p w) A (getAttr? (.ref x) "__class__") Q E s:=by
 obtain⟨C,g,d,t,os⟩:=s
 (have L:=I.type (M:=model p w));(have l:=looks_findIn (M:=model p w) X a);(have L2:=looks_findIn (M:=model p w) X F);have L3:=looks_find (M:=model p w) X I H
 have B:Looks (model p w) C (isInstance (.ref x) (.type "BaseException")) true:=L.andThen (looks_mroIn (M:=model p w) X h);have n2:(Value.builtin "BaseException.__getattribute__"==Value.builtin "object.__getattribute__")=false:=by decide +kernel
 (unfold getAttr? getAttrBy? getAttrBy);(refine cW8 (wpAny_mkText (cW8 (wpAny_attempt (wpAny_holding (cW8 (L.at (cW8 (l.at ?_)))))))));dsimp only
 rw[n2];erw[Bool.and_false,cK5,if_false]
 (unfold getAttrByItsOwn hookBefore callGetattribute boundAndCalled);rw[cW7 (show onTheHeap (Value.ref D)=true from rfl)]
 refine cW8 (L2.at (cW8 (wpAny_attempt (wpAny_holding ?_))));erw[cK4,cK5,if_false];refine cW8 (wpAny_of_eq (PySem.F.excAttr_ValueError.ga.bind (.ref x)) ?_);refine wpAny_call (codeAny_call_builtin PySem.F.excAttr_ValueError.ga.plain PySem.F.entry_bexc_ga ?_);have J:builtinKind "BaseException.__getattribute__"=some .slot:=by decide +kernel
 (have N:splitId "BaseException.__getattribute__"=some ("BaseException","__getattribute__"):=by decide +kernel);have O:=PySem.F.args_bexc_ga (.ref x) (.str "__class__" t)
 erw[checkBuiltinCall,J,N];refine cW8 (B.at ?_)
 (erw[Bool.not_true,cK5,if_false]);repeat(any_goals (first |assumption|with_reducible refine L.at ?_|with_reducible refine L3.at ?_|wp_step))
 refine class_get (od:=none) X I M ?_;exact cX3 (handed_on rfl (cX3 k))
open PySem.W in
structure aO9(K:Frag)(D:Addr):Prop where
 ga:findIn K (.ref D) "__getattribute__"=some (some (.builtin "BaseException.__getattribute__"))
 hk:findIn K (.ref D) "__getattr__"=some none
 fo:findObj K D none "__class__"=some (.bind (.builtin "getset_descriptor.__get__") (.builtin "object.__class__"))
 mo:mroIn K D (.type "object")=some true
 mb:mroIn K D (.type "BaseException")=some true
 cl:(clsIn K D).isSome=true
open PySem.W in
theorem ci1(L:aO9 K D):KitX K (.ref x) (.ref D) (λh=>∃ox,InstAt h x ox D none) where
 ty:=λ_ _ _ ⟨_,I⟩=>I.type
 it:=λM h X _=>by
  have z:=L.cl;unfold clsIn at z;split at z
  .rename_i c' d' cd' sl' ho;intro A' Q' E' s' k q;unfold isType loadHead
   (exact cW8 (wpAny_loadPart (k _ _ (X _ _ ho)) (cX3 q)))
  .cases z
 ne:=λh tq dd its n sl X hq=>by
  (refine Bool.eq_false_iff.mpr λq=> ?_);(have e:D=tq:=Value.ref.inj (beq_iff_eq.mp q));subst e
  have z:=L.cl;unfold clsIn at z;split at z
  .rename_i c' d' cd' sl' ho;have z2:=(X _ _ ho).symm.trans hq;cases z2
  .cases z
 ca:=λX ⟨_,I⟩ k=>bN1 X I L.ga L.hk L.fo L.mo L.mb k
end
structure HX(x:Addr)(X:Cx):Prop where
 hh:X.A.handled=some (.ref x)
 lone:aB9 X.sd.heap x
 un:X.Ho x=none
 nf:x∉X.fs
 ns:x∉frs X.stack
 ne:x∉X.ex
section
theorem HX.keep(h:HX B X)(I:Inv X a w H s)(e:X.sd.heap.get? B=some o):s.heap.get? B=some o/\H B=none:=⟨I.aD.keep B o e h.un h.nf h.ne,I.aD.free B o e h.un h.ne⟩
theorem HX.at(h:HX B X)(I:Inv X a w H s):aB9 s.heap B/\H B=none:=by
 obtain⟨o,v,e,r⟩:=h.lone;obtain⟨k,C⟩:=h.keep I e;exact⟨⟨o,v,k,r⟩,C⟩
theorem HX.lt(h:HX B X):B<X.sd.sz:=by
 obtain⟨o,v,e,r⟩:=h.lone;exact cL4 e
theorem HX.comp(h:HX B X)(I:Inv X a w H s)(E:∀b∈f,b∈X.ex\/X.sd.sz<=b):HX B (L7 X S c C N s H f):=by
 obtain⟨k,F⟩:=h.at I;refine⟨h.hh,k,F,h.ns,h.ns,λz=> ?_⟩;rcases E B z with q|q
 .exact h.ne q
 .exact absurd (cU2 h.lt q) (cU1 _)
end
theorem by7{x:Addr}{P:Program}{w:World}{K:cW0}{tg:Expr}(a it:Addr):cc4 (HX x) P w K tg (Itl K a) [it] it (λi h=>h.IsListIter it a i) where
 mem:=(as4 (P:=P) (w:=w) (K:=K) (tg:=tg) a it).mem
 obj:=(as4 (P:=P) (w:=w) (K:=K) (tg:=tg) a it).obj
 keep:=(as4 (P:=P) (w:=w) (K:=K) (tg:=tg) a it).keep
 item:=by
  intro X hP hw hK hc i aA s wW H E I hf st hg;subst hP hw hK;obtain⟨xs,y,hq,hx⟩:=hg;obtain⟨its,rv,p,hz⟩:=I.list hq;obtain⟨u,hu,ru⟩:=rv.get hx;obtain⟨f0,f1,f2,f3,f4,f5⟩:=hf it ∅;refine wpAny_pyNext_list_item st p.isList (x:=u) (by simpa using hu) λh' st' sb=> ?_
  have I1:Inv X aA wW H {s with heap:=h'}:=I.turned (t':=s.toks) (λb o hb e=>(sb.2 b hb).trans e) f0 f1 f3 f4 f5;obtain⟨o,e,c,d⟩:=id st';exact⟨u,rfl,bB7 (s:={s with heap:=h'}) e c d ∎ ⟨y,H,I1,ru,⟨rfl,λys hy=>by rw[I.list_inj hy hq];exact hx⟩,st',λb hb=>(hf b hb).1⟩⟩
 done:=by
  intro X hP hw hK hc i aA s wW H E I hf st hg;subst hP hw hK;obtain⟨xs,hq,hx⟩:=hg;obtain⟨its,rv,p,hz⟩:=I.list hq;obtain⟨f0,f1,f2,f3,f4,f5⟩:=hf it ∅;have hl:=rv.length;have hxi:x≠it:=λz=>by
   rcases f3 with q|q
   .exact hc.ne (by rw[z];exact q)
   .have :=hc.lt;rw[z]at this;exact absurd (cU2 this q) (cU1 _)
  exact aD4 hc.hh (hc.at I).1 hxi st p.isList (by simp;omega) λh' eb=>⟨rfl,I.turned (t':=s.toks) (λb o hb e=>eb b o hb e) f0 f1 f3 f4 f5⟩
 self:=(as4 (P:=P) (w:=w) (K:=K) (tg:=tg) a it).self
section
theorem bV0{l:Expr}{t:TE}(F:PE X l t):PIx (HX x) X g l (cb1 X.K t):=by
 intro C s w H R I h;refine thn (F C s w H _ I h) λv S ⟨y,B,i,r,Q⟩=> ?_
 obtain⟨a,e,⟨N,J⟩,q⟩:=Q;subst e;cases r;obtain⟨L,M,p,z⟩:=i.list J;refine cX4 p.isList ?_;refine⟨S.sz,[S.sz],_,_,B,rfl,i.kept (t':=S.toks) λb o e=>cL0 _ e,by7 a _,⟨_,cL1 _ rfl,rfl,rfl⟩,λb E=> ?_,q⟩;have e:b=S.sz:=by simpa using E
 subst e;exact i.fpOk (cT8 _) (i.hok.fresh (cT8 _))
theorem bN9(Z:HX x X):af0 X (.builtin "sum") (λO H Q=>∃(p:Addr) (N:List Int),O=[.ref p]/\H p=⇑(N.map V.int)/\(N.all λn=>decide (0<=n)&&decide (n<=1))=true/\N.length<=1000/\Q (.int N.sum) H):=by
 intro aA s wW H O us Q I r h;obtain⟨p,N,rfl,w,B,C,q⟩:=h;obtain⟨ae,rfl,R⟩:=ar3 r;cases R;obtain⟨F,f,P,hz⟩:=I.list (SqL.of w);have J:=f.length;rw[cQ8]at J;have t:p<s.sz:=by obtain⟨o,e,_⟩:=P.isList;exact cL4 e
 obtain⟨L,ag⟩:=Z.at I;have c:x<s.sz:=by obtain⟨o,O,e,_⟩:=L;exact cL4 e
 have pre:∀j,j<=N.length->preSum (λi=>N.getD i 0) j=(N.take j).sum:=by
  intro j;induction j with
  |zero=>intro _;rfl
  |succ j M=>
   intro U;rw[preSum,M ⋯,List.take_succ,List.sum_append];have :N[j]?=some N[j]:=cP8 ⋯;simp[this]
 have d:∀n∈N,0<=n/\n<=1:=λn u=>by
  have :=List.all_eq_true.mp B n u;simpa using this
 have z:∀l:List Int,(∀n∈l,0<=n/\n<=1)->0<=l.sum/\l.sum<=l.length:=by
  intro l;induction l with
  |nil=>intro _;simp
  |cons a l M=>
   intro h;have h1:=h a cS2;have h2:=M λn C=>h n (cS1 _ C)
   (rw[List.sum_cons,cJ3]);omega
 refine call_sum_walk (cX4 P.isList ?_);refine⟨s.sz,_,_,_,_,_,λi=>N.getD i 0,rfl,bs7 (A:=X.A.in1) s.sz p x (cV0 t) (cV0 c) Z.hh F.toArray,
  ⟨⟨⟨_,cL1 _ rfl,rfl,rfl⟩,P.isList.push _⟩,L.keeps λo e=>cL0 _ e⟩,λb B=> ?_,λi v Y=> ?_,λj U=> ?_,λh' tk t' k=> ?_⟩
 .show b<(s.heap.push _).objs.size;rw[cL5]
  (erw[cS0,List.not_mem_nil,or_false]at B);(rcases B with rfl|rfl|rfl)
  .exact cU5 _
  .exact cU4 t
  .exact cU4 c
 .have S:i<N.length:=by
   have E:F[i]?=some v:=by simpa using Y
   have :=an8 E;omega
  obtain⟨ae,y,R⟩:=f.get (i:=i) (x:=.int N[i]) (by rw[cQ0,cP8 S];rfl);have E:F[i]?=some v:=by simpa using Y
  rw[y]at E;cases E;obtain⟨aa,e⟩:=R;refine⟨aa,?_⟩;rw[e];simp[S]
 .have W:j<N.length:=by simpa[<-J]using U
  have g:N.getD j 0=N[j]:=by simp[W]
  have b1:=d N[j] (cQ6 W);have b2:=z (N.take (j+1)) λn C=>d n (cS6 C)
  rw[pre (j+1) ⋯];have b3:(N.take (j+1)).length<=1000:=by rw[cR3];omega
  show InLong (N.getD j 0)/\_;rw[g];exact⟨⟨⋯,⋯⟩,⟨⋯,⋯⟩⟩
 .have e:preSum (λi=>N.getD i 0) F.toArray.size=N.sum:=by
   rw[cT4,<-J,pre _ (cT8 _),List.take_length]
  rw[e];refine⟨.int N.sum,H,?_,⟨t',rfl⟩,q⟩;exact I.kept λb o e=>k b o (λaf=>cV0 (cL4 e) (by simpa using af)) (cL0 _ e)
end
section
theorem bI5(h:PX X e g):PIx (HX x) X U e (tI X.K (itL g)):=λa s w H R I q=>by
 refine bV0 h a s w H R I ?_;obtain⟨G,O,W,S,Q,L,q⟩:=q;obtain⟨t,J,B⟩:=h9 L;refine⟨G,O,t,S,Q,J,λv C F E r=> ?_⟩;cases t<;>first |(cases B;done)|skip
 cases B;erw[Rep]at r;obtain⟨p,P,M,k,N⟩:=r;exact⟨p,M,⟨P,SqL.of (E.s _ _ k)⟩,q _ C F E (be1 k N)⟩
theorem cf1{Q t r:Expr}{R:List Expr}{s:Scope}{U:GL}{P:List Nat}{st:St1}{g:GB}{e:L3.G}(d:HX x X)(N:List Str)(n:Nat)(a:List Nat)(k:aj6 X.env.scope X.N s N n a=true)(Y:PIx (HX x) X t r (tI X.K U))(Z:P.all (λi=>decide (i<n))=true)(O:∀c C S H f,Wd (PXG (L7 X s c C N S H f) t P st))(h:∀c C S H f,Wd (aB8 (L7 X s c C N S H f) R g))(M:∀c C S H f,Wd (PX (L7 X s c C N S H f) Q e))(b:NFo X r:=by intro _;rfl):Wd (PX X (.ListComp Q [⟨t,r,R,0⟩] s p) (o0 U n a st g e)):=⟨have O:=λB E F J L=>(O B E F J L).run;have h:=λB E F J L=>(h B E F J L).run;have M:=λB E F J L=>(M B E F J L).run;PE.imp (cn9 (g:=tGt X.K P st) (y:=tXB X.K g) (z:=tX X.K e) N n a (u:=HX x) (λ_ _ _ _ _ _ _ I W=>d.comp I W) k Y O h M b) (aD9 Z)⟩
theorem bR6{K:cW0}:ao3 K (λv H Q=>∃(p:Addr) (N:List Int),v=[.ref p]/\H p=⇑(N.map V.int)/\(N.all λn=>decide (0<=n)&&decide (n<=1))=true/\N.length<=1000/\Q (.int N.sum) H) aW8:=by
 intro G H t x F Q s r f q
 match t,f with
 |[.lst u],f=>
  obtain⟨N,B,h⟩:=h9 f;split at h
  case isFalse=>cases h
  case isTrue b=>
  cases h;rw[cK2,cW5]at b;obtain⟨y,e,R⟩:=aj3 r;erw[Rep]at R;obtain⟨p,Y,k,C,E⟩:=R;subst k;have z:=aq4 B E;subst z;exact⟨p,N,e,s _ _ C,b.1,b.2,q _ G H (Ext.refl s) (by simp[Rep])⟩
theorem bT9(E:HX x X)(B:Gl X "sum")(C:X.mg "sum"=none)(h:Wd (PXA X [e] (gs [g])))(H:StE X e []:=by rfl)(l:Bks X P []:=by rfl):Wd (PX X (.Call (.Name "sum" p) [e] [] P) (gN aW8 [g])):=⟨have h:=h.run;ah3 (bN9 E) bR6 B C boot_sum h ∎ ∎ H l⟩
theorem bS0{K:cW0}:N5 K rNe bC4:=by
 intro G H t y u v z Q s r R h q
 match t,y,h with
 |.int i,.int j,h=>
  cases h;erw[Rep]at r R;subst r R;refine⟨rfl,?_⟩;rw[show decide (V.int i=V.int j)=decide (i=j) by rw[bx6];rfl];exact q _ G H (Ext.refl s) (by simp[Rep])
theorem cf3(h:Wd (PX X a g))(H:Wd (PX X b B)):Wd (PXB X (.Compare a [.NotEq] [b] p) (bOf (g2 bC4 g B))):=⟨have h:=h.run;have H:=H.run;ah7 cy4 bS0 h H (Y6 _)⟩
theorem aN2(y:HX x X)(b:X.sd.heap.get? x=some o)(S:o.cls=.ref D)(d:o.dict=none)(L:aO9 X.K D)(s:W.notCls o=true)(U:Gl X "isinstance")(Z:X.mg "isinstance"=none)(n:PE X (.Name c p) (tC cv))(j:∀u,C9 cv u->u=O)(f:W.kitOne X.K (.ref D) O=some t)(E:Wd (PX X e g))(F:starEach [e,.Name c p] X.env=(false,eval e X.env)::starEach [.Name c p] X.env:=by rfl)(k:starEach [Expr.Name c p] X.env=(false,eval (.Name c p) X.env)::starEach [] X.env:=by rfl)(l:(backTo aa (starEach [Expr.Name c p] X.env)).any (·.1)=false:=by rfl):Wd (PX X (.Call (.Name "isinstance" ag) [e,.Name c p] [] aa) (bb7 x t g)):=⟨by
 have E:=E.run;have N:af0 X (.builtin "isinstance") (λv H Q=>v=[.ref x,cv]/\Q (.bl t) H):=by
  intro aA ah wW H v us Q I ae h;obtain⟨rfl,q⟩:=h;obtain⟨u,w',rfl,r,r2⟩:=bi3 ae;cases r;have w:=j _ r2;subst w;obtain⟨z,_⟩:=y.keep I b;refine W.kia_one (ci1 L) I.kIn ⟨o,⟨z,S,s,by rw[d];trivial⟩⟩ f (λaf=>nomatch af) λtk=>⟨.bl t,H,I.tok _,rfl,q⟩
 refine PE.imp (aR8 N U Z boot_isinstance (V0 E (V0 n ad3 k) F) ∎ ∎ F l) λwW H Q ⟨G,qQ,t',sG,i,Y,q⟩=> ?_
 obtain⟨tv,C,B⟩:=h9 Y
 match tv,C,B with
 |.ref a,C,B=>
  dsimp only at B;split at B
  case isFalse=>cases B
  case isTrue R=>
  cases B;subst R;refine⟨G,qQ,.ref a,sG,i,C,λai J M P r=> ?_⟩;erw[Rep]at r;subst r;exact⟨rfl,q _ J M P (by simp[Rep])⟩⟩
theorem bK7:MtM X "list.index" (λy J H Q=>∃(l:Addr) (b:List Bool) (j:Nat),y=.ref l/\J=[.bl true]/\H l=⇑(b.map V.bl)/\b.findIdx? id=some j/\b.length<=1000/\Q (.int j) H):=by
 intro c s o H y J v g Q I x a h;obtain⟨l,b,j,rfl,rfl,M,N,f,q⟩:=h;cases x;obtain⟨u,rfl,Z⟩:=a.one;cases Z;obtain⟨z,i,n,r,R,e⟩:=I.lstM M;rw[cQ8]at R;have C:∀(m:Nat) (B:m<i.length),i[m]=.bool (b[m]'⋯):=λm B=>by
  obtain⟨w,E,L⟩:=r.get (i:=m) (x:=.bl (b[m]'⋯)) (by rw[cQ0,cP8 ⋯];rfl);rw[cP8 B]at E;cases E;exact L
 obtain⟨d,O,P⟩:=List.findIdx?_eq_some_iff_getElem.mp N;refine call_meets F.slot_list_index ⟨_,e,rfl⟩ F.entry_list_index (F.args_list_index_2 _ _) (SeqAt.list_indexAt l i.toArray n none #[] (.bool true) (λv=>match v with |.bool k=>k==true|_=>false) j (by simp;omega) ⋯ ?_ ?_) ⟨e,?_,?_⟩
 .have :i.toArray[j]'(by simp;omega)=.bool b[j]:=by simpa using C j ⋯
  rw[this];simpa using O
 .intro m B U;have S:m<i.length:=by simpa using B
  have :i.toArray[m]'B=.bool (b[m]'⋯):=by simpa using C m S
  rw[this];have :=P m U;simpa using this
 .intro y W;have Y:y∈i:=by simpa using W
  obtain⟨m,B,rfl⟩:=List.getElem_of_mem Y;rw[C m B];exact SeqAt.EqAt.bool_bool _ _
 .exact⟨.int j,H,I.tok _,⟨_,rfl⟩,q⟩
theorem bz5(h:Wd (PX X o g))(O:attributeBase o "index" X.env (eval o X.env)=eval o X.env:=by rfl)(w:((backTo c (starEach [.Constant (.bool true) k p] X.env)).all (λx=> !x.1)&&(backToKw c (keywordEach [] X.env)).all (λx=>x.1.isSome)
   &&decide (([Expr.Constant (.bool true) k p]).length+([]:List Keyword).length+(if([]:List Keyword).isEmpty then 0 else 1)<30))=true:=by rfl) (R:(a.endLine==c.line)=true:=by rfl) (s:starEach [.Constant (.bool true) k p] X.env=(false,eval (.Constant (.bool true) k p) X.env)::starEach [] X.env:=by rfl) (n:Bks X c []:=by rfl):Wd (PX X (.Call (.Attribute o "index" a) [.Constant (.bool true) k p] [] c) (g1 bc1 g)):=⟨by
 have h:=h.run;refine PE.imp (bj1 PySem.F.plainAttrs_list PySem.F.slot_list_index PySem.F.type_list_index bK7 h (V0 bA1 ad3 s) O w R s n) λd H Q ⟨G,Y,t,Z,S,P,q⟩=> ?_
 obtain⟨E,J,B⟩:=h9 P;refine⟨G,Y,E,Z,S,J,λv F I e r=> ?_⟩;cases E<;>first |(cases B;done)|skip
 rename_i u;obtain⟨b,L,B⟩:=h9 B;obtain⟨j,M,B⟩:=h9 B;split at B
 case isFalse=>cases B
 case isTrue N=>
 cases B;erw[Rep]at r;obtain⟨l,f,U,C,W⟩:=r;subst U;have z:=aI5 L W;subst z;refine⟨.inl ⟨rfl,_,SqL.of (e.s _ _ C)⟩,⟨l,b,j,rfl,rfl,e.s _ _ C,M,N,q _ F I e (by simp[Rep])⟩⟩⟩
end
section
variable {K:cW0}
theorem bB5
  (S:Q1 N p B) (h:b=true->A.handled=none) (e:ar2 P w K M a A C s H) (l:v.length=p.length) (r:B9 v u)
  (x:InCallC s s.sz (bindL (envOfC Q B s.sz f c).kindOf (p.zip u) λ_=>none) (cellsFrom (s.sz+1) B.names []) (bindC (envOfC Q B s.sz f c).kindOf (p.zip u) λ_=>none) g):
  Inv {F9 X P w K M a N Q B f c A C s H E with calm:=b} [] (start N v) H g:=by
 have F:ar2 P w K M a {A with handled:=none} C s H:=⟨e.frames,e.mod,e.bs,e.bsz,e.funs,e.frf,e.hok,e.bare⟩
 have I:=bf2 (X:=X) (E:=E) S rfl F l r x;obtain⟨o,i,L,O,R,U,W,Y,Z,d,J⟩:=I;exact⟨⟨o.mod,o.kind,o.glob,o.blt,o.above,o.inj,o.has,o.cab,h,Around.frames_deeper e.frames,o.stk,o.exf,o.bs,o.bsz,o.noex,o.exfs,o.funs,o.frf⟩,i,L,O,R,U,W,Y,Z,d,J⟩
theorem bM7{b:Bool}{C:CXT}{x l:Str}{st:Stmt}{f:Addr}{d:FuncData}{N p:List Str}{A:Around}{a:List Env}{s:Shared}{H:Hp}{args:Args}{X:List Value}{Y:List V}{Q:VK}{E:XK}
  (F:Fun K x l st f d) (S:Q1 N p (t7 st)) (t:b=true->A.handled=none) (z:A.depth<recursionLimit) (L:ar2 P w K g M A a s H) (hl:Y.length=p.length) (i:BindsTo s d args (p.zip X)) (af:B9 Y X)
  (j:∀c O,Inv {F9 C P w K g M N l (t7 st) f c A a s H E with calm:=b} [] (start N Y) H O->wpAny (model P w) (A.deeper (envOfC l (t7 st) s.sz f c)) (execs (O9 st) (envOfC l (t7 st) s.sz f c)) (SP {F9 C P w K g M N l (t7 st) f c A a s H E with calm:=b} [] {nx:=λ_ h=>Q .non h,rt:=Q}) (F9 C P w K g M N l (t7 st) f c A a s H E).xe O):
  codeAny (model P w) A (.call (.ref f) args) (CR C a P w H s Q E) s:=by
 obtain⟨oc,od,kV,ag,pm,an,c,ct,ai,rfl,lk,n⟩:=F.ex;have k:K.In s.heap:=L.mod.kin.keeps λb o e=>(L.bs b o e).1
 have lim:s.heap.NoLimit:=L.mod.nolimit.keeps λb o e=>(L.bs b o e).1
 have aa:∀y∈p.zip X,(t7 st).names.lookup y.1=some .local\/((t7 st).names.lookup y.1=some .cell/\((cellsFrom (s.sz+1) (t7 st).names []).lookup y.1).isSome=true):=λ⟨ae,v⟩ hy=>by
  rcases S.par ae (cS8 hy).1 with q|q
  .exact .inl q
  .exact .inr ⟨q,W.cellsFrom_some _ _ _ (.inl q)⟩
 refine codeAny_call_function z (k _ _ lk) rfl S.co S.gen rfl (W.codeRec_of k n) (i _ _ _ _ ?_);refine wpAny_newFunctionEnv_cells S.kind aa λah he O x=> ?_
 subst he;refine⟨lim.keeps x.toInCall.keep,codeAny_func ?_⟩;have I:=bB5 (X:=C) (E:=E) S t L hl af x;refine cX1 (j c O I) (λZ U B=> ?_) λe U B=>B
 have fin:∀{R:L2.St}{h:Hp}{v:V}{u:Value},Inv {F9 C P w K g M N l (t7 st) f c A a s H E with calm:=b} [] R h U->C9 v u->Q v h->CE a P w H s Q u U:=
  λ{R h v u} J r q=>⟨v,h,J.os,J.bare,J.aD,J.hok,r,q⟩
 cases Z with
 |ret u=>
  obtain⟨v,R,h,J,r,q⟩:=B;exact fin J r q
 |next=>
  obtain⟨R,h,J,q⟩:=B;exact fin (v:=V.non) (u:=Value.none) J rfl q
 |brk=>
  obtain⟨_,_,_,q⟩:=B;exact False.elim q
 |cont=>
  obtain⟨_,_,_,q⟩:=B;exact False.elim q
theorem cz1{b:Bool}{C:CXT}{x l:Str}{st:Stmt}{f:Addr}{d:FuncData}{N p:List Str}{A:Around}{a:List Env}{s:Shared}{H:Hp}{args:Args}{u:List Value}{v:List V}{Q:VK}{E:XK}
  (F:Fun K x l st f d) (S:Q1 N p (t7 st)) (L:b=true->A.handled=none) (M:A.depth<recursionLimit) (e:ar2 P w K g B A a s H) (O:v.length=p.length) (J:BindsTo s d args (p.zip u)) (r:B9 v u)
  (y:∀c,∃t,PSs {F9 C P w K g B N l (t7 st) f c A a s H E with calm:=b} (O9 st) t/\t {nx:=λ_ h=>Q .non h,rt:=Q} (start N v) H):
  codeAny (model P w) A (.call (.ref f) args) (CR C a P w H s Q E) s:=
 bM7 F S L M e O J r λc W I=>let⟨_,U,R⟩:=y c;U [] W (start N v) H _ I R
theorem cs4{b:Bool}{X:CXT}{x l:Str}{st:Stmt}{f:Addr}{d:FuncData}{N p:List Str}{A:Around}{a:List Env}{s:Shared}{H G:Hp}{args:Args}{u:List Value}{M:List V}{I:List T}{t:T}{Q:VK}{E:XK}{g:GS}
  (F:Fun K x l st f d) (S:Q1 N p (t7 st)) (Y:b=true->A.handled=none) (Z:A.depth<recursionLimit) (U:ar2 P w K k O A a s H) (W:BindsTo s d args (p.zip u)) (r:B9 M u) (np:p.length<=N.length)
  (y:∀c,aq9 {F9 X P w K k O N l (t7 st) f c A a s H E with calm:=b} (O9 st) g)
  (z:Sub G H) (R:j9 K G I M) (i:I.length=p.length) (h:al3 (g (A0 N.length I))=some t) (q:∀v B C,Ext G H B C->Rep K B t v->Q v C):
  codeAny (model P w) A (.call (.ref f) args) (CR X a P w H s Q E) s:=by
 refine cz1 (b:=b) F S Y Z U (by rw[R.length,i]) W r λc=>⟨_,y c,?_⟩
 have j:=ag6 (N:=N) R ⋯;cases J:g (A0 N.length I)with
 |none=>rw[J]at h;cases h
 |some o=>
  rw[J]at h;refine⟨G,_,o,z,j,J,?_⟩;cases o with
  |nx L=>cases h;exact λaa B C e _=>q .non B C e (by simp[Rep])
  |ret t'=>cases h;exact λv B C e n=>q v B C e n
  |bk L=>cases h
  |ct L=>cases h
theorem HX.start(C:A.handled=some (.ref B))(L:aB9 s.heap B)(un:H B=none)(n:B∉frs a):
  HX B {F9 c P w K M F N Q S f d A a s H E with calm:=b}:=by
 refine⟨C,L,un,n,λz=> ?_,λz=>absurd (show B∈([]:List Addr)from z) ∅⟩;rcases cI4 (show B∈s.sz::frs a from z)with e|e
 .obtain⟨o,v,h,_⟩:=L;exact absurd (cL4 h) (by rw[e];exact cU1 _)
 .exact n e
end
theorem ae6(f:Str×NameKind->List (Str×Addr)->Sem (ForInStep (List (Str×Addr))))(E:f=λx s=>(do let r<-(if(x.2==NameKind.free)=true then do let c<-cellOf env x.1;pure ((x.1,c)::s)else pure s);pure (ForInStep.yield r))):∀(N:List (Str×NameKind)) (a:List (Str×Addr)),(∀x,(x,NameKind.free)∈N->∃c,env.cells.lookup x=some c)->(∀x c,a.lookup x=some c->env.cells.lookup x=some c)->
  ∃l:List (Str×Addr),forIn N a f=(pure l:Sem _)/\(∀x c,l.lookup x=some c->env.cells.lookup x=some c)/\(∀x,(x,NameKind.free)∈N->∃c,l.lookup x=some c)/\∀x c,a.lookup x=some c->∃C,l.lookup x=some C
 |[],a,_,B=>⟨a,rfl,B,λx H=>absurd H ∅,λx c h=>⟨c,h⟩⟩
 |(n,k)::r,a,J,B=>by
  by_cases F:(k==NameKind.free)=true
  .obtain⟨c,O⟩:=J n (by rw[eq_of_beq F];exact cS2);have P:∀x C,((n,c)::a).lookup x=some C->env.cells.lookup x=some C:=λx C h=>by
    rw[cR4]at h;by_cases e:(x==n)=true
    .rw[e]at h;cases h;rw[eq_of_beq e];exact O
    .rw[Bool.not_eq_true]at e;rw[e]at h;exact B x C h
   obtain⟨l,e,L,M,Q⟩:=ae6 f E r ((n,c)::a) (λx H=>J x (cS1 _ H)) P;refine⟨l,?_,L,λx H=> ?_,λx C h=> ?_⟩
   .rw[cP5];have :f (n,k) a=pure (ForInStep.yield ((n,c)::a)):=by
     subst E;dsimp only;rw[cW7 F];erw[cellOf,O,pure_bind]
    rw[this,pure_bind];exact e
   .rcases cI4 H with z|z
    .cases z;exact Q _ c (by rw[cR4,cW2])
    .exact M x z
   .by_cases I:(x==n)=true
    .exact Q x c (by rw[cR4,I])
    .rw[Bool.not_eq_true]at I;exact Q x C (by rw[cR4,I];exact h)
  .obtain⟨l,e,L,M,Q⟩:=ae6 f E r a (λx H=>J x (cS1 _ H)) B;refine⟨l,?_,L,λx H=> ?_,Q⟩
   .rw[cP5];have :f (n,k) a=pure (ForInStep.yield a):=by
     subst E;dsimp only;rw[cW6 F,pure_bind]
    rw[this,pure_bind];exact e
   .rcases cI4 H with z|z
    .cases z;exact absurd rfl F
    .exact M x z
theorem aX5(h:∀x,(x,NameKind.free)∈s.names->∃c,E.cells.lookup x=some c):
  ∃C:List (Str×Addr),closureFor s E=pure C/\(∀x c,C.lookup x=some c->E.cells.lookup x=some c)/\∀x,(x,NameKind.free)∈s.names->∃c,C.lookup x=some c:=by
 obtain⟨C,e,Q,H,_⟩:=ae6 (env:=E) _ rfl s.names [] h (λx c z=>by cases z);refine⟨C,?_,Q,H⟩;unfold closureFor;have :∀(g F:Str×NameKind->List (Str×Addr)->Sem (ForInStep (List (Str×Addr)))),g=F->forIn s.names [] g=forIn s.names [] F:=λg F z=>by rw[z]
 refine Eq.trans (congrArg (λm:Sem (List (Str×Addr))=>m>>=λB=>pure B) (this _ _ ?_)) ((congrArg (λm:Sem (List (Str×Addr))=>m>>=λB=>pure B) e).trans (by rw[pure_bind]))
 funext x B
 obtain⟨n,k⟩:=x;dsimp only;split<;>simp
theorem cg6(k:X.stack=X.env::X.aE)(r:X.env.frame=some X.env.locals)(x:X.ex=[])
  (j:X.xe=λe s=>wpAny (model X.prog X.w) X.A (leaving X.env e) (λ_ W=>CX1 X.prog X.w X.aE X.Ho X.sd E e W) (λd W=>CX1 X.prog X.w X.aE X.Ho X.sd E d W) s):
  aa8 (CX1 X.prog X.w) X E:=λaA wW H aa e s I h=>by
 obtain⟨a,C,R,B,rfl,T,q⟩:=h;have g:∀b o,X.sd.heap.get? b=some o->b≠X.env.locals:=λb o z=>cV0 (cU2 (cL4 z) I.ok.above)
 rw[j];rw[k]at T;refine bf5 (v:=X.env) (a:=X.aE) (L:=X.env.locals) (by rw[<-k];exact I.ok.frames) r T.fly λf F u=> ?_
 have T2:ai4 X.prog X.w (X.env::X.aE) H aa B a C .none R s:=T;have l:∀b,R b≠none->∃o,s.heap.get? b=some o/\f.get? b=some o:=λb q=>by
  obtain⟨o,z⟩:=T.trk b q;exact⟨o,T.fly.st b o z,F.st b o z⟩
 have c:∀b,b∉frs X.aE->(∃o,X.sd.heap.get? b=some o)->b∉frs (X.env::X.aE):=λb N ⟨o,z⟩ y=>by
  rcases cI4 (show b∈X.env.locals::frs X.aE by simpa[frs,r]using y)with y|y
  .exact g b o z y
  .exact N y
 have same:∀b o,s.heap.get? b=some o->(∃v,X.sd.heap.get? b=some v)->b∉frs X.aE->B.get? b=some o:=λb o q v N=>by
  obtain⟨v,M⟩:=v;obtain⟨v2,i⟩:=I.aD.there b v M (by rw[x];simp);exact T.old b o q ⟨v2,i⟩ (c b N ⟨v,M⟩)
 refine⟨a,C,R,B,rfl,⟨T.os.trans I.os,T.bare,⟨λb o z n N S=> ?_,λb o z n N S=> ?_,λb o z n S=> ?_,λb o z S=> ?_,λb P z=>T.un.tups b P (I.aD.tups b P z),λb o P z=>T.un.frzs b o P (I.aD.frzs b o P z),λb ps z=> ?_⟩,aH2 T.hok l,T.ne,F,λb o z v N=> ?_,T.trk⟩,q⟩
 .have Z:=I.aD.keep b o z n N (by rw[x];simp);have n1:=I.aD.free b o z n (by rw[x];simp);have J:=T.un.keep b o Z n1 (c b N ⟨o,z⟩) ∅;exact F.st b o (same b o J ⟨o,z⟩ N)
 .obtain⟨sl,Z⟩:=I.aD.slot b o z n N (by rw[x];simp);have n1:=I.aD.free b o z n (by rw[x];simp);obtain⟨af,J⟩:=T.un.any Z n1 ∅;have p:∀Y,o.data≠.fields Y:=λY y=>by
   obtain⟨_,O,L,Q⟩:=T.fly.fr.mem (show b∈(X.env::X.aE).filterMap (·.frame) by simp[r];exact .inr (by simpa[frs]using N));rw[J]at L;cases L;exact Q Y y
  obtain⟨ae,L⟩:=u b _ J p;exact⟨ae,L⟩
 .obtain⟨t,Z⟩:=I.aD.there b o z (by rw[x];simp);exact T.un.free b t Z (I.aD.free b o z n (by rw[x];simp)) ∅
 .obtain⟨U,Z⟩:=I.aD.there b o z (by rw[x];simp);obtain⟨O,J⟩:=T.un.there b U Z ∅;by_cases N:b∈frs X.aE
  .obtain⟨_,w,L,Q⟩:=T.fly.fr.mem (show b∈(X.env::X.aE).filterMap (·.frame) by simp[r];exact .inr (by simpa[frs]using N));obtain⟨sl,z5⟩:=u b w L Q;exact⟨_,z5⟩
  .exact⟨O,F.st b O (same b O J ⟨o,z⟩ N)⟩
 .obtain⟨m1,Z⟩:=I.aD.tbls b ps z;obtain⟨m2,J⟩:=T.un.tbls b _ Z;exact⟨m1++m2,by rw[J,Array.append_assoc]⟩
 .obtain⟨v,M⟩:=v;obtain⟨U,Z⟩:=I.aD.there b v M (by rw[x];simp);obtain⟨O,J⟩:=T.un.there b U Z ∅;have L:=same b O J ⟨v,M⟩ N;have Q:=F.st b O L;rw[Q]at z;cases z;exact L
noncomputable def aH0(X:Cx)(E:XK)(qual:Str)(scope:Scope)(fa c':Addr)(cl:List (Str×Addr))(N:List Str)(s:Shared)(H:Hp):Cx where
 prog:=X.prog
 w:=X.w
 K:=X.K
 mg:=X.mg
 aD:=X.aD
 A:=X.A.deeper (W.envX qual scope s.sz fa (.ref c') cl)
 N:=N
 sd:=s
 Ho:=H
 env:=W.envX qual scope s.sz fa (.ref c') cl
 aE:=X.stack
 stack:=W.envX qual scope s.sz fa (.ref c') cl::X.stack
 ex:=[]
 fn:=λ_=>false
 calm:=true
 pn:=[]
 xe:=λe s'=>wpAny (model X.prog X.w) (X.A.deeper (W.envX qual scope s.sz fa (.ref c') cl)) (leaving (W.envX qual scope s.sz fa (.ref c') cl) e) (λ_ s''=>CX1 X.prog X.w X.stack H s E e s'') (λe' s''=>CX1 X.prog X.w X.stack H s E e' s'') s'
structure cv2(scope:Scope)(cl:List (Str×Addr))(N:List Str)(vs:List V)(H:Hp)(h:Heap)(m:Str->Option Value):Prop where
 inj:∀x y c,cl.lookup x=some c->cl.lookup y=some c->x=y
 has:∀x,(scope.names.lookup x=some .cell\/scope.names.lookup x=some .free)->∃c,cl.lookup x=some c
 cell:∀x c,cl.lookup x=some c->(∃v,h.IsCell c v)/\H c=none
 val:∀(i:Nat) (x:Str) (v:V),N[i]?=some x->vs[i]?=some v->∃u,C9 v u/\(scope.names.lookup x=some .local/\m x=some u\/scope.names.lookup x=some .free/\∃c,cl.lookup x=some c/\h.IsCell c (some u))
 len:vs.length=N.length
theorem bB1:aa8 (CX1 X.prog X.w) (aH0 X E Q S f c C N s H) E:=
 cg6 rfl rfl rfl rfl
section
theorem ci0(I:Inv X t wW H s)(d:X.A.handled=none)(C:cv2 S l N F H s.heap m)(O:S.kind=.function)(P:L.Ns s.sz m)(B:∀b o,s.heap.get? b=some o->L.get? b=some o):
  Inv (aH0 X E r S f M l N s H) [] (F.map some) H {s with heap:=L,toks:=x}:=by
 have n:∀b:Addr,b∉(aH0 X E r S f M l N s H).ex:=λb z=>absurd (show b∈([]:List Addr)from z) ∅
 have e:=I.env0;refine⟨⟨e.mod,O,rfl,rfl,cT8 _,C.inj,C.has,λy c z=>absurd (show false=true from z) ∅,λ_=>d,Around.frames_deeper e.frames,.inr ⟨rfl,rfl⟩,λb z=>absurd z (n b),e.bs,e.bsz,λb _ _=>n b,λb z=>absurd z (n b),e.funs,e.frf⟩,
  rfl,e.bare,Un.kept B,⟨_,P,λi y v g Q w=> ?_⟩,λy c h=> ?_,e.hok.fresh (cT8 _),λy c h=>(C.cell y c h).2,λp R=>absurd (show p∈([]:List (Addr×Obj))from R) ∅,e.hok.kept B,?_⟩
 .have j:F[i]?=some v:=by
   rw[cQ0]at Q;cases z:F[i]? with
   |none=>rw[z]at Q;cases Q
   |some a=>rw[z]at Q;cases Q;rfl
  obtain⟨u,W,k⟩:=C.val i y v g j;refine⟨u,W,?_⟩;rcases k with k|⟨Y,c,U,o,Z,J⟩
  .exact .inl k
  .exact .inr ⟨.inr Y,c,U,o,B _ _ Z,J⟩
 .obtain⟨⟨v,o,Z,J⟩,_⟩:=C.cell y c h;exact⟨v,o,B _ _ Z,J⟩
 .rw[cQ8];exact C.len
theorem bf9(I:Inv X a w H s)(t:X.A.handled=none)(u:X.A.depth<recursionLimit)
  (ho:s.heap.get? f=some (W.kla_obj "<lambda>" l ah y S F pm c v)) (i:s.heap.CodeRec (.ref c) l)
  (d:bindArgs (W.kla_fn "<lambda>" l ah y S F pm (.ref c) v) ⟨as,[]⟩=pure L) (Z:∀x∈L,S.names.lookup x.1=some .local) (C:cv2 S F N vs H s.heap λx=>L.reverse.lookup x)
  (k:S.kind=.function) (p:S.isCoroutine=false) (aa:S.isGenerator=false) (n:∀x∈S.names,x.2≠.cell)
  (g:PE (aH0 X E l S f c F N s H) y ai) (ht:ai (vs.map some) H Q) (hx:aa8 (CX1 X.prog X.w) X E):
  wpAny (model X.prog X.w) X.A (call (.ref f) as) (EP X a w Q) X.xe s:=by
 have O:=I.env0;have lim:s.heap.NoLimit:=O.mod.nolimit.keeps λb o e=>(O.bs b o e).1
 have ag:codeAny (model X.prog X.w) X.A (.call (.ref f) ⟨as,[]⟩) (CR (CX1 X.prog X.w) X.stack X.prog X.w H s Q E) s:=by
  refine W.kla_callFunE u ho rfl p aa rfl i ?_;rw[d];refine cX3 (wpAny_newFunctionEnv n Z (λY af P=>⟨lim.fresh _ P,?_⟩) k);show codeAny _ _ (.expr y (W.envX l S s.sz f (.ref c) F)) _ _;have ae:∀b o,s.heap.get? b=some o->Y.get? b=some o:=λb o e=>P.extBut b o (cV0 (cL4 e)) (cL0 _ e)
  have J:=ci0 (E:=E) (r:=l) (f:=f) (M:=c) (x:=s.toks+L.length) I t C k af ae;refine W.kla_codeExpr (cX1 (g [] _ _ H Q J ht) (λak M ⟨v',R,j,r,q⟩=> ?_) λe M h=> ?_)
  .exact⟨v',R,j.os,j.bare,j.aD,j.hok,r,q⟩
  .exact cX1 h (λ_ _ z=>z) λ_ _ z=>z
 refine wpAny_call (codeAny_mono ag λr M B=> ?_);cases r with
 |error e=>exact hx a w H s e M I B
 |ok U=>
  cases U with
  |ret aj=>exact I.after B
  |next=>exact False.elim B
  |brk=>exact False.elim B
  |cont=>exact False.elim B
end
section
theorem ci3(I:Inv X Y W H s)(f:X.N.Nodup)(P:X.N[i]?=some x)(r:X.env.scope.names.lookup x=some .local)
  (h:∀U,Inv X Y (W.set i none) H U->Q () U):wpAny ae A (do bindName X.env x .none;unbindBehindTheSuite X.env x ag) Q aa s:=by
 obtain⟨m,R,t⟩:=id I.loc;have g:(X.env.scope.kind==.class||(X.env.scope.kind==.module&&X.env.locals !=X.env.globals))=false:=by rw[I.ok.kind];rfl
 have l:i<W.length:=by rw[I.len];exact(List.getElem?_eq_some_iff.mp P).1
 have N:=I.cne;refine wpAny_nameGoes_keeps r R g λO ah u B=> ?_
 obtain⟨oL,_,_,af,_⟩:=id R;have a:∀b o,X.sd.heap.get? b=some o->O.get? b=s.heap.get? b:=λb o e=>B.2 b (cV0 (cU2 (cL4 e) I.ok.above))
 have tr:HOk X.prog X.w H O:=λb ob e=>by
  refine(I.hok b ob e).stay (λc w J q=>(B.2 c ?_).trans q) (λ_ q=>q) λ_ _ q=>q
  rintro rfl;rcases J with rfl|J
  .rw[I.free]at e;cases e
  .rw[I.free]at J;cases J
 refine h _ ⟨I.ok,I.os,I.bare,⟨λb o e n L C=> ?_,λb o e n L C=> ?_,I.aD.free,λb o e C=> ?_,I.aD.tups,I.aD.frzs,I.aD.tbls⟩,⟨_,u,λj y v' E F Z=> ?_⟩,λy c e=> ?_,I.free,I.freeC,λp v=> ?_,tr,by simpa using I.len⟩
 .exact(a b o e).trans (I.aD.keep b o e n L C)
 .obtain⟨sl,E⟩:=I.aD.slot b o e n L C;exact⟨sl,(a b o e).trans E⟩
 .obtain⟨o',E⟩:=I.aD.there b o e C;exact⟨o',(a b o e).trans E⟩
 .by_cases M:j=i
  .subst M;rw[cQ4 l]at F;cases F
  .rw[cQ3 (Ne.symm M)]at F;obtain⟨u',r',q⟩:=t j y v' E F Z;refine⟨u',r',?_⟩;rcases q with⟨k,e⟩|⟨k,c,e,z⟩
   .refine .inl ⟨k,?_⟩;have :y≠x:=λe=>M (aS0 f E (e▸P))
    simp[this,e]
   .exact .inr ⟨k,c,e,z.sameBut B (N y c e)⟩
 .obtain⟨w,z⟩:=I.cell y c e;exact⟨w,z.sameBut B (N y c e)⟩
 .obtain⟨e,n,S,nf,d⟩:=I.pin p v;exact⟨(B.2 p.1 S).trans e,n,S,nf,d⟩
noncomputable abbrev ax8(X:Cx)(e:Value)(xe:Value->Shared->Prop):Cx:={X with A:=X.A.mark (some e),calm:=false,xe:=xe}
theorem Inv.mark(I:Inv X a w h S)(e:Value)(B:Value->Shared->Prop):Inv (ax8 X e B) a w h S:=
 ⟨⟨I.ok.mod,I.ok.kind,I.ok.glob,I.ok.blt,I.ok.above,I.ok.inj,I.ok.has,I.ok.cab,λz=>absurd (show false=true from z) ∅,I.ok.frames,I.ok.stk,I.ok.exf,I.ok.bs,I.ok.bsz,I.ok.noex,I.ok.exfs,I.ok.funs,I.ok.frf⟩,I.os,I.bare,I.aD,I.loc,I.cell,I.free,I.freeC,I.pin,I.hok,I.len⟩
theorem Inv.unmark(o:X.Ok)(I:Inv (ax8 X e B) a w h S):Inv X a w h S:=
 ⟨o,I.os,I.bare,I.aD,I.loc,I.cell,I.free,I.freeC,I.pin,I.hok,I.len⟩
end
noncomputable def cH6(X:Cx)(f:Addr)(dsp:Hp->VK->XK->Prop):Prop:=∀x a s w H Q E,Inv (X.wish x) a w H s->aa8 (CX1 X.prog X.w) (X.wish x) E->dsp H Q E->W.FnAt f s.heap/\
 wpAny (model X.prog X.w) X.A (call (.ref f) []) (EP (X.wish x) a w Q) x s
noncomputable def bY7(P:Program)(w:World)(K:cW0)(M:Str->Option Value)(B:Heap)(f:Addr)(d:Addr->Str->Prop):Prop:=
 ∀(A:Around) (a:List Env) (s:Shared) (H G:Hp) (e D:Addr) (c:Str) (o:Obj) (Q:VK) (E:XK),A.handled=some (.ref e)->A.depth<recursionLimit->ar2 P w K M B A a s H->s.heap.get? e=some o->o.cls=.ref D->o.dict=none->W.notCls o=true->
  aB9 s.heap e->H e=none->e∉frs a->Sub G H->d D c->(∀v g h,Ext G H g h->Rep K g (.str c) v->Q v h)->codeAny (model P w) A (.call (.ref f) ⟨[.ref e],[]⟩) (CR CX0 a P w H s Q E) s
section
noncomputable def cw0(K:cW0)(i:Nat)(f:Addr)(dsp:Hp->VK->XK->Prop)(W:Addr->Str->Prop):TS:=λD w H=>w[i]?=some (some (.ref f))/\
 dsp H D.rt (λC _ h=>∃d c,C=.ref d/\W d c/\∃g,Sub g h/\∀v B E,Ext g h B E->Rep K B (.str c) v->D.rt v E)
theorem bQ9{ai:Shared}{Q:L2.St}{H:Hp}{D:ao9}{J n wn M:Str}{i0 i1:Nat}{Y W ae:Addr}{dsp:Hp->VK->XK->Prop}{u:Addr->Str->Prop}{p1 p2 p3 p4 p5 r p7 p8 p9 aS:Pos}(k:X.stack=X.env::X.aE)(af:X.env.frame=some X.env.locals)(aC:X.A.depth<recursionLimit)
  (hN:X.N.Nodup) (h0:X.N[i0]?=some J) (l:X.N[i1]?=some n) (aI:X.env.scope.names.lookup J=some .local) (j:X.env.scope.names.lookup n=some .local)
  (aG:Gl X wn) (aL:X.mg wn=some (.ref W)) (aF:Gl X M) (aK:X.mg M=some (.ref ae)) (aJ:PySem.W.keepIn X.K (.ref ae)=true) (aU:bY7 X.prog X.w X.K X.mg X.aD ae u)
  (aD:∀D c,u D c->PySem.W.exmOne X.K (.ref D) (.ref W)=some true) (av:cH6 X Y dsp)
  (aw:NoD J) (ax:(J==("__classdict__":Str))=false) (ay:NoD wn) (az:NoD M)
  (aA:NoD n) (aB:(n==("__classdict__":Str))=false) (hs:starEach [.Name n r] X.env=(false,eval (.Name n r) X.env)::starEach [] X.env):
  Inv X [] Q H ai->cw0 X.K i0 Y dsp u D Q H->wpAny (model X.prog X.w) X.A (execs [.Try [.Return (some (.Call (.Name J p1) [] [] p2)) p3] [.ExceptHandler (some (.Name wn p4)) (some n) [.Return (some (.Call (.Name M p5) [.Name n r] [] p7)) p8] p9] [] [] aS] X.env) (SP X [] D) X.xe ai:=by
 intro ao ⟨aN,F⟩;have ok:=ao.ok;refine wpAny_execs_cons (thn (Q:=SP X [] D) ?_ λf s q=>by cases f with |next=>exact wpAny_execs_nil q|ret v=>exact q|brk=>exact q|cont=>exact q);refine wpAny_Try_except ?_;generalize aO:(λ(e:Value) (se:Shared)=>wpAny (model X.prog X.w) X.A (noteFrame e X.env) (λ_ sf=>wpAny (model X.prog X.w) X.A (setFlight e none) (λ_ sw=>wpAny (model X.prog X.w) X.A (handleBy e X.env [.ExceptHandler (some (.Name wn p4)) (some n) [.Return (some (.Call (.Name M p5) [.Name n r] [] p7)) p8] p9]) (SP X [] D) X.xe sw) X.xe sf) X.xe se)=x;have aM:aa8 (CX1 X.prog X.w) (X.wish x) (λak _ h=>∃d c,ak=.ref d/\u d c/\∃g,Sub g h/\∀v G2 R,Ext g h G2 R->Rep X.K G2 (.str c) v->D.rt v R):=by
  intro aA' w C s e S i ⟨E,ak,h,aa,he,T,d,c,hC,au,g,sG,q⟩;subst he hC;show x _ _;rw[<-aO];dsimp only;have T':ai4 X.prog X.w (X.env::X.aE) C s aa E (.ref d) .none h S:=by rw[<-k];exact T
  have aV:=ok;have hA:X.A.frames=some (X.env::X.aE):=by rw[<-k];exact ok.frames
  refine bp5 (v:=X.env) (N:=X.aE) (L:=X.env.locals) hA af T'.fly λh1 F1 u1=> ?_
  refine aH6 (g:=none) (s:={S with heap:=h1}) F1 λL F2 u2=> ?_
  have T2:=T'.turn F2 (u1.trans u2);have I2:Inv X [] w h {S with heap:=L}:=((by rw[k];exact T2:ai4 X.prog X.w X.stack C s aa E (.ref d) .none h {S with heap:=L}).inv i.unwish).pins_of (λah p=>absurd p ∅);refine wpAny_handleBy_cons (codeAny_handlers_test ?_) (by intro z;cases z);have IM:=Inv.mark I2 (.ref E) (λ_ _=>False);refine aq3 (X:=ax8 X (.ref E) λ_ _=>False) IM aG aL ?_ ay;obtain⟨O,P,Tb,oT,ts,Z,⟨z2,zd⟩,B,z4,z5,z6⟩:=F2.ob;have LT:PySem.W.Looks (model X.prog X.w) L (typeOf (.ref E)) (.ref d):=(⟨Z,z2,by unfold PySem.W.notCls;rw[B],by rw[zd];trivial⟩:PySem.W.InstAt L E O d none).type;refine(PySem.W.exm_one (M:=model X.prog X.w) (show X.K.In L from I2.kIn) LT (aD d c au)).here ?_
  (refine codeAny_handlers_suite_as ?_);refine aH6 (g:=none) (s:={S with heap:=L}) F2 λb F3 u3=> ?_
  have T3:=T2.turn F3 u3;have U:Inv X [] w h {S with heap:=b}:=((by rw[k];exact T3:ai4 X.prog X.w X.stack C s aa E (.ref d) .none h {S with heap:=b}).inv i.unwish).pins_of (λah p=>absurd p ∅);obtain⟨O,P,Tb,oT,ts,Z,⟨z2,zd⟩,B,z4,z5,z6⟩:=F3.ob;refine aJ6 U hN l (.inl j) (aq:=.ref E) rfl (λs4 I4 ⟨a,same,ha⟩=> ?_) (.inr j);have aQ:E≠a:=λz=>by
   rcases ha with y|y
   .obtain⟨m,⟨o,es,ep,e,N,_⟩,_⟩:=U.loc;rw[<-y,<-z]at e;rw[show b.get? E=some o from e]at Z;cases Z;rw[B]at N;cases N
   .obtain⟨v,o,e,N⟩:=U.cell _ _ y;rw[<-z]at e;rw[show b.get? E=some o from e]at Z;cases Z;rw[B]at N;cases N
  have e4:s4.heap.get? E=some O:=(same.2 E aQ).trans Z;have ag:E∉frs X.stack:=λz=>by
   obtain⟨_,o,y1,y2⟩:=F3.fr.mem (show E∈(X.env::X.aE).filterMap (·.frame) by rw[<-k];exact z);rw[y1]at Z;cases Z;exact y2 P B
  have aR:E≠X.env.locals:=λz=>ag (by rw[k];show E∈(X.env::X.aE).filterMap (·.frame);simp[af,z])
  have aq:Inv (ax8 X (.ref E) λ_ _=>False) [(E,O)] _ h s4:=(Inv.mark I4 (.ref E) (λ_ _=>False)).pins_of λah p=>by
   rw[cS7]at p;subst p;exact⟨e4,T3.ne,aR,λz=>ag (by rw[k];show E∈(X.env::X.aE).filterMap (·.frame);rw[cP1,af];exact cS1 _ z),λv z=>by rw[B]at z;cases z⟩
  refine wpAny_execs_cons (wpAny_Return_some (cX1 (E:=λ_ _=>False) (Q:=EP (ax8 X (.ref E) λ_ _=>False) [(E,O)] (w.set i1 (some (.ref E))) D.rt) ?_ (λaj s5 ⟨v,H5,I,r5,q5⟩=> ?_) (λ_ _ z=>z.elim)))
  .refine wpAny_Call_Name_kw (aq3 (X:=ax8 X (.ref E) λ_ _=>False) aq aF aK ?_ az);have aH:i1<w.length:=by rw[U.len];exact(List.getElem?_eq_some_iff.mp l).1
   refine PySem.W.callWith_K (h₀:=X.aD) ok.mod.kin aJ (thn (V0 (X:=ax8 X (.ref E) λ_ _=>False) (as9 l (.inl j) aA aB) ad3 hs p7 [(E,O)] s4 _ h (λP R=>P=[.ref E]/\R=h) aq ⟨.ref E,by rw[cQ4 aH],rfl,rfl⟩) λus s5 ⟨aW,H5,I,r5,ev,eH⟩=>⟨I.kIn,?_⟩) hs;subst ev eH;obtain⟨aj,eu,ru⟩:=ar3 r5;cases ru;subst eu;obtain⟨e5,n5,_⟩:=I.pin (E,O) ∅;refine wpAny_call (codeAny_mono (aU (X.A.mark (some (.ref E))) X.stack s5 H5 g E d c O D.rt E0 rfl aC I.env0 e5 z2 zd (by unfold PySem.W.notCls;rw[B]) ⟨O,P,e5,B,z5⟩ n5 ag sG au q) λaT s' F=> ?_);cases aT with
   |error e=>exact False.elim F
   |ok fl=>
    cases fl with
    |ret aj=>exact I.after F
    |next=>exact False.elim F
    |brk=>exact False.elim F
    |cont=>exact False.elim F
  .exact ci3 ((Inv.unmark ok I).pins_of (aA':=[]) λah p=>absurd p ∅) hN l j λs' I'=>⟨v,_,H5,I',r5,q5⟩
 have aP:PSs (X.wish x) [.Return (some (.Call (.Name J p1) [] [] p2)) p3] (λd w h=>d.rt=D.rt/\w=Q/\h=H):=by
  refine am4 (aV2 (h:=λw h ar=>ar=D.rt/\w=Q/\h=H) ?_);intro aA' s' w h ar I' ⟨e1,e2,e3⟩;subst e1 e2 e3;refine wpAny_Call_Name_kw ?_;refine thn (as9 (X:=X.wish x) h0 (.inl aI) aw ax aA' s' w h (λv C=>v=.ref Y/\C=h) I' ⟨.ref Y,aN,rfl,rfl⟩) λaj s ⟨v,C,i,r1,ev,eH⟩=> ?_
  subst ev eH;cases r1;obtain⟨aE,hc⟩:=av x aA' s w C D.rt _ i aM F;exact PySem.W.callWith_F0 aE hc
 refine cX1 (aP [] ai Q H D (ao.wish x) ⟨rfl,rfl,rfl⟩) (λf s q=> ?_) (λe s z=>z);have t:=q.unwish;cases f with
 |next=>exact wpAny_execs_nil t
 |ret v=>exact t
 |brk=>exact t
 |cont=>exact t
end
section
theorem Inv.table(I:Inv X r af h S)(B:h P=some (.tbl L))(Z:S.sz<=C)(J:∀b o,b≠P->S.heap.get? b=some o->Q.get? b=some o)
  (d:Q.CodeRec (.ref C) q) (f:Q.get? P=some {cls:=.none,data:=.fields (L++M)}):
  Inv X r af (upd (upd h C (aa7 C q)) P (.tbl (L++M))) {S with heap:=Q,toks:=t'}:=by
 have R:h C=none:=I.hok.fresh Z;have ag:C≠P:=λz=>by rw[z,B]at R;cases R
 have ae:∀b o,S.heap.get? b=some o->b≠C:=λb o e z=>by rw[z]at e;exact absurd (cL4 e) (Nat.not_lt.mpr Z)
 have U:∀b,h b=none->b≠P:=λb e z=>by rw[z,B]at e;cases e
 have get:∀b,b≠P->b≠C->upd (upd h C (aa7 C q)) P (.tbl (L++M)) b=h b:=λb F Y=>by rw[n6 F,n6 Y]
 have g:∀b E,h b=some E->b≠P->upd (upd h C (aa7 C q)) P (.tbl (L++M)) b=some E:=λb E e F=>by
  rw[get b F (C5 e R)];exact e
 refine I.un ⟨λb o e n _ _=>J b o (U b n) e,λb o e n _ _=>⟨o.slots,J b o (U b n) e⟩,λb o e n _=> ?_,λb o e _=> ?_,λb xs e=> ?_,λb o j e=> ?_,λb ah e=> ?_⟩ λa o e=> ?_
 .rw[get b (U b n) (ae b o e)];exact n
 .by_cases z:b=P
  .rw[z];exact⟨_,f⟩
  .exact⟨o,J b o z e⟩
 .exact g b _ e λz=>by rw[z,B]at e;cases e
 .exact g b _ e λz=>by rw[z,B]at e;cases e
 .by_cases z:b=P
  .subst z;rw[B]at e;cases e;exact⟨M,t8⟩
  .exact⟨#[],by rw[g b _ e z,Array.append_empty]⟩
 .by_cases z:a=P
  .subst z;rw[t8]at e;cases e;exact f
  .rw[n6 z]at e;by_cases l:a=C
   .subst l;rw[t8]at e;cases e;refine⟨d,?_,λF Y E aa=> ?_⟩
    .obtain⟨c,o,k,t,N,O,_⟩:=d;cases N;exact⟨o,O⟩
    .obtain⟨c,o,k,t,N,O,e3⟩:=E;cases N;exact⟨_,o,k,t,rfl,aa o O,e3⟩
   .rw[n6 l]at e;refine(I.hok a o e).stay (λb j hb y=>J b j (λw=> ?_) y) (λb y=>g b _ y λw=>by rw[w,B]at y;cases y) λb xs y=>g b _ y λw=>by rw[w,B]at y;cases y
    rcases hb with W|W
    .exact z (W.symm.trans w)
    .rw[w,B]at W;cases W
def BM(M:Str->Option Value)(a:Heap):Prop:=∃b o,M "__builtins__"=some (.ref b)/\b≠builtinsNs/\b≠mainGlobals/\a.get? b=some o/\o.cls=.type "module"/\o.dict=some builtinsNs/\o.data=.plain
theorem bo6(I:Inv X aA wW H s)(aq:BM X.mg X.aD)(hT:Tbs H)(hp:(P,q)∈ag4)(hq:X.env.qual++"<lambda>"=q)
  (x:X.env.code=.ref c) (ay:W.codeHdIn X.K c P=true) (w:closureFor Y X.env=pure Z) (az:defaultsOf R X.env=([],[]))
  (ai:∀f B pm v F U,Inv X aA wW F U->Tbs F->T8 H F->U.heap.get? f=some (W.kla_obj "<lambda>" q R y Y Z pm B v)->F B=some (aa7 B q)->F f=none->s.sz<=f->
   (∀b o,s.heap.get? b=some o->H b=none->U.heap.get? b=some o/\F b=none)->(∀b o,H b=some o->aj4 o=true->F b=some o)->(∀b,b∈frs X.stack->f≠b)->au (.ref f) U):
  wpAny (model X.prog X.w) A (eval (.Lambda R y Y O) X.env) au aG s:=by
 obtain⟨S,h,r⟩:=hT (P,q) hp;have d:s.heap.get? P=some (W.tabObj S):=I.hok P _ h;have aa:s.heap.Ns mainGlobals X.mg:=I.mod.glob.keeps I.bk;have aw:H mainGlobals=none:=by
  obtain⟨o,es,ep,e,_⟩:=I.mod.glob;exact(I.bs _ _ e).2
 have aB:mainGlobals≠P:=λz=>by rw[<-z]at h;dsimp only at h;rw[aw]at h;cases h
 obtain⟨i,ob,b1,b2,b3,b4,b5⟩:=aq;have ax:i≠P:=λz=>by
  have :=(I.bs _ _ b4).2;rw[z]at this;dsimp only at h;rw[this]at h;cases h
 have j:s.heap.BuiltinsAt X.mg P:=⟨i,ob,b1,b2,b3,ax,I.bk _ _ b4,b5⟩
 have C:=W.codeHd_of_K I.kIn ay;have l:∀b∈frs X.stack,b<s.sz:=λb N=>by
  obtain⟨_,o,e,_⟩:=I.stack.mem N;exact cL4 e
 refine W.kla_eval az ?_;rw[hq];cases g:codeAmong O S.toList with
 |none=>
  refine W.kla_makeFunction w I.ok.glob aa x C d r.triples g aB j λB v L k hx Q af ah aC=> ?_
  have ar:=Inv.table (t':=k) (Q:=L.push (W.kla_obj "<lambda>" q R y Y Z ((X.mg "__name__").getD .none) B v)) I h Q (λb o n e=>cL0 _ (hx b o n e)) (ah.push _) (cL0 _ aC);have J:H B=none:=I.hok.fresh Q;have ak:B≠P:=λz=>by rw[z]at J;dsimp only at h;rw[h]at J;cases J
  have aD:∀b o,s.heap.get? b=some o->b≠B:=λb o e z=>by rw[z]at e;exact absurd (cL4 e) (Nat.not_lt.mpr Q)
  have nP:∀b,H b=none->b≠P:=λb e z=>by rw[z]at e;dsimp only at h;rw[h]at e;cases e
  have E:s.sz<=L.objs.size:=Nat.le_of_lt (Nat.lt_of_le_of_lt Q af);have t:∀b o,H b=some o->aj4 o=true->upd (upd H B (aa7 B q)) P (.tbl (S++ #[rawInt O.line,rawInt O.col,.ref B])) b=some o:=λb o e n=>by
   rw[n6 (λz=>by rw[z]at e;dsimp only at h;rw[h]at e;cases e;cases n),n6 (C5 e J)];exact e
  refine ai _ B _ v _ _ ar (λp ag=> ?_) (λb o e=> ?_) (cL1 _ rfl) (by rw[n6 ak,t8]) ?_ E (λb o e n=>⟨cL0 _ (hx b o (nP b n) e),?_⟩) t λb N=>cU9 (cU2 (l b N) E)
  .obtain⟨aE,M,ao⟩:=hT p ag;have aj:∀a,H a=some (aa7 a p.2)->upd (upd H B (aa7 B q)) P (.tbl (S++ #[rawInt O.line,rawInt O.col,.ref B])) a=some (aa7 a p.2):=λa e=>t a _ e rfl
   by_cases z:p.1=P
   .rw[z];have pq:p.2=q:=cd6 p ag (P,q) hp z;rw[z]at M;dsimp only at h;rw[h]at M;cases M;refine⟨_,t8,?_⟩;rw[Array.toList_append];refine V8.more ?_ (ao.mono aj);rw[pq,n6 ak,t8]
   .refine⟨aE,?_,ao.mono aj⟩;rw[n6 z,n6 (C5 M J)];exact M
  .by_cases n:aj4 o=true
   .exact⟨o,t b o e n,λ_=>rfl⟩
   .by_cases z:b=P
    .rw[z];exact⟨_,t8,λaF=>absurd aF n⟩
    .exact⟨o,by rw[n6 z,n6 (C5 e J)];exact e,λ_=>rfl⟩
  .rw[n6 (λz=>by have z':L.objs.size=P:=z;exact absurd (cL4 d) (Nat.not_lt.mpr (by rw[<-z'];exact E))),n6 (cU9 af)];exact I.hok.fresh E
  .rw[n6 (nP b n),n6 (aD b o e)];exact n
 |some cv=>
  obtain⟨B,av,u⟩:=r.hit g;subst av;obtain⟨ah,_⟩:=I.hok B _ u;refine W.kla_makeFunctionHit w I.ok.glob aa x C d r.triples g j λv L k hk E=> ?_
  have ae:∀b o,s.heap.get? b=some o->(L.push (W.kla_obj "<lambda>" q R y Y Z ((X.mg "__name__").getD .none) B v)).get? b=some o:=λb o e=>cL0 _ (hk b o e)
  exact ai _ B _ v H _ (I.kept (t':=k) ae) hT (T8.refl _) (cL1 _ rfl) u (I.hok.fresh E) E (λb o e n=>⟨ae b o e,n⟩) (λb o e _=>e) λb N=>cU9 (cU2 (l b N) E)
end
noncomputable def aW5(sc:Scope)(N:List Str)(s:Scope)(n:List Str)(a:List Nat):Bool:=
 (match s.kind with |.function=>true|_=>false)&& !s.isCoroutine&& !s.isGenerator&&
 s.names.all (λy=>y.2 !=.cell&&(y.2 !=.free||sc.names.lookup y.1==some .cell))&&n.length==a.length&&
 (a.zip n).all (λy=>N[y.1]?==some y.2&&sc.names.lookup y.2==some .cell&&s.names.lookup y.2==some .free)
structure cc6(sc:Scope)(N:List Str)(scope:Scope)(NL:List Str)(aC:List Nat):Prop where
 kind:scope.kind=.function
 co:scope.isCoroutine=false
 gen:scope.isGenerator=false
 nocell:∀x∈scope.names,x.2≠.cell
 free:∀x,(x,NameKind.free)∈scope.names->sc.names.lookup x=some .cell
 len:NL.length=aC.length
 cap:∀(i:Nat) (j:Nat) (x:Str),aC[i]?=some j->NL[i]?=some x->N[j]?=some x/\sc.names.lookup x=some .cell/\scope.names.lookup x=some .free
theorem bL7(h:aW5 s N S n a=true):cc6 s N S n a:=by
 unfold aW5 at h
 (erw[cK2]at h);obtain⟨⟨⟨⟨⟨B,F⟩,I⟩,C⟩,J⟩,L⟩:=h
 refine⟨?_,by simpa using F,by simpa using I,λx H=> ?_,λx H=> ?_,by simpa using J,λi j x e E=> ?_⟩
 .split at B
  .assumption
  .cases B
 .have :=List.all_eq_true.mp C x H;erw[cK2]at this;simpa using this.1
 .have :=List.all_eq_true.mp C _ H;erw[cK2,cK8]at this;rcases this.2 with z|z
  .simp at z
  .simpa using z
 .have M:(j,x)∈a.zip n:=by
   have :(a.zip n)[i]?=some (j,x):=by
    rw[cQ5];exact⟨e,E⟩
   exact cS4 this
  have :=List.all_eq_true.mp L _ M;erw[cK2,beq_iff_eq]at this;exact⟨this.1.1,this.1.2,this.2⟩
theorem bg3{K:cW0}{G:Hp}{W:L2.St}{Q:A3}(H:K5 K G W Q):∀{a:List Nat}{X:List T},gs (a.map D3) Q=some X->
  ∃s,j9 K G X s/\s.length=a.length/\X.length=a.length/\∀(i j:Nat) (v:V),a[i]?=some j->s[i]?=some v->W[j]?=some (some v)
 |[],X,h=>by cases h;exact⟨[],j9.nil,rfl,rfl,λi j v e=>by simp at e⟩
 |c::a,X,h=>by
  obtain⟨x,I,h⟩:=h9 h;obtain⟨y,J,h⟩:=h9 h;cases h;obtain⟨v,C,F⟩:=H.2 c x (az8 I);obtain⟨s,r,l1,l2,k⟩:=bg3 H J;refine⟨v::s,j9.cons F r,by simp[l1],by simp[l2],λi j w E B=> ?_⟩;cases i with
  |zero=>simp at E B;subst E B;exact C
  |succ i=>exact k i j w (by simpa using E) (by simpa using B)
theorem bt8{K:cW0}{G:Hp}{x:List T}{s:List V}(r:j9 K G x s):K5 K G (s.map some) (x.map some):=by
 refine⟨by simp[r.length],λi t e=> ?_⟩;rw[cQ0]at e;cases z:x[i]? with
 |none=>rw[z]at e;cases e
 |some y=>
  rw[z]at e;cases e;obtain⟨v,h,H⟩:=r.get z;exact⟨v,by rw[cQ0,h];rfl,H⟩
structure bq9(P:Program)(w:World)(K:cW0)(mg:Str->Option Value)(aD:Heap)(tn:Str)(wd:Addr->Str->Prop):Prop where
 ex:∃(tst:Stmt) (ft W fwd:Addr) (fdT:FuncData) (dn en wn fw:Str) (p1 p2 p3 p4 p5 p6 p7 p8 p9 p10:Pos),Fun K tn tn tst ft fdT/\mg tn=some (.ref ft)/\Q1 [dn,en] [dn] (t7 tst)/\R9 K fdT [dn] []/\
  O9 tst=[.Try [.Return (some (.Call (.Name dn p1) [] [] p2)) p3] [.ExceptHandler (some (.Name wn p4)) (some en) [.Return (some (.Call (.Name fw p5) [.Name en p6] [] p7)) p8] p9] [] [] p10]/\
  (t7 tst).names.lookup dn=some .local/\(t7 tst).names.lookup en=some .local/\(t7 tst).names.lookup wn=some .globalImplicit/\(t7 tst).names.lookup fw=some .globalImplicit/\mg wn=some (.ref W)/\mg fw=some (.ref fwd)/\PySem.W.keepIn K (.ref fwd)=true/\
  bY7 P w K mg aD fwd wd/\(∀D c,wd D c->PySem.W.exmOne K (.ref D) (.ref W)=some true)/\
  NoD dn/\(dn==("__classdict__":Str))=false/\NoD wn/\NoD fw/\NoD en/\(en==("__classdict__":Str))=false
 cls:∀c∈aH9,∃D,mg c=some (.ref D)/\wd D c
 bm:BM mg aD
noncomputable def cE5(K:cW0)(M:Str->Option Value)(G H:Hp)(Q:VK)(E:XK):Res->Prop
 |.val t=>∀v g h,Ext G H g h->Rep K g t v->Q v h
 |.exc c=>∀g h,Ext G H g h->E (aO2 M c) none h
section
theorem aR2{t n:Str}{wd:Addr->Str->Prop}{P c:Addr}{q:Str}{p:Arguments}{a0:Expr}{as:List Expr}{S:Scope}{pt N B k af:Pos}{ah kk av:Nat}{F:List T->Option Res}{l:List L3.G}(NL:List Str)(a:List Nat)(Te:bq9 X.prog X.w X.K X.mg X.aD t wd)(C:G9 kk X.A)(aT:ah+2<=kk)(aQ:Gl X t)(hp:(P,q)∈ag4)(H:X.env.qual++"<lambda>"=q)(aK:X.env.code=.ref c)(aH:PySem.W.codeHdIn X.K c P=true)(aN:defaultsOf p X.env=([],[]))(az:aW5 X.env.scope X.N S NL a=true)(aE:∀(bk:Str) (cl:List (Str×Addr)) (pm cv ak:Value),bindArgs (PySem.W.kla_fn "<lambda>" bk p (.Call (.Name n N) (a0::as) [] B) S cl pm cv ak) ⟨[],[]⟩=pure [])(hF:bE6 X.prog X.w X.K X.mg X.aD n ah av F)(aR:S.names.lookup n=some .globalImplicit)(ag:∀(ax:Cx) (E:XK) (f g:Addr) (cl:List (Str×Addr)) (s:Shared) (aa:Hp),Wd (PXA (aH0 ax E q S f g cl NL s aa) (a0::as) (gs l)))(hn:l.length=av:=by rfl)(aM:NoD t:=by decide)(aL:NoD n:=by decide)(he:∀J,starEach (a0::as) J=(false,eval a0 J)::starEach as J:=by intro _;rfl)(aV:∀J,(backTo B (starEach as J)).any (·.1)=false:=by intro _;rfl)(ar:starEach [.Lambda p (.Call (.Name n N) (a0::as) [] B) S k] X.env=(false,eval (.Lambda p (.Call (.Name n N) (a0::as) [] B) S k) X.env)::starEach [] X.env:=by rfl)(aW:Bks X af []:=by rfl):Wd (PX X (.Call (.Name t pt) [.Lambda p (.Call (.Name n N) (a0::as) [] B) S k] [] af) (gN (au6 F l) (a.map D3))):=⟨by
 have ag:=λx0 x1 x2 x3 x4 x5 x6=>(ag x0 x1 x2 x3 x4 x5 x6).run
 intro aA s wW aa ae I ⟨G,qQ,bo,u,aX,hg,q1⟩;obtain⟨xs,aS,h⟩:=h9 hg;obtain⟨ys,bb,h⟩:=h9 (show(gs l (xs.map some)).bind (aF4 F)=some bo from h);obtain⟨r,aY,h⟩:=h9 h;obtain⟨vs,bl,lv,lx,ba⟩:=bg3 aX aS;obtain⟨⟨bq,ft,W,aB,bu,dn,en,wn,fw,p1,p2,p3,p4,p5,p6,p7,p8,p9,bx,FT,aU,ST,bT,aD,k1,k2,k3,k4,mW,mF,kF,br,aO,d1,d2,d3,d4,d5,d6⟩,aJ,bm⟩:=Te;have L:=bL7 az;have bf:∀x,X.env.scope.names.lookup x=some .cell->∃c,X.env.cells.lookup x=some c:=λx e=>I.ok.has x (.inl e)
 obtain⟨bt,aI,M,aq⟩:=aX5 (E:=X.env) (s:=S) λx hx=>bf x (L.free x hx)
 refine wpAny_Call_Name_kw (aq3 I aQ aU ?_ aM);refine PySem.W.callWith_K (h₀:=X.aD) I.ok.mod.kin FT.kp ?_ ar aW;rw[ar];show wpAny _ _ (spliced ((false,eval (.Lambda p (.Call (.Name n N) (a0::as) [] B) S k) X.env)::backTo af (starEach [] X.env))) _ _ s;refine Calls.spliced_cons (bo6 I bm u.t hp H aK aH aI aN λf g pm ak U s1 Y T1 n1 ho aG aP bw bc nt bh=>Calls.spliced_nil ⟨Y.kIn,?_⟩);have y:Ext G aa G U:=⟨D7.refl _,⟨λb o e=>nt b o (u b o e) (by cases o with |tbl ps=>exact absurd e (u.n b ps)|_=>rfl),T1,u.n⟩,n1,λ_ _ z=>z⟩
 show wpAny _ _ (call (.ref ft) [.ref f]) _ _ s1;refine wpAny_call (codeAny_mono (bM7 (b:=true) (C:=CX0) (E:=E0) (Q:=ae) (Y:=[.ref f]) (X:=[.ref f]) (args:=⟨[.ref f],[]⟩) FT ST (λ_=>C.hd) (by have :=C.dp;omega) Y.env0 rfl (bT s1 [.ref f] Y.kIn rfl) (.cons rfl .nil) λay s2 I2=> ?_) λr s' H=> ?_)
 .rw[aD];refine bQ9 (X:={F9 CX0 X.prog X.w X.K X.mg X.aD [dn,en] t (t7 bq) ft ay X.A X.stack s1 U E0 with calm:=true}) (i0:=0) (i1:=1) (Y:=f) (W:=W) (ae:=aB) (u:=wd)
   (dsp:=λR ae E=>R=U/\cE5 X.K X.mg G U ae E r)
   rfl rfl (by have :=C.dp;show X.A.depth+1<_;omega) ST.nd rfl rfl k1 k2 k3 mW k4 mF kF br aO ?_ d1 d2 d3 d4 d5 d6 rfl I2 ⟨rfl,rfl,?_⟩
  .intro xe aA' s3 bz H3 Q3 E3 d bj ⟨eH,hm⟩;subst eH;have au:=d.aD.keep f _ ho aP (λz=>bh f z rfl) (by simp[F9]);have aZ:s3.heap.CodeRec (.ref g) q:=(d.hok g _ aG).1;have aj:∀x c,X.env.cells.lookup x=some c->∀v,s.heap.IsCell c v->s3.heap.IsCell c v/\H3 c=none:=λx c e v zz=>by
    obtain⟨o,Z,O⟩:=zz;obtain⟨w,Q⟩:=bc c o Z (I.freeC x c e);obtain⟨sl,z5⟩:=d.aD.any w Q (by simp[F9]);exact⟨⟨_,z5,O⟩,Q⟩
   refine⟨⟨_,_,_,_,au⟩,bf9 (N:=NL) (vs:=vs) (ai:=tRE X.K X.mg E3 F l) d C.hd (by have :=C.dp;show X.A.depth+1<_;omega) au aZ (aE _ _ _ _ _) (λaw hy=>absurd hy ∅) ?_ L.kind L.co L.gen L.nocell
    (aj1 hF bB1 (((C.mono aT).deeper _).deeper _) (cT8 ah) aR (ag _ _ _ _ _ _ _) hn aL (he _) (aV _)) ⟨G,xs.map some,ys,r,y.s,bt8 bl,bb,aY,by cases r<;>exact hm⟩ bj⟩
   refine⟨λx aw c h1 h2=>I.ok.inj x aw c (M _ _ h1) (M _ _ h2),λx hx=> ?_,λx c ao=> ?_,λi x v e1 j=> ?_,by rw[lv];exact L.len.symm⟩
   .rcases hx with z|z
    .exact absurd rfl (L.nocell _ (cW1 z))
    .exact aq x (cW1 z)
   .obtain⟨v,z⟩:=I.cell x c (M x c ao);obtain⟨Z,O⟩:=aj x c (M x c ao) v z;exact⟨⟨v,Z⟩,O⟩
   .have hi:i<a.length:=by rw[<-lv];exact an8 j
    obtain⟨j1,j2,j3⟩:=L.cap i a[i] x (cP8 hi) e1;have hs:=ba i a[i] v (cP8 hi) j;obtain⟨m,_,bg⟩:=I.loc;obtain⟨ai,ru,lk⟩:=bg a[i] x v j1 hs (.inr (.inl j2));refine⟨ai,ru,.inr ⟨j3,?_⟩⟩;rcases lk with⟨z,_⟩|⟨_,c,Z,O⟩
    .rw[show X.env.kindOf x=X.env.scope.names.lookup x from rfl,j2]at z;cases z
    .obtain⟨c2,w⟩:=aq x (cW1 j3);have Q:=M x c2 w;rw[Z]at Q;cases Q;exact⟨c,w,(aj x c Z _ O).1⟩
  .cases r with
   |val ai=>
    cases h;exact λv G' R e rv=>q1 v G' R (y.trans e) rv
   |exc c0=>
    dsimp only at h;split at h
    case isFalse=>cases h
    case isTrue aF=>
    cases h;intro G' R e;obtain⟨D',m1,w1⟩:=aJ c0 aF;exact⟨D',c0,by rw[aO2,m1];rfl,w1,G',e.s,λv G2 H2 j rv=>q1 v G2 H2 ((y.trans e).trans j) rv⟩
 .cases r with
  |error e=>exact False.elim H
  |ok fl=>
   cases fl with
   |ret ai=>exact Y.after H
   |next=>exact False.elim H
   |brk=>exact False.elim H
   |cont=>exact False.elim H⟩
end
structure bD4(K:cW0)(x qual:Str)(st:Stmt)(f:Addr)(fd:FuncData)(c:Addr):Prop where
 ex:∃(oc:Value) (od:Option Addr) (kV doc pm:Value) (an:Option Addr) (ct:Value) (osl:Array (Option Value)),
  fd=W.fnOf x qual (aE4 st) (O9 st) (t7 st) .none kV doc pm an (.ref c) ct/\K.lookup f=some ⟨oc,od,.func fd,osl⟩/\W.codeIn K (.ref c) qual=true
 kp:W.keepIn K (.ref f)=true
theorem bD4.toFun{K:cW0}{X Q:Str}{st:Stmt}{f:Addr}{d:FuncData}{c:Addr}(F:bD4 K X Q st f d c):Fun K X Q st f d:=
 ⟨let⟨o,O,kV,B,p,a,C,l,h,H,E⟩:=F.ex;⟨o,O,kV,B,p,a,.ref c,C,l,h,H,E⟩,F.kp⟩
section
variable {K:cW0}
theorem cs5{x L:Str}{st:Stmt}{f:Addr}{d:FuncData}{c:Addr}{N p:List Str}{k:Nat}{g:GS}(F:bD4 K x L st f d c)(S:Q1 N p (t7 st))(y:p.length<=N.length)
  (b:∀(A:Around) (a:List Env) (s:Shared) (H:Hp) (E:XK),G9 k (A.deeper (envOfC L (t7 st) s.sz f (.ref c)))->aq9 (F9 CX0 P w K Z U N L (t7 st) f (.ref c) A a s H E).nox (O9 st) g):
  S4 P w K Z U CX0 (k+1) f d p (spT K p.length (A6 p.length N.length g)):=by
 obtain⟨z,od,kV,u,pm,n,ct,aa,rfl,lk,W⟩:=F.ex;refine bC2 lk W S (λj H Q E h=> ?_) λA a s H j Q E Y h=> ?_
 .obtain⟨G,R,t,O,r,l,_⟩:=h;rw[r.length,l]
 .obtain⟨G,R,t,O,r,l,B,q⟩:=h;refine⟨_,(b A a s H E Y).nox,?_⟩;unfold A6 at B;rw[cW7 l]at B;have X:=ag6 (N:=N) r ⋯;cases J:g (A0 N.length R)with
  |none=>rw[J]at B;cases B
  |some o=>
   rw[J]at B;refine⟨G,_,o,O,X,J,?_⟩;cases o with
   |nx M=>cases B;exact λae C I e _=>q .non C I e (by simp[Rep])
   |ret t'=>cases B;exact λv C I e i=>q v C I e i
   |bk M=>cases B
   |ct M=>cases B
end
noncomputable def ae3(b:Addr):Bool:=ag4.any λp=>p.1==b
theorem at1(h:ae3 b=true):∃p∈ag4,p.1=b:=by
 unfold ae3 at h;obtain⟨p,H,B⟩:=List.any_eq_true.mp h;exact⟨p,H,by simpa using B⟩
theorem bL0(h:p∈ag4):ae3 p.1=true:=List.any_eq_true.mpr ⟨p,h,∅⟩
noncomputable def Q5(H:Hp):Hp:=λb=>if ae3 b=true then some (.tbl #[])else H b
theorem bL6{P:Program}{w:World}{K:cW0}{M mb:Str->Option Value}{ah:Nat}{g a:Addr}{fd:FuncData}{x:Str}{s:Shared}{I:List Value}{N:List Int}{FL:List T->Option T}
  (k:K.In s.heap) (l:s.heap.Ns mainGlobals M) (B:s.heap.Ns builtinsNs mb) (ar:∀x:Str,x≠"__name__"->mb x=bootBuiltins x) (aw:s.heap.NoLimit) (hg:s.gens=#[])
  (Q:s.heap.get? a=some {cls:=.type "list",data:=.seq I.toArray}) (hi:IntsAre I N) (hl:N.length<=sizeLine) (hr:G9 ah callerA)
  (hT:∀p∈ag4,s.heap.get? p.1=some (W.tabObj #[])) (aq:∀p∈ag4,∃c,W.CodeHd s.heap c p.1) (ax:W.noTabs K=true)
  (av:∃L O,M "__builtins__"=some (.ref L)/\L≠builtinsNs/\s.heap.get? L=some O/\O.cls=.type "module"/\O.dict=some builtinsNs/\O.data=.plain)
  (F:∀R:Heap,K.In R->R.Ns mainGlobals M->BM M R->S4 P w K M R CX0 ah g fd [x] (spT K 1 FL)) (au:∀(aB:Shared) (u:Value),BindsTo aB fd ⟨[u],[]⟩ [(x,u)])
  (hF:FL [.scr N]=↑true):
  codeAny (model P w) callerA (.call (.ref g) ⟨[.ref a],[]⟩) (λr S=>r=.ok (.ret (.bool true))/\OldK s.heap S.heap/\S.os=s.os/\AllBare S.gens) s:=by
 have rv:=be2 hi;have az:=hi.length;have aT:ae3 a=false:=by
  cases e:ae3 a with
  |false=>rfl
  |true=>
   obtain⟨p,C,E⟩:=at1 e;have :=hT p C;rw[E,Q]at this;cases this
 have aa:∀H:Hp,cE7 H->SqL K H a (N.map V.int)->HOk P w H s.heap->(∀b,H b≠none->b=a)->(H a≠none->K.lookup a=none)->
   codeAny (model P w) callerA (.call (.ref g) ⟨[.ref a],[]⟩) (λr S=>r=.ok (.ret (.bool true))/\OldK s.heap S.heap/\S.os=s.os/\AllBare S.gens) s:=by
  intro H hO hS ay i hK;have n:∀b,ae3 b=false->Q5 H b=H b:=λb e=>by unfold Q5;rw[e];rfl
  have t:∀b,ae3 b=true->Q5 H b=some (.tbl #[]):=λb e=>by unfold Q5;rw[e];rfl
  have same:D7 H (Q5 H):=λb o e=>by
   have eb:b=a:=i b (by rw[e];simp);rw[n b (by rw[eb];exact aT)];exact e
  have ag:HOk P w (Q5 H) s.heap:=λb o e=>by
   cases z:ae3 b with
   |true=>
    rw[t b z]at e;cases e;obtain⟨p,C,E⟩:=at1 z;have :=hT p C;rw[E]at this;exact this
   |false=>
    rw[n b z]at e;exact(ay b o e).stay (λ_ _ _ q=>q) (λc q=>same c _ q) λc X q=>same c _ q
  have aj:∀{b:Addr}{o:Obj},s.heap.get? b=some o->(∀X aA,o.data≠.seq X aA)->(∀I,o.data≠.fields I)->Q5 H b=none:=λ{b o} e d1 d2=>by
   cases z:ae3 b with
   |true=>
    obtain⟨p,C,E⟩:=at1 z;have :=hT p C;rw[E,e]at this;cases this;exact absurd rfl (d2 _)
   |false=>
    rw[n b z];cases q:H b with
    |none=>rfl
    |some u=>
     have f:b=a:=i b (by rw[q];simp);subst f;rw[Q]at e;cases e;exact absurd rfl (d1 _ _)
  have U:∀{b:Addr}{m:Str->Option Value},s.heap.Ns b m->(aH3 s.heap (Q5 H)).Ns b m:=λ{b m} ⟨o,es,ep,e,d,r⟩=>⟨o,es,ep,aS9 e (aj e (λ_ _ z=>by rw[d]at z;cases z) λ_ z=>by rw[d]at z;cases z),d,r⟩
  have ae:K.In (aH3 s.heap (Q5 H)):=λb o e=>aS9 (k b o e) (by
   cases z:ae3 b with
   |true=>
    obtain⟨p,C,E⟩:=at1 z;have y:=hT p C;rw[E,k b o e]at y;cases y;have Y:=List.all_eq_true.mp ax (b,_) (W.mem_of_lookupK e);exact absurd (show false=true from Y) cK6
   |false=>
    rw[n b z];cases q:H b with
    |none=>rfl
    |some u=>
     have f:b=a:=i b (by rw[q];simp);subst f;rw[hK (by rw[q];simp)]at e;cases e)
  have hM:Mod K M (aH3 s.heap (Q5 H)):=⟨ae,U l,⟨mb,U B,ar⟩,let⟨mc,C,E⟩:=aw;⟨mc,U C,E⟩⟩
  have hB:BM M (aH3 s.heap (Q5 H)):=by
   obtain⟨L,O,b1,b2,b3,b4,b5,b6⟩:=av;refine⟨L,O,b1,b2,λz=> ?_,aS9 b3 (aj b3 (λ_ _ z=>by rw[b6]at z;cases z) λ_ z=>by rw[b6]at z;cases z),b4,b5,b6⟩;obtain⟨o,es,ep,e,d,_⟩:=l;rw[<-z,b3]at e;cases e;rw[b6]at d;cases d
  have e0:ar2 P w K M (aH3 s.heap (Q5 H)) callerA [] s (Q5 H):=⟨rfl,hM,λb o e=>ch4 e,Nat.le_of_eq (bM1 _ _),trivial,λb B=>absurd (show b∈([]:List Addr)from B) ∅,ag,.of_eq hg⟩
  have sub:Sub H (Q5 H):=⟨same,λp hp=>⟨#[],t _ (bL0 hp),trivial⟩,λb ps z=>by
   rcases hO b with y|⟨o,X,y⟩
   .rw[y]at z;cases z
   .rw[y]at z;cases z⟩
  refine codeAny_mono ((F _ ae (U l) hB).run callerA [] s (Q5 H) ⟨[.ref a],[]⟩ [.ref a] [.ref a] (λv _=>v=.bl true) E0 hr e0 (au s (.ref a)) (.cons rfl .nil) ⟨H,[.scr N],.bl true,sub,j9.cons (by erw[Rep];exact⟨a,rfl,hS⟩) j9.nil,rfl,hF,λv G' H' _ r=>by simpa[Rep]using r⟩) λr S h=> ?_
  cases r with
  |error e=>exact False.elim h
  |ok fl=>
   cases fl with
   |next=>exact False.elim h
   |brk=>exact False.elim h
   |cont=>exact False.elim h
   |ret u=>
    obtain⟨v,H',os,ak,un,af,r',q⟩:=h;have q':v=.bl true:=q;subst q';obtain rfl:u=Value.bool true:=r';have ai:∀b o,s.heap.get? b=some o->ae3 b=false->S.heap.get? b=some o:=λb o e z=>by
     cases q:Q5 H b with
     |none=>exact un.keep b o e q (by intro z;exact absurd (show b∈([]:List Addr)from z) ∅) ∅
     |some u=>
      have q0:=q;rw[n b z]at q0;rcases hO b with y|⟨O,X,y⟩
      .rw[q0]at y;cases y
      .have Y:=un.frzs b O _ (by rw[n b z];exact y);obtain⟨e1,_⟩:=ag b _ (by rw[n b z];exact y);obtain⟨e2,_⟩:=af b _ Y;rw[e]at e1;cases e1;exact e2
    have tb:∀b o,s.heap.get? b=some o->ae3 b=true->o=W.tabObj #[]/\(∃c,W.CodeHd s.heap c b)/\∃J,S.heap.get? b=some (W.tabObj (#[]++J)):=λb o e z=>by
     obtain⟨p,C,E⟩:=at1 z;have y:=hT p C;rw[E,e]at y;cases y;obtain⟨J,Y⟩:=un.tbls b _ (t b z);exact⟨rfl,by rw[<-E];exact aq p C,J,af b _ Y⟩
    refine⟨rfl,⟨λb o e=> ?_,λb o e=> ?_⟩,os,ak⟩
    .cases z:ae3 b with
     |false=>exact .inl (ai b o e z)
     |true=>
      obtain⟨eo,⟨c,oc,ao,aC,tf,aE,tg,aF,aG,tt,c1,c2,c3,c4,_⟩,J,y⟩:=tb b o e z;subst eo;exact .inr (.inl ⟨⟨c,oc,ao,c1,c2,c3,c4⟩,rfl,#[],J,rfl,y⟩)
    .cases z:ae3 b with
     |false=>exact⟨o,ai b o e z⟩
     |true=>
      obtain⟨_,_,J,y⟩:=tb b o e z;exact⟨_,y⟩
 cases j:K.lookup a with
 |some o=>
  have e:=k a o j;rw[Q]at e;cases e;refine aa (λ_=>none) (λ_=>.inl rfl) (.inr ⟨_,I.toArray,_,j,rfl,rfl,rfl,by rw[cT4,az];exact hl,by simpa using rv⟩) (λb u z=>by have Z:(none:Option HO)=some u:=z;cases Z) (λb z=>absurd rfl z) λz=>absurd rfl z
 |none=>
  refine aa (λb=>if b=a then some (.frz {cls:=.type "list",data:=.seq I.toArray} (.lst (N.map V.int)))else none) (λb=> ?_) (.inl (.inr ⟨{cls:=.type "list",data:=.seq I.toArray},cW7 rfl⟩)) (λb u z=> ?_) (λb z=> ?_) λ_=>j
  .by_cases B:b=a
   .exact .inr ⟨_,_,cW7 B⟩
   .exact .inl (cW6 B)
  .by_cases B:b=a
   .have Z:=(cW7 B).symm.trans z;cases Z;subst B;exact⟨Q,by rw[cQ8];exact hl,I,_,rv,Q⟩
   .have Z:=(cW6 B).symm.trans z;cases Z
  .by_cases B:b=a
   .exact B
   .exact absurd (cW6 B) z
theorem cv6{l:W.OpenLaw}{n k:Nat}{q:Program}{e:List Str}{P:(Str->Option Value)->Heap->Prop}{y:World->Heap->Prop}{d:DefRec}{K:Params->cW0}{x:Str}{FL:List T->Option T}
  (S:l.most=some n) (U:n<=sizeLine) (O:d.params.defaults=[]) (r:G9 k callerA)
  (L:∀(w:World) (h:Heap),y w h->(K w.params).In h)
  (F:∀(w:World) (M:Str->Option Value) (C:Addr) (h:Heap),(K w.params).In h->h.Ns mainGlobals M->M d.name=some (.ref C)->y w h->
   W.noTabs (K w.params)=true/\(∀p∈ag4,h.get? p.1=some (W.tabObj #[]))/\(∀p∈ag4,∃c,W.CodeHd h c p.1)/\∃E:FuncData,(∀(s:Shared) (u:Value),BindsTo s E ⟨[u],[]⟩ [(x,u)])/\
    ∀B:Heap,(K w.params).In B->B.Ns mainGlobals M->BM M B->S4 l.prog w (K w.params) M B CX0 k C E [x] (spT (K w.params) 1 FL))
  (Z:∀N:List Int,N.length<=n->FL [.scr N]=↑true):
  W.WalkO q e P y l.row.toRowW d [] (λf v=>PySem.call f v):=by
 refine Att.attach_call S O λw sd se M mb C aa pm i o a v N G Y ho hd z R j Q H g=> ?_
 have X:=L w _ Y;obtain⟨t,hT,J,E,b,I⟩:=F w M C _ X G.T.g R Y;exact bL6 X G.T.g G.T.b G.T.builtins G.T.nolimit g j Q (cU0 H U) r hT J t G.T.bmain I b (Z N H)
def tXf(K:cW0)(g:L3.G):TE:=λw H Q=>∃G C t,Sub G H/\K5 K G w C/\g C=⇑t/\∀a x B h,H a=none->B a=none->Ext G H B h->h a=⇑x->j9 K B t x->Q (.ref a) h
abbrev PXf(X:Cx)(e:Expr)(g:L3.G):Prop:=PE X e (tXf X.K g)
theorem cs2(h:gFr g Q=some t):∃s,g Q=⇑s/\t=.lst s:=by
 obtain⟨u,B,H⟩:=h9 h;cases u<;>first |(cases H;done)|skip
 cases H;exact⟨_,B,rfl⟩
theorem aS5{K:cW0}{it:GL}{l:List Nat}{st:St1}{c:GB}{d:L3.G}{n:Nat}{C:List Nat}(aj:l.all (λi=>decide (i<n))=true):
  ∀w H Q,tXf K (o0 it n C st c d) w H Q->tLC (tI K it) (tGt K l st) (tXB K c) (tX K d) n C w H Q:=λw H Q zz=>by
 obtain⟨G,X,au,sG,ah,I,q⟩:=zz;obtain⟨t,h1,I⟩:=h9 I;split at I
 case isFalse=>cases I
 case isTrue ay=>
 obtain⟨rs,h2,I⟩:=h9 I;obtain rfl:rs=au:=by cases I;rfl
 refine⟨G,X,t,sG,ah,h1,λax N H' F wk a L=> ?_⟩;have af:N a=none:=F.s.free L;refine⟨λi m y B=>m=t.length-i/\i<=t.length/\y.length<=i/\∃g r Y,D7 N g/\Sub g B/\T8 H' B/\(∀b,H' b≠none->N b=none->g b=none)/\g a=none/\B a=⇑y/\j9 K g r y/\
   aa6 (Z6 n C X) st c d (t.drop i)=some Y/\rs=r++Y,⟨t.length,∅,cV7 _,cT8 _,N,[],rs,D7.refl _,?_,bi5 (K6 L _),λ_ _ z=>z,af,t8,j9.nil,by simpa using h2,∅⟩,?_⟩
 .exact⟨λb o z=>by rw[n6 (C5 z af)];exact F.s b o z,F.s.t.new L,F.s.n⟩
 rintro i m y B ⟨rfl,hi,az,g,r,Y,s,v,S,fr,Z,J,u,h,W⟩;have aq:K5 K g (Z5 n C w) (Z6 n C X):=(ah.cap n C).mono (F.g.trans s);by_cases U:i<t.length
 .right;have ht:t[i]?=some t[i]:=cP8 U;obtain⟨go,yl⟩:=(wk i g B s v).1 _ ht;refine⟨go,λaw H2 hy=> ?_⟩;obtain⟨x,O,ar⟩:=yl aw H2 hy;rw[cO7 U]at h;obtain⟨p,k1,h⟩:=h9 h;obtain⟨bq,k2,h⟩:=h9 h;refine⟨x,Z6 n C X,t[i],p,O.s,aq.mono O.g,ar,k1,λaA ai ao ak=>⟨⟨ao,λj av R=> ?_⟩,?_⟩⟩
  .by_cases hj:j∈l
   .exfalso;have ag:j<n:=by
     have :=List.all_eq_true.mp aj j hj;simpa using this
    unfold Z5 at R;rw[cP6 (by simpa using ag),cQ2,cW7 ag]at R;cases R
   .rw[ak j hj];exact R
  .refine⟨x,p,bq,O.s,ai,k2,λG3 H3 P=> ?_⟩;have e:=O.trans P;cases bq with
   |true=>
    obtain⟨t1,k3,h⟩:=h9 h;obtain⟨r3,k4,h⟩:=h9 h;cases h;refine at9 ⟨G3,p,t1,P.s,ai.mono P.g,k3,λav G4 H4 e4 rv=> ?_⟩;have E:=e.trans e4;have ae:H4 a=⇑y:=E.h.lst J;have aa:G4 a=none:=E.fr a (by rw[J];simp) Z;refine⟨ae,?_,t.length-(i+1),⋯,rfl,U,by rw[cQ7,cR2];omega,G4,r++[t1],r3,s.trans E.g,?_,?_,?_,aa,t8,(u.mono E.g).append (j9.cons rv j9.nil),k4,by rw[W];simp⟩
    .have :(lim:Nat)<sizeLine:=∎
     omega
    .exact⟨λb o z=>by rw[n6 (C5 z aa)];exact E.s b o z,E.s.t.lst ae,E.s.n⟩
    .exact(S.trans E.h).upd L
    .intro b M k;have f:B b≠none:=S.ne M;exact E.fr b f (fr b M k)
   |false=>
    refine au0 ⟨t.length-(i+1),⋯,rfl,U,⋯,G3,r,Y,s.trans e.g,P.s,S.trans e.h,?_,e.fr a (by rw[J];simp) Z,e.h.lst J,u.mono e.g,h,W⟩;intro b M k;have f:B b≠none:=S.ne M;exact e.fr b f (fr b M k)
 .left;have ei:i=t.length:=⋯
  subst ei;refine⟨(wk _ g B s v).2 (cT8 _) (cT8 _),?_⟩;rw[cO8]at h;cases h;rw[cO5]at W;subst W;exact q a y g B (F.h.free L) Z (F.trans ⟨s,v,S,fr⟩) J u
section
theorem bH7{O t r:Expr}{P:List Expr}{s:Scope}{Q:GL}{N:List Nat}{st:St1}{g:GB}{e:L3.G}{n:Nat}{a:List Nat}(M:Wd (PXI X t r Q))(L:∀{c C S H f},Wd (PXG (L7 X s c C (cN X t a) S H f) t N st))(h:∀{c C S H f},Wd (aB8 (L7 X s c C (cN X t a) S H f) P g))(J:∀{c C S H f},Wd (PX (L7 X s c C (cN X t a) S H f) O e))(R:X.calm=true:=by rfl)(k:aj6 X.env.scope X.N s (cN X t a) n a=true:=by rfl)(U:N.all (λi=>decide (i<n))=true:=by rfl)(W:NFo X r:=by intro _;rfl):Wd (PXf X (.ListComp O [⟨t,r,P,0⟩] s p) (o0 Q n a st g e)):=⟨have M:=M.run;have L:=λx B E F I=>(@L x B E F I).run;have h:=λx B E F I=>(@h x B E F I).run;have J:=λx B E F I=>(@J x B E F I).run;PE.imp (ca1 (g:=tGt X.K N st) (w:=tXB X.K g) (x:=tX X.K e) _ n a R k M L h J W) (aS5 U)⟩
theorem RO.add{K:cW0}{g O G N:Hp}{w:L2.St}{Q:A3}{I:Nat}{p:Addr}{X:HO}{t:T}(h:RO K g O P G N w Q)(F:I∉P)(l:I<w.length)(U:O p=none)(Y:G p=none)(c:N p=some X)(fresh:∀J∈P,w[J]?≠some (some (.ref p)))(f:ai5 K G t X):
  RO K g O (I::P) G N (w.set I (some (.ref p))) (Q.set I (some t)):=by
 have b:I<Q.length:=by rw[<-h.len];exact l
 refine⟨h.x,?_,λJ E=> ?_,λJ E k Z a B C=> ?_⟩
 .rw[az7,cT3,bf1];exact h.r.setN
 .rcases cI4 E with e|E
  .subst e;exact⟨p,X,t,cQ4 b,cQ4 l,U,Y,c,f⟩
  .obtain⟨a,y,u,B,C,W⟩:=h.o J E;have S:I≠J:=λz=>F (by rw[z];exact E)
   exact⟨a,y,u,by rw[cQ3 S];exact B,by rw[cQ3 S];exact C,W⟩
 .rcases cI4 E with e|L<;>rcases cI4 Z with R|M
  .rw[e,R]
  .subst e;rw[cQ4 l]at B;cases B;rw[cQ3 λz=>F (by rw[z];exact M)]at C;exact absurd C (fresh k M)
  .subst R;rw[cQ4 l]at C;cases C;rw[cQ3 λz=>F (by rw[z];exact L)]at B;exact absurd B (fresh J L)
  .rw[cQ3 λz=>F (by rw[z];exact L)]at B;rw[cQ3 λz=>F (by rw[z];exact M)]at C;exact h.d J L k M a B C
theorem RO.other{K:cW0}{g F G B:Hp}{w:L2.St}{Q:A3}{p:Addr}(h:RO K g F I G B w Q)(M:B p=none):∀J∈I,w[J]?≠some (some (.ref p)):=λJ L z=>by
 obtain⟨a,y,u,N,C,O,P,E,R⟩:=h.o J L;rw[z]at C;cases C;rw[M]at E;cases E
theorem be8{e t r:Expr}{Y:List Expr}{s:Scope}{j:GL}{Z:List Nat}{st:St1}{g:GB}{N:L3.G}{x:Str}{k l:Pos}(i:Nat){n:Nat}{a:List Nat}(W:Wd (PXI X t r j))(U:∀{c C S h f},Wd (PXG (L7 X s c C (cN X t a) S h f) t Z st))(P:∀{c C S h f},Wd (aB8 (L7 X s c C (cN X t a) S h f) Y g))(Q:∀{c C S h f},Wd (PX (L7 X s c C (cN X t a) S h f) e N))(O:ah8 X.N=true:=by rfl)(aa:X.calm=true:=by rfl)(z:aj6 X.env.scope X.N s (cN X t a) n a=true:=by rfl)(ae:Z.all (λi=>decide (i<n))=true:=by rfl)(hm:i∉M:=by decide)(d:X.N[i]?=some x:=by rfl)(hl:X.env.scope.names.lookup x=some .local:=by rfl)(af:swapsWith (.ListComp e [⟨t,r,Y,0⟩] s ag) (some (.Name x k)) l.line X.env=pure true:=by rfl)(hs:NFo X r:=by intro _;rfl):PXO X M (i::M) (.Assign [.Name x k] (.ListComp e [⟨t,r,Y,0⟩] s ag) l) (o6 i (gFr (gM M (o0 j n a st g N)))):=have O:=O8 O;have W:=W.run;have U:=λB E F J L=>(@U B E F J L).run;have P:=λB E F J L=>(@P B E F J L).run;have Q:=λB E F J L=>(@Q B E F J L).run;⟨aV9,λG0 H0 y ah w H D I zz=>by
 obtain⟨G,qQ,ai,R,o,q⟩:=zz;obtain⟨ak,k1,o⟩:=h9 o;cases o;obtain⟨ts,k2,rfl⟩:=cs2 k1;refine as8 (g:=tGt X.K Z st) (tc:=tXB X.K g) (te:=tX X.K N) (i:=i) _ n a aa z W U P Q O d hl af hs y ah w H D I (aS5 ae w H _ ⟨G,D5 M qQ,ts,R.x.s,R.r,k2,λaj xs u v p gp b h1 r1=> ?_⟩);exact q _ u v b.g ((R.step b).add hm (by rw[I.len];exact an8 d) (R.x.h.free p) gp h1 (R.other p) (.lst r1))⟩
theorem bI0{e t r:Expr}{Y:List Expr}{s:Scope}{d:GL}{Z:List Nat}{st:St1}{g:GB}{N:L3.G}{x:Str}{p j:Pos}(i:Nat){n:Nat}{a:List Nat}(W:Wd (PXI X t r d))(U:∀{c C S h f},Wd (PXG (L7 X s c C (cN X t a) S h f) t Z st))(P:∀{c C S h f},Wd (aB8 (L7 X s c C (cN X t a) S h f) Y g))(Q:∀{c C S h f},Wd (PX (L7 X s c C (cN X t a) S h f) e N))(O:ah8 X.N=true:=by rfl)(y:X.calm=true:=by rfl)(v:aj6 X.env.scope X.N s (cN X t a) n a=true:=by rfl)(z:Z.all (λi=>decide (i<n))=true:=by rfl)(hm:i∉M:=by decide)(hx:X.N[i]?=some x:=by rfl)(hl:X.env.scope.names.lookup x=some .local:=by rfl)(aa:swapsWith (.ListComp e [⟨t,r,Y,0⟩] s ae) (some (.Name x p)) j.line X.env=pure true:=by rfl)(hs:NFo X r:=by intro _;rfl):PXO X M M (.Assign [.Name x p] (.ListComp e [⟨t,r,Y,0⟩] s ae) j) (o6 i (gM M (o0 d n a st g N))):=have O:=O8 O;have W:=W.run;have U:=λB E F J L=>(@U B E F J L).run;have P:=λB E F J L=>(@P B E F J L).run;have Q:=λB E F J L=>(@Q B E F J L).run;⟨aV9,λG0 H0 u af w H D I zz=>by
 obtain⟨G,qQ,ah,R,o,q⟩:=zz;obtain⟨ag,k1,o⟩:=h9 o;cases o;exact as8 (g:=tGt X.K Z st) (tc:=tXB X.K g) (te:=tX X.K N) (i:=i) _ n a y v W U P Q O hx hl aa hs u af w H D I (aD9 z w H _ ⟨G,D5 M qQ,ag,R.x.s,R.r,k1,λai k l b r1=>q _ k l b.g ((R.step b).set hm r1)⟩)⟩
end
section
variable {X:Cx}{a b e c:Expr}{p:Pos}{aB g:List Nat}
theorem RO.unown{K:cW0}{C F G E:Hp}{w:L2.St}{Q:A3}{I:Nat}(h:RO K C F aB G E w Q)(J:I∈aB)(L:aB.filter (· !=I)=g):∃B,D7 G B/\RO K C F g B E w Q:=by
 obtain⟨B,_,_,_,s,R,_⟩:=h.freeze J;subst L;exact⟨B,s,R⟩
end
def del(H:Hp)(a:Addr):Hp:=λb=>if b=a then none else H b
theorem ao2(h:b≠a):del H a b=H b:=cW6 h
theorem bq1:del H a a=none:=cW7 rfl
section
variable {X:Cx}{a b e c:Expr}{p:Pos}{h g:List Nat}
end
section
variable {P:Program}{w:World}{K:cW0}{g:Str->Option Value}{h:Heap}
end
section
variable {P:Program}{w:World}{K:cW0}{g:Str->Option Value}{h:Heap}
end
theorem bG4(n d:Nat)(o:Option Int):HT.sIx n d o=aQ9 n d o:=by cases o<;>rfl
theorem bR5{K:cW0}{G:Hp}{t:List T}{x:List V}(r:j9 K G t x)(l h:Option Int):j9 K G (al5 t l h) (au1 x l h):=by
 unfold au1 al5;rw[bG4,bG4,r.length];exact(r.drop _).take _
def PXP(X:Cx):Option Expr->Option L3.G->Prop
 |none,none=>True
 |some e,some g=>PX X e g
 |_,_=>False
def tPt(K:cW0)(g:Option L3.G):TO:=λw H Q=>∃G B o,Sub G H/\K5 K G w B/\gPt g B=some o/\∀C h,Ext G H C h->Q o h
section
theorem ca0{e:Option Expr}{g:Option L3.G}(h:PXP X e g):PO X e (tPt X.K g):=by
 intro a s w H Q I ⟨G,M,o,S,J,B,q⟩
 match e,g,h,B with
 |none,none,_,B=>
  cases B;exact bu8 a s w H Q I (q G H (Ext.refl S))
 |some e,some g,h,B=>
  obtain⟨t,L,B⟩:=h9 B;obtain⟨i,k,B⟩:=h9 B;cases B;have h:PX X e g:=h;refine bu7 h a s w H Q I ⟨G,M,t,S,J,L,λv C E F r=> ?_⟩;cases t<;>first |(cases k;done)|skip
  cases k;erw[Rep]at r;exact⟨_,r,q C E F⟩
theorem bz8{lo i:Option Expr}{b:Pos}{I:L3.G}{L J:Option L3.G}(R:PX X a I)(U:PXP X lo L)(S:PXP X i J):PX X (.Subscript a (.Slice lo i none b) o) (gSl I L J):=
 PE.imp (bn0 bt4 R (ca0 U) (ca0 S)) λw H Q z=>by
  obtain⟨G,F,t,c,C,g,q⟩:=z;obtain⟨x,k,g⟩:=h9 g;obtain⟨l,W,g⟩:=h9 g;obtain⟨h,Y,g⟩:=h9 g;refine⟨G,F,x,c,C,k,λv N f e r=>⟨N,F,l,e.s,C.mono e.g,W,λO j B=>⟨O,F,h,B.s,C.mono (e.g.trans B.g),Y,λd n P=> ?_⟩⟩⟩;cases x<;>first |(cases g;done)|skip
  cases g;erw[Rep]at r;obtain⟨p,s,m1,m2,m3⟩:=r;have E:=B.trans P;refine⟨p,s,m1,SqL.of (E.s _ _ (E.g _ _ m2)),λZ M=>q _ _ _ ((e.trans E).trans (Ext.new E.s M _)) ?_⟩;erw[Rep];refine⟨Z,_,rfl,t8,?_⟩;exact bR5 ((m3.mono E.g).mono (K6 (E.s.free M) (HO.lst (au1 s l h)))) l h
theorem cq1:NB (ax0 i g):=aW0 λQ o e=>by
 obtain⟨t,_,e⟩:=h9 e;split at e
 .split at e
  .cases e;exact⟨_,rfl⟩
  .cases e
 .cases e
theorem aR4(i:Nat)(J:Wd (PX X e g))(L:i∈C:=by decide)(l:X.N[i]?=some x:=by rfl)(v:Vis X.env.scope x:=by first |exact .inl rfl|exact .inr (.inl rfl)|exact .inr (.inr rfl))(f:NoD x:=by decide)(d:(x==("__classdict__":Str))=false:=by decide)(b:attributeBase (.Name x p) "extend" X.env (eval (.Name x p) X.env)=eval (.Name x p) X.env:=by rfl)(j:((backTo c (starEach [e] X.env)).all (λx=> !x.1)&&(backToKw c (keywordEach [] X.env)).all (λx=>x.1.isSome)
   &&decide ([e].length+([]:List Keyword).length+(if([]:List Keyword).isEmpty then 0 else 1)<30))=true:=by rfl) (o:(M.endLine==c.line)=true:=by rfl) (P:StE X e []:=by rfl) (t:Bks X c []:=by rfl) (u:swapsWith (.Call (.Attribute (.Name x p) "extend" M) [e] [] c) none z.line X.env=pure false:=by rfl):PXO X C C (.Expr (.Call (.Attribute (.Name x p) "extend" M) [e] [] c) z) (ax0 i (gM C g)):=have J:=J.run;⟨cq1,λG0 H0 W s w H D I zz=>by
 obtain⟨G,Q,af,R,h,q⟩:=zz;obtain⟨aa,k,h⟩:=h9 h;cases B:(Q[i]?).join with
 |none=>rw[B]at h;cases h
 |some tl=>
  rw[B]at h
  match tl,aa,B,k,h with
  |.lst ts,.lst us,B,k,h=>
   dsimp only at h;split at h
   case isFalse=>cases h
   case isTrue n=>
   cases h;obtain⟨a,xs,F,Y,h3⟩:=aw0 R L B;refine ap7 (bj1 PySem.F.plainAttrs_list PySem.F.slot_list_extend PySem.F.type_list_extend bK8 (as9 l v f d) (V0 J ad3 P) b j o P t) u W s w H D I ⟨.ref a,F,.inl ⟨rfl,xs,SqL.of Y⟩,G,D5 C Q,.lst us,R.x.s,R.r,k,λag U H1 E S=> ?_⟩;have r:=R.step E;obtain⟨a',ae,N,Z,O⟩:=aw0 r L B;rw[F]at N;cases N;erw[Rep]at S;obtain⟨y,zs,m1,m2,m3⟩:=S;subst m1;refine⟨a,y,ae,zs,rfl,rfl,Z,E.s _ _ m2,?_,?_⟩
   .rw[O.length,m3.length];exact cU0 n ∎
   .exact q w U _ E.g (r.put L F (O.append m3))⟩
end
section
variable {K:cW0}{G:Hp}
theorem bn5{f:Str}{t:T}{l:List (Str×V)}:∀{F:List Str}{s:List T}{X:List V},F.map (λf=>l.lookup f)=X.map some->j9 K G s X->aR9 f F s=some t->f∈F/\∃x,l.lookup f=some x/\Rep K G t x
 |[],_,_,_,_,h=>by simp[aR9]at h
 |k::I,[],_,_,_,h=>by simp[aR9]at h
 |k::I,u::s,X,H,r,h=>by
  erw[j9]at r;obtain⟨x,q,e,R,J⟩:=r;subst e;rw[cI9,cI9,List.cons.injEq]at H;by_cases B:f=k
  .subst B;erw[aR9,if_true]at h;cases h;exact⟨cS2,x,H.1,R⟩
  .simp only[aR9,cW6 B]at h;obtain⟨m,y,C,E⟩:=bn5 H.2 J h;exact⟨cS1 _ m,y,C,E⟩
end
section
theorem M3(h:Wd (PX X e g))(b:attributeBase e f X.env (eval e X.env)=eval e X.env:=by rfl):Wd (PX X (.Attribute e f p) (g1 (K4 f) g)):=⟨have h:=h.run;PE.imp (bn1 h b) λw H Q z=>by
  obtain⟨G,N,t,s,M,B,q⟩:=z;obtain⟨x,k,B⟩:=h9 B;refine⟨G,N,x,s,M,k,λv F I E r=> ?_⟩;cases x<;>first |(cases B;done)|skip
  erw[Rep]at r;obtain⟨a,C,d,l,O,m1,m2,m3,⟨c,n⟩,m4⟩:=r;obtain⟨m,y,J,L⟩:=bn5 m3 m4 B;exact⟨a,C,d,_,y,m1,E.s _ _ m2,c,n f m,J,q y F I E L⟩⟩
end
def ak1(o:HO):Prop:=(∀p,o≠.tbl p)/\∀c q,o≠aa7 c q
theorem aK2:ak1 (.lst x):=⟨λ_ z=>HO.noConfusion z,λ_ _ z=>HO.noConfusion z⟩
theorem ad9:ak1 (.ins C d f):=⟨λ_ z=>HO.noConfusion z,λ_ _ z=>HO.noConfusion z⟩
theorem ak1.no(h:ak1 o):aj4 o=true:=by
 cases o<;>first |rfl|exact absurd rfl (h.1 _)
def del2(H:Hp)(a b:Addr):Hp:=λc=>if c=a\/c=b then none else H c
section
variable {H j G i:Hp}
theorem T6(h:c≠a)(B:c≠b):del2 H a b c=H c:=cW6 λz=>z.elim h B
theorem X4(h:del2 H a b c=some o):c≠a/\c≠b/\H c=some o:=by
 unfold del2 at h;split at h
 .cases h
 .rename_i z;exact⟨λe=>z (.inl e),λe=>z (.inr e),h⟩
theorem Tbs.del2(h:Tbs H)(n:H a=some o)(p:ak1 o)(N:H b=some O)(P:ak1 O):Tbs (L3.del2 H a b):=λt C=>by
 obtain⟨s,e,r⟩:=h t C;have n1:t.1≠a:=λz=>by rw[z,n]at e;cases e;exact p.1 _ rfl
 have n2:t.1≠b:=λz=>by rw[z,N]at e;cases e;exact P.1 _ rfl
 refine⟨s,by rw[T6 n1 n2];exact e,r.mono λc B=> ?_⟩;rw[T6 (λz=>by rw[z,n]at B;cases B;exact p.2 _ _ rfl) (λz=>by rw[z,N]at B;cases B;exact P.2 _ _ rfl)];exact B
theorem Ext.del2(e:Ext G H i j)(n:H a=some o)(p:ak1 o)(N:H b=some O)(P:ak1 O)(I:G a=none)(J:G b=none):
  Ext G (L3.del2 H a b) i (L3.del2 j a b)/\i a=none/\i b=none/\j a=some o/\j b=some O:=by
 have B:i a=none:=e.fr a (by rw[n];simp) I;have C:i b=none:=e.fr b (by rw[N];simp) J;have E:=e.h.yes n p.no;have F:=e.h.yes N P.no;refine⟨⟨e.g,⟨λc u z=> ?_,e.s.t.del2 E p F P,e.s.n⟩,λc u z=> ?_,λc L M=> ?_⟩,B,C,E,F⟩
 .rw[T6 (λy=>by rw[y,B]at z;cases z) (λy=>by rw[y,C]at z;cases z)];exact e.s c u z
 .obtain⟨c1,c2,z⟩:=X4 z;rw[T6 c1 c2];exact e.h c u z
 .refine e.fr c (λz=>L ?_) M;unfold L3.del2;split
  .rfl
  .exact z
end
structure BdH(K:cW0)(G H:Hp)(C a d b:Addr)(t:T):Prop where
 ex:∃q rows os u p xs ys,t=bdT q rows os u/\H a=some (.ins C d [("sought",.int q),("rows",.ref p),("owners",.ref b),("under",.int u)])/\G p=⇑xs/\j9 K G rows xs/\H b=⇑ys/\j9 K G os ys
 ga:G a=none
 gb:G b=none
 ab:a≠b
 cl:Cls K C
 na:∀f∈fsB,Q4 K C f
section
variable {K:cW0}{G H g h i j:Hp}
theorem BdH.step(B:BdH K G H c a d b S)(e:Ext G H g h):BdH K g h c a d b S/\Ext G (L3.del2 H a b) g (L3.del2 h a b):=by
 obtain⟨q,r,os,U,R,X,y,I,M,N,O,P,Q⟩:=B.ex;obtain⟨x,E,F,J,L⟩:=e.del2 M ad9 P aK2 B.ga B.gb;exact⟨⟨⟨q,r,os,U,R,X,y,I,J,e.g _ _ N,O.mono e.g,L,Q.mono e.g⟩,E,F,B.ab,B.cl,B.na⟩,x⟩
def ac6(G H:Hp)(a b:Addr):Hp:=λc=>if c=a\/c=b then H c else G c
theorem BdH.same(B:BdH K G H E a d b F):D7 G (ac6 G H a b):=λc o z=>by
 unfold ac6;rw[cW6 λy=>by
  rcases y with y|y
  .rw[y,B.ga]at z;cases z
  .rw[y,B.gb]at z;cases z]
 exact z
theorem BdH.rep(B:BdH K G H c a d b M):Rep K (ac6 G H a b) M (.ref a):=by
 obtain⟨q,r,os,U,P,x,y,rfl,E,F,I,J,L⟩:=B.ex;have s:=B.same;unfold bdT;erw[Rep];refine⟨a,c,d,[("sought",.int q),("rows",.ref P),("owners",.ref b),("under",.int U)],[.int q,.ref P,.ref b,.int U],rfl,?_,rfl,⟨B.cl,B.na⟩,j9.cons (by simp[Rep]) (j9.cons ?_ (j9.cons ?_ (j9.cons (by simp[Rep]) j9.nil)))⟩
 .show ac6 G H a b a=_;unfold ac6;rw[cW7 (.inl rfl)];exact E
 .simp only[Rep];exact⟨P,x,rfl,s _ _ F,I.mono s⟩
 .simp only[Rep];exact⟨b,y,rfl,by unfold ac6;rw[cW7 (.inr rfl)];exact J,L.mono s⟩
theorem BdH.sub(B:BdH K G H J a d b M)(s:D7 G H)(I:Tbs H)(n:∀c P,G c≠some (.tbl P)):Sub (ac6 G H a b) H:=by
 obtain⟨q,r,os,U,L,x,Y,_,E,_,_,F,_⟩:=B.ex;refine⟨λc o z=> ?_,I,λc P z=> ?_⟩
 .unfold ac6 at z;split at z
  .exact z
  .exact s c o z
 .unfold ac6 at z;split at z
  .rename_i y;rcases y with y|y
   .rw[y,E]at z;cases z
   .rw[y,F]at z;cases z
  .exact n c P z
mutual
theorem Rep.delB(E:G a=some o)(s:∀Z,o≠.tup Z/\∀u,o≠.frz u (.tup Z))(F:G b=⇑y):∀{t:T}{v:V},aj8 t=true->Rep K G t v->Rep K (L3.del2 G a b) t v
 |.non,_,_,C=>by simpa[Rep]using C
 |.bl _,_,_,C=>by simpa[Rep]using C
 |.int _,_,_,C=>by simpa[Rep]using C
 |.str _,_,_,C=>by simpa[Rep]using C
 |.ref _,_,_,C=>by simpa[Rep]using C
 |.lst _,_,f,_=>by simp[aj8]at f
 |.scr _,_,f,_=>by simp[aj8]at f
 |.obj _ _,_,f,_=>by simp[aj8]at f
 |.tup L,_,f,C=>by
  erw[Rep]at C⊢;erw[aj8]at f;obtain⟨c,x,I,B,J⟩:=C;refine⟨c,x,I,?_,j9.delB E s F f J⟩;rcases B with(B|⟨u,B⟩)|B
  .refine .inl (.inl ?_);rw[T6 (λz=>by rw[z,E]at B;cases B;exact(s _).1 rfl) (λz=>by rw[z,F]at B;cases B)];exact B
  .refine .inl (.inr ⟨u,?_⟩);rw[T6 (λz=>by rw[z,E]at B;cases B;exact(s _).2 _ rfl) (λz=>by rw[z,F]at B;cases B)];exact B
  .exact .inr B
theorem j9.delB(C:G a=some o)(F:∀z,o≠.tup z/\∀u,o≠.frz u (.tup z))(E:G b=⇑y):∀{s:List T}{X:List V},aH7 s=true->j9 K G s X->j9 K (L3.del2 G a b) s X
 |[],_,_,B=>by simpa[j9]using B
 |t::s,_,f,B=>by
  erw[j9]at B⊢;erw[aH7,cK2]at f;obtain⟨x,r,I,J,L⟩:=B;exact⟨x,r,I,Rep.delB C F E f.1 J,j9.delB C F E f.2 L⟩
end
end
structure RB(K:cW0)(G0 H0:Hp)(i:Nat)(C a d b:Addr)(G H:Hp)(wW:L2.St)(qQ:A3):Prop where
 x:Ext G0 (L3.del2 H0 a b) G (L3.del2 H a b)
 tb:Tbs H
 r:K5 K G wW (D5 [i] qQ)
 v:wW[i]?=some (some (.ref a))
 B:∃t,qQ[i]?=some (some t)/\BdH K G H C a d b t
section
variable {K:cW0}{G H g h G0 H0:Hp}
theorem RB.subG(R:RB K G0 H0 I E a d b G H w Q):D7 G H:=λc o z=>(X4 (R.x.s c o z)).2.2
theorem RB.set{j:Nat}{J:V}{F:T}(R:RB K G0 H0 I c a d b G H w Q)(E:j≠I)(M:Rep K G F J):RB K G0 H0 I c a d b G H (w.set j (some J)) (Q.set j (some F)):=by
 obtain⟨t0,e,L⟩:=R.B;exact⟨R.x,R.tb,by rw[aq2 _ _ _ _ (by simpa using E)];exact R.r.set M,by rw[cQ3 E];exact R.v,t0,by rw[cQ3 E];exact e,L⟩
theorem RB.step(R:RB K G0 H0 J c a d b G H w Q)(e:Ext G H g h):RB K G0 H0 J c a d b g h w Q:=by
 obtain⟨t0,I,E⟩:=R.B;obtain⟨F,X⟩:=E.step e;exact⟨R.x.trans X,e.s.t,R.r.mono e.g,R.v,t0,I,F⟩
theorem RB.peek(R:RB K G0 H0 M N a d b G H w Q):∃p,Sub p H/\K5 K p w Q/\∀g h,Ext p H g h->∃J,D7 G J/\RB K G0 H0 M N a d b J h w Q/\∀F I,aj8 F=true->Rep K g F I->Rep K J F I:=by
 obtain⟨t0,O,E⟩:=R.B;have S:=E.same;refine⟨ac6 G H a b,E.sub R.subG R.tb R.x.s.n,⟨by rw[R.r.1,ah9],λj F z=> ?_⟩,λg h e=> ?_⟩
 .by_cases L:j=M
  .subst L;rw[O]at z;cases z;exact⟨.ref a,R.v,E.rep⟩
  .obtain⟨I,k,l⟩:=R.r.2 j F (aq5 _ _ _ _ z (by simpa using L));exact⟨I,k,l.mono S⟩
 .obtain⟨q,af,os,aa,ae,xs,ys,h1,W,h3,h4,X,h6⟩:=E.ex;have P:g a=some _:=e.g a _ (by unfold ac6;rw[cW7 (.inl rfl)];exact W);have U:g b=some _:=e.g b _ (by unfold ac6;rw[cW7 (.inr rfl)];exact X);have s:D7 G (L3.del2 g a b):=λc o z=>by
   rw[T6 (λy=>by rw[y,E.ga]at z;cases z) (λy=>by rw[y,E.gb]at z;cases z)];exact e.g c o (S c o z)
  have x2:Ext G H (L3.del2 g a b) h:=by
   refine⟨s,⟨λc o z=>e.s c o (X4 z).2.2,e.s.t,λc n z=>e.s.n c n (X4 z).2.2⟩,e.h,λc Y Z=> ?_⟩;unfold L3.del2;split
   .rfl
   .rename_i y;refine e.fr c Y ?_;unfold ac6;rw[cW6 y];exact Z
  exact⟨_,s,R.step x2,λF I f u=>Rep.delB P (λzs=>⟨(λz=>HO.noConfusion z),λaa z=>HO.noConfusion z⟩) U f u⟩
end
def bk0(K:cW0)(B h:Hp)(i:Nat)(C a d b:Addr)(G:Hp)(D:ao9):Out->Prop
 |.nx Q=>∀w g H,D7 G g->RB K B h i C a d b g H w Q->D.nx w H
 |_=>False
theorem bk0.mono{K:cW0}{g H G B:Hp}{i:Nat}{C a d b:Addr}{D:ao9}{o:Out}(s:D7 G B)(h:bk0 K g H i C a d b G D o):bk0 K g H i C a d b B D o:=by
 cases o with
 |nx Q=>exact λw E F S R=>h w E F (s.trans S) R
 |_=>exact h
def tXD(K:cW0)(B h:Hp)(i:Nat)(C a d b:Addr)(g:GS):TS:=λD w H=>∃G Q o,RB K B h i C a d b G H w Q/\g Q=some o/\bk0 K B h i C a d b G D o
def NX(g:GS):Prop:=∀Q o,g Q=some o->∃B,o=.nx B
structure PXD(X:Cx)(i:Nat)(C:Addr)(st:Stmt)(g:GS):Prop where
 nx:NX g
 ps:∀G0 H0 a d b,PS X st (tXD X.K G0 H0 i C a d b g)
structure aI9(X:Cx)(i:Nat)(C:Addr)(st:List Stmt)(g:GS):Prop where
 nx:NX g
 ps:∀G0 H0 a d b,PSs X st (tXD X.K G0 H0 i C a d b g)
def spB(K:cW0)(C:Addr)(n:Nat)(F:List T->Option T):Sp:=λE H Q _=>∃G s t B a d b v,E=V.ref a::v/\Sub G (L3.del2 H a b)/\Tbs H/\BdH K G H C a d b t/\j9 K G s v/\s.length+1=n/\F (t::s)=some B/\
 ∀g h,Ext G (L3.del2 H a b) g (L3.del2 h a b)->Tbs h->BdH K g h C a d b B->Q .non h
theorem bK2:NX (o6 i g):=λQ o e=>by
 obtain⟨t,_,e⟩:=h9 e;cases e;exact⟨_,rfl⟩
theorem cp3{i:Nat}{F:List T->Option T}{g1 g2:L3.G}:NX (aZ9 i F g1 g2):=λQ o e=>by
 obtain⟨x,_,e⟩:=h9 e;obtain⟨y,_,e⟩:=h9 e;obtain⟨t,_,e⟩:=h9 e;obtain⟨B,_,e⟩:=h9 e;cases e;exact⟨_,rfl⟩
theorem cp2{g1 g2:GS}(h:NX g1)(H:NX g2):NX (m8 g1 g2):=λQ o e=>by
 obtain⟨O,k,e⟩:=h9 e;obtain⟨B,rfl⟩:=h _ _ k;exact H _ _ e
theorem bn6(h:NX b):∀n,NX (K8 c b n)
 |0=>λQ o e=>by cases e
 |n+1=>λQ o e=>by
  obtain⟨k,_,e⟩:=h9 e;cases k with
  |false=>cases e;exact⟨_,rfl⟩
  |true=>
   obtain⟨O,B,e⟩:=h9 e;obtain⟨C,rfl⟩:=h _ _ B;exact bn6 h n _ _ e
section
variable {K:cW0}{G H h g G0 H0:Hp}
theorem RB.put(R:RB K G0 H0 I c a d b G H w Q)(X:Ext G (L3.del2 H a b) h (L3.del2 g a b))(J:Tbs g)(F:BdH K h g c a d b E):RB K G0 H0 I c a d b h g w (Q.set I (some E)):=by
 obtain⟨t0,e,_⟩:=R.B;refine⟨R.x.trans X,J,?_,R.v,E,cQ4 (an8 e),F⟩;rw[az7,cT3,<-az7];exact R.r.mono X.g
end
section
variable {st:Stmt}
theorem am3{g1 g2:GS}(h:PXD X i C st g1)(F:aI9 X i C t g2):aI9 X i C (st::t) (m8 g1 g2):=⟨cp2 h.nx F.nx,λB E a d b=>PSs.imp (Q6 (h.ps B E a d b) (F.ps B E a d b)) λD w H z=>by
 obtain⟨G,Q,o,R,g,q⟩:=z;obtain⟨O,k,g⟩:=h9 g;obtain⟨J,rfl⟩:=h.nx _ _ k;exact⟨G,Q,_,R,k,λW I L s r=>⟨I,J,o,r,g,q.mono s⟩⟩⟩
theorem ax1{g1:GS}(h:PXD X i C st g1):aI9 X i C [st] g1:=⟨h.nx,λg H a d b=>am4 (h.ps g H a d b)⟩
theorem az5(j:Nat)(h:Wd (PX X e g))(N:ah8 X.N=true:=by rfl)(O:j≠i:=by decide)(M:X.N[j]?=some x:=by rfl)(Q:Loc X.env.scope x:=by first |exact .inl rfl|exact .inr rfl)(P:swapsWith e (some (.Name x W)) U.line X.env=pure false:=by rfl)(L:LcF X x:=by first |exact .inl rfl|exact .inr rfl):PXD X i C (.Assign [.Name x W] e U) (o6 j (gF g)):=have N:=O8 N;have h:=h.run;⟨bK2,λn u a d b=>PS.imp (ax4 N M Q h P L) λD y H z=>by
 obtain⟨G,Y,o,R,B,q⟩:=z;obtain⟨t,k,B⟩:=h9 B;cases B;obtain⟨w,S,k⟩:=h9 k;split at k
 case isFalse=>cases k
 case isTrue l=>
 cases k;obtain⟨p,s,r,un⟩:=R.peek;refine⟨p,Y,t,s,r,S,λv F E J Z=> ?_⟩;obtain⟨I,c,R2,f⟩:=un F E J;exact q _ I E c (R2.set O (f t v l Z))⟩
theorem aV0(f:A3->Nat)(O:Wd (PXB X c M))(N:aI9 X i C y L)(z:PassesOwn (model X.prog X.w) X.A X.env X.xe:=by exact PassesOwn.never):PXD X i C (.While c y [] ae) (λQ=>K8 M L (f Q) Q):=have O:=O.run;⟨λQ o e=>bn6 N.nx _ Q o e,λF I a d b=>PS.imp (bm6 z O (N.ps F I a d b)) λD wW aa zz=>by
 obtain⟨G,Q,o,R,x,q⟩:=zz;refine⟨λm W S=>∃H B,D7 G H/\RB X.K F I i C a d b H S W B/\K8 M L m B=some o,⟨f Q,G,Q,D7.refl _,R,x⟩,?_⟩;rintro m W S ⟨H,B,s,l,h⟩;cases m with
 |zero=>cases h
 |succ n=>
  obtain⟨k,k1,h⟩:=h9 h;obtain⟨p,sp,rp,un⟩:=l.peek;refine⟨p,B,k,sp,rp,k1,λj U u=> ?_⟩;obtain⟨P,Z,r,_⟩:=un j U u;cases k with
  |false=>
   cases h;exact q W P U (s.trans Z) r
  |true=>
   obtain⟨o2,Y,h⟩:=h9 h;obtain⟨E,rfl⟩:=N.nx _ _ Y;exact⟨λw J=>∃g E,D7 G g/\RB X.K F I i C a d b g J w E/\K8 M L n E=some o,λw J v=>⟨n,cU5 n,v⟩,⟨P,B,_,r,Y,λw g J s4 t=>⟨g,E,s.trans (Z.trans s4),t,h⟩⟩⟩⟩
theorem bm5{x m:Str}{p s c:Pos}{g1 g2:L3.G}{k P:Nat}{f:Addr}{N:FuncData}{Q:List Str}{F:List T->Option T}{pl:Sem Bool}(cl:Cls X.K C)(me:bd2 X.K C m f)(Hf:S4 X.prog X.w X.K X.mg X.aD CX0 k f N Q (spB X.K C 3 F))(hb:R9 X.K N Q [])(hr:G9 P X.A)(I:Wd (PX X E g1))(J:Wd (PX X e g2))(hk:k<=P:=by decide)(aj:∀q v v3 v4:V,([("sought",q),("rows",v),("owners",v3),("under",v4)]:List (Str×V)).lookup m=none:=by intro _ _ _ _;rfl)(hi:X.N[i]?=some x:=by rfl)(hv:Vis X.env.scope x:=by first |exact .inl rfl|exact .inr (.inl rfl)|exact .inr (.inr rfl))(hd:NoD x:=by decide)(ai:(x==("__classdict__":Str))=false:=by decide)(O:starEach [E,e] X.env=(false,eval E X.env)::starEach [e] X.env:=by rfl)(ao:StE X e []:=by rfl)(ak:(backTo c (starEach [e] X.env)).any (·.1)=false:=by rfl)(ht:eval (.Call (.Attribute (.Name x p) m s) [E,e] [] c) X.env=(do
   let o<-eval (.Name x p) X.env
   standAt s.atName
   let(f,f1)<-holding [o] (getMethod o m pl)
   callWith c f f1 (backTo c (starEach [E,e] X.env)) (backToKw c (keywordEach [] X.env))):=by rfl) (aq:swapsWith (.Call (.Attribute (.Name x p) m s) [E,e] [] c) none ar.line X.env=pure false:=by rfl):PXD X i C (.Expr (.Call (.Attribute (.Name x p) m s) [E,e] [] c) ar) (aZ9 i F (gF g1) (gF g2)):=have I:=I.run;have J:=J.run;⟨cp3,λG0 H0 a d b aA au w H D aa zz=>by
 obtain⟨G,S,ay,R,h,q⟩:=zz;obtain⟨t1,n1,h⟩:=h9 h;obtain⟨t2,n2,h⟩:=h9 h;obtain⟨av,n3,h⟩:=h9 h;obtain⟨t',n4,h⟩:=h9 h;cases h;obtain⟨aB,k1,n1⟩:=h9 n1;split at n1
 case isFalse=>cases n1
 case isTrue f1=>
 cases n1;obtain⟨aC,k2,n2⟩:=h9 n2;split at n2
 case isFalse=>cases n2
 case isTrue f2=>
 cases n2;obtain⟨t0,L,B⟩:=R.B;have ae:t0=av:=by rw[L]at n3;cases n3;rfl
 subst ae;obtain⟨q',az,os,aD,p',xs,ys,_,b2,_⟩:=B.ex;refine ap7 (cg3 (as9 hi hv hd ai) cl me Hf (hr.mono hk) hb .nil aV5 (V0 I (V0 J ad3 ao) O) O ak ht) aq aA au w H D aa ?_;obtain⟨u,sp,rp,un⟩:=R.peek;refine⟨.ref a,R.v,a,d,_,rfl,b2,aj _ _ _ _,u,S,t1,sp,rp,k1,λv1 g z x1 r1=> ?_⟩;obtain⟨G2,s2,R2,ag⟩:=un g z x1;have w1:=ag _ _ f1 r1;obtain⟨y,sq,rq,ax⟩:=R2.peek;refine⟨y,S,t2,sq,rq,k2,λv j H3 x3 r3=> ?_⟩;obtain⟨l,U,r,ah⟩:=ax j H3 x3;have w2:=ah _ _ f2 r3;obtain⟨t,M,Y⟩:=r.B;have af:t=t0:=by rw[L]at M;cases M;rfl
 subst af;refine⟨l,[t1,t2],t,t',a,d,b,[v1,v],rfl,r.x.s,r.tb,Y,j9.cons (w1.mono U) (j9.cons w2 j9.nil),rfl,n4,λn H5 W aw Z=> ?_⟩;exact q w n H5 (s2.trans (U.trans W.g)) (r.put W aw Z)⟩
end
section
variable {K:cW0}
theorem fnB{ae l:Str}{st:Stmt}{f:Addr}{O:FuncData}{N p:List Str}{k:Nat}{g:GS}{C:Addr}(F:Fun K ae l st f O)(S:Q1 N p (t7 st))(np:p.length<=N.length)
  (W:∀(c:Value) (A:Around) (L:List Env) (s:Shared) (H:Hp) (E:XK),G9 k (A.deeper (envOfC l (t7 st) s.sz f c))->aI9 (F9 CX0 P aa K y u N l (t7 st) f c A L s H E).nox 0 C (O9 st) g):
  S4 P aa K y u CX0 (k+1) f O p (spB K C p.length (aR0 N.length g)):=by
 refine F.ok S (λvs H Q E h=> ?_) (λc A L s H vs Q E Z h=> ?_)
 .obtain⟨G,J,t,i,a,d,b,v,rfl,_,_,_,r,Y,_⟩:=h;rw[cJ3,r.length,Y]
 .obtain⟨G,J,t,i,a,d,b,v,rfl,sG,tb,B,r,Y,I,q⟩:=h;refine⟨_,(W c A L s H E Z).ps G H a d b,?_⟩;obtain⟨af,X,I⟩:=h9 I;obtain⟨z,rfl⟩:=(W c A L s H E Z).nx _ _ X;have r0:j9 K G (.ref a::J) (.ref a::v):=j9.cons (by simp[Rep]) r;have x:=ag6 (N:=N) r0 (by rw[cJ3];omega);have R:RB K G H 0 C a d b G H (L2.start N (.ref a::v)) (A0 N.length (t::J)):=by
   refine⟨Ext.refl sG,tb,?_,?_,t,?_,B⟩
   .have U:=x.setN (i:=0) (o:=some (.ref a));have w:(L2.start N (V.ref a::v)).set 0 (some (V.ref a))=L2.start N (V.ref a::v):=by simp[L2.start]
    have e:(A0 N.length (T.ref a::J)).set 0 none=D5 [0] (A0 N.length (t::J)):=by simp[D5,A0]
    rw[w,e]at U;exact U
   .simp[L2.start]
   .simp[A0]
  refine⟨G,_,_,R,X,λag n o _ M=> ?_⟩;obtain⟨t2,e,j⟩:=M.B;have I:(z[0]?).join=some i:=I;rw[e]at I;cases I;exact q n o M.x M.tb j
end
section
variable {K:cW0}{G H g j G0 H0:Hp}
theorem Del.seqL(B:G a=some (.ins C d f))(h:SqL K G c x):SqL K (L3.del G a) c x:=by
 rcases h with(h|⟨u,h⟩)|h
 .exact .inl (.inl (by rw[ao2 λz=>by rw[z,B]at h;cases h];exact h))
 .exact .inl (.inr ⟨u,by rw[ao2 λz=>by rw[z,B]at h;cases h];exact h⟩)
 .exact .inr h
theorem Del.seqT(B:G a=some (.ins C d f))(h:SqT K G c x):SqT K (L3.del G a) c x:=by
 rcases h with(h|⟨u,h⟩)|h
 .exact .inl (.inl (by rw[ao2 λz=>by rw[z,B]at h;cases h];exact h))
 .exact .inl (.inr ⟨u,by rw[ao2 λz=>by rw[z,B]at h;cases h];exact h⟩)
 .exact .inr h
mutual
theorem Rep.delA(F:G a=some (.ins C d J)):∀{t:T}{v:V},aq0 t=true->Rep K G t v->Rep K (L3.del G a) t v
 |.non,_,_,h=>by simpa[Rep]using h
 |.bl _,_,_,h=>by simpa[Rep]using h
 |.int _,_,_,h=>by simpa[Rep]using h
 |.str _,_,_,h=>by simpa[Rep]using h
 |.ref _,_,_,h=>by simpa[Rep]using h
 |.scr _,_,_,h=>by
  erw[Rep]at h⊢;obtain⟨c,E,B⟩:=h;exact⟨c,E,Del.seqL F B⟩
 |.obj _ _,_,f,_=>by simp[aq0]at f
 |.lst s,_,f,h=>by
  erw[Rep]at h⊢;erw[aq0]at f;obtain⟨c,x,E,B,I⟩:=h;refine⟨c,x,E,?_,j9.delA F f I⟩;rw[ao2 λz=>by rw[z,F]at B;cases B];exact B
 |.tup s,_,f,h=>by
  erw[Rep]at h⊢;erw[aq0]at f;obtain⟨c,x,E,B,I⟩:=h;exact⟨c,x,E,Del.seqT F B,j9.delA F f I⟩
theorem j9.delA(B:G a=some (.ins C d J)):∀{s:List T}{X:List V},az6 s=true->j9 K G s X->j9 K (L3.del G a) s X
 |[],_,_,h=>by simpa[j9]using h
 |t::s,_,f,h=>by
  erw[j9]at h⊢;erw[az6,cK2]at f;obtain⟨x,r,E,F,I⟩:=h;exact⟨x,r,E,Rep.delA B f.1 F,j9.delA B f.2 I⟩
end
theorem RB.peekV(R:RB K G0 H0 J M a d b G H w Q):∃O,Sub O H/\K5 K O w (vw J Q)/\∀g j,Ext O H g j->∃I,D7 G I/\RB K G0 H0 J M a d b I j w Q/\(∀E L,aq0 E=true->Rep K g E L->Rep K I E L)/\(∀N X,az6 N=true->j9 K g N X->j9 K I N X)/\∀c,g c=none->I c=none:=by
 obtain⟨t0,W,F⟩:=R.B;obtain⟨q,aa,os,u,p,X,ys,n,h2,h3,h4,h5,h6⟩:=F.ex;have s:D7 G (upd G a (.ins M d [("sought",.int q),("rows",.ref p),("owners",.ref b),("under",.int u)])):=K6 F.ga _;have Y:vw J Q=Q.set J (some (.obj fsV [.int q,.lst aa,.int u])):=by
  unfold vw;rw[W];subst n;rfl
 refine⟨upd G a (.ins M d [("sought",.int q),("rows",.ref p),("owners",.ref b),("under",.int u)]),⟨λc o z=> ?_,R.tb,λc S z=> ?_⟩,⟨?_,λk E z=> ?_⟩,λg j e=> ?_⟩
 .by_cases y:c=a
  .subst y;rw[t8]at z;cases z;exact h2
  .rw[n6 y]at z;exact R.subG c o z
 .by_cases y:c=a
  .subst y;rw[t8]at z;cases z
  .rw[n6 y]at z;exact R.x.s.n c S z
 .rw[Y,cR1,R.r.1,ah9]
 .rw[Y]at z;by_cases P:J=k
  .subst P;rw[cQ4 (an8 W)]at z;cases z;refine⟨.ref a,R.v,?_⟩;erw[Rep];refine⟨a,M,d,[("sought",.int q),("rows",.ref p),("owners",.ref b),("under",.int u)],[.int q,.ref p,.int u],rfl,t8,rfl,⟨F.cl,λf h=>F.na f ?_⟩,j9.cons (by simp[Rep]) (j9.cons ?_ (j9.cons (by simp[Rep]) j9.nil))⟩
   .simp only[fsV,cS0,List.not_mem_nil,or_false]at h;erw[fsB,cS0,List.not_mem_nil,or_false];rcases h with z|z|z
    .exact .inl z
    .exact .inr (.inl z)
    .exact .inr (.inr (.inr z))
   .simp only[Rep];exact⟨p,X,rfl,s _ _ h3,h4.mono s⟩
  .rw[cQ3 P]at z;obtain⟨L,k1,k2⟩:=R.r.2 k E (aq5 _ _ _ _ z (by simpa using Ne.symm P));exact⟨L,k1,k2.mono s⟩
 .have Z:g a=some _:=e.g a _ t8;have l:D7 G (L3.del g a):=λc o z=>by
   rw[ao2 λy=>by rw[y,F.ga]at z;cases z];exact e.g c o (s c o z)
  have x2:Ext G H (L3.del g a) j:=by
   refine⟨l,⟨λc o z=> ?_,e.s.t,λc S z=> ?_⟩,e.h,λc hc hg=> ?_⟩
   .by_cases y:c=a
    .subst y;rw[bq1]at z;cases z
    .rw[ao2 y]at z;exact e.s c o z
   .by_cases y:c=a
    .subst y;rw[bq1]at z;cases z
    .rw[ao2 y]at z;exact e.s.n c S z
   .by_cases y:c=a
    .subst y;exact bq1
    .rw[ao2 y];exact e.fr c hc (by rw[n6 y];exact hg)
  refine⟨_,l,R.step x2,λE L h U=>Rep.delA Z h U,λN X h U=>j9.delA Z h U,λc z=> ?_⟩;unfold L3.del;split
  .rfl
  .exact z
end
section
theorem bU4:aI9 X i C [] z9:=⟨λQ o e=>by cases e;exact⟨_,rfl⟩,λg B a d b=>PSs.imp aN5 λD w H z=>by
 obtain⟨G,Q,o,R,h,q⟩:=z;cases h;exact q w G H (D7.refl _) R⟩
theorem bm4(j:Nat)(h:Wd (PX X e g))(N:ah8 X.N=true:=by rfl)(O:j≠i:=by decide)(M:X.N[j]?=some x:=by rfl)(Q:Loc X.env.scope x:=by first |exact .inl rfl|exact .inr rfl)(P:swapsWith e (some (.Name x W)) U.line X.env=pure false:=by rfl)(L:LcF X x:=by first |exact .inl rfl|exact .inr rfl):PXD X i C (.Assign [.Name x W] e U) (o6 j (gV i g)):=have N:=O8 N;have h:=h.run;⟨bK2,λc n a d b=>PS.imp (ax4 N M Q h P L) λD y H z=>by
 obtain⟨G,u,o,R,B,q⟩:=z;obtain⟨t,k,B⟩:=h9 B;cases B;obtain⟨w,S,k⟩:=h9 k;split at k
 case isFalse=>cases k
 case isTrue l=>
 cases k;obtain⟨p,s,r,un⟩:=R.peekV;refine⟨p,_,t,s,r,S,λv F E J Y=> ?_⟩;obtain⟨I,Z,R2,f,_⟩:=un F E J;exact q _ I E Z (R2.set O (f t v l Y))⟩
theorem cy6{c:GB}{a b:GS}(h:NX a)(H:NX b):NX (sIf c a b):=λQ o e=>by
 obtain⟨k,_,e⟩:=h9 e;cases k with
 |true=>exact h _ _ e
 |false=>exact H _ _ e
theorem cf5(B:Wd (PXB X c P))(I:aI9 X i C W N)(J:aI9 X i C Y O):PXD X i C (.If c W Y Z) (sIf P N O):=have B:=B.run;⟨cy6 I.nx J.nx,λg F a d b=>PS.imp (bj0 B (I.ps g F a d b) (J.ps g F a d b)) λD w H z=>by
 obtain⟨G,Q,o,R,h,q⟩:=z;obtain⟨k,U,h⟩:=h9 h;obtain⟨p,s,r,un⟩:=R.peek;refine⟨p,Q,k,s,r,U,λL M e=> ?_⟩;obtain⟨E,S,R2,_⟩:=un L M e;cases k with
 |true=>exact at9 ⟨E,Q,o,R2,h,q.mono S⟩
 |false=>exact au0 ⟨E,Q,o,R2,h,q.mono S⟩⟩
end
theorem bF6(h:toL t=some s):t=.lst s:=by cases t<;>cases h;rfl
theorem bk7(h:toI t=some i):t=.int i:=by cases t<;>cases h;rfl
theorem bt3(h:bi4 Q t b L O M=some o):∃B f q r os u c C s n N m U,t=.lst B/\b=.obj f [.int q,.lst r,.lst os,.int u]/\L=.int c/\O=.int C/\M=.lst s/\ixT B.length c=some n/\ixT os.length c=some N/\ixT s.length C=some m/\s[m]?=↥U/\
  o=.nx ((Q.set 4 ⇑(B.set n (.lst s))).set 0 (some (bdT q (B.set n (.lst s)) (os.set N (.int C)) U))):=by
 obtain⟨B,a1,h⟩:=h9 h;obtain⟨x,a2,h⟩:=h9 h;obtain⟨c,a3,h⟩:=h9 h;obtain⟨C,a4,h⟩:=h9 h;obtain⟨s,a5,h⟩:=h9 h;obtain⟨n,E,h⟩:=h9 h;obtain⟨N,F,h⟩:=h9 h;obtain⟨m,H,h⟩:=h9 h;obtain⟨k,I,h⟩:=h9 h;obtain⟨U,J,h⟩:=h9 h;cases bF6 a1;cases bk7 a3;cases bk7 a4;cases bF6 a5;cases bk7 J;cases h;unfold bdP at a2;split at a2<;>cases a2;exact⟨_,_,_,_,_,_,_,_,_,n,N,m,_,rfl,rfl,rfl,rfl,rfl,E,F,H,I,rfl⟩
theorem ch5:NX (bi6 g):=λQ o e=>by
 obtain⟨t,_,e⟩:=h9 e;obtain⟨_,_,e⟩:=h9 e;obtain⟨_,_,e⟩:=h9 e;obtain⟨_,_,e⟩:=h9 e;obtain⟨_,_,e⟩:=h9 e;obtain⟨_,_,_,_,_,_,_,_,_,_,_,_,_,_,_,_,_,_,_,_,_,_,rfl⟩:=bt3 e;exact⟨_,rfl⟩
theorem RB.val{K:cW0}{G J g L:Hp}{c a d b:Addr}{I j:Nat}{w:L2.St}{Q:A3}{E:T}(R:RB K g L I c a d b G J w Q)(M:j≠I)(h:D3 j Q=some E):∃F,w[j]?=some (some F)/\Rep K G E F:=by
 have h:(Q[j]?).join=some E:=h;refine R.r.2 j E (aq5 _ _ _ _ ?_ (by simpa using M));cases e:Q[j]? with
 |none=>rw[e]at h;cases h
 |some o=>rw[e]at h;cases o<;>first |(cases h;done)|(cases h;rfl)
theorem Z7(h:t {D with nx:=u D} w H):ck6 t u D w H:=h
theorem aZ5(h:t w H λx B=>g x w B D.nx):aZ6 t g D w H:=h
theorem RB.tail{K:cW0}{g O h M I:Hp}{L a d b p:Addr}{aa:L2.St}{Q:A3}{Z Y:List V}{J os:List T}{q u:Int}(R2:RB K M I 0 L a d b g O aa Q)(X:L3.del2 I a b p=none)(ae:g p=none)(f:p≠a)(l:p≠b)(P:4<Q.length)
  (R:h a=some (.ins L d [("sought",.int q),("rows",.ref p),("owners",.ref b),("under",.int u)])) (S:h b=⇑Y) (hp:h p=⇑Z) (W:∀c,c≠a->c≠b->c≠p->h c=O c) (w:Tbs h) (n:j9 K g J Z) (ro:j9 K g os Y):
  RB K M I 0 L a d b (upd g p (.lst Z)) h (aa.set 4 (some (.ref p))) ((Q.set 4 ⇑J).set 0 (some (bdT q J os u))):=by
 obtain⟨t0,e0,E⟩:=R2.B;have s:=K6 ae (HO.lst Z);have x':Ext M (L3.del2 I a b) (upd g p (.lst Z)) (L3.del2 h a b):=by
  refine⟨R2.x.g.trans s,⟨λc o z=> ?_,w.del2 R ad9 S aK2,aD2 R2.x.s.n rfl⟩,λc o z=> ?_,λc U hg=> ?_⟩
  .by_cases y:c=p
   .subst y;rw[t8]at z;cases z;rw[T6 f l];exact hp
   .rw[n6 y]at z;obtain⟨c1,c2,c3⟩:=X4 (R2.x.s c o z);rw[T6 c1 c2,W c c1 c2 y];exact c3
  .have y:c≠p:=λy=>by rw[y,X]at z;cases z
   obtain⟨c1,c2,_⟩:=X4 z;obtain⟨o',k,N⟩:=R2.x.h c o z;rw[T6 c1 c2]at k;exact⟨o',by rw[T6 c1 c2,W c c1 c2 y];exact k,N⟩
  .rw[n6 λy=>U (by rw[y];exact X)];exact R2.x.fr c U hg
 have hl:0<Q.length:=an8 e0;refine⟨x',w,⟨?_,λj af z=> ?_⟩,by rw[cQ3 ⋯];exact R2.v,_,cQ4 (by rw[cR1];exact hl),⟨⟨q,J,os,u,p,Z,Y,rfl,R,t8,n.mono s,S,ro.mono s⟩,by rw[n6 (Ne.symm f)];exact E.ga,by rw[n6 (Ne.symm l)];exact E.gb,E.ab,E.cl,E.na⟩⟩
 .rw[ah9,cR1,cR1,cR1,R2.r.1,ah9]
 .obtain⟨F,z2⟩:=bo1 _ _ _ _ z;have e:j≠0:=by simpa using z2
  rw[cQ3 (Ne.symm e)]at F;by_cases y:4=j
  .subst y;rw[cQ4 P]at F;cases F;refine⟨.ref p,cQ4 (by rw[R2.r.1,ah9];exact P),?_⟩;erw[Rep];exact⟨p,Z,rfl,t8,n.mono s⟩
  .rw[cQ3 y]at F;obtain⟨ag,k,N⟩:=R2.r.2 j af (aq5 _ _ _ _ F (by simpa using e));exact⟨ag,by rw[cQ3 y];exact k,N.mono s⟩
section
theorem bI2{ai t aa e0 E af F I u y e3 ag J ah:Expr}{ao:List Expr}{s:Scope}{it:GL}{is:List Nat}{st:St1}{gc:GB}{ge:L3.G}{x:Str}{aB aD aJ M p5 ax p6 N O p7 ay az p8:Pos}{nT:Nat}{L:List Nat}(l:Cls X.K C)(na:∀f∈fsB,Q4 X.K C f)(k4:PE X J (ad1 4))(k1:PE X F (ad1 1))(k3:PE X e3 (ad1 3))(k0:PE X e0 (ad1 0))(bg:PE X ah (ad1 4))(aZ:PE X E (ad1 0))(bb:PE X I (ad1 1))(k2:PE X u (ad1 2))(ba:PE X af (ad1 0))(bf:PE X ag (ad1 3))(bc:PE X y (ad1 2))(hi:Wd (PXI X t aa it))(hg:∀{l C n W Z},Wd (PXG (L7 X s l C (cN X t L) n W Z) t is st))(hc:∀{l C n W Z},Wd (aB8 (L7 X s l C (cN X t L) n W Z) ao gc))(he:∀{l C n W Z},Wd (PX (L7 X s l C (cN X t L) n W Z) ai ge))(hN:ah8 X.N=true:=by rfl)(aQ:X.calm=true:=by rfl)(aK:aj6 X.env.scope X.N s (cN X t L) nT L=true:=by rfl)(aS:is.all (λaY=>decide (aY<nT))=true:=by rfl)(h4:X.N[4]?=some x:=by rfl)(aU:X.env.scope.names.lookup x=some .local:=by rfl)(aX:swapsWith (.ListComp ai [⟨t,aa,ao,0⟩] s aB) (some (.Name x aD)) aJ.line X.env=pure true:=by rfl)(aR:NFo X aa:=by intro _;rfl)(a4:∀v,assign (.Subscript J F M) X.env v=(do
   let o<-holding [v] (eval J X.env)
   let i<-holding [v,o] (eval F X.env)
   standAt M
   holding [v,o,i] (setItem o i v)
   release [v,o,i] []):=by intro _;rfl) (w4:swapsWithSole [.Subscript J F M] e3 p5.line X.env=pure false:=by rfl) (u4:swappedStores [.Subscript J F M] e3 X.env=pure none:=by rfl) (q4:(assignEach [.Subscript J F M] X.env).map (·.2)=[assign (.Subscript J F M) X.env]:=by rfl) (w5:swapsWith ah (some (.Attribute e0 "rows" ax)) p6.line X.env=pure false:=by rfl) (b6:attributeBase E "owners" X.env (eval E X.env)=eval E X.env:=by rfl) (a6:∀v,assign (.Subscript (.Attribute E "owners" N) I O) X.env v=(do
   let o<-holding [v] (eval (.Attribute E "owners" N) X.env)
   let i<-holding [v,o] (eval I X.env)
   standAt O
   holding [v,o,i] (setItem o i v)
   release [v,o,i] []):=by intro _;rfl) (w6:swapsWithSole [.Subscript (.Attribute E "owners" N) I O] u p7.line X.env=pure false:=by rfl) (u6:swappedStores [.Subscript (.Attribute E "owners" N) I O] u X.env=pure none:=by rfl) (q6:(assignEach [.Subscript (.Attribute E "owners" N) I O] X.env).map (·.2)=[assign (.Subscript (.Attribute E "owners" N) I O) X.env]:=by rfl) (w7:swapsWith (.Subscript ag y az) (some (.Attribute af "under" ay)) p8.line X.env=pure false:=by rfl) (i7:aO4 y:=by intro _ _;rfl):aI9 X 0 C [.Assign [.Name x aD] (.ListComp ai [⟨t,aa,ao,0⟩] s aB) aJ,.Assign [.Subscript J F M] e3 p5,.Assign [.Attribute e0 "rows" ax] ah p6,.Assign [.Subscript (.Attribute E "owners" N) I O] u p7,.Assign [.Attribute af "under" ay] (.Subscript ag y az) p8]
   (bi6 (o0 it nT L st gc ge)):=by
 have hN:=O8 hN;have hi:=hi.run;have hg:=λr Q S U x=>(@hg r Q S U x).run;have hc:=λr Q S U x=>(@hc r Q S U x).run;have he:=λr Q S U x=>(@he r Q S U x).run
 refine⟨ch5,λG0 H0 a d b aA br w au D av ⟨G,qQ,bw,R,h,q⟩=> ?_⟩;refine Q6 (as8 (g:=tGt X.K is st) (tc:=tXB X.K gc) (te:=tX X.K ge) (i:=4) _ nT L aQ aK hi hg hc he hN h4 aU aX aR)
  (Q6 (aV3 k3 (bm9 k4 k1 aQ8 a4) w4 u4 q4) (Q6 (aC9 k0 bg w5) (Q6 (aV3 k2 (bm9 (bn1 aZ b6) bb aQ8 a6) w6 u6 q6) (am4 (aC9 ba (ca2 bw6 bf bc i7) w7))))) aA br w au D av ?_
 obtain⟨bA,j,h⟩:=h9 h;obtain⟨tb,m1,h⟩:=h9 h;obtain⟨tc,m2,h⟩:=h9 h;obtain⟨to,m3,h⟩:=h9 h;obtain⟨tk,m4,h⟩:=h9 h;obtain⟨ts,fs,q0,aE,os,ar,Y,H,ks,ae,n',m,u',rfl,rfl,rfl,rfl,rfl,Q,S,U,x,rfl⟩:=bt3 h;obtain⟨t',m5,j⟩:=h9 j;split at j
 case isFalse=>cases j
 case isTrue aW=>
 cases j;have nl:az6 ts=true:=by simpa only[aq0]using aW
 have ak:4<w.length:=by rw[av.len];exact an8 h4
 have aV:4<qQ.length:=by rw[R.r.1,ah9]at ak;exact ak
 obtain⟨Gp,sp,rp,un⟩:=R.peekV;refine Z7 (aZ5 ?_);refine aS5 aS w au _ ⟨Gp,vw 0 qQ,ts,sp,rp,m5,λp xs G1 H1 hp gp F h1 r1=> ?_⟩;obtain⟨G2,s2,R2,fl,fL,f0⟩:=un G1 H1 F;have rx:=fL _ _ nl r1;have aj:=f0 p gp;obtain⟨v1,aL,w1⟩:=R2.val (j:=1) ∎ m2;obtain⟨v2,aM,w2⟩:=R2.val (j:=2) ∎ m3;obtain⟨v3,aN,w3⟩:=R2.val (j:=3) ∎ m4;erw[Rep]at w1 w2;subst w1 w2;have bt:=w3;erw[Rep]at w3;obtain⟨P,zs,rfl,g,rk⟩:=w3;obtain⟨tB,eB,B⟩:=R2.B;have aO:tB=.obj fs [.int q0,.lst aE,.lst os,.int ar]:=by
  have m1:(qQ[0]?).join=some (.obj fs [.int q0,.lst aE,.lst os,.int ar]):=m1;rw[eB]at m1;cases m1;rfl
 subst aO;obtain⟨q1,bz,bx,u1,bl,bC,ys,hB,b2,b3,b4,b5,aw⟩:=B.ex;unfold bdT at hB;cases hB;have k:p≠a:=λz=>by rw[z,b2]at h1;cases h1
 have pb:p≠b:=λz=>by
  have aP:=R.B;obtain⟨bB,_,B0⟩:=aP;obtain⟨_,_,_,_,_,_,_,_,_,_,_,k5,_⟩:=B0.ex;rw[<-z,hp]at k5;cases k5
 have bq:P≠p:=λz=>by rw[z,aj]at g;cases g
 have bo:P≠a:=λz=>by rw[z,B.ga]at g;cases g
 have bp:P≠b:=λz=>by rw[z,B.gb]at g;cases g
 have aT:H1 P=⇑zs:=R2.subG _ _ g;have aI:(w.set 4 (some (V.ref p)))[4]?=some (some (V.ref p)):=cQ4 ak;have aF:(w.set 4 (some (V.ref p)))[1]?=some (some (V.int Y)):=by rw[cQ3 ⋯];exact aL
 have aG:(w.set 4 (some (V.ref p)))[2]?=some (some (V.int H)):=by rw[cQ3 ⋯];exact aM
 have aH:(w.set 4 (some (V.ref p)))[3]?=some (some (V.ref P)):=by rw[cQ3 ⋯];exact aN
 have aq:(w.set 4 (some (V.ref p)))[0]?=some (some (V.ref a)):=by rw[cQ3 ⋯];exact R2.v
 have bh:Q4 X.K C "rows":=na _ (by simp[fsB]);have bj:Q4 X.K C "owners":=na _ (by simp[fsB]);have bk:Q4 X.K C "under":=na _ (by simp[fsB]);have rc:Rep X.K G2 (.int H) (.int H):=by simp[Rep]
 refine Z7 ⟨.ref P,aH,.ref p,aI,.int Y,aF,p,xs,Y,ae,rfl,rfl,h1,by rw[rx.length];exact Q,?_⟩;refine Z7 ⟨.ref p,aI,.ref a,aq,a,C,d,_,rfl,by rw[n6 (Ne.symm k)];exact b2,l,bh,(by show(4:Nat)<1000;decide),?_⟩;refine Z7 ⟨.int H,aG,.ref a,aq,a,C,d,_,.ref b,rfl,t8,l,bj,rfl,.int Y,aF,b,ys,Y,n',rfl,rfl,by rw[n6 (Ne.symm B.ab),n6 (Ne.symm pb)];exact b5,by rw[aw.length];exact S,?_⟩;refine⟨.ref P,aH,.int H,aG,P,zs,H,.int u',rfl,rfl,SqL.of (by rw[n6 bp,n6 bo,n6 bq];exact aT),?_,.ref a,aq,a,C,d,_,rfl,by rw[n6 B.ab];exact t8,l,bk,(by show(4:Nat)<1000;decide),?_⟩
 .unfold atI;rw[rk.length,show ixN ks.length H=some m from U,cI7];obtain⟨bD,hy,ry⟩:=rk.get x;erw[Rep]at ry;rw[hy,ry]
 .refine q _ (upd G2 p (.lst (xs.set ae (.ref P)))) _ (s2.trans (K6 aj _)) (R2.tail (R.x.h.free ?_) aj k pb aV t8 ?_ ?_ (λc c1 c2 c3=> ?_) ?_ (rx.set bt ae) (aw.set rc n'))
  .unfold L3.del2;split
   .rfl
   .exact hp
  .rw[n6 (Ne.symm B.ab),t8]
  .rw[n6 k,n6 pb,n6 k,t8]
  .rw[n6 c1,n6 c2,n6 c1,n6 c3]
  .have t1:=R2.tb.lst (o:=.lst (xs.set ae (.ref P))) h1;have t2:=t1.upd (a:=a) (o:=.ins C d (ah4 "rows" (.ref p) [("sought",.int q0),("rows",.ref bl),("owners",.ref b),("under",.int ar)])) λbu e=>by
    rw[n6 (Ne.symm k),b2]at e;cases e;exact ad9
   have t3:=t2.lst (a:=b) (xs:=ys) (o:=.lst (ys.set n' (.int H))) (by rw[n6 (Ne.symm B.ab),n6 (Ne.symm pb)];exact b5);exact t3.upd (a:=a) λbu e=>by
    rw[n6 B.ab,t8]at e;cases e;exact ad9
end
structure EX(a:Addr)(G0 H0 G H:Hp):Prop where
 g:D7 G0 G
 s:∀c o,G c=some o->c≠a/\H c=some o
 n:∀c ps,G c≠some (.tbl ps)
 h:∀c o,c≠a->H0 c=some o->∃o',H c=some o'/\(aj4 o=true->o'=o)
 fr:∀c,c≠a->H0 c≠none->G0 c=none->G c=none
 tb:Tbs H
section
variable {G0 H0 G H i j:Hp}
theorem EX.sub(E:EX a G0 H0 G H):Sub G H:=⟨λc O z=>(E.s c O z).2,E.tb,E.n⟩
theorem EX.ga(E:EX a G0 H0 G H):G a=none:=by
 cases e:G a with
 |none=>rfl
 |some O=>exact absurd rfl (E.s a O e).1
theorem EX.step(E:EX a G0 H0 G H)(ha:H a≠none)(e:Ext G H i j):EX a G0 H0 i j where
 g:=E.g.trans e.g
 s:=λc o z=>⟨λy=>(by rw[y,e.fr a ha E.ga]at z;cases z),e.s c o z⟩
 n:=e.s.n
 h:=λc o hc z=>by
  obtain⟨o',k1,k2⟩:=E.h c o hc z;obtain⟨o2,k3,k4⟩:=e.h c o' k1;refine⟨o2,k3,λnt=> ?_⟩;have :=k2 nt;subst this;exact k4 nt
 fr:=λc hc hh hg=>by
  refine e.fr c (λz=> ?_) (E.fr c hc hh hg);cases e0:H0 c with
  |none=>exact hh e0
  |some o=>
   obtain⟨o',k1,_⟩:=E.h c o hc e0;rw[z]at k1;cases k1
 tb:=e.s.t
theorem EX.free(E:EX a G0 H0 G H)(C:c≠a)(B:H c=none):H0 c=none:=by
 cases e:H0 c with
 |none=>rfl
 |some O=>
  obtain⟨F,k,_⟩:=E.h c O C e;rw[B]at k;cases k
theorem EX.upd(E:EX a G0 H0 G H)(gx:G x=none)(hx:x=a\/H0 x=none)(tb:Tbs (L2.upd H x o)):EX a G0 H0 G (L2.upd H x o) where
 g:=E.g
 s:=λc u z=>⟨(E.s c u z).1,by rw[n6 (C5 z gx)];exact(E.s c u z).2⟩
 n:=E.n
 h:=λc u hc z=>by
  obtain⟨o',k1,k2⟩:=E.h c u hc z;refine⟨o',?_,k2⟩;rw[n6 λy=>by
   rcases hx with hx|hx
   .exact hc (y.trans hx)
   .rw[y,hx]at z;cases z]
  exact k1
 fr:=E.fr
 tb:=tb
theorem EX.frz(E:EX a G0 H0 G H)(pa:p≠a)(hp:H p=some o)(h0:H0 p=none)(gp:G p=none)(no:aj4 o=true):EX a G0 H0 (L2.upd G p o) H where
 g:=E.g.trans (K6 gp o)
 s:=λc u z=>by
  by_cases y:c=p
  .subst y;rw[t8]at z;cases z;exact⟨pa,hp⟩
  .rw[n6 y]at z;exact E.s c u z
 n:=aD2 E.n no
 h:=E.h
 fr:=λc hc hh hg=>by
  rw[n6 λy=>hh (by rw[y];exact h0)];exact E.fr c hc hh hg
 tb:=E.tb
theorem EX.ext(E:EX a G0 H0 G H)(ha:H a=some o)(pa:ak1 o)(hb:H b=some o')(pb:ak1 o')(h0:H0 b=none)(gb:G b=none):Ext G0 (L3.del2 H0 a a) G (L3.del2 H a b) where
 g:=E.g
 s:=⟨λc u z=>by rw[T6 (E.s c u z).1 (C5 z gb)];exact(E.s c u z).2,E.tb.del2 ha pa hb pb,E.n⟩
 h:=λc u z=>by
  obtain⟨c1,_,z⟩:=X4 z;obtain⟨o',k1,k2⟩:=E.h c u c1 z;exact⟨o',by rw[T6 c1 λy=>by rw[y,h0]at z;cases z];exact k1,k2⟩
 fr:=λc hh hg=>by
  by_cases y:c=a
  .subst y;exact E.ga
  .exact E.fr c y (λz=>hh (by rw[T6 y y];exact z)) hg
end
def spN(K:cW0)(C:Addr)(n:Nat)(F:List T->Option T):Sp:=λs H Q _=>∃G t B a d v,s=V.ref a::v/\Sub G (L3.del2 H a a)/\Tbs H/\H a=some (.ins C d [])/\j9 K G t v/\t.length+1=n/\F t=some B/\
 ∀b g h,H b=none->Ext G (L3.del2 H a a) g (L3.del2 h a b)->Tbs h->BdH K g h C a d b B->Q .non h
def bP0(X:Cx)(C:Addr)(B:List Stmt)(gs F r E o:L3.G):Prop:=∃S:TS,PSs X B S/\
 ∀(D:ao9) (w:L2.St) (H G:Hp) (Q:A3) (a d:Addr) (t:T),4<w.length->EX a G H G H->H a=some (.ins C d [])->K5 X.K G w (D5 [0] Q)->w[0]?=some (some (.ref a))->bB6 gs F r E o Q=some t->
  (∀b W g h,H b=none->Ext G (L3.del2 H a a) g (L3.del2 h a b)->Tbs h->BdH X.K g h C a d b t->D.nx W h)->S D w H
section
theorem bU5{e t r:Expr}{R:List Expr}{s:Scope}{U:GL}{L:List Nat}{st:St1}{g:GB}{M:L3.G}{x:Str}{p W Y:Pos}(i:Nat){o:Option Str}{n:Nat}{a:List Nat}(Q:Wd (PXI X t r U))(P:∀{c C S H f},Wd (PXG (P9 o X s c C (cN X t a) S H f) t L st))(N:∀{c C S H f},Wd (aB8 (P9 o X s c C (cN X t a) S H f) R g))(O:∀{c C S H f},Wd (PX (P9 o X s c C (cN X t a) S H f) e M))(h:ah8 X.N=true:=by rfl)(Z:X.calm=true:=by rfl)(k:ay7 o X.env.scope X.N s (cN X t a) n a=true:=by rfl)(j:L.all (λi=>decide (i<n))=true:=by rfl)(d:X.N[i]?=some x:=by rfl)(l:X.env.scope.names.lookup x=some .local:=by rfl)(w:swapsWith (.ListComp e [⟨t,r,R,0⟩] s p) (some (.Name x W)) Y.line X.env=pure true:=by rfl)(b:NFo X r:=by intro _;rfl):PS X (.Assign [.Name x W] (.ListComp e [⟨t,r,R,0⟩] s p) Y) (aZ6 (tLC (tI X.K U) (tGt X.K L st) (tXB X.K g) (tX X.K M) n a) (ar8 i)):=have h:=O8 h;have Q:=Q.run;have P:=λB E F I J=>(@P B E F I J).run;have N:=λB E F I J=>(@N B E F I J).run;have O:=λB E F I J=>(@O B E F I J).run;as8 (g:=tGt X.K L st) (tc:=tXB X.K g) (te:=tX X.K M) (i:=i) _ n a Z k Q P N O h d l w b
end
section
theorem bI3{I eq er M eo eu e0 af E ag ah:Expr}{it:GL}{is:List Nat}{st:St1}{gc:GB}{ge gq gr ga go:L3.G}{nT:Nat}{aC:List Nat}{x4:Str}{aQ aR p2 aM p3 aN Y ae H p4 p5 aO p6 aP:Pos}(c:Cls X.K C)(W:∀f∈fsB,Q4 X.K C f)(k1:PS X (.Assign [.Name x4 aQ] I aR) (aZ6 (tLC (tI X.K it) (tGt X.K is st) (tXB X.K gc) (tX X.K ge) nT aC) (ar8 4)))(kq:Wd (PX X eq gq))(kr:Wd (PXf X er gr))(ka:Wd (PX X M ga))(ko:Wd (PXf X eo go))(ku:Wd (PX X eu j4))(k0:PE X e0 (ad1 0))(bh:PE X af (ad1 0))(bj:PE X E (ad1 0))(bk:PE X ag (ad1 0))(bl:PE X ah (ad1 0))(aY:is.all (λbg=>decide (bg<nT))=true:=by rfl)(w2:swapsWith eq (some (.Attribute e0 "sought" p2)) aM.line X.env=pure false:=by rfl)(w3:swapsWith er (some (.Attribute af "rows" p3)) aN.line X.env=pure false:=by rfl)(b4:attributeBase E "rows" X.env (eval E X.env)=eval E X.env:=by rfl)(aW:attributeBase (.Attribute E "rows" Y) "append" X.env (eval (.Attribute E "rows" Y) X.env)=eval (.Attribute E "rows" Y) X.env:=by rfl)(aX:((backTo H (starEach [M] X.env)).all (λx=> !x.1)&&(backToKw H (keywordEach [] X.env)).all (λx=>x.1.isSome)
   &&decide ([M].length+([]:List Keyword).length+(if([]:List Keyword).isEmpty then 0 else 1)<30))=true:=by rfl) (bb:(ae.endLine==H.line)=true:=by rfl) (hs:StE X M []:=by rfl) (bc:Bks X H []:=by rfl) (w4:swapsWith (.Call (.Attribute (.Attribute E "rows" Y) "append" ae) [M] [] H) none p4.line X.env=pure false:=by rfl) (w5:swapsWith eo (some (.Attribute ag "owners" p5)) aO.line X.env=pure false:=by rfl) (w6:swapsWith eu (some (.Attribute ah "under" p6)) aP.line X.env=pure false:=by rfl):bP0 X C [.Assign [.Name x4 aQ] I aR,.Assign [.Attribute e0 "sought" p2] eq aM,.Assign [.Attribute af "rows" p3] er aN,.Expr (.Call (.Attribute (.Attribute E "rows" Y) "append" ae) [M] [] H) p4,.Assign [.Attribute ag "owners" p5] eo aO,.Assign [.Attribute ah "under" p6] eu aP] (o0 it nT aC st gc ge) gq gr ga go:=by
 have kq:=kq.run;have kr:=kr.run;have ka:=ka.run;have ko:=ko.run;have ku:=ku.run;refine⟨_,Q6 k1
  (Q6 (aC9 k0 kq w2) (Q6 (aC9 bh kr w3) (Q6 (ap7 (bj1 PySem.F.plainAttrs_list PySem.F.slot_list_append PySem.F.type_list_append aK7 (bn1 bj b4) (V0 ka ad3 hs) aW aX bb hs bc) w4) (Q6 (aC9 bk ko w5) (am4 (aC9 bl ku w6)))))),λD wW aa G qQ a d t' hl ar ha aJ bf h q=> ?_⟩
 obtain⟨sp,m1,h⟩:=h9 h;obtain⟨tq,m2,h⟩:=h9 h;obtain⟨tr,m3,h⟩:=h9 h;obtain⟨aK,m4,h⟩:=h9 h;obtain⟨to,m5,h⟩:=h9 h
 match tq,tr,to,m2,m3,m5,h with
 |.int Q,.lst rs,.lst os,m2,m3,m5,h=>
 dsimp only at h;split at h
 case isFalse=>cases h
 case isTrue aZ=>
 cases h;have n:∀{k:Hp}{fl:List (Str×V)},k a=some (.ins C d fl)->k a≠none:=λai=>by rw[ai];simp
 refine Z7 (aZ5 (aD9 aY wW aa _ ⟨G,D5 [0] qQ,sp,ar.sub,aJ,m1,λaS G1 H1 I r1=> ?_⟩));have E1:=ar.step (n ha) I;have aB:H1 a=some (.ins C d []):=I.h.yes ha rfl;have U:K5 X.K G1 (wW.set 4 (some aS)) (D5 [0] (qQ.set 4 (some sp))):=by
  rw[aq2 _ _ _ _ ∅];exact(aJ.mono I.g).set r1
 have Z:(wW.set 4 (some aS))[0]?=some (some (V.ref a)):=by rw[cQ3 ⋯];exact bf
 have bo:Q4 X.K C "sought":=W _ (by simp[fsB]);have aL:Q4 X.K C "rows":=W _ (by simp[fsB]);have bq:Q4 X.K C "owners":=W _ (by simp[fsB]);have br:Q4 X.K C "under":=W _ (by simp[fsB]);have t:∀{k:Hp}{fl:List (Str×V)}{bt:HO},Tbs k->k a=some (.ins C d fl)->Tbs (L2.upd k a bt):=λtb ai=>tb.upd λx e=>by rw[ai]at e;cases e;exact ad9
 refine Z7 ⟨G1,_,.int Q,E1.sub,U,m2,λv2 G2 H2 J r2=> ?_⟩;erw[Rep]at r2;subst r2;have l:=E1.step (n aB) J;have aD:H2 a=some (.ins C d []):=J.h.yes aB rfl;refine⟨.ref a,Z,a,C,d,[],rfl,aD,c,bo,(by show(0:Nat)<1000;decide),?_⟩;have g:=l.upd (x:=a) (o:=.ins C d [("sought",.int Q)]) l.ga (.inl rfl) (t l.tb aD);have ak:L2.upd H2 a (.ins C d [("sought",.int Q)]) a=some (.ins C d [("sought",.int Q)]):=t8;refine Z7 ⟨G2,_,rs,g.sub,U.mono J.g,m3,λp s G3 H3 hp gp R h3 r3=> ?_⟩;have o:=g.step (n ak) R;have aE:H3 a=some (.ins C d [("sought",.int Q)]):=R.h.yes ak rfl;have P:p≠a:=λz=>by
  have aI:L2.upd H2 a (.ins C d [("sought",.int Q)]) p=none:=hp;rw[z,ak]at aI;cases aI
 have p0:aa p=none:=g.free P hp;refine⟨.ref a,Z,a,C,d,_,rfl,aE,c,aL,(by show(1:Nat)<1000;decide),?_⟩;have E3:=o.upd (x:=a) (o:=.ins C d [("sought",.int Q),("rows",.ref p)]) o.ga (.inl rfl) (t o.tb aE);have ao:L2.upd H3 a (.ins C d [("sought",.int Q),("rows",.ref p)]) a=some (.ins C d [("sought",.int Q),("rows",.ref p)]):=t8;have aj:L2.upd H3 a (.ins C d [("sought",.int Q),("rows",.ref p)]) p=⇑s:=by rw[n6 P];exact h3
 refine Z7 ⟨.ref a,Z,a,C,d,_,.ref p,rfl,ao,c,aL,rfl,.inl ⟨rfl,s,SqL.of aj⟩,G3,_,aK,E3.sub,U.mono (J.g.trans R.g),m4,λv w H4 F r4=> ?_⟩;have F4:=E3.step (n ao) F;have aV:H4 a=some (.ins C d [("sought",.int Q),("rows",.ref p)]):=F.h.yes ao rfl;have ax:H4 p=⇑s:=F.h.lst aj;have au:w p=none:=F.fr p (λz=>nomatch aj.symm.trans z) gp;refine⟨p,s,v,rfl,rfl,ax,by rw[r3.length];exact cU2 aZ ∎,?_⟩;have i:=F4.upd (x:=p) (o:=.lst (s++[v])) au (.inr p0) (F4.tb.lst ax);have aq:L2.upd H4 p (.lst (s++[v])) a=some (.ins C d [("sought",.int Q),("rows",.ref p)]):=by rw[n6 (Ne.symm P)];exact aV
 refine Z7 ⟨w,_,os,i.sub,U.mono (J.g.trans (R.g.trans F.g)),m5,λb ys G5 N S gb L h5 r5=> ?_⟩;have r:=i.step (n aq) L;have aF:N a=some (.ins C d [("sought",.int Q),("rows",.ref p)]):=L.h.yes aq rfl;have O:b≠a:=λz=>by rw[z,aq]at S;cases S
 have bp:b≠p:=λz=>by rw[z,t8]at S;cases S
 have b0:aa b=none:=i.free O S;have az:N p=⇑(s++[v]):=L.h.lst t8;have aT:G5 p=none:=L.fr p (by rw[t8];simp) au;refine⟨.ref a,Z,a,C,d,_,rfl,aF,c,bq,(by show(2:Nat)<1000;decide),?_⟩;have E5:=r.upd (x:=a) (o:=.ins C d [("sought",.int Q),("rows",.ref p),("owners",.ref b)]) r.ga (.inl rfl) (t r.tb aF);have aG:L2.upd N a (.ins C d [("sought",.int Q),("rows",.ref p),("owners",.ref b)]) a=some (.ins C d [("sought",.int Q),("rows",.ref p),("owners",.ref b)]):=t8;refine⟨G5,_,.int 1,E5.sub,U.mono (J.g.trans (R.g.trans (F.g.trans L.g))),rfl,λv6 y H6 B r6=> ?_⟩;erw[Rep]at r6;subst r6;have u:=E5.step (n aG) B;have aH:H6 a=some (.ins C d [("sought",.int Q),("rows",.ref p),("owners",.ref b)]):=B.h.yes aG rfl;refine⟨.ref a,Z,a,C,d,_,rfl,aH,c,br,(by show(3:Nat)<1000;decide),?_⟩;have ay:L2.upd N a (.ins C d [("sought",.int Q),("rows",.ref p),("owners",.ref b)]) b=⇑ys:=by rw[n6 O];exact h5
 have aU:H6 p=⇑(s++[v]):=B.h.lst (by rw[n6 P];exact az);have aA:H6 b=⇑ys:=B.h.lst ay;have aw:y p=none:=B.fr p (λz=>nomatch (show L2.upd N a (.ins C d [("sought",.int Q),("rows",.ref p),("owners",.ref b)]) p=⇑(s++[v]) by rw[n6 P];exact az).symm.trans z) aT;have av:y b=none:=B.fr b (λz=>nomatch ay.symm.trans z) gb;have E6:=u.upd (x:=a) (o:=.ins C d [("sought",.int Q),("rows",.ref p),("owners",.ref b),("under",.int 1)]) u.ga (.inl rfl) (t u.tb aH);have j:=E6.frz (p:=p) (o:=.lst (s++[v])) P (by rw[n6 P];exact aU) p0 aw rfl;have sn:=K6 aw (HO.lst (s++[v]));have bu:j9 X.K w rs s:=r3.mono F.g;refine q b _ (L2.upd y p (.lst (s++[v]))) _ b0 (j.ext t8 ad9 (by rw[n6 O];exact aA) aK2 b0 (by rw[n6 bp];exact av)) j.tb
  ⟨⟨Q,rs++[aK],os,1,p,_,ys,rfl,t8,t8,((bu.append (j9.cons r4 j9.nil)).mono (L.g.trans B.g)).mono sn,by rw[n6 O];exact aA,(r5.mono B.g).mono sn⟩,j.ga,by rw[n6 bp];exact av,Ne.symm O,c,W⟩
end
section
variable {K:cW0}
theorem fnI{x l:Str}{st:Stmt}{f:Addr}{M:FuncData}{N ps:List Str}{k:Nat}{gs gq gr ga go:L3.G}{C:Addr}(F:Fun K x l st f M)(S:Q1 N ps (t7 st))(np:ps.length<=N.length)(h5:4<N.length)
  (n:∀(I:Value) (A:Around) (L:List Env) (s:Shared) (H:Hp) (E:XK),G9 k (A.deeper (envOfC l (t7 st) s.sz f I))->
   bP0 (F9 CX0 P ae K y X N l (t7 st) f I A L s H E).nox C (O9 st) gs gq gr ga go):
  S4 P ae K y X CX0 (k+1) f M ps (spN K C ps.length (bR4 N.length gs gq gr ga go)):=by
 refine F.ok S (λvs H Q E h=> ?_) (λI A L s H vs Q E w h=> ?_)
 .obtain⟨G,t,U,a,d,v,rfl,_,_,_,r,O,_⟩:=h;rw[cJ3,r.length,O]
 .obtain⟨G,t,U,a,d,v,rfl,R,tb,j,r,O,u,q⟩:=h;obtain⟨tS,J,i⟩:=n I A L s H E w;refine⟨tS,J,?_⟩;have r0:j9 K G (.ref a::t) (.ref a::v):=j9.cons (by simp[Rep]) r;have Z:=ag6 (N:=N) r0 (by rw[cJ3];omega);have lv:v.length+1<=N.length:=by rw[r.length];omega
  refine i _ _ H G (A0 N.length (.non::t)) a d U ?_ ⟨D7.refl _,λc o z=> ?_,R.n,λc o _ z=>⟨o,z,λ_=>rfl⟩,λ_ _ _ z=>z,tb⟩ j ?_ ?_ u λb af g W p x aa B=>q b g W p x aa B
  .simp[L2.start];omega
  .obtain⟨c1,_,z⟩:=X4 (R.s c o z);exact⟨c1,z⟩
  .have J:=Z.setN (i:=0) (o:=some (.ref a));have e:(L2.start N (V.ref a::v)).set 0 (some (V.ref a))=L2.start N (V.ref a::v):=by simp[L2.start]
   have Y:(A0 N.length (T.ref a::t)).set 0 none=D5 [0] (A0 N.length (T.non::t)):=by simp[D5,A0]
   rw[e,Y]at J;exact J
  .simp[L2.start]
end
theorem ch7:NB (aU7 i l f B F g):=λQ o e=>by
 obtain⟨_,_,e⟩:=h9 e;obtain⟨_,_,e⟩:=h9 e;obtain⟨_,_,e⟩:=h9 e;obtain⟨_,_,e⟩:=h9 e;obtain⟨_,_,e⟩:=h9 e;cases e;exact⟨λ_ z=>(nomatch z),λ_ z=>(nomatch z)⟩
section
theorem bI1(i:Nat)(cl:Cls X.K C)(na:∀f∈fsB,Q4 X.K C f)(ao:Mk X.K C fI)(HI:S4 X.prog X.w X.K X.mg X.aD CX0 kI fI dI pI (spN X.K C 4 FI))(bI:R9 X.K dI pI [])(HK:S4 X.prog X.w X.K X.mg X.aD CX0 kK fK dK pK (spB X.K C 1 FK))(bK:R9 X.K dK pK [])(HC:S4 X.prog X.w X.K X.mg X.aD CX0 kC fC dC pC (spB X.K C 1 FC))(bC:R9 X.K dC pC [])(r:G9 o X.A)(rI:kI+1<=o)(rK:kK<=o)(rC:kC<=o)(gB:Gl X x)(mB:X.mg x=some (.ref C))(gK:Gl X M)(mK:X.mg M=some (.ref fK))(aC:W.keepIn X.K (.ref fK)=true)(au:Gl X L)(mC:X.mg L=some (.ref fC))(aB:W.keepIn X.K (.ref fC)=true)(j:Wd (PXA X (e::s) (gs ae)))(ay:ae.length=3)(kk:PE X k (ad1 i))(kc:PE X U (ad1 i))(p:Wd (PX X eR gR))(Z:ah8 X.N=true:=by rfl)(hi:X.N[i]?=some N:=by rfl)(hx:Loc X.env.scope N:=by first |exact .inl rfl|exact .inr rfl)(hs:swapsWith (.Call (.Name x pB) (e::s) [] cB) (some (.Name N pb)) sB.line X.env=pure false:=by rfl)(hf:LcF X N:=by first |exact .inl rfl|exact .inr rfl)(dB:NoD x:=by decide)(aE:StE X e s:=by rfl)(aF:Bks X cB s:=by rfl)(ar:NoD M:=by decide)(ag:StE X k []:=by rfl)(aI:Bks X ck []:=by rfl)(wK:swapsWith (.Call (.Name M pk) [k] [] ck) none sk.line X.env=pure false:=by rfl)(aq:NoD L:=by decide)(af:StE X U []:=by rfl)(aG:Bks X cc []:=by rfl)(wC:swapsWith (.Call (.Name L pc) [U] [] cc) none sc.line X.env=pure false:=by rfl):aB7 X [] aO [.Assign [.Name N pb] (.Call (.Name x pB) (e::s) [] cB) sB,.Expr (.Call (.Name M pk) [k] [] ck) sk,.Expr (.Call (.Name L pc) [U] [] cc) sc,.Return (some eR) pr] (aU7 i ae FI FK FC gR):=by
 have Z:=O8 Z;have j:=j.run;have p:=p.run;refine⟨ch7,λG0 H0 aA aD w ak D aa ⟨G,qQ,aP,R,h,q⟩=> ?_⟩;refine Q6 (ax4 Z hi hx (cg4 ao HI (r.mono rI) gB mB bI .nil aV5 j dB aE aF) hs hf)
  (Q6 (ap7 (aN6 HK (r.mono rK) gK mK aC bK .nil aV5 (V0 kk ad3 ag) ar ag aI) wK)
  (Q6 (ap7 (aN6 HC (r.mono rC) au mC aB bC .nil aV5 (V0 kc ad3 af) aq af aG) wC) (am4 (aV2 p)))) aA aD w ak D aa ?_
 obtain⟨ts,m1,h⟩:=h9 h;obtain⟨t0,m2,h⟩:=h9 h;obtain⟨t1,m3,h⟩:=h9 h;obtain⟨t2,m4,h⟩:=h9 h;obtain⟨aJ,m5,h⟩:=h9 h;cases h;have az:i<w.length:=by rw[aa.len];exact an8 hi
 refine Z7 (aZ5 ⟨G,qQ,ts,R.x.s,R.r,m1,λvs g H e r1 a d J E aw=> ?_⟩);have Y:g a=none:=e.s.free J;have av:g d=none:=e.s.free E;have l:L2.upd (L2.upd H d (.aB a)) a (.ins C d []) a=some (.ins C d []):=t8;have aj:Tbs (L2.upd (L2.upd H d (.aB a)) a (.ins C d [])):=(e.s.t.new E).new (by rw[n6 (Ne.symm aw)];exact J);have su:Sub g (L3.del2 (L2.upd (L2.upd H d (.aB a)) a (.ins C d [])) a a):=⟨λc u z=>by
  rw[T6 (C5 z Y) (C5 z Y),n6 (C5 z Y),n6 (C5 z av)];exact e.s c u z,aj.del2 l ad9 l ad9,e.s.n⟩
 show spN X.K C 4 FI (.ref a::(vs++[])) _ _ _;rw[cO5];refine⟨g,ts,t0,a,d,vs,rfl,su,aj,l,r1,by rw[at2 m1,ay],m2,λb G2 H2 n x2 aK v=>⟨rfl,?_⟩⟩;have ah:(w.set i (some (V.ref a)))[i]?=some (some (V.ref a)):=cQ4 az;refine Z7 ⟨.ref a,ah,?_⟩;refine⟨G2,[],t0,t1,a,d,b,[],rfl,x2.s,aK,v,j9.nil,rfl,m3,λG3 H3 x3 aL B3=> ?_⟩;refine Z7 ⟨.ref a,ah,?_⟩;refine⟨G3,[],t1,t2,a,d,b,[],rfl,x3.s,aL,B3,j9.nil,rfl,m4,λP F t aM O=> ?_⟩;have Q:=x2.trans (x3.trans t);have aH:D7 P F:=λc u z=>(X4 (t.s c u z)).2.2
 have ai:=O.sub aH aM t.s.n;have b1:H b=none:=by
  have ba:b≠a:=Ne.symm v.ab;rw[n6 ba]at n;by_cases y:b=d
  .subst y;exact E
  .rw[n6 y]at n;exact n
 have ext:Ext g H (ac6 P F a b) F:=by
  refine⟨Q.g.trans O.same,ai,λc u z=> ?_,λc I ax=> ?_⟩
  .have B:c≠a:=λy=>by rw[y,J]at z;cases z
   have S:c≠d:=λy=>by rw[y,E]at z;cases z
   have cb:c≠b:=λy=>by rw[y,b1]at z;cases z
   obtain⟨o',k1,k2⟩:=Q.h c u (by rw[T6 B B,n6 B,n6 S];exact z);exact⟨o',(X4 k1).2.2,k2⟩
  .have B:c≠a:=λy=>I (by rw[y];exact J)
   have S:c≠d:=λy=>I (by rw[y];exact E)
   have cb:c≠b:=λy=>I (by rw[y];exact b1)
   unfold ac6;rw[cW6 λy=>y.elim B cb];exact Q.fr c (by rw[T6 B B,n6 B,n6 S];exact I) ax
 refine⟨ac6 P F a b,qQ.set i (some t2),aJ,ai,(R.r.mono (e.g.trans ext.g)).set O.rep,m5,λaN G5 H5 e5 r5=>q aN G5 H5 (R.x.trans (e.trans (ext.trans e5))) r5⟩
end
end L3
namespace L2
section
theorem bh0(a v d:Value):argsOk "min" ⟨[a],[(Str.ofString "key",v),(Str.ofString "default",d)]⟩:=by unfold argsOk;kernel_rfl
theorem bO1(F:A.handled=none)(H:s.heap.IsList l #[])(C:∀h,(∀c o,s.heap.get? c=some o->h.get? c=some o)->Q d {s with heap:=h}):
  wpAny (model P w) A (call (.builtin "min") [.ref l] [(Str.ofString "key",k),(Str.ofString "default",d)]) Q E s:=by
 have n:(toString "min"++toString ".loop":String)="min.loop":=∎
 obtain⟨O,B,t⟩:=id H;have L:=cL4 B;refine kmk_tree PySem.F.kind_min PySem.F.plain_min PySem.F.entry_min (bh0 _ _ _) ?_;change wpAny _ A.in1 (Builtin.Builtins.bindParams "min" ["key","default"] 0 ⟨[],[(Str.ofString "key",k),(Str.ofString "default",d)]⟩>>=_) _ _ s;refine cW8 (wpAny_of_eq (a:=[some k,some d]) (by rfl) ?_);refine cW8 (cX3 (cW8 (cX4 H (cW8 (wpAny_newList ?_ (cV7 _))))));rw[n];refine cX3 ⟨plainId_quiet PySem.F.plain_min_loop _,codeAny_builtin PySem.F.entry_min_loop ?_⟩;rw[Around.under_plainId PySem.F.plain_min_loop _];have u:∀c o,s.heap.get? c=some o->((s.heap.push {cls:=.type "list_iterator",data:=.fields #[.ref l,.int 0 0]}).push (seqObj "list" #[] 0)).get? c=some o:=λc o e=>cL0 _ (cL0 _ e)
 have gI:((s.heap.push {cls:=.type "list_iterator",data:=.fields #[.ref l,.int 0 0]}).push (seqObj "list" #[] 0)).get? s.sz=some {cls:=.type "list_iterator",data:=.fields #[.ref l,.int 0 0]}:=cL0 _ (cL1 _ rfl);have g:((s.heap.push {cls:=.type "list_iterator",data:=.fields #[.ref l,.int 0 0]}).push (seqObj "list" #[] 0)).get? (s.heap.push {cls:=.type "list_iterator",data:=.fields #[.ref l,.int 0 0]}).objs.size=some (seqObj "list" #[] 0):=cL1 _ rfl;change wpAny _ A.in1 (seqItems? (.ref _)>>=_) _ _ _;refine cW8 (cX5 g rfl ?_);change wpAny _ A.in1 (tryCatch (pyNext (.ref s.sz)) _>>=_) _ _ _;refine cW8 (wpAny_tryCatch (wpAny_pyNext_list_end (i:=0) (items:=#[]) F ⟨_,gI,rfl,rfl⟩ ⟨O,u _ _ B,t⟩ rfl λh b=> ?_));refine cW8 (wpAny_rule ?_);exact cX3 (C h λc o e=>b c o (cV0 (cL4 e)) (u c o e))
end
section
theorem cq4{P:Program}{ae:World}{A:Around}{J:Shared->Prop}{N:List Int}{y:Int->Option Int}{l q I S:Addr}{R:Result->Shared->Prop}{m:Int}{d:Value}(hh:A.handled=none)(w:S≠I)(ay:l≠I)(az:l≠S)
  (hl:∀s,J s->∃W:List Value,s.heap.IsList l W.toArray/\W.length=N.length/\∀(i:Nat) (n:Int),N[i]?=some n->∃t,W[i]?=some (.int n t)) (g:∀s H aw,J s->(∀b o,b≠I->b≠S->s.heap.get? b=some o->H.get? b=some o)->J {s with heap:=H,toks:=aw})
  (ax:∀(n:Int) (t:Nat) (k:Int) (s:Shared) (oS oI:Obj),n∈N->y n=some k->J s->s.heap.get? S=some oS->s.heap.get? I=some oI->(∀v,oS.data≠.cell v)->(∀v,oI.data≠.cell v)->wpAny (model P ae) A.in1 (call (.ref q) [.int n t]) (λaj F=>(∃u,aj=.int k u)/\J F/\F.heap.get? S=some oS/\F.heap.get? I=some oI) (λ_ _=>False) s)
  (hR:∀t F,J F->R (.ok (.ret (.int m t))) F):
  ∀(r:List Int) (j:Nat) (s:Shared) (C B:Int) (L E c:Nat),(∀(i:Nat) (n:Int),r[i]?=some n->N[j+i]?=some n)->N.length=j+r.length->J s->s.heap.get? S=some (seqObj "list" #[.int C L,.int B E] c)->s.heap.IsListIter I l j->L3.Z3 y C B r=some m->
   codeAny (model P ae) A (.builtin "min.loop" ⟨[.ref I,.ref q,.ref S],[(Str.ofString "default",d)]⟩) R s:=by
 have nm:(toString "min"++toString ".loop":String)="min.loop":=∎
 intro r;induction r with
 |nil=>
  intro j s C B L E c x p M O f h;cases h;refine codeAny_builtin PySem.F.entry_min_loop ?_;rw[Around.under_plainId PySem.F.plain_min_loop _];show wpAny _ A.in1 (seqItems? (.ref S)>>=_) _ _ _;refine cW8 (cX5 O rfl ?_);show wpAny _ A.in1 (tryCatch (pyNext (.ref I)) _>>=_) _ _ _;obtain⟨W,v1,v2,v3⟩:=hl s M;refine cW8 (wpAny_tryCatch (wpAny_pyNext_list_end (A:=A.in1) hh f v1 (by have :N.length=j:=p;simp;omega) λH Q=> ?_));have ar:=Q S _ w O;have Z:=Heap.SameBut.update H S (Obj.mapSeq λ_=>(#[]:Array Value));show wpAny _ A.in1 (updateSeq S (λ_=>#[])>>=_) _ _ _;refine cW8 (wpAny_updateSeq ar rfl (cW8 (wpAny_letGo (cX3 ?_))));exact hR L _ (g s _ _ M λb o b1 b2 e=>(Z.2 b b2).trans (Q b o b1 e))
 |cons n r ih=>
  intro j s C B L E c x p M O f h;obtain⟨k,hk,h⟩:∃k,y n=some k/\(if k<B then L3.Z3 y n k r else L3.Z3 y C B r)=some m:=by
   rw[L3.Z3]at h;cases z:y n with
   |none=>rw[z]at h;cases h
   |some k=>rw[z]at h;exact⟨k,rfl,h⟩
  have hn:=x 0 n rfl;obtain⟨W,v1,v2,v3⟩:=hl s M;obtain⟨t,ht⟩:=v3 _ n hn;have af:N.length=j+1+r.length:=by rw[p,cJ3];omega
  have ag:∀(i:Nat) (Y:Int),r[i]?=some Y->N[j+1+i]?=some Y:=λi Y e=>by
   have :=x (i+1) Y e;rwa[show j+(i+1)=j+1+i by omega]at this
  refine codeAny_builtin PySem.F.entry_min_loop ?_;rw[Around.under_plainId PySem.F.plain_min_loop _];show wpAny _ A.in1 (seqItems? (.ref S)>>=_) _ _ _;refine cW8 (cX5 O rfl ?_);show wpAny _ A.in1 (tryCatch (pyNext (.ref I)) _>>=_) _ _ _;refine cW8 (wpAny_tryCatch (wpAny_pyNext_list_item f v1 (x:=.int n t) (by simpa using ht) λH ao Q=> ?_));obtain⟨ai,av,ah,aa⟩:=id ao;have J1:J {s with heap:=H}:=g s H s.toks M λb o b1 b2 e=>(Q.2 b b1).trans e
  have S1:H.get? S=some (seqObj "list" #[.int C L,.int B E] c):=(Q.2 S w).trans O;show wpAny _ A.in1 (tryCatch (holding [.int n t] (call (.ref q) [.int n t])) _>>=_) _ _ _;refine cW8 (wpAny_tryCatch (wpAny_holding (cX1 (ax n t k _ _ _ (cS4 hn) hk J1 S1 av (λv z=>by cases z) (λv z=>by rw[aa]at z;cases z)) (λaj U he=> ?_) λ_ _ hF=>hF.elim)));obtain⟨⟨u,rfl⟩,J2,a,I2⟩:=he;have aq:U.heap.IsListIter I l (j+1):=⟨ai,I2,ah,aa⟩
  show wpAny _ A.in1 (tryCatch (holding [.int n t,.int k u] (richCompare .Lt (.int k u) (.int B E)>>=_)) _>>=_) _ _ _;refine cW8 (wpAny_tryCatch (wpAny_holding (cW8 (CmpOf.ints_lt (prog:=P) (w:=ae) (A:=A.in1) (P:=λi v=>∃t,v=.int ([k,B].getD i 0) t) (λi=>[k,B].getD i 0) (λi v ak=>ak) 0 1 _ _ _ _ _ ⟨u,rfl⟩ ⟨E,rfl⟩ ?_))));refine cW8 (wpAny_holding (cX7 ?_));refine cW8 (wpAny_letGo (cX3 ?_));show wpAny _ A.in1 (if decide (k<B)=true then _ else _) _ _ _;by_cases X:k<B
  .have Z:=Heap.SameBut.update U.heap S (Obj.mapSeq λ_=>#[.int n t,.int k u]);obtain⟨c2,au⟩:∃c2,(U.heap.update S (Obj.mapSeq λ_=>#[.int n t,.int k u])).get? S=some (seqObj "list" #[.int n t,.int k u] c2):=⟨_,get?_update_seq a λ_=>#[.int n t,.int k u]⟩
   erw[X,decide_true,if_true];refine cW8 (wpAny_updateSeq a rfl (cW8 (wpAny_letGo ?_)));rw[nm];rw[cW7 X]at h;exact cX3 ⟨plainId_quiet PySem.F.plain_min_loop _,ih (j+1) _ n k t u c2 ag af (g U _ _ J2 λb o b1 b2 e=>(Z.2 b b2).trans e) au ⟨ai,(Z.2 I w.symm).trans I2,ah,aa⟩ h⟩
  .simp only[X,decide_false,cK5,if_false];refine cW8 (wpAny_letGo ?_);rw[nm];rw[cW6 X]at h;exact cX3 ⟨plainId_quiet PySem.F.plain_min_loop _,ih (j+1) U C B L E c ag af J2 a aq h⟩
theorem bO3{P:Program}{w:World}{A:Around}{J:Shared->Prop}{N:List Int}{y:Int->Option Int}{l q:Addr}{s:Shared}{Q:Value->Shared->Prop}{E:Value->Shared->Prop}{d:Value}{n k m:Int}{r:List Int}(hh:A.handled=none)
  (L:∀s,J s->∃F:List Value,s.heap.IsList l F.toArray/\F.length=N.length/\∀(i:Nat) (n:Int),N[i]?=some n->∃t,F[i]?=some (.int n t)) (j:J s) (H:∀B h aq,J B->(∀b o,b≠s.sz->b≠s.sz+1->B.heap.get? b=some o->h.get? b=some o)->J {B with heap:=h,toks:=aq})
  (x:∀(n:Int) (t:Nat) (k:Int) (B:Shared) (M O:Obj),n∈N->y n=some k->J B->B.heap.get? (s.sz+1)=some M->B.heap.get? s.sz=some O->(∀v,M.data≠.cell v)->(∀v,O.data≠.cell v)->wpAny (model P w) A.in1 (call (.ref q) [.int n t]) (λaa C=>(∃u,aa=.int k u)/\J C/\C.heap.get? (s.sz+1)=some M/\C.heap.get? s.sz=some O) (λ_ _=>False) B)
  (ag:N=n::r) (hk:y n=some k) (hm:L3.Z3 y n k r=some m) (hQ:∀t C,J C->Q (.int m t) C):
  wpAny (model P w) A (call (.builtin "min") [.ref l] [(Str.ofString "key",.ref q),(Str.ofString "default",d)]) Q E s:=by
 have p:(toString "min"++toString ".loop":String)="min.loop":=∎
 subst ag;obtain⟨v0,Z,_⟩:=L s j;obtain⟨ol,aj,_⟩:=id Z;have f:=cL4 aj;refine kmk_tree PySem.F.kind_min PySem.F.plain_min PySem.F.entry_min (bh0 _ _ _) ?_;change wpAny _ A.in1 (Builtin.Builtins.bindParams "min" ["key","default"] 0 ⟨[],[(Str.ofString "key",.ref q),(Str.ofString "default",d)]⟩>>=_) _ _ s;refine cW8 (wpAny_of_eq (a:=[some (.ref q),some d]) (by rfl) ?_);refine cW8 (cX3 (cW8 (cX4 Z (cW8 (wpAny_newList ?_ (cV7 _))))));rw[p];refine cX3 ⟨plainId_quiet PySem.F.plain_min_loop _,codeAny_builtin PySem.F.entry_min_loop ?_⟩;rw[Around.under_plainId PySem.F.plain_min_loop _];have X:(s.heap.push {cls:=.type "list_iterator",data:=.fields #[.ref l,.int 0 0]}).objs.size=s.heap.objs.size+1:=size_push' ..;have up:∀c o,s.heap.get? c=some o->((s.heap.push {cls:=.type "list_iterator",data:=.fields #[.ref l,.int 0 0]}).push (seqObj "list" #[] 0)).get? c=some o:=λc o e=>cL0 _ (cL0 _ e)
 have gI:((s.heap.push {cls:=.type "list_iterator",data:=.fields #[.ref l,.int 0 0]}).push (seqObj "list" #[] 0)).get? s.sz=some {cls:=.type "list_iterator",data:=.fields #[.ref l,.int 0 0]}:=cL0 _ (cL1 _ rfl);have g:((s.heap.push {cls:=.type "list_iterator",data:=.fields #[.ref l,.int 0 0]}).push (seqObj "list" #[] 0)).get? (s.heap.push {cls:=.type "list_iterator",data:=.fields #[.ref l,.int 0 0]}).objs.size=some (seqObj "list" #[] 0):=cL1 _ rfl;generalize ar:(s.heap.push {cls:=.type "list_iterator",data:=.fields #[.ref l,.int 0 0]}).objs.size=S at g X⊢;subst X
 let S:=s.heap.objs.size+1
 have I:S≠s.sz:=cU9 (cU5 _);have U:=H s _ s.toks j λb o _ _ e=>up b o e
 change wpAny _ A.in1 (seqItems? (.ref _)>>=_) _ _ _;refine cW8 (cX5 g rfl ?_);change wpAny _ A.in1 (tryCatch (pyNext (.ref s.sz)) _>>=_) _ _ _;obtain⟨F,v1,v2,v3⟩:=L _ U;obtain⟨t,ht⟩:=v3 0 n rfl;refine cW8 (wpAny_tryCatch (wpAny_pyNext_list_item (i:=0) ⟨_,gI,rfl,rfl⟩ v1 (x:=.int n t) (by simpa using ht) λh ae Y=> ?_));obtain⟨ak,ah,ai,a⟩:=id ae;have J2:=H _ h s.toks U λb o b1 b2 e=>(Y.2 b b1).trans e
 show wpAny _ A.in1 (tryCatch (holding [.int n t] (call (.ref q) [.int n t])) _>>=_) _ _ _;refine cW8 (wpAny_tryCatch (wpAny_holding (cX1 (x n t k _ _ _ cS2 hk J2 ((Y.2 S I).trans g) ah (λv z=>by cases z) (λv z=>by rw[a]at z;cases z)) (λaa R he=> ?_) λ_ _ hF=>hF.elim)));obtain⟨⟨u,rfl⟩,J3,W,I3⟩:=he;have B:=Heap.SameBut.update R.heap S (Obj.mapSeq λ_=>#[.int n t,.int k u]);obtain⟨c2,af⟩:∃c2,(R.heap.update S (Obj.mapSeq λ_=>#[.int n t,.int k u])).get? S=some (seqObj "list" #[.int n t,.int k u] c2):=⟨_,get?_update_seq W λ_=>#[.int n t,.int k u]⟩
 show wpAny _ A.in1 (updateSeq S (λ_=>#[.int n t,.int k u])>>=_) _ _ _;refine cW8 ?_;refine wpAny_updateSeq W rfl ?_;rw[p];exact cX3 ⟨plainId_quiet PySem.F.plain_min_loop _,cq4 (J:=J) (m:=m) (R:=λao C=>match ao with |.ok (.ret v)=>Q v C|.ok _=>False|.error e=>E e C) hh I (cV0 f) (cV0 (cU4 f)) L H x hQ r 1 _ n k t u c2 (λi n' e=>by rw[Nat.add_comm];exact e) (by rw[cJ3];omega) (H R _ _ J3 λb o b1 b2 e=>(B.2 b b2).trans e) af ⟨ak,(B.2 _ I.symm).trans I3,ai,a⟩ hm⟩
end
end L2
namespace L3
noncomputable abbrev bp2(X:Cx):Cx:={X with A:=X.A.in1,xe:=λ_ _=>False}
section
theorem Inv.inn(I:Inv X a w h S):Inv (bp2 X) a w h S:=
 ⟨⟨I.ok.mod,I.ok.kind,I.ok.glob,I.ok.blt,I.ok.above,I.ok.inj,I.ok.has,I.ok.cab,I.ok.hd,I.ok.frames,I.ok.stk,I.ok.exf,I.ok.bs,I.ok.bsz,I.ok.noex,I.ok.exfs,I.ok.funs,I.ok.frf⟩,I.os,I.bare,I.aD,I.loc,I.cell,I.free,I.freeC,I.pin,I.hok,I.len⟩
theorem Inv.out(o:X.Ok)(I:Inv (bp2 X) a w h S):Inv X a w h S:=
 ⟨o,I.os,I.bare,I.aD,I.loc,I.cell,I.free,I.freeC,I.pin,I.hok,I.len⟩
theorem cd2{t:Nat}(I:L2.Inv X B w H s)(f1:ai6 X B H a)(f2:ai6 X B H b)(k:∀c o,c≠a->c≠b->s.heap.get? c=some o->F.get? c=some o):L2.Inv X B w H {s with heap:=F,toks:=t}:=by
 have N:∀c u,H c=some u->c≠a/\c≠b:=λc u e=>⟨λz=>(by rw[z,f1.1]at e;cases e),λz=>(by rw[z,f2.1]at e;cases e)⟩
 have E:∀c o,c∉[a,b]->s.heap.get? c=some o->F.get? c=some o:=λc o h e=>k c o (λz=>h (by simp[z])) (λz=>h (by simp[z])) e
 refine I.step (g':=s.gens) (d':=s.drawn) (ch:=[a,b]) (λc C=> ?_) (λc o _ _ h e _=>E c o h e) (λc o _ _ h e _=>⟨o.slots,E c o h e⟩) (λ_ _ _ _ n=>n)
  (λc o h e=>⟨o,E c o h e⟩) (λ_ _ e=>e) (λ_ _ _ e=>e) (λc P e=>⟨#[],by rw[e];simp⟩) (λm L=> ?_) (λc u e=> ?_) I.bare
 .rcases cI4 C with rfl|C
  .exact⟨f1.2.2.2.1,f1.2.1,f1.2.2.2.2.1,f1.2.2.2.2.2⟩
  .rw[List.mem_singleton.mp C];exact⟨f2.2.2.2.1,f2.2.1,f2.2.2.2.2.1,f2.2.2.2.2.2⟩
 .obtain⟨o,J,p,M,r⟩:=L;exact⟨o,J,p,k _ o (Ne.symm f1.2.1) (Ne.symm f2.2.1) M,r⟩
 .refine(I.hok c u e).stay (λd v h q=>k d v ?_ ?_ q) (λ_ q=>q) λ_ _ q=>q
  .rcases h with z|z
   .rw[z];exact(N c u e).1
   .exact(N d _ z).1
  .rcases h with z|z
   .rw[z];exact(N c u e).2
   .exact(N d _ z).2
theorem bW9{U:Arguments}{y:Expr}{S:Scope}{q a E:Str}{f F:Addr}{M:List (Str×Addr)}{p N:Value}{P:Nat}{w:L3.G}{n k:Int}{t:Nat}{b:T}{J L:Addr}{R Q:Obj}{G:Hp}
  (ai:X.calm=true) (aj:X.A.depth<recursionLimit) (l:cc6 X.env.scope X.N S [E] [P]) (Z:S.names.lookup a=some .local)
  (O:∀x c,M.lookup x=some c->X.env.cells.lookup x=some c) (aa:∀x,(x,NameKind.free)∈S.names->∃c,M.lookup x=some c)
  (ag:∀(au:Str) (j:List (Str×Addr)) (p cv N v:Value),bindArgs (W.kla_fn "<lambda>" au U y S j p cv N) ⟨[v],[]⟩=pure [(a,v)])
  (ah:∀f F j s H,PX (aH0 (bp2 X) E0 q S f F j [a,E] s H) y w)
  (I:Inv X (d++[(f,W.kla_obj "<lambda>" q U y S M p F N)]) wW H s) (sG:Sub G H) (hc:H F=some (aa7 F q)) (ao:K5 X.K G wW qQ) (B:D3 P qQ=some b) (hk:w [↥n,some b]=↥k)
  (fI:ai6 X (d++[(f,W.kla_obj "<lambda>" q U y S M p F N)]) H J) (fS:ai6 X (d++[(f,W.kla_obj "<lambda>" q U y S M p F N)]) H L) (eS:s.heap.get? L=some R) (eI:s.heap.get? J=some Q) (nS:∀v,R.data≠.cell v) (nI:∀v,Q.data≠.cell v):
  wpAny (model X.prog X.w) X.A.in1 (call (.ref f) [.int n t]) (λx Y=>(∃u,x=.int k u)/\(∃C g,Inv X (d++[(f,W.kla_obj "<lambda>" q U y S M p F N)]) wW C Y/\Ext G H g C/\C J=none/\C L=none)/\Y.heap.get? L=some R/\Y.heap.get? J=some Q) (λ_ _=>False) s:=by
 have IP:=I.pinned (fp:=[J,L]) (λb B=>by
  rcases cI4 B with rfl|B
  .exact fI
  .rw[List.mem_singleton.mp B];exact fS) (λb B=>by
  rcases cI4 B with rfl|B
  .exact⟨Q,eI,nI⟩
  .rw[List.mem_singleton.mp B];exact⟨R,eS,nS⟩)
 obtain⟨v,e1,e2⟩:=ao.2 P b (az8 B);have ar:s.heap.get? f=_:=(I.pin (f,_) (cR9 _ (cR9 _ (List.mem_singleton.mpr rfl)))).1;have ak:aa8 (CX1 X.prog X.w) (bp2 X) E0:=λ_ _ _ _ _ _ _ h=>by
  obtain⟨_,_,_,_,_,_,z⟩:=h;exact z.elim
 have aw:j9 X.K G [.int n,b] [.int n,v]:=j9.cons (by simp[Rep]) (j9.cons e2 j9.nil);refine cX1 (bf9 (N:=[a,E]) (vs:=[.int n,v]) (E:=E0) (Q:=λv C=>∃g,Ext G H g C/\Rep X.K g (.int k) v) (ai:=tX X.K w) (Inv.inn IP) (I.ok.hd ai) aj ar (I.hok F _ hc).1 (ag _ _ _ _ _ _) (λaf hy=>by rw[List.mem_singleton.mp hy];exact Z) ?_ l.kind l.co l.gen l.nocell (ah _ _ _ _ _) ⟨G,[↥n,some b],.int k,sG,bt8 aw,hk,λv g C e av=>⟨g,e,av⟩⟩ ak) (λx Y ⟨v',C,I',r',g,e',rv⟩=> ?_) λ_ _ z=>z
 .refine⟨λx af c h1 h2=>I.ok.inj x af c (O _ _ h1) (O _ _ h2),λx Z=> ?_,λx c h=>⟨I.cell x c (O x c h),I.freeC x c (O x c h)⟩,λi x v' r e4=> ?_,rfl⟩
  .rcases Z with z|z
   .exact absurd rfl (l.nocell _ (cW1 z))
   .exact aa x (cW1 z)
  .rcases i with _|_|i
   .cases r;cases e4;exact⟨.int n t,⟨t,rfl⟩,.inl ⟨Z,∅⟩⟩
   .cases r;cases e4;obtain⟨j1,j2,j3⟩:=l.cap 0 P E rfl rfl;obtain⟨m,_,aq⟩:=I.loc;obtain⟨u,ru,lk⟩:=aq P E v j1 e1 (.inr (.inl j2));refine⟨u,ru,.inr ⟨j3,?_⟩⟩;rcases lk with⟨z,_⟩|⟨_,c,z1,z2⟩
    .rw[show X.env.kindOf E=X.env.scope.names.lookup E from rfl,j2]at z;cases z
    .obtain⟨c2,z3⟩:=aa E (cW1 j3);have z4:=O E c2 z3;rw[z1]at z4;cases z4;exact⟨c,z3,z2⟩
   .cases r
 .have IO:=Inv.out I.ok I';have ae:∀b o,b∈[J,L]->s.heap.get? b=some o->Y.heap.get? b=some o/\C b=none:=λb o B e=>by
   have :=IO.pin (b,o) (cR9 _ (cR9 _ (an7 B e)));exact⟨this.1,this.2.1⟩
  obtain⟨p1,p2⟩:=ae J Q cS2 eI;obtain⟨p3,p4⟩:=ae L R (cS1 _ cS2) eS;refine⟨?_,⟨C,g,IO.unpinned,e',p2,p4⟩,p3,p1⟩;erw[Rep]at rv;subst rv;exact r'
end
section
theorem ixs{os:List T}{k:List Int}:S5 os=some k->os=k.map T.int:=by
 induction os generalizing k with
 |nil=>intro h;cases h;rfl
 |cons a r i=>
  intro h;cases a<;>try(cases h;done)
  obtain⟨I,H,B⟩:=h9 h;cases B;rw[i H];rfl
theorem bU0{P c:Addr}{q x0 bn:Str}{p:Arguments}{y e en:Expr}{S:Scope}{ai aX aq kp aW:Pos}{i0:Nat}{ar:L3.G}(bm:BM X.mg X.aD)(ae:X.calm=true)(aK:X.A.depth<recursionLimit)(hg:Gl X "min")(hm:X.mg "min"=none)(hp:(P,q)∈ag4)(hq:X.env.qual++"<lambda>"=q)(aI:X.env.code=.ref c)(aG:W.codeHdIn X.K c P=true)(aJ:defaultsOf p X.env=([],[]))(ay:aW5 X.env.scope X.N S [bn] [i0]=true)(hx:S.names.lookup x0=some .local)
  (aD:∀(aY:Str) (cl:List (Str×Addr)) (r cv l v:Value),bindArgs (W.kla_fn "<lambda>" aY p y S cl r cv l) ⟨[v],[]⟩=pure [(x0,v)])
  (aa:∀f J cl s H,Wd (PX (aH0 (bp2 X) E0 q S f J cl [x0,bn] s H) y (e8 (g1 (K4 "owners") d9) d8)))
  (ha:Wd (PX X e ar)) (hn:Wd (PX X en (gC .non))) (hv:bootBuiltins "min"=some (.builtin "min"):=by rfl) (hs:StE X e []:=by rfl):Wd (PX X (.Call (.Name "min" ai) [e] [⟨some "key",.Lambda p y S aX,kp⟩,⟨some "default",en,aW⟩] aq) (g2 cb5 ar (g1 (K4 "owners") (D3 i0)))):=⟨by
 have ha:=ha.run;have hn:=hn.run;have aa:=λa b c d e=>(aa a b c d e).run
 intro j s wW H ba ak ⟨G,qQ,t,sG,af,h,q1⟩;obtain⟨x,k1,h⟩:=h9 h;obtain⟨ax,k2,h⟩:=h9 h;obtain⟨b,kb,ky⟩:=h9 k2;obtain⟨xs,aT,h⟩:=h9 h;obtain⟨os,aQ,h⟩:=h9 h;obtain⟨is,aM,h⟩:=h9 h;obtain⟨o,aN,h⟩:=h9 h;obtain rfl:x=.lst xs:=by cases x<;>cases aT;rfl
 obtain rfl:ax=.lst os:=by cases ax<;>cases aQ;rfl
 have aV:∀n k,((ixT o.length n).bind λag=>o[ag]?)=some k->(e8 (g1 (K4 "owners") d9) d8) [↥n,some b]=↥k:=λn k aB=>by
  obtain⟨ag,h1,h2⟩:=h9 aB;have E:(g1 (K4 "owners") d9) [↥n,some b]=⇑os:=ky;show((g1 (K4 "owners") d9) [↥n,some b]).bind _=_;rw[E,cI7];show M8 (.lst os) (.int n)=_;rw[ixs aN];show(ixT (o.map T.int).length n).bind _=_;rw[cQ8,h1,cI7];show(o.map T.int)[ag]?=_;rw[cQ0,h2];rfl
 refine wpAny_Call_Name_kw (at0 ak hg hm hv ?_ ∎ ∎);refine callWith_kw ?_ (by rw[hs];rfl) (by rw[hs];rfl);rw[hs];show wpAny _ _ (spliced ((false,eval e X.env)::backTo aq (starEach [] X.env))) _ _ s;refine Calls.spliced_cons (thn (ha j s wW H (λv Y=>∃g,Ext G H g Y/\Rep X.K g (.lst xs) v) ak ⟨G,qQ,_,sG,af,k1,λv g Y E u=>⟨g,E,u⟩⟩) λaw s1 ⟨x,Y,I1,rx,g,E,u⟩=>Calls.spliced_nil ?_);erw[Rep]at u;obtain⟨pl,vs,rfl,gl,rl⟩:=u;obtain rfl:aw=Value.ref pl:=rx;obtain rfl:=aq4 aM rl;have LO:=bL7 ay;obtain⟨ao,aH,aR,aC⟩:=aX5 (E:=X.env) (s:=S) λx hx=>I1.ok.has x (.inl (LO.free x hx))
 refine kws_cons (bo6 I1 bm E.s.t hp hq aI aG aH aJ λf J r l Q s2 I2 T2 n2 ho aE aL aS bb nt bc=> ?_);have aj:Ext g Y g Q:=⟨D7.refl _,⟨λb ah z=>nt b ah (E.s b ah z) (by cases ah with |tbl ps=>exact absurd z (E.s.n b ps)|_=>rfl),T2,E.s.n⟩,n2,λ_ _ z=>z⟩
 have fF:ai6 X j Q f:=I1.fpOk aS aL;have IP:L2.Inv X (j++[(f,W.kla_obj "<lambda>" q p y S ao r J l)]) wW Q s2:=I2.pins_of λai hp=>by
  rcases cK0 hp with z|z
  .exact I2.pin ai (cR9 _ z)
  .rw[List.mem_singleton.mp z];exact⟨ho,fF.1,fF.2.1,fF.2.2.1,λv z=>by cases z⟩
 refine kws_cons (thn (hn _ s2 wW Q (λv F=>∃L,Ext g Q L F/\v=.non) IP ⟨g,qQ,.non,aj.s,af.mono E.g,rfl,λv L F R r3=>⟨L,R,by simpa[Rep]using r3⟩⟩) λu3 s3 ⟨x3,F,I,aZ,L,R,az⟩=>kws_nil ?_);subst az;obtain rfl:u3=Value.none:=aZ;have N:=aj.trans R;show wpAny _ _ (call (.builtin "min") [.ref pl] [(Str.ofString "key",.ref f),(Str.ofString "default",.none)]) _ _ s3;cases is with
 |nil=>
  cases h;obtain⟨au,w,pp,_⟩:=I.list (SqL.of (N.s _ _ (N.g _ _ gl)));cases w;exact bO1 (I.ok.hd ae) pp.isList λh' kk=>⟨.non,F,I.unpinned.kept (t':=s3.toks) kk,rfl,q1 _ L F (E.trans N) (by simp[Rep])⟩
 |cons n av=>
  obtain⟨k,hk,h⟩:=h9 h;obtain⟨m,aP,h⟩:=h9 h;cases h;have aF:F J=some (aa7 J q):=by
   obtain⟨o',Z,O⟩:=R.h J _ aE;rw[Z,O rfl]
  refine bO3 (J:=λU=>∃B M,L2.Inv X (j++[(f,W.kla_obj "<lambda>" q p y S ao r J l)]) wW B U/\Ext L F M B/\B s3.sz=none/\B (s3.sz+1)=none) (N:=n::av) (I.ok.hd ae) (λU ⟨B,M,i,C,_⟩=> ?_) ⟨F,L,I,Ext.refl R.s,I.hok.fresh (cT8 _),I.hok.fresh (cT9 _)⟩ (λU h' bf ⟨B,M,i,C,Z,O⟩ hh=> ?_) (λn t k U oS oI _ aO ⟨B,M,i,C,Z,O⟩ eS eI nS nI=> ?_) rfl hk aP λt U ⟨B,M,i,C,_⟩=>⟨.int m,B,i.unpinned,⟨t,rfl⟩,q1 _ M B ((E.trans N).trans C) (by simp[Rep])⟩
  .obtain⟨au,w,pp,_⟩:=i.list (SqL.of (C.s _ _ (C.g _ _ (N.g _ _ gl))));refine⟨au,pp.isList,by rw[<-w.length,cQ8],λaU n' e=> ?_⟩;obtain⟨aw,z,t,rfl⟩:=w.get (show((n::av).map V.int)[aU]?=↥n' by rw[cQ0,e];rfl);exact⟨t,z⟩
  .exact⟨B,M,cd2 i (I.fpOk (cT8 _) Z) (I.fpOk (cT9 _) O) hh,C,Z,O⟩
  .refine cX1 (bW9 ae aK LO hx aR aC aD aa i C.s (by obtain⟨o',w1,w2⟩:=C.h J _ aF;rw[w1,w2 rfl]) (af.mono ((E.g.trans N.g).trans C.g)) kb (aV n k aO) (I.fpOk (cT8 _) Z) (I.fpOk (cT9 _) O) eS eI nS nI) (λx s' ⟨h1,⟨H5,G5,I5,e5,w1,w2⟩,h3,h4⟩=>⟨h1,⟨H5,G5,I5,C.trans e5,w1,w2⟩,h3,h4⟩) λ_ _ z=>z⟩
end
end L3
namespace L2
section
abbrev ac2(h:Heap)(T:Addr)(x:Array Value):Prop:=h.get? T=some {cls:=.type "tuple",data:=.seq x}
theorem bk5{A:Around}{E:Value->Shared->Prop}{Q:Unit->Shared->Prop}{s:Shared}(hT:ac2 s.heap T X)
  (h:∀H,ac2 H T (X.setIfInBounds k x)->Heap.SameBut T s.heap H->Q () {s with heap:=H}) (l:X.size<=3):wpAny (model P w) A (updateSeq T (·.setIfInBounds k x)) Q E s:=by
 have q:X.size<=sizeLine:=cU0 l ∎;refine wpAny_updateSeq hT rfl (h _ ?_ (Heap.SameBut.update ..)) q (by rw[Array.size_setIfInBounds];omega);show Heap.get? _ _=_;rw[cL3 _ hT rfl];simp[Obj.mapSeq]
structure Ap3(z TI TO i1 i2 i3 l1 l2 l3:Addr):Prop where
 TIz:TI≠z
 TOz:TO≠z
 TITO:TI≠TO
 i1z:i1≠z
 TIi1:TI≠i1
 TOi1:TO≠i1
 i2z:i2≠z
 TIi2:TI≠i2
 TOi2:TO≠i2
 i3z:i3≠z
 TIi3:TI≠i3
 TOi3:TO≠i3
 i12:i1≠i2
 i13:i1≠i3
 i23:i2≠i3
 l1z:l1≠z
 l2z:l2≠z
 l2TO:l2≠TO
 l2i1:l2≠i1
 l3z:l3≠z
 l3TO:l3≠TO
 l3i1:l3≠i1
 l3i2:l3≠i2
theorem aZ3{A:Around}{E:Value->Shared->Prop}{s:Shared}{z TI TO i l:Addr}{X:Array Value}{F:Value->Sem j}(R:A.handled=none)(Y:IsZip s.heap z TI TO .ellipsis)(S:s.heap.IsListIter i l k)(U:s.heap.IsList l X)(W:X[k]?=none)(n:i≠z)
  (N:∀h e,(∀b u,b≠z->b≠i->s.heap.get? b=some u->h.get? b=some u)->(∃o,h.get? e=some o/\o.cls=.type "StopIteration")->E (.ref e) {s with heap:=h}):
  wpAny (model P w) A (Builtin.SmallTypes.nextOf (.ref i)>>=F) Q (λe d=>wpAny (model P w) A (setField (.ref z) 0 .none) (λ_ f=>E e f) E d) s:=by
 refine cW8 (wpAny_nextOf_list_end R S U W λg e B ⟨a,H,C⟩=> ?_);have J:IsZip g z TI TO .ellipsis:=B _ _ n.symm Y;have O:e≠z:=λx=>by subst x;rw[J]at H;cases H;simp at C
 exact cX6 J ∅ λZ _ I=>N Z e (λc o M L x=>(I.2 _ M).trans (B _ _ L x)) ⟨a,(I.2 _ O).trans H,C⟩
abbrev Kp3(z TO i I B:Addr)(h H:Heap):Prop:=∀b u,b≠z->b≠TO->b≠i->b≠I->b≠B->h.get? b=some u->H.get? b=some u
theorem zp3{A:Around}{s:Shared}{Q ai:Value->Shared->Prop}{z TI TO i I F l1 l2 l3:Addr}{n r t:Array Value}(y:A.handled=none)(D:Ap3 z TI TO i I F l1 l2 l3)
  (L:IsZip s.heap z TI TO .none) (ay:ac2 s.heap TI #[.ref i,.ref I,.ref F]) (az:ac2 s.heap TO #[a1,a2,a3])
  (h1:s.heap.IsListIter i l1 k) (h2:s.heap.IsListIter I l2 k) (h3:s.heap.IsListIter F l3 k) (m1:s.heap.IsList l1 n) (m2:s.heap.IsList l2 r) (m3:s.heap.IsList l3 t)
  (hQ:∀X B E,n[k]?=some X->r[k]?=some B->t[k]?=some E->∀h,IsZip h z TI TO (rawInt s.sz)->ac2 h TO #[X,B,E]->h.IsListIter i l1 (k+1)->h.IsListIter I l2 (k+1)->h.IsListIter F l3 (k+1)->ac2 h s.sz #[X,B,E]->
   Kp3 z TO i I F s.heap h->Q (.ref s.sz) {s with heap:=h})
  (w:n[k]?=none\/r[k]?=none\/t[k]?=none->∀h e,Kp3 z TO i I F s.heap h->(∃o,h.get? e=some o/\o.cls=.type "StopIteration")->ai (.ref e) {s with heap:=h}):
  wpAny (model P aE) A (Builtin.«zip.__next__» ⟨[.ref z],[]⟩) (λfin s'=>∃ax,fin=.done (.ret ax)/\Q ax s') ai s:=by
 change wpAny _ _ (field (.ref z) 2>>=_) _ _ _;refine cW8 (cX0 L rfl (x:=.bool false) rfl ?_);change wpAny _ _ (field (.ref z) 3>>=_) _ _ _;refine cW8 (cX0 L rfl (x:=.ref TI) rfl (cW8 (cX5 ay rfl ?_)));change wpAny _ _ (Builtin.SmallTypes.ownedTupleIsFree (.ref z)>>=_) _ _ _;refine cW8 ?_;unfold Builtin.SmallTypes.ownedTupleIsFree;refine cW8 (cX0 L rfl (x:=.none) rfl (cX3 ?_));erw[if_true];refine cW8 (wpAny_rule (cW8 (cX0 L rfl (x:=.ref TO) rfl ?_)));refine cW8 (cX6 L ∅ λaB f ⟨c0,M⟩=> ?_);replace f:IsZip aB z TI TO .ellipsis:=f;refine cW8 ?_;erw[List.zipIdx_cons,List.zipIdx_nil,cP5,List.forIn_nil];refine cW8 (cW8 (wpAny_onRaise ?_));change wpAny _ _ (Builtin.SmallTypes.nextOf (.ref i)>>=_) _ _ _;have p1:=h1.at λo e=>(M _ D.i1z).trans e
 have n1:=m1.at λo e=>(M _ D.l1z).trans e
 rcases Y:n[k]? with _|X
 .exact aZ3 y f p1 n1 Y D.i1z λh e p J=>w (.inl Y) h e (λc o C O c1 c2 c3 x=>p _ _ C c1 ((M _ C).trans x)) J
 refine cW8 (wpAny_nextOf_list_item p1 n1 Y λg1 q1 ⟨a0,v⟩=>cX3 ?_);have au:ac2 g1 TO #[a1,a2,a3]:=(v _ D.TOi1).trans ((M _ D.TOz).trans az);refine cW8 (cX5 au rfl (cW8 (bk5 au (λU aa ⟨b0,f1⟩=> ?_) (cT8 _))));replace aa:ac2 U TO #[X,a2,a3]:=aa;refine cW8 (wpAny_letGo (cX3 (cW8 (cW8 (wpAny_onRaise ?_)))));change wpAny _ _ (Builtin.SmallTypes.nextOf (.ref I)>>=_) _ _ _;have j:∀b,b≠z->b≠TO->b≠i->U.get? b=s.heap.get? b:=λb ag q ah=>(f1 _ q).trans ((v _ ah).trans (M _ ag))
 have z1:IsZip U z TI TO .ellipsis:=(f1 _ D.TOz.symm).trans ((v _ D.i1z.symm).trans f);have p2:=h2.at λo e=>(j _ D.i2z D.TOi2.symm D.i12.symm).trans e
 have n2:=m2.at λo e=>(j _ D.l2z D.l2TO D.l2i1).trans e
 rcases Z:r[k]? with _|B
 .exact aZ3 (s:={s with heap:=U}) y z1 p2 n2 Z D.i2z λh e p J=>w (.inr (.inl Z)) h e (λc o C O c1 c2 c3 x=>p _ _ C c2 ((j _ C O c1).trans x)) J
 refine cW8 (wpAny_nextOf_list_item (s:={s with heap:=U}) p2 n2 Z λg2 q2 ⟨a5,S⟩=>cX3 ?_);have av:ac2 g2 TO #[X,a2,a3]:=(S _ D.TOi2).trans aa;refine cW8 (cX5 av rfl (cW8 (bk5 av (λN ae ⟨b5,f2⟩=> ?_) (cT8 _))));replace ae:ac2 N TO #[X,B,a3]:=ae;refine cW8 (wpAny_letGo (cX3 (cW8 (cW8 (wpAny_onRaise ?_)))));change wpAny _ _ (Builtin.SmallTypes.nextOf (.ref F)>>=_) _ _ _;have l:∀b,b≠z->b≠TO->b≠i->b≠I->N.get? b=s.heap.get? b:=λb ag q ah aD=>(f2 _ q).trans ((S _ aD).trans (j _ ag q ah))
 have z2:IsZip N z TI TO .ellipsis:=(f2 _ D.TOz.symm).trans ((S _ D.i2z.symm).trans z1);have p3:=h3.at λo e=>(l _ D.i3z D.TOi3.symm D.i13.symm D.i23.symm).trans e
 have n3:=m3.at λo e=>(l _ D.l3z D.l3TO D.l3i1 D.l3i2).trans e
 rcases a:t[k]? with _|E
 .exact aZ3 (s:={s with heap:=N}) y z2 p3 n3 a D.i3z λh e p J=>w (.inr (.inr a)) h e (λc o C O c1 c2 c3 x=>p _ _ C c3 ((l _ C O c1 c2).trans x)) J
 refine cW8 (wpAny_nextOf_list_item (s:={s with heap:=N}) p3 n3 a λg3 q3 ⟨a6,H⟩=>cX3 ?_);have aw:ac2 g3 TO #[X,B,a3]:=(H _ D.TOi3).trans ae;refine cW8 (cX5 aw rfl (cW8 (bk5 aw (λu W ⟨b6,f3⟩=> ?_) (cT8 _))));replace W:ac2 u TO #[X,B,E]:=W;refine cW8 (wpAny_letGo ?_);refine cX3 (cX3 ?_);refine cW8 (cX5 W rfl (cW8 (wpAny_newTuple ?_)));have aq:u.objs.size=s.sz:=by rw[b6,a6,b5,a5,b0,a0,c0]
 have ar:IsZip u z TI TO .ellipsis:=(f3 _ D.TOz.symm).trans ((H _ D.i3z.symm).trans z2);change wpAny _ _ (Builtin.SmallTypes.ownedTupleHandOut (.ref z) (.ref u.objs.size)>>=_) _ _ _;refine cW8 ?_;unfold Builtin.SmallTypes.ownedTupleHandOut;have aA:IsZip (u.push {cls:=.type "tuple",data:=.seq #[X,B,E]}) z TI TO .ellipsis:=cL0 _ ar;refine cW8 (cX6 aA ∅ λaC af ak=> ?_);replace af:IsZip aC z TI TO (rawInt u.objs.size):=af;refine cX6 af ∅ λg d ao=> ?_;replace d:IsZip g z TI TO (rawInt u.objs.size):=d
 have R:∀c,c≠z->∀o,u.get? c=some o->g.get? c=some o:=λc C o e=>(ao.2 _ C).trans ((ak.2 _ C).trans (cL0 _ e))
 have nz:=cU9 (cL4 ar);have aj:ac2 g u.objs.size #[X,B,E]:=(ao.2 _ nz).trans ((ak.2 _ nz).trans (cL1 _ rfl));rw[aq]at d aj;refine cX3 ⟨_,rfl,?_⟩;change Q (.ref u.objs.size) _;rw[aq];exact hQ X B E Y Z a g d (R _ D.TOz _ W) (q1.at λo e=>R _ D.i1z _ ((f3 _ D.TOi1.symm).trans ((H _ D.i13).trans ((f2 _ D.TOi1.symm).trans ((S _ D.i12).trans ((f1 _ D.TOi1.symm).trans e))))))
  (q2.at λo e=>R _ D.i2z _ ((f3 _ D.TOi2.symm).trans ((H _ D.i23).trans ((f2 _ D.TOi2.symm).trans e)))) (q3.at λo e=>R _ D.i3z _ ((f3 _ D.TOi3.symm).trans e)) aj λc o C O c1 c2 c3 e=>R _ C _ ((f3 _ O).trans ((H _ c3).trans ((l _ C O c1 c2).trans e)))
theorem bn9{A:Around}{s:Shared}{E:Value->Shared->Prop}{z TI TO i I B l1 l2 l3:Addr}{H J L:Array Value}{Q:Option Value->Shared->Prop}(a:A.handled=none)(D:Ap3 z TI TO i I B l1 l2 l3)
  (M:IsZip s.heap z TI TO .none) (W:ac2 s.heap TI #[.ref i,.ref I,.ref B]) (Y:ac2 s.heap TO #[a1,a2,a3])
  (N:s.heap.IsListIter i l1 k) (O:s.heap.IsListIter I l2 k) (R:s.heap.IsListIter B l3 k) (m1:s.heap.IsList l1 H) (m2:s.heap.IsList l2 J) (m3:s.heap.IsList l3 L)
  (U:∀x X C,H[k]?=some x->J[k]?=some X->L[k]?=some C->∀h,IsZip h z TI TO (rawInt s.sz)->ac2 h TO #[x,X,C]->h.IsListIter i l1 (k+1)->h.IsListIter I l2 (k+1)->h.IsListIter B l3 (k+1)->ac2 h s.sz #[x,X,C]->
   Kp3 z TO i I B s.heap h->Q (some (.ref s.sz)) {s with heap:=h})
  (S:H[k]?=none\/J[k]?=none\/L[k]?=none->∀h,Kp3 z TO i I B s.heap h->Q none {s with heap:=h}):
  wpAny (model P w) A (pyNext (.ref z)) Q E s:=by
 have t:s.TypeIs (.ref z) "zip":=⟨_,M,rfl⟩;unfold pyNext;refine cW8 (wpAny_attempt (wpAny_callSpecial?_slot (name:=Str.ofString "__next__") t F.slot_zip_next (cW9 F.slot_zip_next t F.entry_zip_next
   (zp3 a D M W Y N O R m1 m2 m3 (λx X C c d f h b1 b2 b3 b4 b5 b6 b7=>cX3 (U x X C c d f h b1 b2 b3 b4 b5 b6 b7)) λy h e b Z=> ?_) (F.args_zip_next_1 _))))
 exact cW8 (wpAny_isInstance (T:="StopIteration") (b:=true) Z isSubtype_stop (cX3 (S y _ b)))
end
noncomputable abbrev itO(c:String)(l:Addr):Obj:={cls:=.type c,data:=.fields #[.ref l,.int 0 0]}
noncomputable abbrev tpO(x:Array Value):Obj:={cls:=.type "tuple",data:=.seq x}
noncomputable abbrev zpO(a b:Addr):Obj:={cls:=.type "zip",data:=.fields #[.none,.bool false,.bool false,.ref a,.ref b]}
noncomputable abbrev it3(h:Heap)(l1 l2 l3:Addr):Heap:=((h.push (itO "list_iterator" l1)).push (itO "list_iterator" l2)).push (itO "list_iterator" l3)
noncomputable abbrev ti3(h:Heap)(l1 l2 l3:Addr):Heap:=(it3 h l1 l2 l3).push (tpO #[.ref h.objs.size,.ref (h.push (itO "list_iterator" l1)).objs.size,.ref ((h.push (itO "list_iterator" l1)).push (itO "list_iterator" l2)).objs.size])
noncomputable abbrev mk3(h:Heap)(l1 l2 l3:Addr):Heap:=((ti3 h l1 l2 l3).push (tpO #[.none,.none,.none])).push (zpO (it3 h l1 l2 l3).objs.size (ti3 h l1 l2 l3).objs.size)
theorem ch6(l1 l2 l3:Addr)(x y z:Array Value):
  Meets (Builtin.«zip.__new__» ⟨[.type "zip",.ref l1,.ref l2,.ref l3],[]⟩) (λ_ R s=>s.heap.IsList l1 x/\s.heap.IsList l2 y/\s.heap.IsList l3 z/\
   R (.ok (.ret (.ref ((ti3 s.heap l1 l2 l3).push (tpO #[.none,.none,.none])).objs.size))) {s with heap:=mk3 s.heap l1 l2 l3}):=
 .of_wp λp w A R s h=>by
  obtain⟨H,g,d,t,os⟩:=s;obtain⟨Q,E,F,h⟩:=h;have b:=sub_zip;have k:Heap.IsList (Shared.heap ⟨H,g,d,t,os⟩) l1 x:=Q;have B:Heap.IsList (Shared.heap ⟨H.push (itO "list_iterator" l1),g,d,t,os⟩) l2 y:=Heap.IsList.push E _;have C:Heap.IsList (Shared.heap ⟨(H.push (itO "list_iterator" l1)).push (itO "list_iterator" l2),g,d,t,os⟩) l3 z:=Heap.IsList.push (Heap.IsList.push F _) _
  wp_walk using cX4 k,cX4 B,cX4 C
  exact⟨_,rfl,h⟩
theorem ck4(a b c:Value):checkTypeCall "zip" ⟨[a,b,c],[]⟩=pure ():=by kernel_rfl
theorem cp6(a b c:Value):checkBuiltinCall "zip.__new__" ⟨[.type "zip",a,b,c],[]⟩=pure ():=by kernel_rfl
theorem ct6(a b c d:Value):argsOk "object.__init__" ⟨[a,b,c,d],[]⟩:=by
 unfold argsOk;rw[signature?_of (id:="object.__init__") (n:=['_','_','t','i','n','i','_','_']) (o:=['t','c','e','j','b','o']) (by kernel_rfl) F.owner_object];kernel_rfl
section
theorem psz{h:Heap}{o:Obj}{n:Nat}(e:h.objs.size=n):(h.push o).objs.size=n+1:=by rw[cL5,e]
theorem pat{h:Heap}{o:Obj}{n:Nat}(e:h.objs.size=n)(H:o.isFreed=false):(h.push o).get? n=some o:=by subst e;exact cL1 _ H
theorem bY0{l1 l2 l3:Addr}{X y J:Array Value}{Q:Value->Shared->Prop}(L:s.heap.IsList l1 X)(M:s.heap.IsList l2 y)(N:s.heap.IsList l3 J)
  (h:∀H,IsZip H (s.sz+5) (s.sz+3) (s.sz+4) .none->ac2 H (s.sz+3) #[.ref s.sz,.ref (s.sz+1),.ref (s.sz+2)]->
   ac2 H (s.sz+4) #[.none,.none,.none]->H.IsListIter s.sz l1 0->H.IsListIter (s.sz+1) l2 0->H.IsListIter (s.sz+2) l3 0->
   (∀b u,s.heap.get? b=some u->H.get? b=some u)->Q (.ref (s.sz+5)) {s with heap:=H}):
  wpAny (model P w) A (call (.type "zip") [.ref l1,.ref l2,.ref l3]) Q E s:=by
 refine callType_new F.called_zip ∎ (ck4 _ _ _) (cp6 _ _ _) (λO=>ct6 O _ _ _) F.entry_zip_new (ch6 l1 l2 l3 X y J) ⟨L,M,N,?_⟩;have z:=psz (o:=itO "list_iterator" l1) (rfl:s.sz=_);have Z:=psz (o:=itO "list_iterator" l2) z;have B:=psz (o:=itO "list_iterator" l3) Z;have C:=psz (o:=tpO #[.ref s.sz,.ref (s.heap.push (itO "list_iterator" l1)).objs.size,.ref ((s.heap.push (itO "list_iterator" l1)).push (itO "list_iterator" l2)).objs.size]) B;have I:=psz (o:=tpO #[.none,.none,.none]) C;have g6:(mk3 s.heap l1 l2 l3).get? (s.sz+5)=some _:=pat I rfl;have g5:(mk3 s.heap l1 l2 l3).get? (s.sz+4)=some _:=cL0 _ (pat C rfl);have g4:(mk3 s.heap l1 l2 l3).get? (s.sz+3)=some _:=cL0 _ (cL0 _ (pat B rfl));have g3:(mk3 s.heap l1 l2 l3).get? (s.sz+2)=some _:=cL0 _ (cL0 _ (cL0 _ (pat Z rfl)));have g2:(mk3 s.heap l1 l2 l3).get? (s.sz+1)=some _:=cL0 _ (cL0 _ (cL0 _ (cL0 _ (pat z rfl))));have g1:(mk3 s.heap l1 l2 l3).get? s.sz=some _:=cL0 _ (cL0 _ (cL0 _ (cL0 _ (cL0 _ (pat rfl rfl)))));show _/\_;rw[I];rw[B,C]at g6;rw[z,Z]at g4;exact⟨⟨_,g6,rfl⟩,h _ g6 g4 g5 ⟨_,g1,rfl,rfl⟩ ⟨_,g2,rfl,rfl⟩ ⟨_,g3,rfl,rfl⟩ λc o x=>cL0 _ (cL0 _ (cL0 _ (cL0 _ (cL0 _ (cL0 _ x)))))⟩
end
def bZ0(K:cW0)(l1 l2 l3:Addr):It:=
 ⟨λi H=>∃X B C E F I,SqL K H l1 X/\SqL K H l2 B/\SqL K H l3 C/\X[i]?=some E/\B[i]?=some F/\C[i]?=some I,
 λi H v h=>∃E F I p,(∀x,SqL K H l1 x->x[i]?=some E)/\(∀x,SqL K H l2 x->x[i]?=some F)/\(∀x,SqL K H l3 x->x[i]?=some I)/\H p=none/\h=upd H p (.tup [E,F,I])/\v=.ref p,
 λi H=>∃X B C,SqL K H l1 X/\SqL K H l2 B/\SqL K H l3 C/\(X.length<=i\/B.length<=i\/C.length<=i)⟩
theorem bQ4{P:Program}{w:World}{K:cW0}{es:List Expr}{k:Nat}{pos:Pos}{z TI TO i1 i2 i3 l1 l2 l3:Addr}(D:Ap3 z TI TO i1 i2 i3 l1 l2 l3):
  bd1 P w K (.Tuple es k pos) (bZ0 K l1 l2 l3) [z,TI,TO,i1,i2,i3] z (λi h=>IsZip h z TI TO .none/\ac2 h TI #[.ref i1,.ref i2,.ref i3]/\(∃a1 a2 a3,ac2 h TO #[a1,a2,a3])/\h.IsListIter i1 l1 i/\h.IsListIter i2 l2 i/\h.IsListIter i3 l3 i) where
 mem:=∅
 obj:=λi h st b hb=>by
  obtain⟨z1,z2,⟨_,_,_,z3⟩,⟨o1,y1,_,d1⟩,⟨o2,y2,_,d2⟩,⟨o3,y3,_,d3⟩⟩:=st;simp at hb;rcases hb with rfl|rfl|rfl|rfl|rfl|rfl
  .exact⟨_,z1,λv z=>by cases z⟩
  .exact⟨_,z2,λv z=>by cases z⟩
  .exact⟨_,z3,λv z=>by cases z⟩
  .exact⟨o1,y1,λv z=>by rw[d1]at z;cases z⟩
  .exact⟨o2,y2,λv z=>by rw[d2]at z;cases z⟩
  .exact⟨o3,y3,λv z=>by rw[d3]at z;cases z⟩
 keep:=λi h h' st kk=>by
  obtain⟨z1,z2,⟨a1,a2,a3,z3⟩,y1,y2,y3⟩:=st;exact⟨kk z ∅ _ z1,kk TI ∅ _ z2,⟨a1,a2,a3,kk TO ∅ _ z3⟩,y1.at λo e=>kk i1 ∅ o e,y2.at λo e=>kk i2 ∅ o e,y3.at λo e=>kk i3 ∅ o e⟩
 item:=by
  intro X hP hw hK hc i aA s wW H E I hf st hg;subst hP hw hK;obtain⟨xs1,xs2,xs3,x1,x2,x3,hq1,hq2,hq3,hx1,hx2,hx3⟩:=hg;obtain⟨its1,rv1,p1,hz1⟩:=I.list hq1;obtain⟨u1,hu1,ru1⟩:=rv1.get hx1;obtain⟨its2,rv2,p2,hz2⟩:=I.list hq2;obtain⟨u2,hu2,ru2⟩:=rv2.get hx2;obtain⟨its3,rv3,p3,hz3⟩:=I.list hq3;obtain⟨u3,hu3,ru3⟩:=rv3.get hx3;obtain⟨z1,z2,⟨a1,a2,a3,z3⟩,y1,y2,y3⟩:=st;refine bn9 (I.ok.hd hc) D z1 z2 z3 y1 y2 y3 p1.isList p2.isList p3.isList (λv1 v2 v3 d1 d2 d3 h' b1 b2 c1 c2 c3 b5 b7=> ?_) λe=>by simp[hu1,hu2,hu3]at e
  erw[List.getElem?_toArray,hu1,hu2,hu3,Option.some.injEq]at d1 d2 d3;subst d1 d2 d3;refine⟨_,rfl,wpAny_letOwnedTupleGo_zip (s:={s with heap:=h'}) b1 λh2 e1 sb=> ?_⟩;have up:∀c o,c≠z->h'.get? c=some o->h2.get? c=some o:=λc o hc e=>(sb.2 c hc).trans e
  have lt:∀{b u},s.heap.get? b=some u->s.sz≠b:=λe=>cU9 (cL4 e)
  have hT:h2.get? s.sz=some {cls:=.type "tuple",data:=.seq #[u1,u2,u3]}:=up _ _ (lt z1) b5;have I1:=I.turnedNew (t':=s.toks) (h':=h2) (ch:=[z,TI,TO,i1,i2,i3]) (p:=s.sz) (o:=.tup [x1,x2,x3]) (λc o hc e=>by
    simp at hc;exact up c o hc.1 (b7 c o hc.1 hc.2.2.1 hc.2.2.2.1 hc.2.2.2.2.1 hc.2.2.2.2.2 e)) hf (cT8 _)
   ⟨by show 3<=sizeLine;decide,[u1,u2,u3],.cons ru1 (.cons ru2 (.cons ru3 (.nil))),_,hT,rfl,_,rfl⟩
  refine⟨.ref s.sz,_,I1,rfl,⟨x1,x2,x3,_,λxs' e=>by rw[I.list_inj e hq1];exact hx1,λxs' e=>by rw[I.list_inj e hq2];exact hx2,λxs' e=>by rw[I.list_inj e hq3];exact hx3,I.hok.fresh (cT8 _),rfl,rfl⟩,
   ⟨e1,up _ _ D.TIz (b7 _ _ D.TIz D.TITO D.TIi1 D.TIi2 D.TIi3 z2),⟨_,_,_,up _ _ D.TOz b2⟩,c1.at λo e=>up _ o D.i1z e,c2.at λo e=>up _ o D.i2z e,c3.at λo e=>up _ o D.i3z e⟩,λc hcm=> ?_⟩
  have hc0:=(hf c hcm).1;rw[n6 ?_]
  .exact hc0
  .intro e;subst e;simp at hcm;obtain⟨o1,w1,_⟩:=y1;obtain⟨o2,w2,_⟩:=y2;obtain⟨o3,w3,_⟩:=y3;rcases hcm with q|q|q|q|q|q
   .exact lt z1 q
   .exact lt z2 q
   .exact lt z3 q
   .exact lt w1 q
   .exact lt w2 q
   .exact lt w3 q
 done:=by
  intro X hP hw hK hc i aA s wW H E I hf st hg;subst hP hw hK;obtain⟨xs1,xs2,xs3,hq1,hq2,hq3,hend⟩:=hg;obtain⟨its1,rv1,p1,hz1⟩:=I.list hq1;have n1:=rv1.length;obtain⟨its2,rv2,p2,hz2⟩:=I.list hq2;have n2:=rv2.length;obtain⟨its3,rv3,p3,hz3⟩:=I.list hq3;have n3:=rv3.length;obtain⟨z1,z2,⟨a1,a2,a3,z3⟩,y1,y2,y3⟩:=st;refine bn9 (I.ok.hd hc) D z1 z2 z3 y1 y2 y3 p1.isList p2.isList p3.isList (λv1 v2 v3 d1 d2 d3=> ?_) λ_ h' b7=>⟨rfl,?_⟩
  .simp only[List.getElem?_toArray]at d1 d2 d3;have :=(List.getElem?_eq_some_iff.mp d1).1;have :=(List.getElem?_eq_some_iff.mp d2).1;have :=(List.getElem?_eq_some_iff.mp d3).1;omega
  .exact I.turnedL (t':=s.toks) (ch:=[z,TI,TO,i1,i2,i3]) (λc o hc e=>by
    simp at hc;exact b7 c o hc.1 hc.2.2.1 hc.2.2.2.1 hc.2.2.2.2.1 hc.2.2.2.2.2 e) hf
 self:=λ_ _ _ _ _ st h=>wpAny_pyIter_zip st.1 h
def cD3(K:cW0)(t:TA):TI:=λw H R=>t w H λv h=>∃l1 l2 l3,v=[.ref l1,.ref l2,.ref l3]/\(∃x,SqL K h l1 x)/\(∃x,SqL K h l2 x)/\(∃x,SqL K h l3 x)/\R (bZ0 K l1 l2 l3) h
section
theorem cn3{a b c:Expr}{t:TA}{p P:Pos}(g:Gl X "zip")(N:X.mg "zip"=none)(M:PA X [a,b,c] t)(Y:starEach [a,b,c] X.env=[(false,eval a X.env),(false,eval b X.env),(false,eval c X.env)])(E:starEach [b,c] X.env=[(false,eval b X.env),(false,eval c X.env)]):
  PI X (.Tuple x ai tp) (.Call (.Name "zip" p) [a,b,c] [] P) (cD3 X.K t):=by
 intro J s w H R I h;refine Call_ (at0 I g N boot_zip (PyProof.Rows.callWith_type1 (thn (M P J s w H _ I h) λus S ⟨vs,F,i,r,Q⟩=> ?_) (by rw[Y,E]) (by rw[E];rfl)));obtain⟨l1,l2,l3,e,⟨aq,O⟩,⟨ar,U⟩,⟨au,W⟩,q⟩:=Q;subst e;cases r with
 |cons m1 r=>
  cases r with
  |cons m2 r=>
   cases r with
   |cons m3 r=>
    cases r;cases m1;cases m2;cases m3;obtain⟨af,aj,f,y⟩:=i.list O;have t1:=f.isList;have l:l1<S.sz:=by obtain⟨o,e,_⟩:=t1;exact cL4 e
    obtain⟨ag,ak,j,aa⟩:=i.list U;have t2:=j.isList;have Z:l2<S.sz:=by obtain⟨o,e,_⟩:=t2;exact cL4 e
    obtain⟨ah,ao,k,ae⟩:=i.list W;have t3:=k.isList;have d:l3<S.sz:=by obtain⟨o,e,_⟩:=t3;exact cL4 e
    refine bY0 t1 t2 t3 λL g1 g2 g3 v n u g7=> ?_
    refine wpAny_pyIter_zip (s:={S with heap:=L}) g1 ?_;refine⟨S.sz+5,[S.sz+5,S.sz+3,S.sz+4,S.sz,S.sz+1,S.sz+2],_,_,F,rfl,i.kept (t':=S.toks) g7,bQ4 (l1:=l1) (l2:=l2) (l3:=l3) ?_,⟨g1,g2,⟨_,_,_,g3⟩,v,n,u⟩,λb B=> ?_,q⟩
    .have Q:=cV4 l;have q2:=cV4 Z;have q3:=cV4 d;constructor<;>(intro z;have z':(_:Nat)=_:=z;omega)
    .have C:S.sz<=b:=by
      simp at B;rcases B with rfl|rfl|rfl|rfl|rfl|rfl<;>first |exact cT8 _|exact Nat.le_add_right _ _
     exact i.fpOk C (i.hok.fresh C)
end
end L2
namespace L3
theorem be0:∀{X Y Z:List T}{i:Nat}{t:T},(aa0 X Y Z)[i]?=some t->∃x y z,X[i]?=some x/\Y[i]?=some y/\Z[i]?=some z/\t=.tup [x,y,z]
 |[],_,_,_,_,h=>by simp[aa0]at h
 |_::_,[],_,_,_,h=>by simp[aa0]at h
 |_::_,_::_,[],_,_,h=>by simp[aa0]at h
 |x::X,y::Y,z::Z,0,t,h=>by simp[aa0]at h;exact⟨x,y,z,∅,∅,∅,h.symm⟩
 |x::X,y::Y,z::Z,i+1,t,h=>by
  obtain⟨u,v,w,H,B,C,E⟩:=be0 (X:=X) (Y:=Y) (Z:=Z) (i:=i) (t:=t) (by simpa[aa0]using h);exact⟨u,v,w,by simpa using H,by simpa using B,by simpa using C,E⟩
theorem aJ3:∀(X Y Z:List T),(aa0 X Y Z).length=min X.length (min Y.length Z.length)
 |[],_,_=>by simp[aa0]
 |_::_,[],_=>by simp[aa0]
 |_::_,_::_,[]=>by simp[aa0]
 |x::X,y::Y,z::Z=>by erw[aa0,cJ3,aJ3 X Y Z,Nat.add_min_add_right]
theorem bF7{K:cW0}{G:Hp}{t u w:T}{X:List V}(h:j9 K G [t,u,w] X):∃x y z,X=[x,y,z]/\Rep K G t x/\Rep K G u y/\Rep K G w z:=by
 erw[j9]at h;obtain⟨x,r,e,H,y,R,E,C,z,J,B,F,I⟩:=h;subst I B E;exact⟨x,y,z,e,H,C,F⟩
theorem bQ2{K:cW0}{G:Hp}{p P I:Addr}{x X B:List V}{t Y Z:List T}(h:G p=⇑x)(r:j9 K G t x)(N:G P=⇑X)(U:j9 K G Y X)(g:G I=⇑B)(W:j9 K G Z B):bd0 K G (bZ0 K p P I) (aa0 t Y Z):=by
 intro aa y H s S;have C:SqL K H p x:=SqL.of (S _ _ (s _ _ h));have E:SqL K H P X:=SqL.of (S _ _ (s _ _ N));have F:SqL K H I B:=SqL.of (S _ _ (s _ _ g));refine⟨λae i=> ?_,λh N=>⟨x,X,B,C,E,F,?_⟩⟩
 .obtain⟨t1,t2,t3,c,d,f,e⟩:=be0 i;subst e;obtain⟨J,O,o⟩:=r.get c;obtain⟨L,Q,u⟩:=U.get d;obtain⟨M,R,w⟩:=W.get f;refine⟨⟨x,X,B,J,L,M,C,E,F,O,Q,R⟩,λaf H2 v=> ?_⟩;obtain⟨ag,ah,ai,q,m1,m2,m3,k,j,l⟩:=v;have z:=m1 x C;rw[O]at z;cases z;have a:=m2 X E;rw[Q]at a;cases a;have b:=m3 B F;rw[R]at b;cases b;subst j l;refine⟨_,Ext.new S k _,?_⟩;have n:=K6 (S.free k) (HO.tup [J,L,M]);erw[Rep];exact⟨q,[J,L,M],rfl,SqT.of t8,j9.cons ((o.mono s).mono n) (j9.cons ((u.mono s).mono n) (j9.cons ((w.mono s).mono n) (j9.nil)))⟩
 .rw[aJ3]at h;rw[r.length,U.length,W.length];omega
section
theorem be7{p t:Pos}{I:List Expr}{k:Nat}{g1 g2 g3:L3.G}(N:X.mg "zip"=none)(H:Wd (PXA X [a,b,c] (gs [g1,g2,g3])))(h:Gl X "zip":=by rfl)(s:starEach [a,b,c] X.env=[(false,eval a X.env),(false,eval b X.env),(false,eval c X.env)]:=by rfl)(O:starEach [b,c] X.env=[(false,eval b X.env),(false,eval c X.env)]:=by rfl):Wd (PXI X (.Tuple I k t) (.Call (.Name "zip" p) [a,b,c] [] ae) (bB3 g1 g2 g3)):=⟨have H:=H.run;PI.imp (cn3 h N H s O) λwW aa R zz=>by
 obtain⟨G,d,ts,i,Q,h,q⟩:=zz;obtain⟨x,J,h⟩:=h9 h;obtain⟨w,L,h⟩:=h9 h;obtain⟨y,M,h⟩:=h9 h;cases h;obtain⟨j,P,m1⟩:=h9 J;cases j<;>first |(cases m1;done)|skip
 cases m1;obtain⟨l,S,m2⟩:=h9 L;cases l<;>first |(cases m2;done)|skip
 cases m2;obtain⟨n,U,m3⟩:=h9 M;cases n<;>first |(cases m3;done)|skip
 cases m3;refine⟨G,d,[.lst x,.lst w,.lst y],i,Q,?_,λvs g F E f=> ?_⟩
 .simp only[gs,P,S,U,cI7]
 .obtain⟨x1,x2,x3,e,r,B,C⟩:=bF7 f;erw[Rep]at r B C;obtain⟨W,v,z,b1,c1⟩:=r;obtain⟨Y,o,y2,b2,c2⟩:=B;obtain⟨Z,u,y3,b3,c3⟩:=C;subst z y2 y3;exact⟨W,Y,Z,e,⟨v,SqL.of (E.s _ _ b1)⟩,⟨o,SqL.of (E.s _ _ b2)⟩,⟨u,SqL.of (E.s _ _ b3)⟩,q _ g F E (bQ2 b1 c1 b2 c2 b3 c3)⟩⟩
end
section
theorem bv8:∀{n:List Int}{m:Int},m∈n->(∀a∈n,m<=a)->an6 n=some m
 |[],_,h,_=>by cases h
 |[x],m,h,_=>by simp at h;subst h;rfl
 |x::y::n,m,h,H=>by
  by_cases B:m∈(y::n)
  .have i:=bv8 B λa C=>H a (cS1 _ C)
   have :=H x cS2;rw[an6,i];simp only;by_cases e:m<x
   .rw[cW7 e]
   .rw[cW6 e];congr 1;omega
  .have E:m=x:=by rcases cI4 h with e|e;exact e;exact absurd e B
   subst E;rw[an6];cases q:an6 (y::n)with
   |none=>rfl
   |some z=>
    have F:z∈(y::n):=by
     have :∀{l:List Int}{z:Int},an6 l=some z->z∈l:=by
      intro l;induction l with
      |nil=>intro z h;cases h
      |cons a l i=>
       intro z h;rw[an6]at h;cases q:an6 l with
       |none=>rw[q]at h;cases h;exact cS2
       |some w=>
        rw[q]at h;simp only at h;split at h
        .cases h;exact cS1 _ (i q)
        .cases h;exact cS2
     exact this q
    have :=H z (cS1 _ F);simp only;rw[cW6 ⋯]
theorem bX0:∀{n:List Int}{i:List Value},B9 (n.map V.int) i->IntsAre i n:=λ{n i} h=>aH1 h
theorem bO0(c:X.calm=true):af0 X (.builtin "min") (λv H Q=>∃(p:Addr) (n:List Int) (m:Int),v=[.ref p]/\H p=⇑(n.map V.int)/\an6 n=some m/\Q (.int m) H):=by
 intro a s wW H v us Q I r h;obtain⟨p,n,m,rfl,O,B,q⟩:=h;obtain⟨u,rfl,Y⟩:=ar3 r;cases Y;obtain⟨w,Z,S,E⟩:=I.list (SqL.of O);have J:=bX0 Z;obtain⟨x,e⟩:=J.allInts.items;have C:n=x.toList.map (·.1):=(by rw[<-J.numsOf,<-nums_intItems,<-e])
 have N:n≠[]:=λz=>by rw[z]at B;cases B
 have P:0<x.size:=by
  have :0<n.length:=List.length_pos_iff.mpr N;rw[C,cQ8,cK1]at this;exact this
 have l:=S.isList;rw[e]at l;refine min_intList (I.ok.hd c) l P λaa d y R k=> ?_
 obtain⟨t,rfl⟩:=intItems_at R;have F:=argBest_lt (numAt x) (x.size-1);have g:(x.toList.map (·.1)).length=x.size:=by rw[cQ8,cK1]
 have U:numAt x (argBest (λi j=>decide (numAt x i<numAt x j)) (x.size-1))∈n:=by
  rw[C,numAt_eq];exact getD_mem (by have :=F.1;omega)
 have W:∀z∈n,numAt x (argBest (λi j=>decide (numAt x i<numAt x j)) (x.size-1))<=z:=λz E=>by
  rw[C]at E;obtain⟨j,f,M⟩:=mem_getD E;have :=F.2 j ⋯;rw[numAt_eq x j]at this;rw[<-M];exact this
 have L:=bv8 U W;rw[B]at L;cases L;exact⟨.int _,H,I.kept λb o e=>k b o e,⟨t,rfl⟩,q⟩
theorem bH1{K:cW0}:ao3 K (λv H Q=>∃(p:Addr) (n:List Int) (m:Int),v=[.ref p]/\H p=⇑(n.map V.int)/\an6 n=some m/\Q (.int m) H) av1:=by
 intro G H t x I Q s r f q
 match t,f with
 |[.lst u],f=>
  obtain⟨n,B,h⟩:=h9 f;obtain⟨m,C,h⟩:=h9 h;cases h;obtain⟨y,e,R⟩:=aj3 r;erw[Rep]at R;obtain⟨p,Y,k,E,F⟩:=R;subst k;have z:=aq4 B F;subst z;exact⟨p,n,m,e,s _ _ E,C,q _ G H (Ext.refl s) (by simp[Rep])⟩
theorem aR3(E:X.mg "min"=none)(h:Wd (PXA X [e] (gs [g])))(H:X.calm=true:=by rfl)(C:Gl X "min":=by rfl)(B:StE X e []:=by rfl)(l:Bks X P []:=by rfl):Wd (PX X (.Call (.Name "min" p) [e] [] P) (gN av1 [g])):=⟨have h:=h.run;ah3 (bO0 H) bH1 C E boot_min h ∎ ∎ B l⟩
end
section
theorem bz6{st:Stmt}{g:GS}{a B:List Nat}(i:Nat)(h:PXO X J a st g)(M:i∈a:=by decide)(N:a.filter (· !=i)=B:=by rfl):PXO X J B st g:=⟨h.nb,λC I=>PS.imp (h.ps C I) λD W H z=>by
 obtain⟨G,O,o,R,L,q⟩:=z;refine⟨G,O,o,R,L,?_⟩;cases o with
 |nx Q=>
  intro w P F s r;obtain⟨E,S,R2⟩:=r.unown M N;exact q w E F (s.trans S) R2
 |ret t=>exact q
 |bk Q=>exact q
 |ct Q=>exact q⟩
end
section
theorem bV7:OpR X (compareOp .IsNot) (λx y H Q=>∃c d,x=.bl c/\y=.bl d/\Q (.bl !(c==d)) H):=by
 intro a s w H x y v u Q I r R h;obtain⟨c,d,rfl,rfl,q⟩:=h;cases r;cases R;refine wpAny_isNot_plain (by rfl) (U9 I q ?_);cases c<;>cases d<;>rfl
theorem bz2{K:cW0}:N5 K (λx y H Q=>∃c d,x=.bl c/\y=.bl d/\Q (.bl !(c==d)) H) (λx y=>match y with |.bl d=>av0 d x|_=>none):=by
 intro G H t B x y z Q s r R h q;cases B<;>first |(cases h;done)|skip
 cases t<;>first |(cases h;done)|skip
 erw[Rep]at r R;cases h;exact⟨_,_,r,R,q _ G H (Ext.refl s) (by simp[Rep])⟩
theorem bm2(h:Wd (PX X a g)):Wd (PXB X (.Compare a [.IsNot] [.Constant (.bool c) j p] P) (bOf (g1 (av0 c) g))):=⟨by
 have h:=h.run;have :=ah7 (p:=P) bV7 bz2 h (cx7 (X:=X) (i:=c) (j:=j) (p:=p)) (Y6 _);have e:g2 (λx y=>match y with |.bl d=>av0 d x|_=>none) g (gC (.bl c))=g1 (av0 c) g:=rfl;rw[e]at this;exact this⟩
end
section
theorem av8(H:Wd (PX X a C))(B:Wd (PX X h g)):Wd (PX X (.Subscript a (.Slice none (some h) none p) P) (gSl C none (some g))):=⟨have H:=H.run;have B:=B.run;bz8 (lo:=none) (i:=some h) (L:=none) (J:=some g) H trivial B⟩
theorem bu5(H:Wd (PX X a F))(C:Wd (PX X l E))(B:Wd (PX X h g)):Wd (PX X (.Subscript a (.Slice (some l) (some h) none p) P) (gSl F (some E) (some g))):=⟨have H:=H.run;have C:=C.run;have B:=B.run;bz8 (lo:=some l) (i:=some h) (L:=some E) (J:=some g) H C B⟩
theorem ba2(h:Wd (PX X a B))(H:Wd (PX X l g)):Wd (PX X (.Subscript a (.Slice (some l) none none p) P) (gSl B (some g) none)):=⟨have h:=h.run;have H:=H.run;bz8 (lo:=some l) (i:=none) (L:=some g) (J:=none) h H trivial⟩
end
theorem ac7(h:Wd (PXW X e g)):Wd (PXB X e g):=⟨PW.pt h.run⟩
end L3
theorem L2.G9.u1(r:L2.G9 B A):A.units+1<cLine:=by have :=r.un;omega
theorem L2.G9.d0(r:L2.G9 B A):A.depth<recursionLimit:=by have :=r.dp;omega
namespace L3
noncomputable def cl6(K:cW0):R2:=λx y H Q=>∃p X,x=.non/\y=.ref p/\SqL K H p X/\(∀v∈X,v=.non\/∃a Y,v=.ref a/\SqT K H a Y)/\Q (.bl (X.any λv=>decide (v=.non))) H
noncomputable def bp0(w:Value):Bool:=match w with |.none=>true|_=>false
section
theorem co4(M:X.A.units+1<cLine):OpR X (compareOp .In) (cl6 X.K):=by
 intro b s d H x y v u Q I W Z h;obtain⟨p,B,rfl,rfl,J,C,q⟩:=h;cases W;cases Z;obtain⟨F,r,l,z⟩:=I.list J;have R:∀{B:List V}{U:List Value},B9 B U->(∀v∈B,v=.non\/∃a Y,v=.ref a/\SqT X.K H a Y)->(∀w∈U,SeqAt.EqAt X.A.in1 s w .none (bp0 w))/\U.any bp0=B.any λv=>decide (v=.non):=by
  intro B U r;induction r with
  |nil=>exact λ_=>⟨λw hw=>(by cases hw),rfl⟩
  |cons r t O=>
   intro C;obtain⟨i,E⟩:=O λv N=>C v (cS1 _ N)
   rcases C _ cS2 with rfl|⟨a,Y,rfl,L⟩
   .cases r;refine⟨λw hw=> ?_,by rw[cO4,cO4,E];rfl⟩;rcases cI4 hw with rfl|hw
    .exact bN3 (x:=.non) (y:=.non) (show C9 .non .none from rfl) (show C9 .non .none from rfl) rfl rfl
    .exact i w hw
   .cases r;obtain⟨c,_,S,_⟩:=I.tuple L;refine⟨λw hw=> ?_,by rw[cO4,cO4,E];rfl⟩;rcases cI4 hw with rfl|hw
    .exact SeqAt.EqAt.tuple_none S M
    .exact i w hw
 obtain⟨k,P⟩:=R r C;refine SeqAt.in_listAt bp0 l.isList (λw hw=>k w (by simpa using hw)) ⟨.bl _,H,I,rfl,?_⟩;rw[show F.toArray.any bp0=F.any bp0 by simp,P];exact q
theorem bS1{K:cW0}:N5 K (cl6 K) (λx y=>if U7 x then aL3 y else none):=by
 intro G H Z I x y N Q S L M f q;cases Z<;>first |(cases f;done)|skip
 erw[Rep]at L;subst L;obtain⟨X,O,f⟩:=h9 (show aL3 I=some N from f);obtain rfl:I=.lst X:=by cases I<;>cases O;rfl
 have f:(if X.all aK6 then some (T.bl (X.any U7))else none)=some N:=f;cases E:X.all aK6
 .rw[E]at f;cases f
 rw[E]at f;cases f;erw[Rep]at M;obtain⟨p,s,rfl,g,l⟩:=M;have W:∀{B:List T}{s:List V},j9 K G B s->B.all aK6=true->(∀v∈s,v=.non\/∃a Y,v=.ref a/\SqT K H a Y)/\(s.any λv=>decide (v=.non))=B.any U7:=by
  intro B;induction B with
  |nil=>intro s r _;cases r;exact⟨λv C=>(by cases C),rfl⟩
  |cons t B P=>
   intro s r h;rw[cO1,cK2]at h;cases s with
   |nil=>exact absurd r.length ∅
   |cons v s=>
    obtain⟨R,F⟩:Rep K G t v/\j9 K G B s:=by
     erw[j9]at r;obtain⟨_,_,z,R,F⟩:=r;cases z;exact⟨R,F⟩
    obtain⟨i,J⟩:=P F h.2;cases t<;>first |(cases h.1;done)|skip
    all_goals
     erw[Rep]at R
     first
     |(subst R;exact⟨λv C=>(cI4 C).elim (λz=>.inl z) (i v),by rw[cO4,cO4,J];rfl⟩)
     |(obtain⟨a,Y,rfl,g2,b⟩:=R;exact⟨λv C=>(cI4 C).elim (λz=>.inr ⟨a,_,z,seqT S g2⟩) (i v),by rw[cO4,cO4,J];rfl⟩)
 obtain⟨k,U⟩:=W l E;exact⟨p,s,rfl,rfl,SqL.of (S _ _ g),k,by rw[U];exact q _ G H (Ext.refl S) (by simp[Rep])⟩
theorem cf4(u:X.A.units+1<cLine)(h:Wd (PX X a (gC .non)))(H:Wd (PX X b g))(B:behindInMarks .In b=false:=by with_unfolding_all rfl):Wd (PXB X (.Compare a [.In] [b] p) (bOf (g1 aL3 g))):=⟨have h:=h.run;have H:=H.run;show PXB X (.Compare a [.In] [b] p) (bOf (g2 (λx y=>if U7 x then aL3 y else none) (gC .non) g))from ah7 (co4 u) bS1 h H B⟩
theorem as6(i:Nat)(h:Wd (PX X e g))(N:ah8 X.N=true:=by rfl)(I:X.N[i]?=some x:=by rfl)(J:Loc X.env.scope x:=by first |exact .inl rfl|exact .inr rfl)(s:swapsWith e (some (.Name x P)) p.line X.env=pure false:=by rfl)(f:LcF X x:=by first |exact .inl rfl|exact .inr rfl):Wd (PXS X (.Assign [.Name x P] e p) (o6 i g)):=⟨have N:=O8 N;have h:=h.run;PS.imp (ax4 N I J h s f) λD w H z=>by
 obtain⟨G,L,o,S,Q,B,q⟩:=z;obtain⟨t,k,B⟩:=h9 B;cases B;exact⟨G,L,t,S,Q,k,λv C F E r=>q _ C F E ((Q.mono E.g).set r)⟩⟩
theorem ce3{a:Stmt}(h:PXS X.nox a g):PXR X E a (U6 g):=ae1 λB s W H D I w=>cX1 (h B s W H D (I.wish _) w) (λ_ _ q=>q.unwish) λ_ _ z=>False.elim z
end
end L3
open L3
namespace Sw
abbrev d7{X p x}:= @K9 X p x 0
abbrev e7{X p x}:= @K9 X p x 1
abbrev m9{X p x}:= @K9 X p x 2
abbrev r8{X p x}:= @K9 X p x 3
abbrev B8{X p x}:= @K9 X p x 4
abbrev B7{X p x}:= @K9 X p x 5
abbrev K2{X p x}:= @K9 X p x 6
abbrev S8{X p x}:= @K9 X p x 7
abbrev ap3{X p x}:= @K9 X p x 8
abbrev ah0{X p x}:= @K9 X p x 9
abbrev aK1{X p x}:= @K9 X p x 10
theorem bo4{p:List Value->Prop}(h:∀a,p [a]):∀u,u.length=1->p u
 |[a],_=>h a
theorem bB0{p:List Value->Prop}(h:∀a b c,p [a,b,c]):∀u,u.length=3->p u
 |[a,b,c],_=>h a b c
theorem bW7{p:List Value->Prop}(h:∀a b c d,p [a,b,c,d]):∀u,u.length=4->p u
 |[a,b,c,d],_=>h a b c d
def top(i:Nat):Stmt:=PySem.Challenge.pw_sharedways_k30_whole_fair.main.body.getD i (.Pass ⟨0,0,0,0⟩)
def mth(j:Nat):Stmt:=match top 45 with
 |.ClassDef _ _ _ b _ _ _ _ _ _ _=>b.getD j (.Pass ⟨0,0,0,0⟩)
 |_=>.Pass ⟨0,0,0,0⟩
structure Blt(mg:Str->Option Value):Prop where
 ValueError:mg "ValueError"=none
 abs:mg "abs"=none
 all:mg "all"=none
 any:mg "any"=none
 bool:mg "bool"=none
 enumerate:mg "enumerate"=none
 int:mg "int"=none
 isinstance:mg "isinstance"=none
 len:mg "len"=none
 list:mg "list"=none
 max:mg "max"=none
 min:mg "min"=none
 range:mg "range"=none
 sum:mg "sum"=none
 tuple:mg "tuple"=none
 zip:mg "zip"=none
structure Cst(K:cW0)(mg:Str->Option Value):Prop where
 LEAST_AMOUNT:∃t,mg "LEAST_AMOUNT"=some (.int 1 t)
 LEAST_PLACES:∃t,mg "LEAST_PLACES"=some (.int 2 t)
 LEAST_WARES:∃t,mg "LEAST_WARES"=some (.int 1 t)
 MOST_AMOUNT:∃t,mg "MOST_AMOUNT"=some (.int 20 t)
 MOST_PLACES:∃t,mg "MOST_PLACES"=some (.int 6 t)
 MOST_WARES:∃t,mg "MOST_WARES"=some (.int 3 t)
 MOST_WAYS:∃t,mg "MOST_WAYS"=some (.int 10 t)
 NOUGHT:∃a,mg "NOUGHT"=some (.ref a)/\∀G,Rep K G T0 (.ref a)
structure cu9(K:cW0)(mg:Str->Option Value):Prop where
 BadFlow:∃C,mg "BadFlow"=some (.ref C)/\W.excIn K C [.type "ValueError",.type "Exception",.type "BaseException",.type "object"] "ValueError.__new__"=true
 BadNet:∃C,mg "BadNet"=some (.ref C)/\W.excIn K C [.type "ValueError",.type "Exception",.type "BaseException",.type "object"] "ValueError.__new__"=true
section
variable {P:Program}{w:World}{K:cW0}{g:Str->Option Value}{h:Heap}(B:Blt g)(C:Cst K g){f:Addr}{i:FuncData}
theorem pv{X:Cx}(I:Nat){x:Str}{p:Pos}(H:X.N[I]?=some x:=by rfl)(v:Vis X.env.scope x:=by first |exact .inl rfl|exact .inr (.inl rfl)|exact .inr (.inr rfl))(E:NoD x:=by decide)(d:(x==("__classdict__":Str))=false:=by decide):PE X (.Name x p) (ad1 I):=as9 H v E d
include B in
theorem ch2{c:Addr}(l:Cls K c)(n:∀f∈fsB,Q4 K c f)(F:Fun K "__init__" "Board.__init__" (mth 0) f i):S4 P w K g h CX0 2 f i ["self","goal","rows","bounds"] (spN K c 4 aM7):=
 fnI (k:=1) (N:=["self","goal","rows","bounds","spare"]) (ps:=["self","goal","rows","bounds"]) (gs:=Gi1) (gq:=Gi2) (gr:=Gi3) (ga:=Gi4) (go:=Gi5) F (by constructor<;>first |rfl|decide +kernel) ∎ ∎ λ_ _ _ _ _ _ H=>
 (bI3 (C:=c) l n (by exact bU5 (o:=some "number") 4 (J5 B.range (c9 (A5 B.len (c9 m9)))) (o9 0) o8 (A9 (J5 B.range (c9 (A5 B.len (c9 e7)))) (o9 0) o8 (T5 (aa1 H d7 e7) j5 j5))) (A5 B.len (c9 e7)) (bH7 (be7 B.zip (c8 m9 (c8 B8 (c9 r8)))) (au9 0 1 2) o8 (C4 (C4 d7 e7) (C6 (c9 m9)))) (C4 (A9 (z8 e7) (o9 0) o8 (N8 d7)) (A9 (J5 B.range (c9 (C4 (A5 B.len (c9 m9)) j5))) (o9 0) o8 j5)) (bH7 (J5 B.range (c9 (A5 B.len (c9 m9)))) (o9 0) o8 (C4 (A5 B.len (c9 e7)) d7)) j5 (pv 0) (pv 0) (pv 0) (pv 0) (pv 0))
theorem ch1{c:Addr}(l:Cls K c)(n:∀f∈fsB,Q4 K c f)(E:Cal P w K g h "turned_row" 2 4 ad4)(F:Fun K "turn" "Board.turn" (mth 1) f i):S4 P w K g h CX0 3 f i ["self","chosen","column"] (spB K c 3 ao5):=
 fnB (k:=2) (N:=["self","chosen","column","kept","turned"]) (p:=["self","chosen","column"]) (g:=br6) F (by constructor<;>first |rfl|decide +kernel) ∎ λ_ _ _ _ _ _ H=>
 (am3 (bm4 3 (y6 (M3 d7) e7)) (am3 (cf5 (an5 (y6 r8 m9) j5) (ax1 (bm4 3 (A9 (z8 r8) (o9 0) o8 (N8 d7)))) bU4) (bI2 l n (pv 4) (pv 1) (pv 3) (pv 0) (pv 4) (pv 0) (pv 1) (pv 2) (pv 0) (pv 3) (pv 2) (z8 (M3 d7)) (o9 0) o8 (j6 E H (c8 d7 (c8 e7 (c8 m9 (c9 (M3 r8)))))))))
theorem ba5{c:Addr}(l:Cls K c){I:Addr}{t:FuncData}(M:bd2 K c "turn" I)(J:S4 P w K g h CX0 3 I t ["self","chosen","column"] (spB K c 3 ao5))(b:R9 K t ["self","chosen","column"] [])(E:Cal P w K g h "broken_row" 2 1 Z2)(L:Cal P w K g h "first_below_nought" 2 1 E9)(F:Fun K "keep_bounds" "keep_bounds" (top 49) f i):S4 P w K g h CX0 4 f i ["board"] (spB K c 1 af4):=
 fnB (k:=3) (N:=["board","chosen"]) (p:=["board"]) (g:=au3) F (by constructor<;>first |rfl|decide +kernel) ∎ λ_ _ _ _ _ _ H=>
 (am3 (az5 1 (j6 E H (c9 d7))) (ax1 (aV0 ax9 (bm1 e7 M2) (am3 (bm5 l M J b H e7 (j6 L H (c9 (av8 (y6 (M3 d7) e7) (N8 j5))))) (ax1 (az5 1 (j6 E H (c9 d7))))))))
theorem bW1{c:Addr}(l:Cls K c){I:Addr}{E:FuncData}(M:bd2 K c "turn" I)(J:S4 P w K g h CX0 3 I E ["self","chosen","column"] (spB K c 3 ao5))(b:R9 K E ["self","chosen","column"] [])(t:Cal P w K g h "first_below_nought" 2 1 E9)(L:Cal P w K g h "tightest_row" 3 2 ad5)(F:Fun K "climb" "climb" (top 52) f i):S4 P w K g h CX0 4 f i ["board"] (spB K c 1 aF0):=
 fnB (k:=3) (N:=["board","column"]) (p:=["board"]) (g:=bd5) F (by constructor<;>first |rfl|decide +kernel) ∎ λ_ _ _ _ _ _ H=>
 (am3 (az5 1 (j6 t H (c9 (av8 (y6 (M3 d7) (N8 j5)) (N8 j5))))) (ax1 (aV0 ae5 (bm1 e7 M2) (am3 (bm5 l M J b H (j6 L H (c8 d7 (c9 e7))) e7) (ax1 (az5 1 (j6 t H (c9 (av8 (y6 (M3 d7) (N8 j5)) (N8 j5))))))))))
theorem ch3{c:Addr}(l:Cls K c)(n:∀f∈fsB,Q4 K c f){N I E:Addr}{J L d:FuncData}(M:Mk K c N)(Q:S4 P w K g h CX0 2 N J ["self","goal","rows","bounds"] (spN K c 4 aM7))(S:R9 K J ["self","goal","rows","bounds"] [])(R:S4 P w K g h CX0 4 I L ["board"] (spB K c 1 af4))(U:R9 K L ["board"] [])(O:S4 P w K g h CX0 4 E d ["board"] (spB K c 1 aF0))(b:R9 K d ["board"] [])(a:g "Board"=some (.ref c))(j:g "keep_bounds"=some (.ref I))(Z:W.keepIn K (.ref I)=true)(e:g "climb"=some (.ref E))(k:W.keepIn K (.ref E)=true)(r:Cal P w K g h "common_under" 2 1 ad7)(X:Cal P w K g h "amounts_of" 4 2 ai7)(Y:Cal P w K g h "prices_of" 4 1 ak7)(F:Fun K "best" "best" (top 47) f i)(m:g "best"=some (.ref f)):Cal P w K g h "best" 5 3 aF1:=
 ⟨f,i,["goal","rows","bounds"],m,F.kp,F.binds λ_ _ _ _ _ _=>bB0 λ_ _ _=>rfl,fnO (W:=[]) (k:=4) (N:=["goal","rows","bounds","scale","board"]) (p:=["goal","rows","bounds"]) (g:=bs0) F (by constructor<;>first |rfl|decide +kernel) ∎ λ_ _ _ _ _ _ H=>
 (D8 (ab6 3 (j6 r H (c9 m9))) (bI1 4 l n M Q S R U O b H ∎ ∎ ∎ rfl a rfl j Z rfl e k (c8 d7 (c8 e7 (c9 (A9 (z8 m9) (o9 0) o8 (G7 (e9 d7) (M4 e7 (e9 d7))))))) rfl (pv 4) (pv 4) (A2 (c8 (j6 X H (c8 B8 (c9 r8))) (c9 (j6 Y H (c9 B8)))))))⟩
include B in
theorem aK4(F:Fun K "trails_of" "trails_of" (top 61) f i)(m:g "trails_of"=some (.ref f)):∀n,Cal P w K g h "trails_of" (n+2) 3 (P6 n)
 |0=>⟨f,i,["ways","seen","goal"],m,F.kp,F.binds λ_ _ _ _ _ _=>bB0 λ_ _ _=>rfl,⟨λv H Q E I=>by obtain⟨G,s,t,_,r,l,_⟩:=I;rw[r.length,l];rfl,λ_ _ _ _ _ _ _ _ _ _ _ _ _ I=>by obtain⟨G,s,t,_,_,_,L,_⟩:=I;cases L⟩⟩
 |n+1=>have c:=aK4 F m n
  ⟨f,i,["ways","seen","goal"],m,F.kp,F.binds λ_ _ _ _ _ _=>bB0 λ_ _ _=>rfl,fnO (W:=[]) (k:=n+2) (N:=["ways","seen","goal","trails","number","way"]) (p:=["ways","seen","goal"]) (g:=aC0 (P6 n)) F (by constructor<;>first |rfl|decide +kernel) ∎ λ_ _ _ _ _ _ J=>
  (D8 (aN3 (aa1 J (y6 e7 (N8 j5)) m9) (S9 (ap5 (C6 (c8 (by exact(C6 t9)) t9)))) aG3) (D8 (aG4 3) (D8 (ap6 (V6 B.enumerate (c9 d7)) (D4 4 5) (S9 (aN3 (ac7 (al2 (aa1 J (e9 B7) (y6 e7 (N8 j5))) (am1 (az4 (e9 B7) e7)))) (S9 (aR4 3 (A9 (z8 (j6 c J (c8 d7 (by exact(c8 (by exact(C4 e7 (C6 (c9 (e9 B7))))) (by exact(c8 m9 t9))))) (I:=by omega))) (o9 0) o8 (C4 (C6 (c9 e7)) d7)))) aG3))) (S9 (ap5 r8)))))⟩
include B in
theorem bf0(F:Fun K "_law_rows" "_law_rows" (top 92) f i)(m:g "_law_rows"=some (.ref f)):∀n,Cal P w K g h "_law_rows" (n+2) 4 (V9 n)
 |0=>⟨f,i,["_law_net_here","_law_first","_law_goal","_law_gone"],m,F.kp,F.binds λ_ _ _ _ _ _=>bW7 λ_ _ _ _=>rfl,⟨λv H Q E I=>by obtain⟨G,s,t,_,r,l,_⟩:=I;rw[r.length,l];rfl,λ_ _ _ _ _ _ _ _ _ _ _ _ _ I=>by obtain⟨G,s,t,_,_,_,L,_⟩:=I;cases L⟩⟩
 |n+1=>have c:=bf0 F m n
  ⟨f,i,["_law_net_here","_law_first","_law_goal","_law_gone"],m,F.kp,F.binds λ_ _ _ _ _ _=>bW7 λ_ _ _ _=>rfl,fnT (k:=n+2) (N:=["_law_net_here","_law_first","_law_goal","_law_gone","_law_found","_law_at","_law_way"]) (p:=["_law_net_here","_law_first","_law_goal","_law_gone"]) (g:=aU0 (V9 n)) F (by constructor<;>first |rfl|decide +kernel) ∎ λ_ _ _ _ _ _ J=>
  (Wd.run (k9 (K3 (aa1 J e7 m9) (j7 (m6 (C6 (c8 (by exact(C6 t9)) t9)))) F0) (k9 (u8 4 (C6 t9)) (k9 (N1 (V6 B.enumerate (c9 (e9 d7))) (D4 5 6) (j7 (K3 (ac7 (al2 (aa1 J (e9 K2) e7) (am1 (az4 (e9 K2) r8)))) (j7 (u8 4 (C4 B8 (A9 (z8 (j6 c J (c8 d7 (by exact(c8 (by exact(e9 K2)) (by exact(c8 m9 (by exact(c8 (by exact(C4 r8 (C6 (c9 (e9 K2))))) t9))))))) (I:=by omega))) (o9 0) o8 (C4 (C6 (c9 e7)) d7))))) F0))) (j7 (m6 B8))))))⟩
end
structure bD3(K:cW0)(mg:Str->Option Value)(D:Addr)(b1 b2 b3 bv:Bool):Prop where
 look:aO9 K D
 net:∃C,mg "BadNet"=some (.ref C)/\W.kitOne K (.ref D) (.ref C)=some b1
 flow:∃C,mg "BadFlow"=some (.ref C)/\W.kitOne K (.ref D) (.ref C)=some b2
 floor:∃C,mg "BadFloor"=some (.ref C)/\W.kitOne K (.ref D) (.ref C)=some b3
 val:W.kitOne K (.ref D) (.type "ValueError")=some bv
def bC0(x:Nat)(b1 b2 b3 b:Bool):GS:=
 m8 (o6 1 (A1 [bb7 x b1 d8,bb7 x b2 d8,bb7 x b3 d8]))
  (m8 (sIf (bOr (bOf (g2 bC4 (gN aW8 [o0 (itL d9) 1 [] (stN 0) u5 (gN aj9 [d8])]) j4)) (ac1 (bOf (bb7 x b d8)))) (t5 (gC (.str "other"))) z9)
   (t5 (e8 (A1 [gC (.str "BadNet"),gC (.str "BadFlow"),gC (.str "BadFloor")]) (g1 bc1 d9))))
theorem aX7:bootBuiltins "ValueError"=some (.type "ValueError"):=by with_unfolding_all rfl
theorem ce1:Q1 ["_law_e","_law_flags"] ["_law_e"] (t7 (top 80)):=⟨rfl,rfl,rfl,by decide +kernel,rfl,by decide +kernel,by decide +kernel⟩
section
variable {P:Program}{w:World}{K:cW0}{g:Str->Option Value}{h:Heap}(B:Blt g)
include B in
theorem cj1{X:CXT}{f:Addr}{v:Value}{A:Around}{a:List Env}{s:Shared}{H:Hp}{E:XK}{x D:Addr}{o:Obj}{b1 b2 b3 b:Bool}(F:HX x {F9 X P w K g h ["_law_e","_law_flags"] "_law_word" (t7 (top 80)) f v A a s H E with calm:=false})
  (I:s.heap.get? x=some o) (c:o.cls=.ref D) (d:o.dict=none) (n:W.notCls o=true) (Y:bD3 K g D b1 b2 b3 b):
  aq9 {F9 X P w K g h ["_law_e","_law_flags"] "_law_word" (t7 (top 80)) f v A a s H E with calm:=false} (O9 (top 80)) (bC0 x b1 b2 b3 b):=by
 obtain⟨L,⟨J,m1,k⟩,⟨M,m2,O⟩,⟨N,m3,Q⟩,R⟩:=Y;exact Wd.run (k9 (u8 1 (C6 (c8 (aN2 F I c d L n rfl B.isinstance (aD1 (v:=.ref J) rfl m1 rfl ∎) (λ_ C=>C) k d7)
   (c8 (aN2 F I c d L n rfl B.isinstance (aD1 (v:=.ref M) rfl m2 rfl ∎) (λ_ C=>C) O d7)
   (c9 (aN2 F I c d L n rfl B.isinstance (aD1 (v:=.ref N) rfl m3 rfl ∎) (λ_ C=>C) Q d7)))) (show 3<=lim by decide)))
  (k9 (K3 (ac7 (X9 (cf3 (bT9 F rfl B.sum (c9 (cf1 (P:=[0]) F ["_law_flag"] 1 [] rfl (bI5 (Wd.run e7)) rfl (λ_ _ _ _ _=>o9 0) (λ_ _ _ _ _=>o8) (λ_ _ _ _ _=>as7 B.int (c9 d7))))) j5)
    (ab5 (am2 (Y0 (aN2 F I c d L n rfl B.isinstance (bv0 (v:=.ty "ValueError") rfl B.ValueError aX7 rfl ∎ ∎) (λ_ C=>C) R d7)))))) (j7 (m6 av7)) F0)
  (j7 (m6 (y6 (C6 (c8 av7 (c8 av7 (c9 av7)))) (bz5 e7))))))
theorem bQ0(x:Nat):al3 (bC0 x true false false true (A0 2 [.ref x]))=some (.str "BadNet"):=by
 simp[bC0,m8,o6,A1,gs,bb7,D3,L3.A0,al3,sIf,bOr,bOf,g2,gN,o0,itL,toL,aa6,Z6,L3.stN,u5,aj9,aW8,S5,bC4,toB,ac1,z9,t5,gC,g1,bc1,T7,M8,ixT,lim];rfl
end
def wdK(K:cW0)(M:Str->Option Value)(W:Addr)(D:Addr)(c:Str):Prop:=
 (c="BadNet"/\bD3 K M D true false false true)/\PySem.W.exmOne K (.ref D) (.ref W)=some true
section
variable {P:Program}{w:World}{K:cW0}{g:Str->Option Value}{i:Heap}(B:Blt g)
include B in
theorem cd0{d W:Addr}{f:FuncData}(F:Fun K "_law_word" "_law_word" (top 80) d f):bY7 P w K g i d (wdK K g W):=by
 intro A X s H G a D c o Q E M p C O h J n L R N U ⟨S,_⟩ q;have I:R9 K f ["_law_e"] []:=F.binds λ_ _ _ _ _ _=>bo4 λ_=>rfl
 have k:K.In s.heap:=C.mod.kin.keeps λb o e=>(C.bs b o e).1
 have r:j9 K G [.ref a] [.ref a]:=j9.cons (by simp[Rep]) j9.nil;obtain⟨rfl,Y⟩:=S;exact cs4 (b:=false) (u:=[.ref a]) (M:=[.ref a]) F ce1 (λz=>by cases z) p C (I s [.ref a] k rfl) (.cons rfl .nil) ∎ (λv=>cj1 B (HX.start M L R N) O h J n Y) U r rfl (bQ0 a) q
theorem ce2:Q1 ["_law_deed","_law_e"] ["_law_deed"] (t7 (top 81)):=⟨rfl,rfl,rfl,by decide +kernel,rfl,by decide +kernel,by decide +kernel⟩
include B in
theorem bF8{ft fwd W:Addr}{fdT fdW:FuncData}(FT:Fun K "_law_told" "_law_told" (top 81) ft fdT)(mT:g "_law_told"=some (.ref ft))(FW:Fun K "_law_word" "_law_word" (top 80) fwd fdW)(mF:g "_law_word"=some (.ref fwd))(mW:g "WareError"=some (.ref W))
  (hc:∀c∈aH9,∃D,g c=some (.ref D)/\wdK K g W D c) (bm:BM g i):bq9 P w K g i "_law_told" (wdK K g W) where
 ex:=⟨top 81,ft,W,fwd,fdT,"_law_deed","_law_e","WareError","_law_word",_,_,_,_,_,_,_,_,_,_,FT,mT,ce2,FT.binds λ_ _ _ _ _ _=>bo4 λ_=>rfl,rfl,rfl,rfl,rfl,rfl,mW,mF,FW.kp,cd0 B FW,λD c h=>h.2,by decide +kernel,by decide +kernel,by decide +kernel,by decide +kernel,by decide +kernel,by decide +kernel⟩
 cls:=hc
 bm:=bm
end
end Sw
end
noncomputable section
namespace LP
abbrev Vc:=Nat->Int
abbrev Fm:=Nat->Vc
noncomputable def l9(f:Nat->Int):Nat->Int
 |0=>0
 |n+1=>l9 f n+f n
theorem w8:∀{n:Nat},(∀i,i<n->f i=g i)->l9 f n=l9 g n
 |0,_=>rfl
 |n+1,h=>by rw[l9,l9,w8 λi H=>h i ⋯,h n ⋯]
theorem ap1(f g:Nat->Int):∀n,l9 (λi=>f i+g i) n=l9 f n+l9 g n
 |0=>rfl
 |n+1=>by erw[l9,ap1 f g n];omega
theorem J4(c:Int)(f:Nat->Int):∀n,l9 (λi=>c*f i) n=c*l9 f n
 |0=>by simp[l9]
 |n+1=>by erw[l9,J4 c f n,Int.mul_add]
theorem M9:∀{n:Nat},(∀i,i<n->f i=0)->l9 f n=0
 |0,_=>rfl
 |n+1,h=>by rw[l9,M9 λi H=>h i ⋯,h n ⋯];rfl
theorem O0(C:k<n)(h:∀i,i<n->i≠k->f i=0):l9 f n=f k:=by
 induction n with
 |zero=>omega
 |succ n I=>
  rw[l9];by_cases e:k=n
  .subst e;rw[M9 λi H=>h i ⋯ ⋯];omega
  .rw[I ⋯ λi H B=>h i ⋯ B,h n ⋯ (λz=>e z.symm)];omega
theorem bR2(J:k<n)(M:l<n)(L:k≠l)(h:∀i,i<n->i≠k->i≠l->f i=0):l9 f n=f k+f l:=by
 induction n with
 |zero=>omega
 |succ n I=>
  rw[l9];by_cases e:k=n
  .subst e;rw[O0 (k:=l) ⋯ λi B H=>h i ⋯ ⋯ H];omega
  .by_cases E:l=n
   .subst E;rw[O0 (k:=k) ⋯ λi B H=>h i ⋯ H ⋯]
   .rw[I ⋯ ⋯ λi B C F=>h i ⋯ C F,h n ⋯ (λz=>e z.symm) (λz=>E z.symm)];omega
noncomputable def drp(i:Nat)(b:Fm):Fm:=λj=>if j<i then b j else b (j+1)
noncomputable def put(b:Fm)(i:Nat)(v:Vc):Fm:=λj=>if j=i then v else b j
noncomputable def sg(i:Nat):Int:=if i%2=0 then 1 else -1
noncomputable def D:Nat->Fm->Int
 |0,_=>1
 |m+1,b=>l9 (λi=>sg i*b i m*D m (drp i b)) (m+1)
theorem an2:∀{m:Nat}{b c:Fm},(∀i k,i<m->k<m->b i k=c i k)->D m b=D m c
 |0,_,_,_=>rfl
 |m+1,b,c,h=>by
  rw[D,D];refine w8 λi H=> ?_
  rw[h i m H ⋯,an2 (b:=drp i b) (c:=drp i c) λj k B C=> ?_];unfold drp;split
  .exact h j k ⋯ ⋯
  .exact h (j+1) k ⋯ ⋯
theorem P4(b:Fm)(i:Nat)(v:Vc):put b i v i=v:=cW7 rfl
theorem U1(h:j≠i):put b i v j=b j:=cW6 h
theorem aI0(h:l<i):drp i (put b l v)=put (drp i b) l v:=by
 funext j
 erw[drp,put]
 repeat' split
 all_goals first |rfl|(exfalso;omega)
theorem aI1(h:i<l):drp i (put b l v)=put (drp i b) (l-1) v:=by
 funext j
 erw[drp,put]
 repeat' split
 all_goals first |rfl|(exfalso;omega)
theorem aI2:drp i (put b i v)=drp i b:=by
 funext j
 erw[drp,put]
 repeat' split
 all_goals first |rfl|(exfalso;omega)
theorem aZ2(x y:Int):∀{m:Nat}(b:Fm){l:Nat}(v w:Vc),l<m->D m (put b l λk=>x*v k+y*w k)=x*D m (put b l v)+y*D m (put b l w)
 |0,_,_,_,_,h=>absurd h (cV1 _)
 |m+1,b,l,v,w,h=>by
  rw[D,D,D,<-J4,<-J4,<-ap1];refine w8 λi H=> ?_
  rcases Nat.lt_trichotomy l i with q|q|q
  .rw[aI0 q,aI0 q,aI0 q,U1 ⋯,U1 ⋯,U1 ⋯,aZ2 x y (drp i b) v w ⋯];generalize D m (put (drp i b) l v)=p;generalize D m (put (drp i b) l w)=q;rw[Int.mul_add,<-cM4,<-cM4,<-cM4 x,<-cM4 y,cM5 x,cM5 y]
  .subst q;rw[aI2,aI2,aI2,P4,P4,P4];generalize D m (drp l b)=p;generalize sg l=s;rw[Int.mul_add,cL6,<-cM4,<-cM4,<-cM4 x,<-cM4 y,<-cM4 x,<-cM4 y,cM5 x,cM5 y]
  .rw[aI1 q,aI1 q,aI1 q,U1 ⋯,U1 ⋯,U1 ⋯,aZ2 x y (drp i b) v w ⋯];generalize D m (put (drp i b) (l-1) v)=p;generalize D m (put (drp i b) (l-1) w)=q;rw[Int.mul_add,<-cM4,<-cM4,<-cM4 x,<-cM4 y,cM5 x,cM5 y]
theorem cd9(i:Nat):sg (i+1)= -sg i:=by
 unfold sg;split<;>split<;>first |rfl|(exfalso;omega)
theorem aP0:∀{m:Nat}{b:Fm}{i:Nat},i+1<m->(∀k,k<m->b i k=b (i+1) k)->D m b=0
 |0,_,_,h,_=>absurd h (cV1 _)
 |m+1,b,i,h,e=>by
  rw[D,bR2 (k:=i) (l:=i+1) ⋯ ⋯ ⋯ λj B C E=> ?_]
  .have d:D m (drp i b)=D m (drp (i+1) b):=an2 λj k B H=>by
    unfold drp;by_cases q:j<i
    .rw[cW7 q,cW7 ⋯]
    .rw[cW6 q];by_cases Q:j<i+1
     .have :j=i:=⋯
      subst this;rw[cW7 Q];exact(e k ⋯).symm
     .rw[cW6 Q]
   rw[d,e m ⋯,cd9,cN6,cN6];omega
  .have :D m (drp j b)=0:=by
    by_cases q:j<i
    .refine aP0 (i:=i-1) ⋯ λk H=> ?_
     unfold drp;rw[cW6 ⋯,cW6 ⋯,show i-1+1=i by omega];exact e k ⋯
    .refine aP0 (i:=i) ⋯ λk H=> ?_
     unfold drp;rw[cW7 ⋯,cW7 ⋯];exact e k ⋯
   rw[this,cN3]
theorem bE4(b:Fm)(v w:Vc)(h:l<m):D m (put b l λk=>v k+w k)=D m (put b l v)+D m (put b l w):=by
 have :=aZ2 1 1 b v w h;simpa using this
theorem bP9(b:Fm)(h:l<m):D m (put b l λ_=>0)=0:=by
 have :=aZ2 0 0 b (λ_=>0) (λ_=>0) h;simpa using this
theorem bE2(x:Int)(b:Fm)(v:Vc)(h:l<m):D m (put b l λk=>x*v k)=x*D m (put b l v):=by
 have :=aZ2 x 0 b v (λ_=>0) h;simpa[bP9 b h]using this
theorem bE1(b:Fm)(c:Nat->Int)(v:Nat->Vc)(h:l<m):∀n,D m (put b l λk=>l9 (λi=>c i*v i k) n)=l9 (λi=>c i*D m (put b l (v i))) n
 |0=>bP9 b h
 |n+1=>by
  erw[l9];rw[bE4 b _ _ h,bE1 b c v h n,bE2 (c n) b (v n) h]
theorem aR6(h:i≠j):put (put b i v) j w=put (put b j w) i v:=by
 funext k
 erw[put]
 repeat' split
 all_goals first |rfl|(exfalso;omega)
theorem aG5(b:Fm)(i:Nat):put b i (b i)=b:=by
 funext k
 erw[put];split
 .rename_i e;rw[e]
 .rfl
theorem cv0(b:Fm)(v w:Vc)(h:i+1<m):D m (put (put b i v) (i+1) w)= -D m (put (put b i w) (i+1) v):=by
 have z:=aP0 (m:=m) (b:=put (put b i λk=>v k+w k) (i+1) λk=>v k+w k) (i:=i) h λk _=>by rw[U1 ⋯,P4,P4]
 have e:∀x:Vc,D m (put (put b i λk=>v k+w k) (i+1) x)=D m (put (put b i v) (i+1) x)+D m (put (put b i w) (i+1) x):=λx=>by
  rw[aR6 ⋯,bE4 _ _ _ ⋯,aR6 ⋯,aR6 (i:=i+1) ⋯]
 rw[bE4 _ _ _ h,e,e]at z;have Z:=aP0 (m:=m) (b:=put (put b i v) (i+1) v) (i:=i) h λk _=>by rw[U1 ⋯,P4,P4]
 have B:=aP0 (m:=m) (b:=put (put b i w) (i+1) w) (i:=i) h λk _=>by rw[U1 ⋯,P4,P4]
 omega
theorem bE3:∀(n:Nat){b:Fm}{i:Nat},i+n+1<m->(∀k,k<m->b i k=b (i+n+1) k)->D m b=0
 |0,_,_,h,e=>aP0 h e
 |n+1,b,i,h,e=>by
  have s:=cv0 b (i:=i+n+1) (b (i+n+1)) (b (i+n+2)) h;rw[aG5]at s;have :put b (i+n+1+1) (b (i+n+2))=b:=aG5 b _;rw[this]at s;rw[s,bE3 n (b:=put (put b (i+n+1) (b (i+n+2))) (i+n+1+1) (b (i+n+1))) (i:=i) ⋯ λk H=> ?_]
  .rfl
  .rw[U1 ⋯,U1 ⋯,U1 ⋯,P4];exact e k H
theorem cc9(H:i<m)(B:l<m)(h:i≠l):D m (put b l (b i))=0:=by
 rcases Nat.lt_or_gt_of_ne h with q|q
 .refine bE3 (l-i-1) (i:=i) ⋯ λk _=> ?_
  rw[show i+(l-i-1)+1=l by omega,P4,U1 ⋯]
 .refine bE3 (i-l-1) (i:=l) ⋯ λk _=> ?_
  rw[show l+(i-l-1)+1=i by omega,P4,U1 ⋯]
noncomputable def au5:Fm:=λi k=>if i=k then 1 else 0
theorem bs6:∀m,D m au5=1\/D m au5= -1
 |0=>.inl rfl
 |m+1=>by
  rw[D,O0 (k:=m) ⋯ λi h e=>by simp[au5,e]];have H:D m (drp m au5)=D m au5:=an2 λi k h B=>by unfold drp;rw[cW7 h]
  rw[H,show au5 m m=1 by simp[au5],cN0];have s:sg m=1\/sg m= -1:=by unfold sg;split<;>simp
  rcases bs6 m with q|q<;>rcases s with z|z<;>rw[q,z]<;>decide
theorem bN7{m:Nat}{b:Fm}{v:Vc}{c:Nat->Int}{x:Int}(h:∀k,k<m->x*v k=l9 (λi=>c i*b i k) m){l:Nat}(H:l<m):x*D m (put b l v)=c l*D m b:=by
 rw[<-bE2 x b v H];rw[an2 (c:=put b l λk=>l9 (λi=>c i*b i k) m) λi k B C=> ?_]
 .rw[bE1 b c b H m,O0 (k:=l) H λi B E=>by rw[cc9 B H E,cN3],aG5]
 .by_cases e:i=l
  .subst e;rw[P4,P4];exact h k C
  .rw[U1 e,U1 e]
noncomputable def bas(A:Nat->Vc)(a:Nat->Nat):Fm:=λi=>A (a i)
noncomputable def setN(a:Nat->Nat)(r c:Nat):Nat->Nat:=λi=>if i=r then c else a i
theorem cj2(A:Nat->Vc)(a:Nat->Nat)(r c:Nat):bas A (setN a r c)=put (bas A a) r (A c):=by
 funext i
 erw[bas,setN,put];split<;>rfl
structure Tab(M n:Nat)(A:Nat->Vc)(s:Int)(R:Nat->Nat->Int)(aB:Nat->Nat)(u:Int):Prop where
 sq:s*s=1
 ud:u=s*D M (bas A aB)
 pos:0<u
 J:∀j k,j<n->k<M->u*A j k=l9 (λi=>R i j*A (aB i) k) M
 lt:∀i,i<M->aB i<n
section
theorem ag1{a b c:Int}(h:a≠0)(e:a*b=a*c):b=c:=Int.eq_of_mul_eq_mul_left h e
theorem Tab.ent(T:Tab C O A S R a U){l B:Nat}(I:l<C)(H:B<O):R l B=S*D C (put (bas A a) l (A B)):=by
 have h:=bN7 (b:=bas A a) (v:=A B) (c:=λL=>R L B) (x:=U) (λN F=>T.J B N H F) I;have P:=T.pos;refine(ag1 (a:=U) ⋯ ?_);have e:S*(U*D C (put (bas A a) l (A B)))=S*(R l B*D C (bas A a)):=by rw[h]
 have E:S*(R l B*D C (bas A a))=U*R l B:=by
  rw[T.ud,cM5 (R l B),<-cM4]
 rw[<-E,<-e];rw[<-cM4,cM5 S U,cM4]
theorem Tab.own_eq(T:Tab B N A S R a U)(h:l<B):R l (a l)=U:=by
 rw[T.ent h (T.lt l h),T.ud];congr 1;exact congrArg _ (aG5 (bas A a) l)
theorem Tab.own_ne(T:Tab B N A S R a U)(C:l<B)(H:I<B)(h:I≠l):R l (a I)=0:=by
 rw[T.ent C (T.lt I H)];have :D B (put (bas A a) l (bas A a I))=0:=cc9 H C h;have e:A (a I)=bas A a I:=rfl;rw[e,this,cN3]
theorem Tab.inj(T:Tab B N A S R a U)(H:l<B)(E:I<B)(h:a I=a l):I=l:=by
 rcases Decidable.em (I=l)with q|q
 .exact q
 .exfalso;have C:=T.own_ne H E q;rw[h,T.own_eq H]at C;have :=T.pos;omega
theorem Tab.same(T:Tab B N A S R E U)(t:Tab B N A S r a P)(h:∀I,I<B->E I=a I):U=P/\∀l C,l<B->C<N->R l C=r l C:=by
 have e:∀l v,D B (put (bas A E) l v)=D B (put (bas A a) l v):=λl v=>an2 λI O H _=>by
  by_cases q:I=l
  .subst q;rw[P4,P4]
  .rw[U1 q,U1 q];unfold bas;rw[h I H]
 refine⟨?_,λl C L F=> ?_⟩
 .rw[T.ud,t.ud,an2 (c:=bas A a) λI O H _=>by unfold bas;rw[h I H]]
 .rw[T.ent L F,t.ent L F,e]
noncomputable def nxt(R:Nat->Nat->Int)(u:Int)(r c:Nat):Nat->Nat->Int:=λl j=>if l=r then R r j else(R l j*R r c-R r j*R l c)/u
noncomputable def flp(e:Int)(R:Nat->Nat->Int)(r:Nat):Nat->Nat->Int:=λl j=>if l=r then e*R r j else R l j
theorem Tab.turnE(T:Tab C N A S R a U){e:Int}(b:e*e=1){r c:Nat}(W:r<C)(P:c<N)(p:0<e*R r c):
  Tab C N A (e*S) (nxt (flp e R r) U r c) (setN a r c) (e*R r c)/\∀l B,l<C->B<N->l≠r->U*nxt (flp e R r) U r c l B=e*(R l B*R r c-R r B*R l c):=by
 have g:=T.pos;have d:R r c≠0:=λz=>by rw[z,cN3]at p;exact Int.lt_irrefl _ p
 have Z:R r c=S*D C (bas A (setN a r c)):=by rw[cj2];exact T.ent W P
 have y:∀B E,B<N->E<C->(U*R r c)*A B E=l9 (λI=>(if I=r then U*R r B else R I B*R r c-R r B*R I c)*bas A (setN a r c) I E) C:=by
  intro B E H F;have e:∀I,I<C->(if I=r then U*R r B else R I B*R r c-R r B*R I c)*bas A (setN a r c) I E
    =(R r c*(R I B*A (a I) E)+(-R r B)*(R I c*A (a I) E))+(if I=r then U*R r B*A c E else 0):=by
   intro I _;unfold bas setN;by_cases q:I=r
   .subst q;rw[cW7 rfl,cW7 rfl,cW7 rfl,<-cM4,<-cM4,cN6,cN6,cM5 (R I c),Int.add_right_neg,cN9]
   .rw[cW6 q,cW6 q,cW6 q,Int.sub_mul,cL7,cN6,cM5 (R I B) (R r c),cM4,cM4];rfl
  rw[w8 e,ap1,ap1,J4,J4,<-T.J B E H F,<-T.J c E P F];rw[O0 (k:=r) W λI _ Q=>cW6 Q,cW7 rfl];rw[cN6,<-cM4 (R r B),cM5 (R r B) U,Int.neg_add_cancel_right,<-cM4,cM5 U]
 have x:∀l B,l<C->B<N->(if l=r then U*R r B else R l B*R r c-R r B*R l c)=U*(S*D C (put (bas A (setN a r c)) l (A B))):=by
  intro l B L H;have h:=bN7 (b:=bas A (setN a r c)) (v:=A B) (c:=λI=>(if I=r then U*R r B else R I B*R r c-R r B*R I c)) (x:=U*R r c) (λE F=>y B E H F) L;generalize f:(if l=r then U*R r B else R l B*R r c-R r B*R l c)=X at h⊢;generalize D C (put (bas A (setN a r c)) l (A B))=Y at h⊢;refine ag1 d ?_;have e:S*(U*R r c*Y)=S*(X*D C (bas A (setN a r c))):=by rw[h]
  rw[cM5 X,<-cM4 S (D C _),<-Z]at e;rw[<-e,cM7 S,cM5 U,cM4,cM7 U]
 have v:∀l B,l<C->B<N->nxt (flp e R r) U r c l B=e*S*D C (put (bas A (setN a r c)) l (A B)):=by
  intro l B L H;have h:=x l B L H;unfold nxt flp;rw[cW7 rfl,cW7 rfl];by_cases q:l=r
  .rw[cW7 q]at h⊢;rw[cM4,ag1 ⋯ h]
  .rw[cW6 q,cW6 q,cW6 q,<-Int.mul_ediv_cancel_left (e*S*_) (show U≠0 by omega),cM4 e S,cM7 U,<-(cW6 q).symm.trans h];congr 1;rw[Int.mul_sub,cM7,cM4]
 refine⟨⟨?_,by rw[cM4,<-Z],p,λB E H F=> ?_,λI O=> ?_⟩,λl B L H Q=> ?_⟩
 .rw[cM4,cM7 S,T.sq,cN0,b]
 .refine ag1 (show U≠0 by omega) ?_;rw[cM4,cM7,<-cM4 U (R r c),y B E H F,<-J4,<-J4];refine w8 λI O=> ?_
  show e*_=U*(_*bas A (setN a r c) I E);rw[x I B O H,v I B O H,cM4 e S];generalize S*D C _=X;rw[cM4 U,cM7 e,cM4 e]
 .unfold setN;split
  .exact P
  .exact T.lt I O
 .rw[v l B L H,cM4,cM7,<-x l B L H,cW6 Q]
theorem bb8:flp 1 R r=R:=by
 funext l j
 unfold flp;split
 .rename_i h;rw[h,Int.one_mul]
 .rfl
theorem Tab.turn(T:Tab C N A S R a U){r c:Nat}(E:r<C)(h:c<N)(H:0<R r c):
  Tab C N A S (nxt R U r c) (setN a r c) (R r c)/\∀l B,l<C->B<N->l≠r->U*nxt R U r c l B=R l B*R r c-R r B*R l c:=by
 have :=T.turnE (e:=1) rfl E h (by rw[Int.one_mul];exact H);simpa only[bb8,Int.one_mul]using this
theorem Tab.lin{w:Nat->Int}{o:Nat->Nat}(T:Tab C E A S R a U)(h:∀B,B<C->v*A c B=l9 (λI=>w I*A (o I) B) N)(P:∀I,I<N->o I<E)(F:c<E)(H:l<C):v*R l c=l9 (λI=>w I*R l (o I)) N:=by
 rw[T.ent H F,cM7,<-bE2 v _ _ H,an2 (c:=put (bas A a) l λB=>l9 (λI=>w I*A (o I) B) N) λI B _ O=> ?_,bE1 _ _ (λI=>A (o I)) H,<-J4]
 .exact w8 λI L=>by rw[T.ent H (P I L),cM7]
 .unfold put;split
  .exact h B O
  .rfl
theorem Tab.mix(T:Tab B N A S R a U)(t:Tab B N A F r E L)(h:c<N)(H:l<B):U*r l c=l9 (λI=>R I c*r l (a I)) B:=t.lin (λC=>T.J c C h) T.lt h H
end
theorem ay1{a b c d e f:Int}(I:0<d)(J:0<b)(L:0<f)(h:a*d<=c*b)(H:c*f<=e*d):a*f<=e*b:=by
 have k:a*d*f<=c*b*f:=Int.mul_le_mul_of_nonneg_right h ⋯;have B:c*f*b<=e*d*b:=Int.mul_le_mul_of_nonneg_right H ⋯;have E:a*d*f=a*f*d:=by rw[cM4,cM5 d,<-cM4]
 have C:c*b*f=c*f*b:=by rw[cM4,cM5 b,<-cM4]
 have F:e*d*b=e*b*d:=by rw[cM4,cM5 d,<-cM4]
 rw[E,C]at k;rw[F]at B;exact Int.le_of_mul_le_mul_right (Int.le_trans k B) I
theorem aw6:∀{n:Nat},l9 f n<0->∃j,j<n/\f j<0
 |0,h=>by simp[l9]at h
 |n+1,h=>by
  rw[l9]at h;by_cases q:f n<0
  .exact⟨n,⋯,q⟩
  .obtain⟨j,B,H⟩:=aw6 (f:=f) (n:=n) ⋯;exact⟨j,⋯,H⟩
structure Sd(m L:Nat)(A:Nat->Vc)(s:Int)(R:Nat->Nat->Int)(aB:Nat->Nat)(u:Int):Prop where
 T:Tab (m+1) (L+2) A s R aB u
 oz:aB m=L+1
 ol:∀i,i<m->aB i<L
structure St(m L:Nat)(A:Nat->Vc)(s:Int)(R:Nat->Nat->Int)(aB:Nat->Nat)(u:Int):Prop extends Sd m L A s R aB u where
 fe:∀i,i<m->0<=R i L
structure Stp(m L:Nat)(R:Nat->Nat->Int)(aB:Nat->Nat)(r c:Nat):Prop where
 hc:c<L
 neg:R m c<0
 low:∀j,j<c->0<=R m j
 hr:r<m
 pos:0<R r c
 tight:∀i,i<m->0<R i c->R r L*R i c<=R i L*R r c
 tie:∀i,i<m->0<R i c->R r L*R i c=R i L*R r c->aB r<=aB i
section
theorem Sd.turn(S:Sd m l A C R a U)(H:e*e=1)(E:r<m)(h:c<l)(p:0<e*R r c):Sd m l A (e*C) (nxt (flp e R r) U r c) (setN a r c) (e*R r c):=by
 refine⟨(S.T.turnE H ⋯ ⋯ p).1,?_,λI B=> ?_⟩
 .unfold setN;rw[cW6 ⋯];exact S.oz
 .unfold setN;split
  .exact h
  .exact S.ol I B
theorem St.next(S:St m l A F R a U)(P:Stp m l R a r c):St m l A F (nxt R U r c) (setN a r c) (R r c):=by
 have H:=P.hr;have B:=P.hc;have C:=S.T.pos;have t:=S.turn (e:=1) rfl H B (by rw[Int.one_mul];exact P.pos);rw[bb8,Int.one_mul,Int.one_mul]at t;obtain⟨_,E⟩:=S.T.turn (r:=r) (c:=c) ⋯ ⋯ P.pos;refine⟨t,λI h=> ?_⟩;by_cases q:I=r
 .subst q;unfold nxt;rw[cW7 rfl];exact S.fe I h
 .have e:=E I l ⋯ ⋯ q;have f1:=S.fe I h;have f2:=S.fe r H;have :0<=R I l*R r c-R r l*R I c:=by
   by_cases p:0<R I c
   .have :=P.tight I h p;omega
   .have J:0<=R I l*R r c:=cM9 f1 (Int.le_of_lt P.pos);have k:0<=R r l*(-R I c):=cM9 f2 ⋯;rw[Int.mul_neg]at k;omega
  rw[<-e]at this;rcases cM3 (nxt R U r c I l) 0 with w|w
  .have :=Int.mul_neg_of_pos_of_neg C w;omega
  .exact w
theorem St.goal(S:St m l A C R a U)(P:Stp m l R a r c):R m l*R r c<=nxt R U r c m l*U/\(nxt R U r c m l*U=R m l*R r c->R r l=0):=by
 have H:=P.hr;have B:=P.hc;obtain⟨_,E⟩:=S.T.turn (r:=r) (c:=c) ⋯ ⋯ P.pos;have e:=E m l ⋯ ⋯ ⋯;rw[cM5 U]at e;have f2:=S.fe r H;have n:=P.neg;have k:0<=R r l*(-R m c):=cM9 f2 ⋯;rw[Int.mul_neg]at k;refine⟨⋯,λh=> ?_⟩;have :R r l*R m c=0:=⋯
 rcases Int.mul_eq_zero.mp this with q|q
 .exact q
 .omega
theorem St.nb(S:St m l A B R a U)(h:I<m):R m (a I)=0:=S.T.own_ne ⋯ ⋯ ⋯
end
abbrev Ows(N:Nat)(a:Nat->Nat->Nat)(r c:Nat->Nat):Prop:=∀t,t<N->a (t+1)=setN (a t) (r t) (c t)
structure Run(m L N:Nat)(A:Nat->Vc)(s:Int)(R:Nat->Nat->Nat->Int)(aB:Nat->Nat->Nat)(u:Nat->Int)(r c:Nat->Nat):Prop where
 st:∀t,t<=N->St m L A s (R t) (aB t) (u t)
 sp:∀t,t<N->Stp m L (R t) (aB t) (r t) (c t)
 ro:∀t,t<N->R (t+1)=nxt (R t) (u t) (r t) (c t)
 ow:Ows N aB r c
 un:∀t,t<N->u (t+1)=R t (r t) (c t)
section
def Bs(m:Nat)(a:Nat->Nat)(j:Nat):Prop:=∃i,i<m/\a i=j
theorem Run.goalMono(W:Run m l n A S R a U E c):∀d B,B+d<=n->R B m l*U (B+d)<=R (B+d) m l*U B
 |0,B,_=>Int.le_refl _
 |d+1,B,h=>by
  have C:=W.goalMono d B ⋯;have H:=((W.st (B+d) ⋯).goal (W.sp (B+d) ⋯)).1;rw[<-W.ro (B+d) ⋯,<-W.un (B+d) ⋯]at H;exact ay1 (W.st (B+d) ⋯).T.pos (W.st B ⋯).T.pos (W.st (B+d+1) ⋯).T.pos C H
theorem bL5(o:Ows N a r c):∀d t,t+d<=N->Bs m (a t) j->¬Bs m (a (t+d)) j->∃f,t<=f/\f<t+d/\a f (r f)=j
 |0,t,_,H,B=>absurd H B
 |d+1,t,h,H,B=>by
  by_cases q:Bs m (a (t+d)) j
  .refine⟨t+d,⋯,⋯,?_⟩;obtain⟨i,C,e⟩:=q;by_cases w:i=r (t+d)
   .rw[<-w];exact e
   .exfalso;refine B ⟨i,C,?_⟩;rw[<-cT7,o (t+d) ⋯];unfold setN;rw[cW6 w];exact e
  .obtain⟨f,f1,f2,f3⟩:=bL5 o d t ⋯ H q;exact⟨f,f1,⋯,f3⟩
theorem bN4(o:Ows N a r c):∀d t,t+d<=N->¬Bs m (a t) j->Bs m (a (t+d)) j->∃f,t<=f/\f<t+d/\c f=j
 |0,t,_,H,B=>absurd B H
 |d+1,t,h,H,B=>by
  by_cases q:Bs m (a (t+d)) j
  .obtain⟨f,f1,f2,f3⟩:=bN4 o d t ⋯ H q;exact⟨f,f1,⋯,f3⟩
  .obtain⟨i,C,e⟩:=B;rw[<-cT7,o (t+d) ⋯]at e;unfold setN at e;by_cases w:i=r (t+d)
   .rw[cW7 w]at e;exact⟨t+d,⋯,⋯,e⟩
   .rw[cW6 w]at e;exact absurd ⟨i,C,e⟩ q
theorem ca9(o:Ows N B r c)(O:b<=N)(e:∀i,i<m->B a i=B b i)(X:a<=x)(F:x<=b)(Y:a<=y)(I:y<=b)(n:¬Bs m (B x) j)(C:Bs m (B y) j):∃f,a<=f/\f<b/\B f (r f)=j:=by
 have g:∀s t,a<=s->s<=t->t<=b->Bs m (B s) j->¬Bs m (B t) j->∃f,a<=f/\f<b/\B f (r f)=j:=λs t J H L E M=>by
  obtain⟨f,f1,f2,f3⟩:=bL5 o (t-s) s ⋯ E (by rwa[Nat.add_sub_of_le H]);exact⟨f,⋯,⋯,f3⟩
 by_cases q:Bs m (B a) j
 .exact g a x (cT8 _) X F q n
 .exact g y b Y I (cT8 _) C λ⟨i,h,z⟩=>q ⟨i,h,(e i h).trans z⟩
theorem cb6(o:Ows N B r c)(O:b<=N)(e:∀i,i<m->B a i=B b i)(X:a<=x)(F:x<=b)(Y:a<=y)(I:y<=b)(n:¬Bs m (B x) j)(C:Bs m (B y) j):∃f,a<=f/\f<b/\c f=j:=by
 have g:∀s t,a<=s->s<=t->t<=b->¬Bs m (B s) j->Bs m (B t) j->∃f,a<=f/\f<b/\c f=j:=λs t J H L E M=>by
  obtain⟨f,f1,f2,f3⟩:=bN4 o (t-s) s ⋯ E (by rwa[Nat.add_sub_of_le H]);exact⟨f,⋯,⋯,f3⟩
 by_cases q:Bs m (B b) j
 .exact g x b X F (cT8 _) n q
 .exact g a y (cT8 _) Y I (λ⟨i,h,z⟩=>q ⟨i,h,(e i h).symm.trans z⟩) C
theorem bA6(c:Nat->Nat)(a:Nat):∀d,∃e,a<=e/\e<=a+d/\∀t,a<=t->t<=a+d->c t<=c e
 |0=>⟨a,⋯,⋯,λt h B=>by rw[show t=a by omega];omega⟩
 |d+1=>by
  obtain⟨e,h,B,H⟩:=bA6 c a d;by_cases q:c e<=c (a+d+1)
  .refine⟨a+d+1,⋯,⋯,λt t1 t2=> ?_⟩;by_cases w:t<=a+d
   .exact cU0 (H t t1 w) q
   .have :t=a+d+1:=⋯
    rw[this];omega
  .refine⟨e,h,⋯,λt t1 t2=> ?_⟩;by_cases w:t<=a+d
   .exact H t t1 w
   .have :t=a+d+1:=⋯
    rw[this];omega
end
section
theorem Run.still(W:Run m l n A Z R F d P c)(X:a<b)(h:b<=n)(e:∀i,i<m->F a i=F b i)(Q:a<=B)(U:B<b):R B (P B) l=0:=by
 have S:=W.st a ⋯;have C:=W.st b h;have E:=W.st B ⋯;have St1:=W.st (B+1) ⋯;obtain⟨M,J⟩:=S.T.same C.T λi Y=>by
  by_cases q:i<m
  .exact e i q
  .rw[show i=m by omega,S.oz,C.oz]
 have I:=J m l ⋯ ⋯;obtain⟨g1,g2⟩:=E.goal (W.sp B ⋯);rw[<-W.ro B ⋯,<-W.un B ⋯]at g1;rw[<-W.ro B ⋯,<-W.un B ⋯]at g2;apply g2;have k:=W.goalMono (B-a) a ⋯;rw[show a+(B-a)=B by omega]at k;have H:=W.goalMono (b-(B+1)) (B+1) ⋯;rw[show B+1+(b-(B+1))=b by omega,<-M,<-I]at H;have O:=ay1 S.T.pos St1.T.pos E.T.pos H k;exact Int.le_antisymm O g1
theorem Run.fwd(W:Run m l n A U R a X B c):∀d,t+d<=n->(∀f,t<=f->f<t+d->R f (B f) l=0)->(∀i,i<m->a t i=j->R t i l=0)->∀i,i<m->a (t+d) i=j->R (t+d) i l=0
 |0,_,_,h=>h
 |d+1,J,H,h=>by
  intro i C e;have F:=W.fwd d ⋯ (λf f1 f2=>H f f1 ⋯) h;have S:=W.st (t+d) ⋯;have P:=W.sp (t+d) ⋯;have z:=H (t+d) ⋯ ⋯;rw[<-cT7,W.ow (t+d) ⋯]at e;rw[<-cT7,W.ro (t+d) ⋯];unfold setN at e;have O:=P.hr;have M:=P.hc;by_cases q:i=B (t+d)
  .subst q;unfold nxt;rw[cW7 rfl];exact z
  .rw[cW6 q]at e;have I:=F i C e;obtain⟨_,E⟩:=S.T.turn (r:=B (t+d)) (c:=c (t+d)) ⋯ ⋯ P.pos;have x:=E i l ⋯ ⋯ q;rw[I,z,cO0,cO0]at x;have Q:=S.T.pos;rcases Int.mul_eq_zero.mp (x.trans (by omega:(0:Int)-0=0))with w|w
   .omega
   .exact w
theorem Run.norep(W:Run m l n A aw R C ak Y c)(ae:a<b)(O:b<=n)(e:∀i,i<m->C a i=C b i):False:=by
 have d:=W.st a ⋯;have g:=W.st b O;have Z:∀B,a<=B->B<b->R B (Y B) l=0:=λB F M=>W.still ae O e F M
 have same:∀i j,i<m->j<l+2->R a i j=R b i j:=λi j H X=>(d.T.same g.T λi H=>by
  by_cases q:i<m
  .exact e i q
  .rw[show i=m by omega,d.oz,g.oz]).2 i j ⋯ X
 have v:∀B,B<=n->∀j,R B m j≠0->¬Bs m (C B) j:=λB ht j X ⟨i,H,z⟩=>X (by rw[<-z];exact(W.st B ht).nb H)
 have zero:∀j t0,a<=t0->t0<=b->¬Bs m (C t0) j->∀B i,a<=B->B<=b->i<m->C B i=j->R B i l=0:=by
  intro j t0 ar af hn;have ao:∀i,i<m->C t0 i=j->R t0 i l=0:=λi H z=>absurd ⟨i,H,z⟩ hn
  have up:∀B,t0<=B->B<=b->∀i,i<m->C B i=j->R B i l=0:=λB F M=>by
   have :=W.fwd (j:=j) (t:=t0) (B-t0) ⋯ (λf f1 f2=>Z f ⋯ ⋯) ao;rwa[show t0+(B-t0)=B by omega]at this
  have y:∀i,i<m->C a i=j->R a i l=0:=λi H z=>by
   rw[same i l H ⋯];exact up b af ⋯ i H (by rw[<-e i H];exact z)
  intro B i F M H z;have :=W.fwd (j:=j) (t:=a) (B-a) ⋯ (λf f1 f2=>Z f ⋯ ⋯) y;rw[show a+(B-a)=B by omega]at this;exact this i H z
 obtain⟨E,Q,eb,aa⟩:=bA6 c a (b-a-1);have x:∀B,a<=B->B<b->c B<=c E:=λB F M=>aa B F ⋯
 have I:=W.st E ⋯;have p:=W.sp E ⋯;obtain⟨f,J,k,U⟩:=ca9 W.ow O e Q ⋯ (show a<=E+1 by omega) ⋯ (v E ⋯ _ (Int.ne_of_lt p.neg)) ⟨Y E,p.hr,by rw[W.ow E ⋯];exact cW7 rfl⟩;have S:=W.st f ⋯;have P:=W.sp f ⋯;have uf:=S.T.pos;have ag:=S.T.mix I.T (c:=c f) (l:=m) (by have :=P.hc;omega) ⋯;have av:=Int.mul_neg_of_pos_of_neg I.T.pos P.neg;rw[l9,S.oz,<-I.oz,I.T.own_eq ⋯,cM5 _ (ak E)]at ag;by_cases low:R E m (c f)<0
 . --ai aq ah au
  have hs:c f≠c E:=λz=>by
   have :=S.nb P.hr;rw[U,<-z]at this;have :=P.neg;omega
  have :=p.low (c f) (by have :=x f J k;omega);omega
 .have :=cM9 (Int.le_of_lt uf) (Int.not_lt.mp low);obtain⟨i,H,h⟩:=aw6 (f:=λi=> -1*(R f i (c f)*R E m (C f i))) (n:=m) (by rw[J4];omega);rw[Int.neg_one_mul,Int.neg_lt_zero_iff]at h;have w:=v E ⋯ (C f i) λz=>by rw[z,cN3]at h;exact Int.lt_irrefl _ h
  obtain⟨B,t1,t2,t3⟩:=cb6 W.ow O e Q ⋯ J ⋯ w ⟨i,H,rfl⟩;have le:=x B t1 t2;rw[t3]at le;by_cases o:C f i=c E
  . --it ax be ai leaving ah
   have ir:i=Y f:=S.T.inj (by have :=P.hr;omega) ⋯ (by rw[U,o]);subst ir;rw[o]at h;have :=Int.mul_neg_of_pos_of_neg P.pos p.neg;omega
  .have low:=p.low (C f i) ⋯;have rp:0<R f i (c f):=by
    rcases cM3 0 (R f i (c f))with q|q
    .exact q
    .have :=cM9 (show 0<= -R f i (c f) by omega) low;rw[cN6]at this;omega
   have aj:=P.tie i H rp (by rw[zero (C f i) E Q ⋯ w f i J ⋯ H rfl,Z f J k,cO0,cO0]);rw[U]at aj;omega
end
theorem ag5(h:Nat->Nat->Int)(x y:Nat):l9 (λj=>l9 (λi=>h i j) x) y=l9 (λi=>l9 (λj=>h i j) y) x:=by
 induction y with
 |zero=>exact(M9 λi _=>rfl).symm
 |succ y I=>rw[l9,I,<-ap1];rfl
theorem ai8(f:Nat->Int)(a:Nat):∀b,l9 f (a+b)=l9 f a+l9 (λi=>f (a+i)) b
 |0=>(cL7 _).symm
 |b+1=>by rw[<-cT7,l9,ai8 f a b,l9,Int.add_assoc]
theorem bG0{a:Nat->Nat}{f g:Nat->Int}(h:∀i,i<m->a i<n):l9 (λj=>l9 (λi=>if a i=j then f i else 0) m*g j) n=l9 (λi=>f i*g (a i)) m:=by
 rw[w8 (g:=λj=>l9 (λi=>if a i=j then f i*g (a i)else 0) m) λj _=> ?_,ag5]
 .exact w8 λi H=>by rw[O0 (k:=a i) (h i H) λj _ e=>cW6 λz=>e z.symm,cW7 rfl]
 .rw[cM5,<-J4];refine w8 λi _=> ?_
  split
  .rename_i z;rw[z,cM5]
  .rw[cN3]
theorem ar6{f:Nat->Int}(h:∀i,i<n->0<=f i):0<=l9 f n:=Int.not_lt.mp λz=>by
 obtain⟨j,H,B⟩:=aw6 z;exact Int.not_lt.mpr (h j H) B
theorem al9:∀{n:Nat},(∀i,i<n->f i<=g i)->l9 f n<=l9 g n
 |0,_=>Int.le_refl _
 |n+1,h=>by
  have H:=al9 (f:=f) (g:=g) (n:=n) λi C=>h i ⋯
  have B:=h n ⋯;rw[l9,l9];omega
theorem au7(x:Int):∀n:Nat,l9 (λ_=>x) n=n*x
 |0=>by simp[l9]
 |n+1=>by rw[l9,au7 x n];push_cast;rw[cL6];omega
theorem cz3{f:Nat->Nat}{N K:Nat}(F:∀t,t<N->f t<K)(j:∀a b,a<b->b<N->f a≠f b):N<=K:=by
 have B:l9 (λt=>l9 (λv=>if f t=v then 1 else 0) K) N=N:=by
  rw[w8 (g:=λ_=>1) λt H=> ?_,au7]
  .omega
  .rw[O0 (k:=f t) (F t H) λv _ e=>cW6 λz=>e z.symm,cW7 rfl]
 have C:∀v,v<K->l9 (λt=>if f t=v then(1:Int)else 0) N<=1:=by
  intro v _;have :∀n,n<=N->l9 (λt=>if f t=v then(1:Int)else 0) n<=1/\((∀t,t<n->f t≠v)->l9 (λt=>if f t=v then(1:Int)else 0) n=0):=by
   intro n;induction n with
   |zero=>intro _;exact⟨by simp[l9],λ_=>rfl⟩
   |succ n I=>
    intro J;obtain⟨L,i⟩:=I ⋯;rw[l9];by_cases q:f n=v
    .rw[cW7 q,i λt H z=>j t n H ⋯ (by rw[z,q])];exact⟨⋯,λh=>absurd q (h n ⋯)⟩
    .rw[cW6 q];exact⟨⋯,λh=>by rw[i λt H=>h t ⋯];rfl⟩
  exact(this N (cT8 _)).1
 rw[ag5 (λv t=>if f t=v then(1:Int)else 0) K N]at B;have E:=al9 C;rw[B,au7]at E;omega
noncomputable def code(L:Nat)(f:Nat->Nat):Nat->Nat
 |0=>0
 |m+1=>code L f m*L+f m
theorem bx7:∀{m:Nat},(∀i,i<m->f i<L)->code L f m<L^m
 |0,_=>by simp[code]
 |m+1,h=>by
  have H:=bx7 (L:=L) (f:=f) (m:=m) λi C=>h i ⋯
  have B:=h m ⋯;rw[code,cV3];have :(code L f m+1)*L<=L^m*L:=cU8 L H;rw[Nat.add_mul]at this;omega
theorem bq5:∀{m:Nat},(∀i,i<m->f i<L)->(∀i,i<m->g i<L)->code L f m=code L g m->∀i,i<m->f i=g i
 |0,_,_,_,i,h=>absurd h (cV1 _)
 |m+1,C,E,e,i,h=>by
  rw[code,code]at e;have H:=C m ⋯;have B:=E m ⋯;have m1:(code L f m*L+f m)%L=f m:=by rw[cU7,Nat.mul_add_mod,Nat.mod_eq_of_lt H]
  have m2:(code L g m*L+g m)%L=g m:=by rw[cU7,Nat.mul_add_mod,Nat.mod_eq_of_lt B]
  have d:(code L f m*L+f m)/L=code L f m:=by rw[cU7,Nat.mul_add_div ⋯,Nat.div_eq_of_lt H];rfl
  have F:(code L g m*L+g m)/L=code L g m:=by rw[cU7,Nat.mul_add_div ⋯,Nat.div_eq_of_lt B];rfl
  rw[e]at m1 d;by_cases q:i=m
  .subst q;exact m1.symm.trans m2
  .exact bq5 (L:=L) (λi h=>C i ⋯) (λi h=>E i ⋯) (d.symm.trans F) i ⋯
theorem few{B:Nat->Nat->Nat}(o:∀t,t<=N->∀i,i<m->B t i<L)(n:∀a b,a<b->b<=N->(∀i,i<m->B a i=B b i)->False):N<L^m:=by
 have :=cz3 (f:=λt=>code L (B t) m) (N:=N+1) (K:=L^m) (λt C=>bx7 (o t ⋯)) λa b h H e=>n a b h ⋯ (bq5 (o a ⋯) (o b ⋯) e)
 omega
noncomputable def fac:Nat->Nat
 |0=>1
 |n+1=>(n+1)*fac n
theorem aw7:∀{n:Nat}{f:Nat->Int},(∀i,i<n->(f i).natAbs<=K)->(l9 f n).natAbs<=n*K
 |0,_,_=>cV7 _
 |n+1,f,h=>by
  rw[l9,cV5];exact cU0 (Int.natAbs_add_le ..) (Nat.add_le_add (aw7 λi H=>h i (cU4 H)) (h n (cU5 n)))
theorem bE5:∀{m:Nat}{b:Fm},(∀i k,i<m->k<m->(b i k).natAbs<=K)->(D m b).natAbs<=fac m*K^m
 |0,_,_=>cT8 _
 |m+1,b,h=>by
  rw[D,fac,cV3,Nat.mul_assoc (m+1),<-Nat.mul_assoc (fac m),cU7 _ K];refine aw7 λi H=> ?_
  rw[cN4,cN4,show(sg i).natAbs=1 by unfold sg;split<;>rfl,Nat.one_mul];refine Nat.mul_le_mul (h i m H ⋯) (bE5 λj k B C=> ?_);unfold drp;split
  .exact h j k ⋯ ⋯
  .exact h (j+1) k ⋯ ⋯
theorem Tab.small(T:Tab B P A S R a U)(h:∀I C,I<B->C<B->(A (a I) C).natAbs<=K):U.natAbs<=fac B*K^B/\∀l E,l<B->E<P->(∀C,C<B->(A E C).natAbs<=K)->(R l E).natAbs<=fac B*K^B:=by
 have H:S.natAbs=1:=by
  have :=congrArg Int.natAbs T.sq;rw[cN4]at this;exact Nat.eq_one_of_mul_eq_one_right this
 refine⟨?_,λl E O L N=> ?_⟩
 .rw[T.ud,cN4,H,Nat.one_mul];exact bE5 h
 .rw[T.ent O L,cN4,H,Nat.one_mul];refine bE5 λI C F=> ?_
  by_cases q:I=l
  .rw[q,P4];exact N C
  .rw[U1 q];exact h I C F
structure U5(q m:Nat)(A:Nat->Vc):Prop where
 aB:∀i k,i<m->k<m+1->A (q+i) k=if k=i then 1 else 0
 gz:∀k,k<m+1->A (q+m+1) k=if k=m then 1 else 0
 lz:A (q+m) m=0
section
noncomputable def aB0(q m i:Nat):Nat:=if i<m then q+i else q+m+1
theorem U5.at(P:U5 q m A)(C:I<m+1)(H:B<m+1):A (aB0 q m I) B=if B=I then 1 else 0:=by
 unfold aB0;by_cases h:I<m
 .rw[cW7 h,P.aB I B h H]
 .rw[cW6 h,P.gz B H,show I=m by omega]
theorem U5.start(P:U5 q m A):∃s,Sd m (q+m) A s (λI j=>A j I) (aB0 q m) 1:=by
 refine⟨D (m+1) au5,⟨?_,?_,⋯,λj B E H=> ?_,λI h=> ?_⟩,cW6 (cU1 _),λI h=> ?_⟩
 .rcases bs6 (m+1)with z|z<;>rw[z]<;>rfl
 .rw[an2 (b:=bas A (aB0 q m)) (c:=au5) λI B h H=> ?_]
  .rcases bs6 (m+1)with z|z<;>rw[z]<;>rfl
  .show A (aB0 q m I) B=if I=B then 1 else 0
   rw[P.at h H];by_cases e:I=B
   .rw[cW7 e.symm,cW7 e]
   .rw[cW6 λz=>e z.symm,cW6 e]
 .rw[Int.one_mul,O0 (k:=B) H λI h C=>by rw[P.at h H,cW6 λz=>C z.symm,cN3],P.at H H,cW7 rfl,cN0]
 .unfold aB0;split<;>omega
 .unfold aB0;rw[cW7 h];omega
variable {aB:Nat->Nat}
theorem U5.row(P:U5 q m A)(S:Sd m (q+m) A s R aB u)(H:l<m+1)(E:j<q+m+2):R l j=(if l=m then u*A j m else 0)+l9 (λB=>A j B*R l (q+B)) m:=by
 obtain⟨_,Z⟩:=P.start;have e:=Z.T.mix S.T E H;rw[Int.one_mul,l9,Z.oz,<-S.oz,w8 (g:=λB=>A j B*R l (q+B)) λI C=>by unfold aB0;rw[cW7 C]]at e;rw[e,Int.add_comm];by_cases h:l=m
 .rw[h,S.T.own_eq ⋯,cW7 rfl,cM5 u]
 .rw[cW6 h,S.T.own_ne H ⋯ λz=>h z.symm,cN3]
noncomputable def amt(m L:Nat)(R:Nat->Nat->Int)(aB:Nat->Nat)(j:Nat):Int:=l9 (λi=>if aB i=j then R i L else 0) m
theorem aI7(S:St m (q+m) A s R aB u)(j:Nat):0<=amt m (q+m) R aB j:=ar6 λi h=>by
 split
 .exact S.fe i h
 .exact Int.le_refl _
theorem cj5(S:Sd m (q+m) A s R aB u)(h:i<m):amt m (q+m) R aB (aB i)=R i (q+m):=by
 unfold amt;rw[O0 (k:=i) h λk B H=>cW6 λz=>H (S.T.inj ⋯ ⋯ z),cW7 rfl]
theorem cj6(h:¬Bs m aB j):amt m (q+m) R aB j=0:=M9 λi H=>cW6 λz=>h ⟨i,H,z⟩
theorem U5.all(P:U5 q m A)(S:Sd m (q+m) A s R aB u)(h:k<m+1):l9 (λj=>amt m (q+m) R aB j*A j k) q+(l9 (λI=>amt m (q+m) R aB (q+I)*(if k=I then 1 else 0)) m+R m (q+m)*(if k=m then 1 else 0))=u*A (q+m) k:=by
 have J:=S.T.J (q+m) k ⋯ h;rw[l9,S.oz,P.gz k h]at J;rw[J,<-bG0 (g:=λj=>A j k) S.ol,w8 (n:=m) (f:=λI=>_*_) (g:=λI=>amt m (q+m) R aB (q+I)*A (q+I) k) λI H=>by rw[P.aB I k H h],<-Int.add_assoc,<-ai8 (λj=>amt m (q+m) R aB j*A j k)];rfl
theorem U5.keeps(P:U5 q m A)(S:Sd m (q+m) A s R aB u)(h:k<m):l9 (λj=>amt m (q+m) R aB j*A j k) q+amt m (q+m) R aB (q+k)=u*A (q+m) k:=by
 have :=P.all S (k:=k) ⋯;rwa[O0 (k:=k) h λI _ H=>by rw[cW6 λz=>H z.symm,cN3],cW7 rfl,cW6 ⋯,cN3,cL7,cN0]at this
theorem U5.worth(P:U5 q m A)(S:Sd m (q+m) A s R aB u):l9 (λj=>amt m (q+m) R aB j*A j m) q+R m (q+m)=0:=by
 have :=P.all S (k:=m) ⋯;rwa[M9 (n:=m) (f:=λI=>_*_) λI h=>by rw[cW6 ⋯,cN3],cW7 rfl,cN0,cN9,P.lz,cN3]at this
theorem U5.price(P:U5 q m A)(S:Sd m (q+m) A s R aB u):R m (q+m)=l9 (λB=>A (q+m) B*R m (q+B)) m:=by
 have :=P.row S (l:=m) (j:=q+m) ⋯ ⋯;rwa[cW7 rfl,P.lz,cN3,cN9]at this
theorem U5.ray(P:U5 q m A)(S:Sd m (q+m) A s R aB u)(d:∀j,j<q->0<=l9 (A j) (m+1))(F:c<q+m)(n:R m c<0)(r:∀I,I<m->R I c<=0):False:=by
 have o:∀j,j<q+m->0<=l9 (A j) (m+1):=λj M=>by
  by_cases h:j<q
  .exact d j h
  .obtain⟨I,rfl⟩:=Nat.le.dest (Nat.not_lt.mp h);exact ar6 λB H=>by rw[P.aB I B ⋯ H];split<;>decide
 have J:u*l9 (A c) (m+1)=l9 (λI=>R I c*l9 (A (aB I)) (m+1)) (m+1):=by
  rw[<-J4,w8 λB H=>S.T.J c B ⋯ H,ag5];exact w8 λI _=>J4 ..
 change u*_=l9 _ m+R m c*l9 (A (aB m)) (m+1)at J;rw[S.oz,O0 (f:=A (q+m+1)) (k:=m) ⋯ λB H e=>by rw[P.gz B H,cW6 e],P.gz m ⋯,cW7 rfl,cN0]at J;have L:=cM9 (Int.le_of_lt S.T.pos) (o c F);have E:0<=l9 (λI=> -1*(R I c*l9 (A (aB I)) (m+1))) m:=ar6 λI C=>by
  have :=cM9 (show 0<= -R I c by have :=r I C;omega) (o _ (S.ol I C));rwa[cN6,<-Int.neg_one_mul]at this
 rw[J4]at E;omega
theorem U5.feas{x:Nat->Int}(P:U5 q m A)(S:Sd m (q+m) A s R aB u)(M:0<v)(N:∀j,j<q+m->0<=x j)(h:∀B,B<m->l9 (λj=>x j*A j B) q+x (q+B)=v*A (q+m) B)(O:r<m)(J:R r (q+m)<0):∃c,c<q+m/\R r c<0:=by
 have e:∀l,l<m+1->v*R l (q+m)=l9 (λj=>x j*R l j) (q+m)+ -l9 (λj=>x j*A j m) q*R l (q+m+1):=λl F=>by
  have :=S.T.lin (v:=v) (c:=q+m) (w:=λI=>if I<q+m then x I else -l9 (λj=>x j*A j m) q) (o:=λI=>if I<q+m then I else q+m+1) (N:=q+m+1) (λB E=> ?_) (λI H=>by split<;>omega) ⋯ F
  .rw[this,l9,cW6 (cU1 _),cW6 (cU1 _),w8 λI H=>by rw[cW7 H,cW7 H]]
  .rw[l9,cW6 (cU1 _),cW6 (cU1 _),w8 λI H=>by rw[cW7 H,cW7 H],P.gz B E,ai8,w8 (f:=λI=>x (q+I)*A (q+I) B) λI H=>by rw[P.aB I B H E]];by_cases z:B<m
   .rw[<-h B z,O0 (k:=B) z λI _ L=>by rw[cW6 λz=>L z.symm,cN3],cW7 rfl,cW6 ⋯,cN3,cN0,cL7]
   .obtain rfl:B=m:=⋯
    rw[M9 (f:=λI=>x (q+I)*_) λI H=>by rw[cW6 ⋯,cN3],cW7 rfl,P.lz];omega
 have :=e r ⋯;rw[<-S.oz,S.T.own_ne ⋯ ⋯ ⋯,cN3,cL7]at this;have n:=Int.mul_neg_of_pos_of_neg M J;rw[this]at n;obtain⟨j,C,z⟩:=aw6 n;refine⟨j,C,Int.not_le.mp λw=> ?_⟩;have :=cM9 (N j C) w;omega
end
structure ABd where
 R:Nat->Nat->Int
 aB:Nat->Nat
 u:Int
noncomputable def V3(b:ABd)(r c:Nat):ABd:=⟨nxt (flp (if b.R r c<0 then -1 else 1) b.R r) b.u r c,setN b.aB r c,(if b.R r c<0 then -1 else 1)*b.R r c⟩
noncomputable def slb(p:Nat->Bool)(l:Nat->Nat->Bool):Nat->Option Nat
 |0=>none
 |i+1=>if p i then(match slb p l i with
  |none=>some i
  |some k=>if l i k then some i else some k)else slb p l i
theorem aw9:∀{m:Nat},slb p l m=none->∀i,i<m->¬p i
 |0,_,i,H=>absurd H (cV1 _)
 |m+1,h,i,H=>by
  rw[slb]at h;split at h
  .split at h
   .cases h
   .split at h<;>cases h
  .by_cases q:i=m
   .subst q;assumption
   .exact aw9 h i ⋯
theorem aw8{L:Nat->Nat->Prop}(E:∀i k,p i->p k->t i k->L i k)(F:∀i k,p i->p k->k<i->¬t i k->L k i)(B:∀i,L i i)(I:∀i k l,p i->p k->p l->L i k->L k l->L i l):∀{m r:Nat},slb p t m=some r->r<m/\p r/\∀i,i<m->p i->L r i
 |0,_,h=>by cases h
 |m+1,r,h=>by
  have u:slb p t m=some r->(p m->L r m)->r<m+1/\p r/\∀i,i<m+1->p i->L r i:=λe M=>by
   obtain⟨a,b,c⟩:=aw8 E F B I e;refine⟨⋯,b,λi J=> ?_⟩;by_cases q:i=m
   .rw[q];exact M
   .exact c i ⋯
  rw[slb]at h;split at h
  .rename_i H;cases e:slb p t m with
   |none=>
    rw[e]at h;cases h;refine⟨⋯,H,λi J C=> ?_⟩;by_cases q:i=m
    .rw[q];exact B m
    .exact absurd C (aw9 e i ⋯)
   |some k=>
    obtain⟨a,b,c⟩:=aw8 E F B I e;rw[e]at h;dsimp only at h;split at h<;>cases h<;>rename_i w
    .refine⟨⋯,H,λi J C=> ?_⟩;by_cases q:i=m
     .rw[q];exact B m
     .exact I _ k _ H b C (E _ _ H b w) (c i ⋯ C)
    .exact u e λ_=>F _ _ H b a w
  .exact u h λz=>absurd z (by assumption)
noncomputable def W2(f:Nat->Int):Nat->Option Nat:=slb (λi=>decide (f i<0)) λ_ _=>false
theorem aA0(h:W2 f n=some c):c<n/\f c<0/\∀j,j<c->0<=f j:=by
 obtain⟨a,b,d⟩:=aw8 (L:=(· <=·)) (λ_ _ _ _ z=>by cases z) (λi k _ _ h _=>Nat.le_of_lt h) cT8 (λ_ _ _ _ _ _=>cU0) h;refine⟨a,of_decide_eq_true b,λj H=>Int.not_lt.mp λz=> ?_⟩;exact Nat.not_lt_of_le (d j ⋯ (cW4 z)) H
theorem aL2(h:W2 f n=none)(j:Nat)(H:j<n):0<=f j:=Int.not_lt.mp λz=>aw9 h j H (cW4 z)
noncomputable def al7(R:Nat->Nat->Int)(a:Nat->Nat)(L c i k:Nat):Bool:=decide (R i L*R k c-R k L*R i c<0)||(decide (R i L*R k c-R k L*R i c=0)&&decide (a i<a k))
noncomputable def tgt(R:Nat->Nat->Int)(a:Nat->Nat)(L c:Nat):Nat->Option Nat:=slb (λi=>decide (0<R i c)) (al7 R a L c)
theorem bR0(h:tgt R a L c m=none)(i:Nat)(H:i<m):R i c<=0:=Int.not_lt.mp λz=>aw9 h i H (cW4 z)
theorem bk9(h:tgt R B L c m=some r):r<m/\0<R r c/\∀i,i<m->0<R i c->R r L*R i c<=R i L*R r c/\(R r L*R i c=R i L*R r c->B r<=B i):=by
 have tt:∀i k,al7 R B L c i k ↔R i L*R k c-R k L*R i c<0\/R i L*R k c-R k L*R i c=0/\B i<B k:=λi k=>by
  unfold al7;rw[cK8,cK2,cW5,cW5,cW5]
 have t:∀i k l,decide (0<R i c)->decide (0<R k c)->decide (0<R l c)->(R i L*R k c<=R k L*R i c/\(R i L*R k c=R k L*R i c->B i<=B k))->(R k L*R l c<=R l L*R k c/\(R k L*R l c=R l L*R k c->B k<=B l))->R i L*R l c<=R l L*R i c/\(R i L*R l c=R l L*R i c->B i<=B l):=λi k l p P C ⟨Z,I⟩ ⟨W,F⟩=>by
  have p:=of_decide_eq_true p;have P:=of_decide_eq_true P;have C:=of_decide_eq_true C;refine⟨ay1 P p C Z W,λe=>cU0 (I (Int.le_antisymm Z ?_)) (F (Int.le_antisymm W ?_))⟩
  .exact ay1 C P p W (Int.le_of_eq e.symm)
  .exact ay1 p C P (Int.le_of_eq e.symm) Z
 obtain⟨a,b,d⟩:=aw8 (L:=λr i=>R r L*R i c<=R i L*R r c/\(R r L*R i c=R i L*R r c->B r<=B i)) (λi k _ _ z=>by have :=(tt i k).mp z;omega) (λi k _ _ _ z=>by have :¬_:=λw=>z ((tt i k).mpr w);omega) (λi=>⟨Int.le_refl _,λ_=>cT8 _⟩) t h;exact⟨a,of_decide_eq_true b,λi H E=>d i H (cW4 E)⟩
noncomputable def brk(R:Nat->Nat->Int)(a:Nat->Nat)(L:Nat):Nat->Option Nat:=slb (λi=>decide (R i L<0)) λi k=>decide (a i<a k)
theorem bY4(h:brk R a L m=none)(i:Nat)(H:i<m):0<=R i L:=Int.not_lt.mp λz=>aw9 h i H (cW4 z)
theorem bY3(h:brk R B L m=some r):r<m/\R r L<0/\∀i,i<m->R i L<0->B r<=B i:=by
 obtain⟨a,b,d⟩:=aw8 (L:=λr i=>B r<=B i) (λ_ _ _ _ z=>Nat.le_of_lt (of_decide_eq_true z)) (λ_ _ _ _ _ z=>Nat.not_lt.mp λw=>z (cW4 w)) (λ_=>cT8 _) (λ_ _ _ _ _ _=>cU0) h;exact⟨a,of_decide_eq_true b,λi H z=>d i H (cW4 z)⟩
noncomputable def lp(n:ABd->Option (Option ABd)):Nat->ABd->Option ABd
 |0,_=>none
 |k+1,b=>match n b with
  |none=>some b
  |some o=>o.bind (lp n k)
noncomputable def sq(n:ABd->Option (Option ABd))(b:ABd):Nat->ABd
 |0=>b
 |t+1=>(n (sq n b t)).join.getD b
theorem bw4{I:ABd->Prop}(L:∀b o,I b->n b=some o->∃B,o=some B/\I B)(M:∀N,(∀t,t<=N->I (sq n b t))->(∀t,t<N->n (sq n b t)=some (some (sq n b (t+1))))->N<K)(O:I b):∃B,lp n K b=some B/\I B/\n B=none:=by
 have g:∀k t,t+k=K->(∀i,i<=t->I (sq n b i))->(∀i,i<t->n (sq n b i)=some (some (sq n b (i+1))))->∃B,lp n k (sq n b t)=some B/\I B/\n B=none:=by
  intro k;induction k with
  |zero=>exact λt e H F=>absurd (M t H F) ⋯
  |succ k P=>
   intro t e H F;rw[lp];cases z:n (sq n b t)with
   |none=>exact⟨_,rfl,H t (cT8 _),z⟩
   |some o=>
    obtain⟨B,rfl,h⟩:=L _ _ (H t (cT8 _)) z;have E:sq n b (t+1)=B:=by rw[sq,z];rfl
    show∃J,lp n k B=some J/\_;rw[<-E];refine P (t+1) ⋯ (λi C=> ?_) λi C=> ?_
    .by_cases q:i=t+1
     .rw[q,E];exact h
     .exact H i ⋯
    .by_cases q:i=t
     .rw[q,z,E]
     .exact F i ⋯
 exact g K 0 ⋯ (λi C=>by rw[Nat.le_zero.mp C];exact O) λi C=>absurd C (cV1 _)
structure Spd(m L:Nat)(R:Nat->Nat->Int)(aB:Nat->Nat)(r c:Nat):Prop where
 hr:r<m
 bad:R r L<0
 least:∀i,i<m->R i L<0->aB r<=aB i
 hc:c<L
 neg:R r c<0
 low:∀j,j<c->0<=R r j
structure bY9(m L N:Nat)(A:Nat->Vc)(R:Nat->Nat->Nat->Int)(aB:Nat->Nat->Nat)(u:Nat->Int)(r c:Nat->Nat):Prop where
 st:∀t,t<=N->∃s,Sd m L A s (R t) (aB t) (u t)
 sp:∀t,t<N->Spd m L (R t) (aB t) (r t) (c t)
 ow:Ows N aB r c
theorem Sd.col(S:Sd m l A C R a U)(B:r<m)(h:R r c<0):¬Bs m a c:=λ⟨I,H,z⟩=>by
 rw[<-z]at h;by_cases q:I=r
 .rw[q,S.T.own_eq ⋯]at h;have :=S.T.pos;omega
 .rw[S.T.own_ne ⋯ ⋯ q]at h;exact Int.lt_irrefl _ h
theorem bY9.norep(W:bY9 m ae Q A R B ah I c)(a b:Nat)(af:a<b)(M:b<=Q)(e:∀i,i<m->B a i=B b i):False:=by
 obtain⟨E,J,eb,U⟩:=bA6 c a (b-a-1);have d:∀C,a<=C->C<b->c C<=c E:=λC Y h2=>U C Y ⋯
 obtain⟨_,S⟩:=W.st E ⋯;have P:=W.sp E ⋯;have H:=P.hr;have o:=W.ow E ⋯;obtain⟨f,X,fb,l⟩:=ca9 W.ow M e J ⋯ (show a<=E+1 by omega) ⋯ (S.col H P.neg) ⟨I E,H,by rw[o];exact cW7 rfl⟩;obtain⟨_,F⟩:=W.st f ⋯;have p:=W.sp f ⋯;have n:=Int.mul_neg_of_pos_of_neg F.T.pos P.bad;rw[F.T.mix S.T ⋯ ⋯,l9,F.oz,<-S.oz,S.T.own_ne ⋯ ⋯ ⋯,cN3,cL7]at n;obtain⟨i,O,h⟩:=aw6 n;have aa:∃x,a<=x/\x<=b/\¬Bs m (B x) (B f i):=by
  by_cases q:Bs m (B E) (B f i)
  .obtain⟨k,Z,z⟩:=q;have kr:k=I E:=Decidable.byContradiction λw=>by
    rw[<-z,S.T.own_ne ⋯ ⋯ w,cN3]at h;exact Int.lt_irrefl _ h
   refine⟨E+1,⋯,⋯,λ⟨ag,hl,w⟩=> ?_⟩;rw[o]at w;unfold setN at w;split at w
   .exact S.col H P.neg ⟨k,Z,z.trans w.symm⟩
   .exact absurd (S.T.inj ⋯ ⋯ (w.trans z.symm)) ⋯
  .exact⟨E,J,⋯,q⟩
 obtain⟨x,xa,xb,y⟩:=aa;obtain⟨C,t1,t2,t3⟩:=cb6 W.ow M e xa xb X ⋯ y ⟨i,O,rfl⟩;have v:=d C t1 t2;rw[t3]at v;by_cases j:B f i=c E
 .have g:i=I f:=F.T.inj (by have :=p.hr;omega) ⋯ (by rw[l,j]);rw[j,g]at h;have :=Int.mul_pos_of_neg_of_neg p.bad P.neg;omega
 .have :=p.least i O (Int.not_le.mp λw=>by
   have :=cM9 w (P.low (B f i) ⋯);omega)
  rw[l]at this;omega
section
variable {q m:Nat}{A:Nat->Vc}
noncomputable def nxC(m L:Nat)(b:ABd):Option (Option ABd):=(W2 (b.R m) L).map λc=>(tgt b.R b.aB L c m).map λr=>V3 b r c
noncomputable def nxK(m L:Nat)(b:ABd):Option (Option ABd):=(brk b.R b.aB L m).map λr=>(W2 (b.R r) L).map λc=>V3 b r c
theorem bk4(h:0<b.R r c):V3 b r c=⟨nxt b.R b.u r c,setN b.aB r c,b.R r c⟩:=by
 unfold V3;rw[cW6 ⋯,bb8,Int.one_mul]
theorem bQ6(h:b.R r c<0):V3 b r c=⟨nxt (flp (-1) b.R r) b.u r c,setN b.aB r c,-1*b.R r c⟩:=by
 unfold V3;rw[cW7 h]
theorem bo2{f:B->C}(h:o.map f=some y):∃x,o=some x/\f x=y:=by
 cases o with
 |none=>cases h
 |some x=>exact⟨x,rfl,cV9 h⟩
variable {v:Int}{x:Nat->Int}
theorem bo7(P:U5 q m A)(H:0<v)(B:∀j,j<q+m->0<=x j)(h:∀k,k<m->l9 (λj=>x j*A j k) q+x (q+k)=v*A (q+m) k)(b:ABd)(o:Option ABd)(I:∃s,Sd m (q+m) A s b.R b.aB b.u)(z:nxK m (q+m) b=some o):∃r c,Spd m (q+m) b.R b.aB r c/\o=some (V3 b r c)/\brk b.R b.aB (q+m) m=some r/\W2 (b.R r) (q+m)=some c/\∃s,Sd m (q+m) A s (V3 b r c).R (V3 b r c).aB (V3 b r c).u:=by
 obtain⟨s,S⟩:=I;obtain⟨r,e,rfl⟩:=bo2 z;obtain⟨a1,a2,a3⟩:=bY3 e;obtain⟨c,c1,c2⟩:=P.feas S H B h a1 a2;cases w:W2 (b.R r) (q+m)with
 |none=>exact absurd c2 (Int.not_lt.mpr (aL2 w c c1))
 |some C=>
  obtain⟨b1,b2,b3⟩:=aA0 w;exact⟨r,C,⟨a1,a2,a3,b1,b2,b3⟩,rfl,e,w,_,by rw[bQ6 b2];exact S.turn (e:= -1) rfl a1 b1 ⋯⟩
theorem bL8(P:U5 q m A)(S:Sd m (q+m) A s b.R b.aB b.u)(Y:0<v)(Z:∀j,j<q+m->0<=x j)(h:∀k,k<m->l9 (λj=>x j*A j k) q+x (q+k)=v*A (q+m) k):∃C,lp (nxK m (q+m)) ((q+m)^m) b=some C/\∃s,St m (q+m) A s C.R C.aB C.u:=by
 have O:=bo7 P Y Z h;obtain⟨C,E,⟨s,F⟩,J⟩:=bw4 (n:=nxK m (q+m)) (I:=λb=>∃s,Sd m (q+m) A s b.R b.aB b.u) (K:=(q+m)^m) (b:=b) (λb o I z=>by
  obtain⟨r,c,_,rfl,_,_,h⟩:=O b o I z;exact⟨_,rfl,h⟩) (λN E F=>by
  let B:=sq (nxK m (q+m)) b
  let r:=λt=>(brk (B t).R (B t).aB (q+m) m).getD 0
  let c:=λt=>(W2 ((B t).R (r t)) (q+m)).getD 0
  have L:∀t,t<N->Spd m (q+m) (B t).R (B t).aB (r t) (c t)/\B (t+1)=V3 (B t) (r t) (c t):=λt H=>by
   obtain⟨a,M,p,Q,R,U,_⟩:=O _ _ (E t ⋯) (F t H);have e:r t=a:=by show(brk _ _ _ _).getD 0=_;rw[R];rfl
   have W:c t=M:=by show(W2 ((B t).R (r t)) _).getD 0=_;rw[e,U];rfl
   rw[e,W];exact⟨p,cV9 Q⟩
  exact few (λt H=>by obtain⟨_,S⟩:=E t H;exact S.ol) (bY9.norep (R:=λt=>(B t).R) (ah:=λt=>(B t).u) ⟨E,λt H=>(L t H).1,λt H=>congrArg ABd.aB (L t H).2⟩)) ⟨s,S⟩
 refine⟨C,E,s,F,λi X=> ?_⟩;cases z:brk C.R C.aB (q+m) m with
 |none=>exact bY4 z i X
 |some r=>unfold nxK at J;rw[z]at J;cases J
theorem bg2(P:U5 q m A)(H:∀j,j<q->0<=l9 (A j) (m+1))(b:ABd)(o:Option ABd)(S:St m (q+m) A s b.R b.aB b.u)(z:nxC m (q+m) b=some o):∃r c,Stp m (q+m) b.R b.aB r c/\o=some (V3 b r c)/\W2 (b.R m) (q+m)=some c/\tgt b.R b.aB (q+m) c m=some r/\St m (q+m) A s (V3 b r c).R (V3 b r c).aB (V3 b r c).u:=by
 obtain⟨c,e,rfl⟩:=bo2 z;obtain⟨a1,a2,a3⟩:=aA0 e;cases w:tgt b.R b.aB (q+m) c m with
 |none=>exact(P.ray S.toSd H a1 a2 (bR0 w)).elim
 |some r=>
  obtain⟨b1,b2,b3⟩:=bk9 w;have p:Stp m (q+m) b.R b.aB r c:=⟨a1,a2,a3,b1,b2,λi h p=>(b3 i h p).1,λi h p=>(b3 i h p).2⟩
  exact⟨r,c,p,rfl,e,w,by rw[bk4 b2];exact S.next p⟩
theorem bC8(P:U5 q m A)(d:∀j,j<q->0<=l9 (A j) (m+1))(S:St m (q+m) A s b.R b.aB b.u):∃C,lp (nxC m (q+m)) ((q+m)^m) b=some C/\St m (q+m) A s C.R C.aB C.u/\∀j,j<q+m->0<=C.R m j:=by
 have O:=bg2 (s:=s) P d;obtain⟨C,E,F,J⟩:=bw4 (n:=nxC m (q+m)) (I:=λb=>St m (q+m) A s b.R b.aB b.u) (K:=(q+m)^m) (b:=b) (λb o I z=>by
  obtain⟨r,c,_,rfl,_,_,h⟩:=O b o I z;exact⟨_,rfl,h⟩) (λN E F=>by
  let B:=sq (nxC m (q+m)) b
  let c:=λt=>(W2 ((B t).R m) (q+m)).getD 0
  let r:=λt=>(tgt (B t).R (B t).aB (q+m) (c t) m).getD 0
  have L:∀t,t<N->Stp m (q+m) (B t).R (B t).aB (r t) (c t)/\B (t+1)=V3 (B t) (r t) (c t):=λt H=>by
   obtain⟨Z,M,p,Q,R,U,_⟩:=O _ _ (E t ⋯) (F t H);have e:c t=M:=by show(W2 _ _).getD 0=_;rw[R];rfl
   have X:r t=Z:=by show(tgt (B t).R (B t).aB _ (c t) _).getD 0=_;rw[e,U];rfl
   rw[X,e];exact⟨p,cV9 Q⟩
  have n:∀t,t<N->B (t+1)=⟨nxt (B t).R (B t).u (r t) (c t),setN (B t).aB (r t) (c t),(B t).R (r t) (c t)⟩:=λt H=>(L t H).2.trans (bk4 (L t H).1.pos)
  have W:Run m (q+m) N A s (λt=>(B t).R) (λt=>(B t).aB) (λt=>(B t).u) r c:=⟨E,λt H=>(L t H).1,λt H=>congrArg ABd.R (n t H),λt H=>congrArg ABd.aB (n t H),λt H=>congrArg ABd.u (n t H)⟩
  exact few (λt H=>(E t H).ol) λa b=>W.norep) S
 refine⟨C,E,F,λj Y=> ?_⟩;cases z:W2 (C.R m) (q+m)with
 |none=>exact aL2 z j Y
 |some c=>unfold nxC at J;rw[z]at J;cases J
end
structure J8 where
 W:Nat
 P:Nat
 want:Nat->Int
 cap:Nat->Int
 n:Nat
 of:Nat->Nat
 on:Nat->Nat->Bool
 free:Nat->Bool
 need:Nat->Int
namespace J8
variable (d:J8)
noncomputable def q:Nat:=1+d.n
noncomputable def m:Nat:=d.W+d.P
noncomputable def A(j:Nat):Vc:=λk=>
 if j=0 then(if k<d.W then(if d.free k then d.want k else 0)else if k<d.m then 0 else -1)
 else if j<d.q then(if k<d.W then(if d.of (j-1)=k then -1 else 0)else if k<d.m then(if d.on (j-1) (k-d.W)then 1 else 0)else 0)
 else if j<d.q+d.m then(if k=j-d.q then 1 else 0)
 else if j=d.q+d.m then(if k<d.W then -d.need k else if k<d.m then d.cap (k-d.W)else 0)
 else if k=d.m then 1 else 0
structure Ok:Prop where
 w0:∃k,k<d.W/\d.free k=true
 want:∀k,k<d.W->0<d.want k
 of:∀l,l<d.n->d.of l<d.W
 on:∀l,l<d.n->∃p,p<d.P/\d.on l p=true
variable {d}
theorem prob:U5 d.q d.m d.A where
 aB:=λi k hi hk=>by
  unfold A;rw[cW6 (by unfold q;omega),cW6 ⋯,cW7 ⋯,Nat.add_sub_cancel_left]
 gz:=λk hk=>by
  unfold A;rw[cW6 ⋯,cW6 ⋯,cW6 ⋯,cW6 ⋯]
 lz:=by
  unfold A;rw[cW6 (by unfold q;omega),cW6 ⋯,cW6 ⋯,cW7 rfl,cW6 (by unfold m;omega),cW6 ⋯]
theorem a0(h:k<d.W):d.A 0 k=if d.free k then d.want k else 0:=by unfold A;rw[cW7 rfl,cW7 h]
theorem a0'(h:p<d.P):d.A 0 (d.W+p)=0:=by unfold A;rw[cW7 rfl,cW6 ⋯,cW7 (by unfold m;omega)]
theorem a0m:d.A 0 d.m= -1:=by unfold A;rw[cW7 rfl,cW6 (by unfold m;omega),cW6 ⋯]
theorem al(H:l<d.n)(h:k<d.W):d.A (1+l) k=if d.of l=k then -1 else 0:=by
 unfold A;rw[cW6 ⋯,cW7 (by unfold q;omega),cW7 h,Nat.add_sub_cancel_left]
theorem al'(h:l<d.n)(H:p<d.P):d.A (1+l) (d.W+p)=if d.on l p then 1 else 0:=by
 unfold A;rw[cW6 ⋯,cW7 (by unfold q;omega),cW6 ⋯,cW7 (by unfold m;omega),Nat.add_sub_cancel_left,Nat.add_sub_cancel_left]
theorem alm(h:l<d.n):d.A (1+l) d.m=0:=by unfold A;rw[cW6 ⋯,cW7 (by unfold q;omega),cW6 (by unfold m;omega),cW6 ⋯]
theorem ab(h:k<d.W):d.A (d.q+d.m) k= -d.need k:=by unfold A;rw[cW6 (by unfold q;omega),cW6 ⋯,cW6 ⋯,cW7 rfl,cW7 h]
theorem ab'(h:p<d.P):d.A (d.q+d.m) (d.W+p)=d.cap p:=by
 unfold A;rw[cW6 (by unfold q;omega),cW6 ⋯,cW6 ⋯,cW7 rfl,cW6 ⋯,cW7 (by unfold m;omega),Nat.add_sub_cancel_left]
theorem bz0(f:Nat->Int):l9 f d.q=f 0+l9 (λl=>f (1+l)) d.n:=by
 unfold q;rw[ai8];erw[l9,cN9]
theorem ones(O:d.Ok)(j:Nat)(L:j<d.q):0<=l9 (d.A j) (d.m+1):=by
 rw[l9,show l9 (d.A j) d.m=l9 (d.A j) d.W+l9 (λp=>d.A j (d.W+p)) d.P from ai8 ..];have o:∀{f:Nat->Int}{N k},k<N->(∀i,i<N->0<=f i)->1<=f k->1<=l9 f N:=λ{f N k} B F I=>by
  have :=al9 (f:=λi=>if i=k then 1 else 0) (g:=f) (n:=N) λi C=>by
   split
   .rename_i z;rw[z];exact I
   .exact F i C
  rwa[O0 (k:=k) B λi _ z=>cW6 z,cW7 rfl]at this
 by_cases h:j=0
 .subst h;obtain⟨k,B,J⟩:=O.w0;have :=o (f:=d.A 0) B (λi C=>by rw[a0 C];split;exact Int.le_of_lt (O.want i C);exact Int.le_refl _) (by rw[a0 B,J];exact O.want k B);rw[a0m,M9 (n:=d.P) λp E=>a0' E];omega
 .obtain⟨l,rfl⟩:∃l,j=1+l:=⟨j-1,⋯⟩
  have H:l<d.n:=by unfold q at L;omega
  obtain⟨p,E,M⟩:=O.on l H;have :=o (f:=λp=>d.A (1+l) (d.W+p)) E (λi C=>by rw[al' H C];split<;>decide) (by rw[al' H E,M];decide);rw[alm H,O0 (f:=d.A (1+l)) (k:=d.of l) (O.of l H) λk B z=>by rw[al H B,cW6 λw=>z w.symm],al H (O.of l H),cW7 rfl];omega
noncomputable def bro(d:J8)(y:Nat->Int)(k:Nat):Int:=l9 (λl=>if d.of l=k then y l else 0) d.n
noncomputable def loa(d:J8)(y:Nat->Int)(p:Nat):Int:=l9 (λl=>if d.on l p then y l else 0) d.n
structure Best(d:J8)(u:Int)(x:Nat->Int)(price height:Nat->Int):Prop where
 pos:0<u
 x0:∀j,0<=x j
 p0:∀p,p<d.P->0<=price p
 h0:∀k,k<d.W->0<=height k
 less:∀k,k<d.W->(if d.free k then d.want k else 0)*x 0+u*d.need k<=d.bro (λl=>x (1+l)) k
 room:∀p,p<d.P->d.loa (λl=>x (1+l)) p<=u*d.cap p
 lane:∀l,l<d.n->height (d.of l)<=l9 (λp=>if d.on l p then price p else 0) d.P
 one:u<=l9 (λk=>(if d.free k then d.want k else 0)*height k) d.W
 cost:l9 (λp=>d.cap p*price p) d.P=x 0+l9 (λk=>d.need k*height k) d.W
theorem best{b:ABd}(O:d.Ok)(S:St d.m (d.q+d.m) d.A s b.R b.aB b.u)(C:∀j,j<d.q+d.m->0<=b.R d.m j):
  Best d b.u (amt d.m (d.q+d.m) b.R b.aB) (λp=>b.R d.m (d.q+(d.W+p))) (λk=>b.R d.m (d.q+k)):=by
 have sm:∀f:Nat->Int,l9 f d.m=l9 f d.W+l9 (λp=>f (d.W+p)) d.P:=λf=>ai8 ..
 have r:∀j,j<d.q+d.m+2->b.R d.m j=b.u*d.A j d.m+(l9 (λk=>d.A j k*b.R d.m (d.q+k)) d.W+l9 (λp=>d.A j (d.W+p)*b.R d.m (d.q+(d.W+p))) d.P):=λj E=>by
  rw[prob.row S.toSd (l:=d.m) ⋯ E,cW7 rfl,sm]
 refine⟨S.T.pos,λj=>aI7 S j,λp B=>C _ (by unfold m;omega),λk H=>C _ (by unfold m;omega),λk H=> ?_,λp B=> ?_,λl h=> ?_,?_,?_⟩
 .have z:=prob.keeps S.toSd (k:=k) (by unfold m;omega);have F:=aI7 S (d.q+k);rw[ab H,bz0,a0 H,w8 (g:=λl=> -1*(if d.of l=k then amt d.m (d.q+d.m) b.R b.aB (1+l)else 0)) λl h=>by rw[al h H,cM5];split<;>simp,J4,Int.mul_neg]at z;rw[cM5];show _<=l9 (λl=>if d.of l=k then amt d.m (d.q+d.m) b.R b.aB (1+l)else 0) d.n;omega
 .have z:=prob.keeps S.toSd (k:=d.W+p) (by unfold m;omega);have F:=aI7 S (d.q+(d.W+p));rw[ab' B,bz0,a0' B,w8 (g:=λl=>if d.on l p then amt d.m (d.q+d.m) b.R b.aB (1+l)else 0) λl h=>by rw[al' h B];split<;>simp]at z;show l9 (λl=>if d.on l p then amt d.m (d.q+d.m) b.R b.aB (1+l)else 0) d.n<=_;omega
 .have g:=C (1+l) (by unfold q;omega);rw[r _ (by unfold q;omega),alm h,O0 (n:=d.W) (k:=d.of l) (O.of l h) λk H e=>by rw[al h H,cW6 λz=>e z.symm,cO0],al h (O.of l h),cW7 rfl,w8 (n:=d.P) (g:=λp=>if d.on l p then b.R d.m (d.q+(d.W+p))else 0) λp B=>by rw[al' h B];split<;>simp]at g;omega
 .have g:=C 0 (by unfold q;omega);rw[r 0 (by unfold q;omega),a0m,M9 (n:=d.P) λp B=>by rw[a0' B,cO0],w8 (n:=d.W) λk H=>by rw[a0 H]]at g;omega
 .have g:=prob.price S.toSd;have w:=prob.worth S.toSd;rw[sm,w8 (n:=d.W) (g:=λk=> -1*(d.need k*b.R d.m (d.q+k))) λk H=>by rw[ab H,cN6,Int.neg_one_mul],J4,w8 (n:=d.P) (g:=λp=>d.cap p*b.R d.m (d.q+(d.W+p))) λp B=>by rw[ab' B]]at g;rw[bz0,a0m,M9 λl h=>by rw[alm h,cN3]]at w;omega
theorem Best.weak(O:d.Ok)(B:Best d U X e H){y cap':Nat->Int}(N:∀L,0<=y L)(h:∀C,C<d.P->d.loa y C<=cap' C):l9 (λE=>H E*d.bro y E) d.W<=l9 (λC=>e C*cap' C) d.P:=by
 have J:l9 (λE=>H E*d.bro y E) d.W=l9 (λL=>H (d.of L)*y L) d.n:=by
  unfold bro;rw[w8 λE _=>(J4 ..).symm,ag5];exact w8 λL F=>by
   rw[O0 (k:=d.of L) (O.of L F) λE _ z=>by rw[cW6 λw=>z w.symm,cN3],cW7 rfl]
 have M:l9 (λC=>e C*d.loa y C) d.P=l9 (λL=>l9 (λC=>if d.on L C then e C else 0) d.P*y L) d.n:=by
  unfold loa;rw[w8 λC _=>(J4 ..).symm,ag5];refine w8 λL _=> ?_
  rw[cM5,<-J4];exact w8 λC _=>by split<;>simp[cM5]
 rw[J];refine Int.le_trans (al9 λL F=>Int.mul_le_mul_of_nonneg_right (B.lane L F) (N L)) ?_;rw[<-M];exact al9 λC I=>cM6 (h C I) (B.p0 C I)
end J8
noncomputable def N9(f:Nat->Rat):Nat->Rat
 |0=>0
 |n+1=>N9 f n+f n
theorem V4:∀{n:Nat}{f g:Nat->Rat},(∀i,i<n->f i=g i)->N9 f n=N9 g n
 |0,_,_,_=>rfl
 |n+1,f,g,h=>by rw[N9,N9,V4 λi H=>h i (cU4 H),h n (cU5 n)]
theorem ab4(a b:Rat)(f g:Nat->Rat):∀n,N9 (λi=>a*f i+b*g i) n=a*N9 f n+b*N9 g n
 |0=>by erw[N9];grind
 |n+1=>by erw[N9,ab4 a b f g n];grind
theorem ar5:∀{n:Nat}{f:Nat->Rat},(∀i,i<n->0<=f i)->0<=N9 f n
 |0,_,_=>Rat.le_refl
 |n+1,f,h=>Rat.add_nonneg (ar5 λi H=>h i (cU4 H)) (h n (cU5 n))
theorem be3:∀{n:Nat}{f:Nat->Rat},(∀i,i<n->0<=f i)->N9 f n<=0->∀i,i<n->f i=0
 |0,_,_,_,i,H=>absurd H (cV1 _)
 |n+1,f,h,z,i,H=>by
  have p:=ar5 (n:=n) λi H=>h i (cU4 H)
  have P:=h n (cU5 n);rw[N9]at z;by_cases e:i=n
  .rw[e];grind
  .exact be3 (n:=n) (λi H=>h i (cU4 H)) (by grind) i ⋯
theorem al8(f:Nat->Int):∀n,((l9 f n:Int):Rat)=N9 (λi=>(f i:Rat)) n
 |0=>rfl
 |n+1=>by rw[l9,N9,Rat.intCast_add,al8 f n]
structure Rsd(W:Nat)(w:Nat->Rat)(Fe:(Nat->Rat)->Prop)(free:Nat->Bool)(lam:Nat->Rat)(s:Rat)(h:Nat->Rat):Prop where
 s0:0<=s
 h0:∀k,k<W->0<=h k
 one:1<=N9 (λk=>(if free k then w k else 0)*h k) W
 key:∀be,Fe be->N9 (λk=>h k*(be k-if free k then 0 else w k*lam k)) W<=s
 got:∃be,Fe be/\∀k,k<W->w k*(if free k then s else lam k)<=be k
section
variable {W:Nat}{w:Nat->Rat}{Fe:(Nat->Rat)->Prop}{free:Nat->Bool}{lam:Nat->Rat}{s:Rat}{h:Nat->Rat}
theorem Rsd.spare(R:Rsd W w Fe free lam s h)(H:Fe b)(C:∀B,B<W->w B*(if free B then M else lam B)<=b B):N9 (λB=>h B*(b B-w B*(if free B then M else lam B))) W<=s-M*N9 (λB=>(if free B then w B else 0)*h B) W:=by
 have :=R.key b H;have e:=ab4 1 (-M) (λB=>h B*(b B-if free B then 0 else w B*lam B)) (λB=>(if free B then w B else 0)*h B) W;rw[V4 (g:=λB=>h B*(b B-w B*(if free B then M else lam B))) λB _=>by split<;>grind]at e;rw[e]
 grind
theorem Rsd.most(R:Rsd W w Fe free lam s h)(E:Fe e)(F:0<=M)(H:∀B,B<W->w B*(if free B then M else lam B)<=e B):M<=s:=by
 have a:=R.spare E H;have b:=ar5 (n:=W) (f:=λB=>h B*(e B-w B*(if free B then M else lam B))) λB C=>Rat.mul_nonneg (R.h0 B C) (by have :=H B C;grind)
 have c:=Rat.mul_nonneg F (show 0<=N9 (λB=>(if free B then w B else 0)*h B) W-1 by have :=R.one;grind)
 grind
theorem Rsd.tied(R:Rsd W w Fe free lam s h)(E:Fe b)(C:∀B,B<W->w B*(if free B then s else lam B)<=b B)(H:B<W):h B*(b B-w B*(if free B then s else lam B))=0:=by
 have a:=R.spare E C;have c:=Rat.mul_nonneg R.s0 (show 0<=N9 (λB=>(if free B then w B else 0)*h B) W-1 by have :=R.one;grind);exact be3 (f:=λB=>h B*(b B-w B*(if free B then s else lam B))) (λB H=>Rat.mul_nonneg (R.h0 B H) (by have :=C B H;grind)) (by grind) B H
theorem Rsd.stuck(R:Rsd W w Fe free lam s h):∃n,n<W/\free n=true/\h n≠0:=Classical.byContradiction λz=>by
 have :=R.one;rw[V4 (g:=λ_=>0*0+0*0) λB H=> ?_,ab4 0 0 (λ_=>0) λ_=>0]at this
 .grind
 .split
  .have :h B=0:=Classical.byContradiction λw=>z ⟨B,H,by assumption,w⟩
   grind
  .grind
theorem Rsd.unit(R:Rsd W w Fe free lam s h):s*N9 (λB=>(if free B then w B else 0)*h B) W=s:=by
 obtain⟨e,E,H⟩:=R.got;have a:=R.spare E H;have b:=ar5 (n:=W) (f:=λB=>h B*(e B-w B*(if free B then s else lam B))) λB C=>Rat.mul_nonneg (R.h0 B C) (by have :=H B C;grind)
 have c:=Rat.mul_nonneg R.s0 (show 0<=N9 (λB=>(if free B then w B else 0)*h B) W-1 by have :=R.one;grind)
 grind
end
namespace J8
noncomputable def hold(d:J8)(fr:Nat->Bool)(need:Nat->Int)(s:Int):J8:={d with free:=fr,need:=need,cap:=λp=>d.cap p*s}
def Feas(d:J8)(b:Nat->Rat):Prop:=∃(V:Int) (y:Nat->Int),0<V/\(∀l,0<=y l)/\(∀p,p<d.P->d.loa y p<=V*d.cap p)/\∀k,k<d.W->b k*V=(d.bro y k:Rat)
noncomputable def wn(d:J8)(k:Nat):Rat:=(d.want k:Rat)
theorem pos_cast{a:Int}(h:0<a):(0:Rat)<(a:Rat):=Rat.intCast_lt_intCast.mpr h
theorem le_cast{a b:Int}(h:a<=b):(a:Rat)<=(b:Rat):=Rat.intCast_le_intCast.mpr h
theorem bo9{c:Bool}{a:Int}:((if c then a else 0:Int):Rat)=if c then(a:Rat)else 0:=by split<;>rfl
theorem aW4{a b c:Rat}(H:0<c)(h:a*c<=b):a<=b/c:=by
 have :=Rat.mul_le_mul_of_nonneg_right h (Rat.le_of_lt (Rat.inv_pos.mpr H));rwa[Rat.mul_assoc,Rat.mul_inv_cancel _ λz=>by rw[z]at H;exact Rat.lt_irrefl H,Rat.mul_one]at this
theorem Best.rsd{d:J8}{N:Nat->Int}{lam:Nat->Rat}(O:(d.hold fr N s).Ok)(B:Best (d.hold fr N s) U X F h)(M:0<s)(S:∀C,C<d.W->(N C:Rat)=if fr C then 0 else s*(d.wn C*lam C)):
  Rsd d.W d.wn d.Feas fr lam ((X 0:Rat)/(U*s)) (λC=>(h C:Rat)/U)/\N9 (λE=>(F E:Rat)/U*d.cap E) d.P=(X 0:Rat)/(U*s)+N9 (λC=>(h C:Rat)/U*(if fr C then 0 else d.wn C*lam C)) d.W:=by
 have Q:=pos_cast B.pos;have M:=pos_cast M;have a:=Rat.mul_pos Q M;have c:=congrArg (Int.cast (R:=Rat)) B.cost;rw[al8,Rat.intCast_add,al8]at c;have c:N9 (λE=>(F E:Rat)/U*d.cap E) d.P=(X 0:Rat)/(U*s)+N9 (λC=>(h C:Rat)/U*(if fr C then 0 else d.wn C*lam C)) d.W:=by
  have I:=ab4 (1/(U*s)) 0 (λE=>((d.cap E*s*F E:Int):Rat)) (λ_=>0) d.P;have J:=ab4 (1/(U*s)) 0 (λC=>((N C*h C:Int):Rat)) (λ_=>0) d.W;rw[V4 (g:=λE=>(F E:Rat)/U*d.cap E) λE _=>by rw[Rat.intCast_mul,Rat.intCast_mul];grind]at I;rw[V4 (g:=λC=>(h C:Rat)/U*(if fr C then 0 else d.wn C*lam C)) λC H=>by rw[Rat.intCast_mul,S C H];split<;>grind]at J;rw[I,J];have c:N9 (λE=>((d.cap E*s*F E:Int):Rat)) d.P=(X 0:Rat)+N9 (λC=>((N C*h C:Int):Rat)) d.W:=c;rw[c]
  grind
 refine⟨⟨aW4 a ?_,λC H=>aW4 Q ?_,?_,λb ⟨V,y,R,t,i,f⟩=> ?_,?_⟩,c⟩
 .rw[Rat.zero_mul];exact le_cast (B.x0 0)
 .rw[Rat.zero_mul];exact le_cast (B.h0 C H)
 .have o:=le_cast B.one;rw[al8]at o;have e:=ab4 (1/U) 0 (λC=>(((if fr C then d.want C else 0)*h C:Int):Rat)) (λ_=>0) d.W;rw[V4 (g:=λC=>(if fr C then d.wn C else 0)*((h C:Rat)/U)) λC _=>by rw[Rat.intCast_mul,bo9];unfold wn;grind]at e;rw[e];have :=aW4 Q (show 1*(U:Rat)<=N9 (λC=>(((if fr C then d.want C else 0)*h C:Int):Rat)) d.W by rw[Rat.one_mul];exact o)
  grind
 .have R:=pos_cast R;have w:=le_cast (B.weak O t (cap':=λE=>V*d.cap E) i);rw[al8,al8]at w;have I:=ab4 (1/(U*V)) 0 (λC=>((h C*d.bro y C:Int):Rat)) (λ_=>0) d.W;have J:=ab4 (1/(U*V)) 0 (λE=>((F E*(V*d.cap E):Int):Rat)) (λ_=>0) d.P;rw[V4 (g:=λE=>(F E:Rat)/U*d.cap E) λE _=>by rw[Rat.intCast_mul,Rat.intCast_mul];grind,c]at J;rw[V4 (g:=λC=>(h C:Rat)/U*b C) λC H=>by rw[Rat.intCast_mul,<-f C H];grind]at I;have Y:=ab4 1 (-1) (λC=>(h C:Rat)/U*b C) (λC=>(h C:Rat)/U*(if fr C then 0 else d.wn C*lam C)) d.W;rw[V4 (g:=λC=>(h C:Rat)/U*(b C-if fr C then 0 else d.wn C*lam C)) λC _=>by grind]at Y;rw[Y];have r:=Rat.mul_pos Q R;have w:N9 (λC=>((h C*d.bro y C:Int):Rat)) d.W<=N9 (λE=>((F E*(V*d.cap E):Int):Rat)) d.P:=w;have :=Rat.mul_le_mul_of_nonneg_left w (Rat.le_of_lt (Rat.inv_pos.mpr r))
  grind
 .refine⟨λC=>(d.bro (λL=>X (1+L)) C:Rat)/(U*s),⟨U*s,λL=>X (1+L),cN1 B.pos (Rat.intCast_lt_intCast.mp M),λL=>B.x0 _,λE g=> ?_,λC _=> ?_⟩,λC H=>aW4 a ?_⟩
  .rw[cM4,cM5 s];exact B.room E g
  .rw[Rat.intCast_mul];grind
  .have :=le_cast (B.less C H);rw[Rat.intCast_add,Rat.intCast_mul,Rat.intCast_mul,bo9]at this;have Z:=S C H;have this:(if fr C then d.wn C else 0)*(X 0:Rat)+U*N C<=(d.bro (λL=>X (1+L)) C:Rat):=this;rw[Z]at this;refine Rat.le_trans ?_ this;clear Z this O B S;cases fr C
   .exact(show d.wn C*lam C*(U*s)=0*(X 0:Rat)+U*(s*(d.wn C*lam C)) by grind)▸Rat.le_refl
   .exact(show d.wn C*((X 0:Rat)/(U*s))*(U*s)=d.wn C*X 0+U*0 by grind)▸Rat.le_refl
end J8
section
variable {q m e:Nat}{A:Nat->Vc}{aB:Nat->Nat}
theorem bN0:∀m,m<=11->fac (m+1)*20^(m+1)<2^100:=∎
theorem U5.sz(P:U5 q m A)(N:m<=11)(C:∀j B,j≠q+m->(A j B).natAbs<=20)(J:∀B,B<m->(A (q+m) B).natAbs<=2^e)(S:Sd m (q+m) A s R aB u):u.natAbs<2^100/\(∀l j,l<m+1->j<q+m+2->j≠q+m->(R l j).natAbs<2^100)/\∀l,l<m+1->(R l (q+m)).natAbs<2^(e+104):=by
 obtain⟨E,F⟩:=S.T.small (K:=20) λI B O _=>C _ B λz=>by
  by_cases h:I<m
  .have :=S.ol I h;omega
  .rw[show I=m by omega,S.oz]at z;omega
 have f:=bN0 m N;have sm:∀l j,l<m+1->j<q+m+2->j≠q+m->(R l j).natAbs<2^100:=λl j H L n=>Nat.lt_of_le_of_lt (F l j H L λB _=>C j B n) f
 refine⟨Nat.lt_of_le_of_lt E f,sm,λl H=> ?_⟩;have :=aw7 (K:=2^e*2^100) (n:=m) (f:=λB=>A (q+m) B*R l (q+B)) λB M=>by
  rw[cN4];exact Nat.mul_le_mul (J B M) (Nat.le_of_lt (sm l (q+B) H ⋯ ⋯))
 rw[P.row S H ⋯,P.lz,cN3];have z:(if l=m then(0:Int)else 0)=0:=by split<;>rfl
 rw[z,cN9];refine Nat.lt_of_le_of_lt this ?_;rw[<-Nat.pow_add,show e+104=4+(e+100) by omega,Nat.pow_add 2 4];exact Nat.mul_lt_mul_of_pos_right ⋯ (Nat.pow_pos ∎)
end
namespace J8
variable {d:J8}
theorem start{y:Nat->Int}(I:∀l,0<=y l)(r:∀p,p<d.P->d.loa y p<=V*d.cap p)(F:∀k,k<d.W->V*d.need k<=d.bro y k):∃x:Nat->Int,(∀j,j<d.q+d.m->0<=x j)/\∀k,k<d.m->l9 (λj=>x j*d.A j k) d.q+x (d.q+k)=V*d.A (d.q+d.m) k:=by
 let z:Nat->Int:=λj=>if j=0 then 0 else y (j-1)
 let x:Nat->Int:=λj=>if j<d.q then z j else V*d.A (d.q+d.m) (j-d.q)-l9 (λi=>z i*d.A i (j-d.q)) d.q
 have s:∀k,l9 (λi=>z i*d.A i k) d.q=l9 (λl=>y l*d.A (1+l) k) d.n:=λk=>by
  rw[bz0,show z 0=0 from rfl,cO0,cN9];exact w8 λl _=>by rw[show z (1+l)=y (1+l-1)from cW6 ⋯,Nat.add_sub_cancel_left]
 refine⟨x,λj E=> ?_,λk J=> ?_⟩
 .show 0<=if j<d.q then z j else _
  split
  .show 0<=if j=0 then 0 else _
   split
   .exact Int.le_refl _
   .exact I _
  .refine Int.sub_nonneg_of_le ?_;obtain⟨k,rfl⟩:=Nat.le.dest (Nat.not_lt.mp (by assumption));rw[Nat.add_sub_cancel_left,s];by_cases h:k<d.W
   .rw[ab h,w8 (g:=λl=> -1*(if d.of l=k then y l else 0)) λl H=>by rw[al H h];split<;>simp,J4,Int.mul_neg];have :=F k h;unfold bro at this;omega
   .obtain⟨p,rfl⟩:=Nat.le.dest (Nat.not_lt.mp h);have B:p<d.P:=by unfold m at E;omega
    rw[ab' B,w8 (g:=λl=>if d.on l p then y l else 0) λl H=>by rw[al' H B];split<;>simp];exact r p B
 .rw[show x (d.q+k)=V*d.A (d.q+d.m) (d.q+k-d.q)-l9 (λi=>z i*d.A i (d.q+k-d.q)) d.q from cW6 ⋯,Nat.add_sub_cancel_left,w8 (g:=λi=>z i*d.A i k) λi C=>by rw[show x i=z i from cW7 C]];omega
theorem goal(H:j<d.q):d.A j d.m=if j=0 then -1 else 0:=by
 by_cases h:j=0
 .rw[h,a0m,cW7 rfl]
 .obtain⟨l,rfl⟩:∃l,j=1+l:=⟨j-1,⋯⟩
  rw[alm (by unfold q at H;omega),cW6 h]
end J8
def Wlk(fr t:Nat->Int):List Nat->Int->Int->Prop
 |[],a,b=>a=b
 |p::P,a,b=>fr p=a/\Wlk fr t P (t p) b
noncomputable def hit(x y:Int):Int:=if x=y then 1 else 0
theorem Wlk.gain:∀{P:List Nat}{a b:Int},Wlk fr t P a b->∀v,(P.map λp=>hit (t p) v-hit (fr p) v).sum=hit b v-hit a v
 |[],a,b,h,v=>by
  have h:a=b:=h;subst h;simp
 |p::P,a,b,h,v=>by
  obtain⟨H,B⟩:=h;rw[cI9,List.sum_cons,B.gain v,H];omega
end LP
open PySem LP
namespace L3
theorem o7(k n:Nat)(b:GS)(t:List T)(h:t.length=k):A6 k n b t=al3 (b (A0 n t)):=by unfold A6;rw[cW7 h]
@[simp] theorem jn:(some (some x):Option (Option B)).join=some x:=rfl
@[simp] theorem v9:D3 i Q=(Q[i]?).join:=rfl
@[simp] theorem G8:gC t Q=some t:=rfl
@[simp] theorem as0:g1 f a Q=(a Q).bind f:=rfl
@[simp] theorem D6:g2 f a b Q=(a Q).bind λx=>(b Q).bind λy=>f x y:=rfl
@[simp] theorem F7:gs [] Q=some []:=rfl
@[simp] theorem D0:gs (a::r) Q=(a Q).bind λx=>(gs r Q).bind λX=>some (x::X):=rfl
@[simp] theorem N7:gN f as Q=(gs as Q).bind f:=rfl
@[simp] theorem aw3:y8 as Q=(gs as Q).bind λx=>some (.tup x):=rfl
@[simp] theorem aE1:A1 as Q=(gs as Q).bind λx=>⇑x:=rfl
@[simp] theorem V7:bOf a Q=(a Q).bind toB:=rfl
@[simp] theorem Y1:E8 a b Q=(bOf a Q).bind λc=>if c then b Q else ↑false:=rfl
@[simp] theorem cs0:gOr a b Q=(bOf a Q).bind λc=>if c then ↑true else b Q:=rfl
@[simp] theorem bx0:aT0 a Q=(bOf a Q).bind λc=>↑(!c):=rfl
@[simp] theorem bc7:V1 a b Q=(a Q).bind λc=>if c then b Q else some false:=rfl
@[simp] theorem ct5:bOr a b Q=(a Q).bind λc=>if c then some true else b Q:=rfl
@[simp] theorem cH8:ac1 a Q=(a Q).bind λc=>some !c:=rfl
@[simp] theorem bc5:u5 Q=some true:=rfl
@[simp] theorem bf3(f F:T->T->Option T)(a b c:G)(Q:A3):aE2 f F a b c Q=(a Q).bind λx=>(b Q).bind λy=>((f x y).bind toB).bind λk=>if k then(c Q).bind λz=>F y z else ↑false:=rfl
@[simp] theorem T4:toB (.bl b)=some b:=rfl
@[simp] theorem bt2:toL (.lst b)=some b:=rfl
@[simp] theorem aC2:toI (.int b)=some b:=rfl
@[simp] theorem cC3:z9 Q=some (.nx Q):=rfl
@[simp] theorem ad2:o6 i g Q=(g Q).bind λt=>some (.nx (Q.set i (some t))):=rfl
@[simp] theorem y4:t5 g Q=(g Q).bind λt=>some (.ret t):=rfl
@[simp] theorem bt6:bl4 i j a b Q=(a Q).bind λx=>(b Q).bind λy=>some (.nx ((Q.set i (some x)).set j (some y))):=rfl
@[simp] theorem W5:sIf c a b Q=(c Q).bind λk=>if k then a Q else b Q:=rfl
theorem aZ7(a b:GS)(Q:A3):m8 a b Q=(a Q).bind λo=>match o with |.nx B=>b B|o=>some o:=rfl
theorem n8(h:a Q=some (.nx B)):m8 a b Q=b B:=by rw[aZ7,h];rfl
theorem W0(h:a Q=some (.ret t)):m8 a b Q=some (.ret t):=by rw[aZ7,h];rfl
@[simp] theorem O6:P1 i st b Q=(i Q).bind λx=>N4 st b x Q:=rfl
@[simp] theorem Y7:itL g Q=(g Q).bind toL:=rfl
@[simp] theorem cr4:itZ a b Q=(itL a Q).bind λx=>(itL b Q).bind λy=>some (U4 x y):=rfl
@[simp] theorem cI0:itE a Q=(itL a Q).bind λx=>some (S7 0 x):=rfl
@[simp] theorem aL0:itR a Q=((a Q).bind toI).bind λn=>if -lim<=n/\n<=lim then some (O2 0 n.toNat)else none:=rfl
@[simp] theorem bG1:stN i t Q=some (Q.set i (some t)):=rfl
@[simp] theorem cH9:st2 i j (.tup [x,y]) Q=some ((Q.set i (some x)).set j (some y)):=rfl
@[simp] theorem Q7:al3 (some (.ret t))=some t:=rfl
@[simp] theorem cH7:al3 (some (.nx Q))=some .non:=rfl
@[simp] theorem Q8:y9 (.int i) (.int j)=↥(i+j):=rfl
@[simp] theorem ay2:ay3 (.int i) (.int j)=↥(i-j):=rfl
@[simp] theorem aT1:O5 (.int i)=↥(-i):=rfl
@[simp] theorem af5:fLt (.int i) (.int j)=↑(decide (i<j)):=rfl
@[simp] theorem bc0:fLe (.int i) (.int j)=↑(decide (i<=j)):=rfl
@[simp] theorem aE3:fGt (.int i) (.int j)=↑(decide (j<i)):=rfl
@[simp] theorem ci6:fGe (.int i) (.int j)=↑(decide (j<=i)):=rfl
@[simp] theorem L9:fEq (.int i) (.int j)=↑(i==j):=rfl
@[simp] theorem bb9:fNe (.int i) (.int j)=↑(!(i==j)):=rfl
@[simp] theorem bp8:A7 [.tup x]=↥x.length:=rfl
@[simp] theorem Y8:A7 [.lst x]=↥x.length:=rfl
@[simp] theorem bX5:bC6 [.int i]=↥(if i<0 then -i else i):=rfl
theorem J6(h:big i=true)(H:big j=true):J9 (.int i) (.int j)=↥(i*j):=by simp[J9,h,H]
theorem aw5(h:sm j=true):J9 (.int i) (.int j)=↥(i*j):=by simp[J9,h]
theorem aT2(h:sm i=true):J9 (.int i) (.int j)=↥(i*j):=by simp[J9,h]
theorem aq7(h:0<j)(H:big j=true):J7 (.int i) (.int j)=↥(i/j):=by simp[J7,opN,h,H]
theorem K7(h:0<j):F8 (.int i) (.int j)=↥(i%j):=by simp[F8,opN,h]
@[simp] theorem aq6:af8 k x=(isK k x).bind λb=>↑b:=rfl
theorem am7(h:i<n):ixT n (i:Int)=some i:=by
 unfold ixT;rw[cW7 ⋯,cW7 ⋯];simp
theorem aS6{x:List T}{i:Nat}{t:T}(h:x[i]?=some t):M8 (.tup x) (.int (i:Int))=some t:=by
 have H:i<x.length:=by
  rcases cU3 i x.length with q|q
  .exact q
  .rw[cP9 q]at h;cases h
 show(ixT x.length i).bind _=_;rw[am7 H];exact h
theorem aS7{x:List T}{i:Nat}{t:T}(h:x[i]?=some t):M8 (.lst x) (.int (i:Int))=some t:=by
 have H:i<x.length:=by
  rcases cU3 i x.length with q|q
  .exact q
  .rw[cP9 q]at h;cases h
 show(ixT x.length i).bind _=_;rw[am7 H];exact h
@[simp] theorem ix0(x:T)(r:List T):M8 (.tup (x::r)) (.int 0)=some x:=aS6 (i:=0) ∅
@[simp] theorem ix1(x y:T)(r:List T):M8 (.tup (x::y::r)) (.int 1)=some y:=aS6 (i:=1) ∅
@[simp] theorem ix2(x y z:T)(r:List T):M8 (.tup (x::y::z::r)) (.int 2)=some z:=aS6 (i:=2) ∅
theorem bp4(a b:Int):Int.gcd b (a%b)=Int.gcd a b:=by
 have e:a=b*(a/b)+a%b:=(Int.mul_ediv_add_emod a b).symm;apply Nat.dvd_antisymm
 .have h:((Int.gcd b (a%b):Nat):Int)∣b:=Int.gcd_dvd_left ..;have H:((Int.gcd b (a%b):Nat):Int)∣a%b:=cM1 ..;have B:((Int.gcd b (a%b):Nat):Int)∣a:=by
   have :=Int.dvd_add (Int.dvd_mul_of_dvd_left (c:=a/b) h) H;rwa[Int.mul_ediv_add_emod]at this
  exact Int.natCast_dvd_natCast.mp (Int.dvd_coe_gcd B h)
 .have h:((Int.gcd a b:Nat):Int)∣a:=Int.gcd_dvd_left ..;have H:((Int.gcd a b:Nat):Int)∣b:=cM1 ..;have B:((Int.gcd a b:Nat):Int)∣a%b:=by
   rw[Int.emod_def];exact Int.dvd_sub h (Int.dvd_mul_of_dvd_left H)
  exact Int.natCast_dvd_natCast.mp (Int.dvd_coe_gcd H B)
noncomputable abbrev fr(n d:Int):T:=.tup [.int n,.int d]
noncomputable def nrm(n d:Int):T:=fr (n/Int.gcd n d) (d/Int.gcd n d)
theorem cc1:∀(k:Nat) (a b:Int) (z:Option T),0<=b->(b=0->0<=a)->b.natAbs<k->∃Z,K8 (bOf (g2 fNe d9 l8)) (m8 (o6 2 (g2 F8 d8 d9)) (m8 (o6 0 d9) (o6 1 l7))) k [↥a,↥b,z]=some (.nx [↥(Int.gcd a b),↥0,Z])
 |0,a,b,z,_,_,h=>⋯
 |k+1,a,b,z,E,C,h=>by
  by_cases B:b=0
  .subst B;refine⟨z,?_⟩;have :((Int.gcd a 0:Nat):Int)=a:=by rw[Int.gcd_zero_right];exact cN5 (C rfl)
   rw[this];simp[K8]
  .have H:0<b:=⋯
   have F:=cL9 a (show b≠0 by omega);have I:=cL8 a H;obtain⟨Z,i⟩:=cc1 k b (a%b) ↥(a%b) F (λ_=>E) ⋯;refine⟨Z,?_⟩;have e:Int.gcd b (a%b)=Int.gcd a b:=by
    exact bp4 a b
   rw[e]at i;rw[K8];erw[V7,D6,v9,G8,cI8,cJ6,jn,cI7,bb9,T4];have :(!(b==0))=true:=by simpa using B
   erw[this,if_true];erw[aZ7,ad2,D6,v9,cI8,cJ6,jn,cI7,K7 H,cJ7,cJ8];exact i
theorem cu7(H:0<b):Z1 [.int a,.int b]=↥(Int.gcd a b):=by
 obtain⟨z,h⟩:=cc1 (b.natAbs+2) a b none ⋯ ⋯ ⋯;rw[Z1,o7 2 _ _ _ rfl,ay8];rw[n8 (B:=[↥(Int.gcd a b),↥0,z])]
 .simp
 .exact h
theorem P5(h:x.natAbs<2^k)(H:k<=4000):big x=true:=by
 unfold big;exact cW4 (cU2 h (cV2 ∎ H))
theorem bb6(h:0<d):0<Int.gcd n d:=Int.gcd_pos_of_ne_zero_right n ⋯
theorem bM5(h:0<d):(Int.gcd n d)<=d.natAbs:=Int.gcd_le_natAbs_right n ⋯
theorem am6(h:0<d):0<d/(Int.gcd n d:Int)/\Int.gcd (n/(Int.gcd n d:Int)) (d/(Int.gcd n d:Int))=1/\(n/(Int.gcd n d:Int)).natAbs<=n.natAbs/\(d/(Int.gcd n d:Int)).natAbs<=d.natAbs:=by
 have H:=bb6 (n:=n) h;have B:(0:Int)<(Int.gcd n d:Int):=⋯
 refine⟨Int.ediv_pos_of_pos_of_dvd h ⋯ (cM1 ..),?_,?_,?_⟩
 .exact Int.gcd_ediv_gcd_ediv_gcd H
 .exact Int.natAbs_ediv_le_natAbs ..
 .exact Int.natAbs_ediv_le_natAbs ..
def Fz(k:Nat)(t:T):Prop:=∃n d:Int,t=fr n d/\0<d/\Int.gcd n d=1/\n.natAbs<2^k/\d.natAbs<2^k
theorem Fz.mono(h:Fz k t)(C:k<=l):Fz l t:=by
 obtain⟨n,d,e,H,B,E,F⟩:=h;have :=cV2 (n:=2) ∎ C;exact⟨n,d,e,H,B,⋯,⋯⟩
theorem aY8(h:0<d)(H:n.natAbs<2^k)(B:d.natAbs<2^k):Fz k (nrm n d):=by
 obtain⟨p,P,C,E⟩:=am6 (n:=n) h;exact⟨_,_,rfl,p,P,⋯,⋯⟩
theorem cp4(h:Int.gcd n d=1):nrm n d=fr n d:=by
 unfold nrm;rw[h];simp
theorem aZ0(H:0<d)(h:d.natAbs<2^k)(C:k<=4000):ae0 [.int n,.int d]=some (nrm n d):=by
 rw[ae0,o7 2 _ _ _ rfl,bh6];have g:=bb6 (n:=n) H;have b:big ((Int.gcd n d:Nat):Int)=true:=P5 (k:=k) (by have :=bM5 (n:=n) H;simp;omega) C;have B:(0:Int)<(Int.gcd n d:Int):=⋯
 rw[n8 (B:=[↥n,↥d,↥(Int.gcd n d)])]
 .simp only[y4,aw3,D0,F7,D6,v9,cI8,cJ6,jn,cI7,aq7 B b,Q7];rfl
 .simp only[ad2,N7,D0,F7,v9,A0,cI9,cJ0,cJ3,cJ4,cJ9,cJ5,cI8,cJ6,jn,cI7,cu7 H];rfl
theorem N2(h:x<2^k)(H:y<2^l):x*y<2^(k+l):=by
 rw[Nat.pow_add];exact Nat.mul_lt_mul'' h H
noncomputable def ah2:T->T->T
 |.tup [.int a,.int b],.tup [.int c,.int d]=>nrm (a*d+c*b) (b*d)
 |t,_=>t
theorem aU3(O:Fz k t)(P:Fz l u)(N:k+l+1<=4000):ab0 [t,u]=some (ah2 t u)/\Fz (k+l+1) (ah2 t u):=by
 obtain⟨a,b,rfl,L,_,F,H⟩:=O;obtain⟨c,d,rfl,M,_,I,E⟩:=P;have B:∀{x:Int},x.natAbs<2^k->big x=true:=λh=>P5 h ⋯
 have C:∀{x:Int},x.natAbs<2^l->big x=true:=λh=>P5 h ⋯
 have p:0<b*d:=cN1 L M;have Q:(a*d).natAbs<2^(k+l):=by rw[cN4];exact N2 F E
 have R:(c*b).natAbs<2^(k+l):=by rw[cN4,cU7];exact N2 H I
 have S:(b*d).natAbs<2^(k+l):=by rw[cN4];exact N2 H E
 have J:(a*d+c*b).natAbs<2^(k+l+1):=by
  have :=Int.natAbs_add_le (a*d) (c*b);rw[cV3];omega
 have e:(b*d).natAbs<2^(k+l+1):=by rw[cV3];omega
 refine⟨?_,aY8 p J e⟩;rw[ab0,o7 2 _ _ _ rfl,bP1];erw[y4,N7,D0,F7,D6,G8,v9,A0,fr,cI9,cJ0,cJ3,cJ4,cJ9,cJ5,cI8,cJ6,jn,cI7,ix0,ix1,J6 (B F) (C E),J6 (C I) (B H),J6 (B H) (C E),Q8,aZ0 p e N,Q7];rfl
theorem cu1(h:Fz k (fr n d)):Fz k (fr (-n) d):=by
 obtain⟨N,E,e,H,B,F,C⟩:=h;cases e;exact⟨_,_,rfl,H,by simpa[Int.gcd]using B,⋯,C⟩
noncomputable def bU3:T->T
 |.tup [.int a,.int b]=>fr (-a) b
 |t=>t
theorem cF7(E:Fz k t)(h:Fz l u)(C:k+l+1<=4000):an1 [t,u]=some (ah2 t (bU3 u))/\Fz (k+l+1) (ah2 t (bU3 u)):=by
 obtain⟨c,d,rfl,I,g,F,J⟩:=id h;have n:=cu1 h;obtain⟨H,B⟩:=aU3 E n C;refine⟨?_,B⟩;rw[an1,o7 2 _ _ _ rfl,by4];erw[y4,N7,D0,F7,D6,as0,aw3,G8,v9,A0,fr,cI9,cJ0,cJ3,cJ4,cJ9,cJ5,cI8,cJ6,jn,cI7,ix0,ix1,aT1,Q7];rw[show ab0 [t,T.tup [T.int (-c),T.int d]]=_ from H];rfl
theorem ca8:∀(k:Nat) (a b:Int) (x y:Option T),0<=b->0<=a->b.natAbs<k->K8 (bOf (g2 fGt n9 l8)) (bl4 2 3 n9 (g2 F8 l7 n9)) k [x,y,↥a,↥b]=some (.nx [x,y,↥(Int.gcd a b),↥0])
 |0,a,b,x,y,_,_,h=>⋯
 |k+1,a,b,x,y,C,B,h=>by
  rw[K8];erw[V7,D6,v9,G8,cI8,cJ6,jn,cI7,aE3,T4];by_cases z:b=0
  .subst z;have :((Int.gcd a 0:Nat):Int)=a:=by rw[Int.gcd_zero_right];exact cN5 B
   rw[this];simp
  .have H:0<b:=⋯
   have E:=cL9 a (show b≠0 by omega);have F:=cL8 a H;have i:=ca8 k b (a%b) x y E C ⋯;rw[bp4]at i;erw[cW4 H,if_true,bt6,D6,v9,cI8,cJ6,jn,cI7,K7 H,cJ7,cJ8];exact i
theorem bZ3(H:0<d)(h:d.natAbs<2^k)(C:k<=4000):az0 [.int n,.int d]=some (nrm n d):=by
 have g:=bb6 (n:=n) H;have b:big ((Int.gcd n d:Nat):Int)=true:=P5 (k:=k) (by have :=bM5 (n:=n) H;simp;omega) C;have B:(0:Int)<(Int.gcd n d:Int):=⋯
 have e:Int.gcd (if n<0 then -n else n) d=Int.gcd n d:=by
  split
  .simp[Int.gcd]
  .rfl
 rw[az0,o7 2 _ _ _ rfl,br1];rw[n8 (B:=[↥n,↥d,↥(if n<0 then -n else n),↥d])]
 .rw[n8 (B:=[↥n,↥d,↥(Int.gcd n d),↥0])]
  .simp only[y4,aw3,D0,F7,D6,v9,cI8,cJ6,jn,cI7,aq7 B b,Q7];rfl
  .have :=ca8 (d.natAbs+2) (if n<0 then -n else n) d ↥n ↥d ⋯ (by split<;>omega) ⋯;rw[e]at this;exact this
 .simp only[bt6,N7,D0,F7,v9,A0,cI9,cJ0,cJ3,cJ4,cJ9,cJ5,cI8,cJ6,jn,cI7,bX5];rfl
theorem aY9(N:Fz k t)(O:Fz l u)(M:k+l+1<=4000):W3 [t,u]=some (ah2 t u):=by
 obtain⟨a,b,rfl,I,_,F,H⟩:=N;obtain⟨c,d,rfl,L,_,J,E⟩:=O;have B:∀{x:Int},x.natAbs<2^k->big x=true:=λh=>P5 h ⋯
 have C:∀{x:Int},x.natAbs<2^l->big x=true:=λh=>P5 h ⋯
 have p:0<b*d:=cN1 I L;have P:(b*d).natAbs<2^(k+l):=by rw[cN4];exact N2 H E
 have e:(b*d).natAbs<2^(k+l+1):=by rw[cV3];omega
 rw[W3,o7 2 _ _ _ rfl,br0];erw[y4,N7,D0,F7,D6,G8,v9,A0,fr,cI9,cJ0,cJ3,cJ4,cJ9,cJ5,cI8,cJ6,jn,cI7,ix0,ix1,J6 (B F) (C E),J6 (C J) (B H),J6 (B H) (C E),Q8,bZ3 p e M,Q7];rfl
theorem aM6(z:Int)(h:z=0\/z=1\/z= -1):Fz (k+1) (fr z 1):=by
 have :(1:Nat)<=2^k:=Nat.one_le_two_pow;refine⟨z,1,rfl,⋯,∅,?_,?_⟩
 .rw[cV3];omega
 .rw[cV3];simp;omega
noncomputable abbrev aA8(u v r:Int):T:=.tup [.int u,.int v,.int r]
noncomputable def z7(w:Int×Int×Int):T:=aA8 w.1 w.2.1 w.2.2
theorem ay6:∀(X:List T),(∀x∈X,∃Q,st x E=some Q/\e Q=some (f x))->aa6 E st u5 e X=some (X.map f)
 |[],_=>rfl
 |x::X,h=>by
  obtain⟨Q,H,B⟩:=h x cS2;have i:=ay6 X λy C=>h y (cS1 _ C)
  erw[aa6,H,cI7,bc5,if_true,B,i,cI9]
theorem bg5(f:T->Bool):∀X:List T,T7 (X.map λx=>.bl (f x))=some (X.map f)
 |[]=>rfl
 |x::X=>by erw[cI9,T7,bg5 f X,cI7]
theorem all_map(f:T->Bool)(X:List T):af9 [.lst (X.map λx=>.bl (f x))]=↑(X.all f):=by
 erw[af9,bg5,cI7];congr 2;induction X with
 |nil=>rfl
 |cons x X i=>erw[cI9,cO1,id,i]
theorem aq8(f:T->Bool)(H:i Q=some X)(l:X.length<=lim)(h:∀x∈X,∃B,st x (Z6 n a Q)=some B/\e B=↑(f x)):
  gN af9 [o0 i n a st u5 e] Q=↑(X.all f):=by
 erw[N7,D0,F7,o0,H,cI7,cW7 l,ay6 (f:=λx=>.bl (f x)) X h,all_map]
noncomputable def plain:T->Bool
 |.ref _=>false
 |.scr _=>false
 |.obj _ _=>false
 |_=>true
noncomputable def an3:T->Bool
 |.int _=>true
 |_=>false
theorem bZ1(h:plain t=true):aj7 [t]=↑(an3 t):=by
 rw[aj7,o7 1 _ _ _ rfl,aY2];cases t<;>first |(cases h;done)|rfl
theorem cc7(h:plain t=true):ac4 [t]=↑(match t with |.tup x=>x.length==3|_=>false):=by
 rw[ac4,o7 1 _ _ _ rfl,aQ1];cases t<;>first |(cases h;done)|skip
 case tup x=>
  erw[y4,Y1,V7,as0,D6,N7,D0,F7,v9,G8,A0,cI9,cJ0,cJ3,cJ4,cJ9,cJ5,cJ6,jn,cI7,aq6,isK,T4,if_true,bp8,L9,Q7];have e:(((x.length:Nat):Int)==3)=(x.length==3):=by
   by_cases e:x.length=3
   .rw[e];rfl
   .have E:¬(((x.length:Nat):Int)=3):=⋯
    rw[cI6 e,cI6 E]
  rw[e]
 all_goals rfl
theorem bj6(h:plain t=true):ac3 [t,.int lo,.int H]=↑(match t with |.int i=>decide (lo<=i)&&decide (i<=H)|_=>false):=by
 rw[ac3,o7 3 _ _ _ rfl,aQ0];erw[y4,Y1,V7,N7,D0,F7,v9,A0,cI9,cJ0,cJ3,cJ4,cJ9,cJ5,cJ6,cI8,jn,cI7,bZ1 h,T4];cases t<;>first |rfl|skip
 case int i=>
  erw[an3,if_true,bf3,v9,cJ6,cI8,jn,cI7,bc0,T4];cases decide (lo<=i)<;>rfl
noncomputable def ar4(p lo h u v r:Int):Bool:=decide (0<=u)&&(decide (u<=p-1)&&(decide (0<=v)&&(decide (v<=p-1)&&(!(u==v)&&(decide (lo<=r)&&decide (r<=h))))))
theorem cA3:X5 [aA8 u v r,.int p,.int lo,.int h]=↑(ar4 p lo h u v r):=by
 rw[X5,o7 4 _ _ _ rfl,bh7];simp only[y4,Y1,V7,N7,D0,F7,D6,G8,v9,A0,aA8,cI9,cJ0,cJ3,cJ4,cJ9,cJ5,cJ6,cI8,jn,cI7,cc7 (t:=.tup [.int u,.int v,.int r]) rfl,T4,ix0,ix1,ix2,ay2,
  bj6 (t:=.int u) rfl,bj6 (t:=.int v) rfl,bj6 (t:=.int r) rfl,bb9]
 unfold ar4;cases decide (0<=u)<;>cases decide (u<=p-1)<;>cases decide (0<=v)<;>cases decide (v<=p-1)<;>cases(u==v)<;>rfl
theorem bk1:∀X Y:List T,(U4 X Y).length<=X.length
 |[],_=>by simp[U4]
 |_::_,[]=>by simp[U4]
 |x::X,y::Y=>by erw[U4,cJ3];have :=bk1 X Y;omega
theorem bo0:∀{X Y:List T},t∈U4 X Y->∃x∈X,∃y∈Y,t=.tup [x,y]
 |[],_,h=>by simp[U4]at h
 |_::_,[],h=>by simp[U4]at h
 |x::X,y::Y,h=>by
  rcases cI4 h with h|h
  .exact⟨x,cS2,y,cS2,h⟩
  .obtain⟨a,H,b,B,e⟩:=bo0 h;exact⟨a,cS1 _ H,b,cS1 _ B,e⟩
def bJ6:T->Bool
 |.tup [.tup (.int a::.int b::_),.tup (.int c::.int d::_)]=>at8 [a,b] [c,d]
 |_=>false
def ak0:List (Int×Int×Int)->Bool
 |a::b::r=>at8 [a.1,a.2.1] [b.1,b.2.1]&&ak0 (b::r)
 |_=>true
theorem be5:∀w:List (Int×Int×Int),(U4 (w.map z7) ((w.map z7).drop 1)).all bJ6=ak0 w
 |[]=>rfl
 |[_]=>rfl
 |a::b::r=>by
  have i:=be5 (b::r);erw[cI9,List.drop_succ_cons,cP0]at i⊢;rw[U4,cO1,i];rfl
theorem cH4(l:w.length<=lim):ad8 [.lst (w.map z7)]=↑(ak0 w):=by
 rw[ad8,o7 1 _ _ _ rfl,aM4,y4];rw[aq8 (X:=U4 (w.map z7) ((w.map z7).drop 1)) bJ6 rfl (cU0 (bk1 _ _) (by simpa using l))]
 .rw[be5];rfl
 .intro x B;obtain⟨a,h,b,H,rfl⟩:=bo0 B;obtain⟨W,_,rfl⟩:=cI3 h;obtain⟨C,_,rfl⟩:=cI3 (cS5 H);exact⟨_,rfl,rfl⟩
theorem cH3(f:T->Bool)(h:∀t∈B,X5 [t,.int p,.int 1,.int 20]=↑(f t))(l:B.length<=lim):
  ab3 [.lst B,.int p]=if B.length<=10 then(if B.all f then ad8 [.lst B]else ↑false)else ↑false:=by
 have k:=aq8 (Q:=[⇑B,↥p]) (i:=itL d8) (n:=1) (a:=[1]) (st:=stN 0) (e:=gN X5 [d8,d9,j4,ak3]) f rfl l (λx C=>⟨[some x,↥p],rfl,h x C⟩);rw[ab3,o7 2 _ _ _ rfl,aY7,y4];have s:A0 2 [.lst B,.int p]=[⇑B,↥p]:=rfl;rw[s];erw[Y1,V7,k];erw[as0,D6,N7,D0,F7,G8,v9,cJ6,cI8,jn,cI7,aq6,isK,T4,if_true,Y8,bc0];by_cases H:B.length<=10
 .have :((B.length:Nat):Int)<=10:=⋯
  erw[cW4 this,if_true,cW7 H];cases B.all f with
  |false=>rfl
  |true=>
   erw[if_true];cases ad8 [.lst B]<;>rfl
 .have :¬((B.length:Nat):Int)<=10:=⋯
  erw[cW3 this,cW6 H];rfl
theorem cu8(f:T->Bool)(h:∀t∈B,X5 [t,.int p,.int 1,.int 20]=↑(f t))(H:B.length<=lim):
  ac5 [.lst B,.int p]=↑(decide (1<=B.length)&&(decide (B.length<=3)&&B.all f)):=by
 have k:=aq8 (Q:=[⇑B,↥p]) (i:=itL d8) (n:=1) (a:=[1]) (st:=stN 0) (e:=gN X5 [d8,d9,j4,ak3]) f rfl H (λx C=>⟨[some x,↥p],rfl,h x C⟩);rw[ac5,o7 2 _ _ _ rfl,aQ4,y4];have s:A0 2 [.lst B,.int p]=[⇑B,↥p]:=rfl;rw[s];erw[Y1,V7,k];erw[bf3,as0,D6,N7,D0,F7,G8,v9,cJ6,cI8,jn,cI7,aq6,isK,T4,if_true,Y8,bc0];have e:decide ((1:Int)<=((B.length:Nat):Int))=decide (1<=B.length):=by
  by_cases q:1<=B.length
  .rw[cW4 q,cW4 ⋯]
  .rw[cW3 q,cW3 ⋯]
 have E:decide (((B.length:Nat):Int)<=3)=decide (B.length<=3):=by
  by_cases q:B.length<=3
  .rw[cW4 q,cW4 ⋯]
  .rw[cW3 q,cW3 ⋯]
 rw[e,E];cases decide (1<=B.length)<;>cases decide (B.length<=3)<;>cases B.all f<;>rfl
theorem bD6:ae9 [.tup [.int p,.lst t,.lst u]]=if 2<=p/\p<=6 then((ab3 [.lst t,.int p]).bind toB).bind λc=>if c then ac5 [.lst u,.int p]else ↑false else ↑false:=by
 rw[ae9,o7 1 _ _ _ rfl,br8,y4];simp only[Y1,V7,N7,D0,F7,D6,G8,v9,A0,cI9,cJ0,cJ3,cJ4,cJ9,cJ5,cJ6,cI8,jn,cI7,cc7 (t:=.tup [.int p,.lst t,.lst u]) rfl,T4,ix0,ix1,ix2,bj6 (t:=.int p) rfl];erw[cV6,Nat.reduceAdd,cW2,if_true];by_cases h:2<=p/\p<=6
 .rw[cW7 h];erw[cW4 h.1,cW4 h.2,Bool.and_self,if_true];cases((ab3 [.lst t,.int p]).bind toB)with
  |none=>rfl
  |some c=>
   cases c with
   |false=>rfl
   |true=>
    erw[cI7,if_true];cases ac5 [.lst u,.int p]<;>rfl
 .rw[cW6 h];have :(decide (2<=p)&&decide (p<=6))=false:=by
   rw[Bool.and_eq_false_iff];by_cases H:2<=p
   .exact .inr (cW3 λz=>h ⟨H,z⟩)
   .exact .inl (cW3 H)
  erw[this];rfl
noncomputable def U8(p:Int)(w:Int×Int×Int):Bool:=ar4 p 1 20 w.1 w.2.1 w.2.2
structure K0(p:Int)(ws vs:List (Int×Int×Int)):Prop where
 p2:2<=p
 p5:p<=5
 wl:ws.length<=8
 wt:∀w∈ws,U8 p w=true
 wr:ak0 ws=true
 v1:1<=vs.length
 v3:vs.length<=3
 vt:∀w∈vs,U8 p w=true
noncomputable abbrev k7(p:Int)(w v:List (Int×Int×Int)):T:=.tup [.int p,.lst (w.map z7),.lst (v.map z7)]
noncomputable def aW6(p:Int):T->Bool
 |.tup [.int u,.int v,.int r]=>ar4 p 1 20 u v r
 |_=>false
theorem bh1{p:Int}{W:List (Int×Int×Int)}(h:∀w∈W,U8 p w=true):(W.map z7).all (aW6 p)=true:=by
 rw[cO3,cO2];exact h
theorem bF4(W:List (Int×Int×Int)):∀t∈W.map z7,X5 [t,.int p,.int 1,.int 20]=↑(aW6 p t):=λt h=>by
 obtain⟨w,_,rfl⟩:=cI3 h;exact cA3
theorem aJ7(h:n<=k)(H:k<=1000000:=by decide):n<=lim:=cU0 h H
theorem bs9{p:Int}{W:List (Int×Int×Int)}(h:W.length<=10)(t:∀w∈W,U8 p w=true)(H:ak0 W=true):ab3 [.lst (W.map z7),.int p]=↑true:=by
 rw[cH3 (aW6 p) (bF4 W) (by simpa using aJ7 h),cW7 (by simpa using h),bh1 t,cW7 rfl,cH4 (aJ7 h),H]
theorem bQ1{p:Int}{v:List (Int×Int×Int)}(H:1<=v.length)(h:v.length<=3)(t:∀w∈v,U8 p w=true):ac5 [.lst (v.map z7),.int p]=↑true:=by
 rw[cu8 (aW6 p) (bF4 v) (by simpa using aJ7 h),bh1 t];have a:decide (1<=(v.map z7).length)=true:=cW4 (by simpa using H);have b:decide ((v.map z7).length<=3)=true:=cW4 (by simpa using h);rw[a,b];rfl
theorem aD5{p:Int}{w v:List (Int×Int×Int)}(h:K0 p w v):ae9 [k7 p w v]=↑true:=by
 rw[bD6,cW7 ⟨h.p2,by have :=h.p5;omega⟩,bs9 (by have :=h.wl;omega) h.wt h.wr];erw[cI7,T4,if_true];exact bQ1 h.v1 h.v3 h.vt
noncomputable def frB:T->Bool
 |.tup [.int n,.int d]=>decide (0<d)&&(Int.gcd n d==1)
 |_=>false
noncomputable def amB:T->Bool
 |.tup [.int n,.int d]=>(decide (0<d)&&(Int.gcd n d==1))&&decide (0<=n)
 |_=>false
theorem cu5(n d:Int):ak9 [fr n d]=↑(frB (fr n d)):=by
 rw[ak9,o7 1 _ _ _ rfl,aJ2,y4];erw[Y1,V7,N7,D0,F7,as0,D6,G8,v9,A0,fr,cI9,cJ0,cJ3,cJ4,cJ9,cJ5,cJ6,cI8,jn,cI7,aq6,isK,T4,if_true,bp8,L9,ix0,ix1,bZ1 (t:=.int n) rfl,bZ1 (t:=.int d) rfl,an3,aE3];by_cases h:0<d
 .simp only[cW4 h,if_true,cu7 h,cI7,L9,frB,cK9];have e:((((Int.gcd n d:Nat):Int))==1)=(Int.gcd n d==1):=by
   by_cases q:Int.gcd n d=1
   .rw[q];rfl
   .rw[cI6 q,cI6 ⋯]
  rw[e];rfl
 .simp only[cW3 h,frB,cK4];rfl
theorem bP8:X6 [fr n d]=↑(amB (fr n d)):=by
 rw[X6,o7 1 _ _ _ rfl,aQ2,y4];erw[Y1,V7,N7,D0,F7,D6,G8,v9,A0,cI9,cJ0,cJ3,cJ4,cJ9,cJ5,cJ6,jn,cI7,cu5,T4,ix0,ci6];rw[show amB (fr n d)=(frB (fr n d)&&decide (0<=n))from rfl];cases frB (fr n d)<;>rfl
theorem bd8{B:List T}{n:Nat}(f:T->Bool)(h:∀t∈B,X6 [t]=↑(f t))(H:B.length<=lim):N6 [.lst B,.int n]=↑(decide (B.length=n)&&B.all f):=by
 have k:=aq8 (Q:=[⇑B,↥n]) (i:=itL d8) (n:=1) (a:=[]) (st:=stN 0) (e:=gN X6 [d8]) f rfl H (λx C=>⟨[some x],rfl,h x C⟩);rw[N6,o7 2 _ _ _ rfl,aU1,y4];have s:A0 2 [.lst B,.int n]=[⇑B,↥n]:=rfl;rw[s];erw[Y1,V7,k];erw[as0,D6,N7,D0,F7,G8,v9,cJ6,cI8,jn,cI7,aq6,isK,T4,if_true,Y8,L9];by_cases e:B.length=n
 .have :(((B.length:Nat):Int)==((n:Nat):Int))=true:=by rw[e];exact cW2 _
  erw[this,cW4 e,if_true,cK9,cI7,Q7]
 .have :(((B.length:Nat):Int)==((n:Nat):Int))=false:=cI6 ⋯;erw[this,cW3 e,cK4];rfl
theorem bZ4(f:T->Bool)(h:∀t∈B,N6 [t,.int w.length]=↑(f t))(H:B.length<=lim):R7 [.tup [p,.lst w,.lst v],.lst B]=↑(decide (B.length=v.length)&&B.all f):=by
 have k:=aq8 (Q:=[some (.tup [p,.lst w,.lst v]),⇑B]) (i:=itL d9) (n:=1) (a:=[0]) (st:=stN 0) (e:=gN N6 [d8,gN A7 [e8 d9 j4]]) f rfl H (λx C=>⟨[some x,some (.tup [p,.lst w,.lst v])],rfl,by
  erw[N7,D0,F7,D6,G8,v9,cJ6,cI8,jn,cI7,ix1,Y8];exact h x C⟩)
 rw[R7,o7 2 _ _ _ rfl,aA4,y4];have s:A0 2 [.tup [p,.lst w,.lst v],.lst B]=[some (.tup [p,.lst w,.lst v]),⇑B]:=rfl;rw[s];erw[Y1,V7,k];erw[as0,D6,N7,D0,F7,G8,v9,cJ6,cI8,jn,cI7,aq6,isK,T4,if_true,Y8,L9,ix2];by_cases e:B.length=v.length
 .have :(((B.length:Nat):Int)==((v.length:Nat):Int))=true:=by rw[e];exact cW2 _
  erw[this,cW4 e,if_true,cK9,cI7,Q7]
 .have :(((B.length:Nat):Int)==((v.length:Nat):Int))=false:=cI6 ⋯;erw[this,cW3 e,cK4];rfl
theorem bs3:R7 [.tup [p,.lst w,.lst v],.non]=↑false:=by
 rw[R7,o7 2 _ _ _ rfl,aA4,y4];rfl
theorem bs4(h:t.length≠v.length):R7 [.tup [p,.lst w,.lst v],.lst t]=↑false:=by
 rw[R7,o7 2 _ _ _ rfl,aA4,y4];have s:A0 2 [.tup [p,.lst w,.lst v],.lst t]=[some (.tup [p,.lst w,.lst v]),⇑t]:=rfl;rw[s];erw[Y1,V7,as0,D6,N7,D0,F7,G8,v9,cJ6,cI8,jn,cI7,aq6,isK,T4,if_true,Y8,L9,ix2];have :(((t.length:Nat):Int)==((v.length:Nat):Int))=false:=cI6 ⋯;erw[this];rfl
def Am(k:Nat)(t:T):Prop:=∃n d:Int,t=fr n d/\0<d/\Int.gcd n d=1/\n.natAbs<2^k/\d.natAbs<2^k/\0<=n
theorem Am.fz(h:Am k t):Fz k t:=by
 obtain⟨n,d,e,H,B,C,E,_⟩:=h;exact⟨n,d,e,H,B,C,E⟩
theorem Am.yes(h:Am k t):X6 [t]=↑true:=by
 obtain⟨n,d,rfl,H,B,E,F,C⟩:=h;rw[bP8];simp[amB,fr,H,B,C]
theorem cv5(h:0<d)(H:0<=n)(B:n.natAbs<2^k)(C:d.natAbs<2^k):Am k (nrm n d):=by
 obtain⟨p,P,E,F⟩:=am6 (n:=n) h;exact⟨_,_,rfl,p,P,⋯,⋯,Int.ediv_nonneg H ⋯⟩
theorem aB4(c:T->Bool)(f:T->T):∀(X:List T),(∀x∈X,∃Q,st x F=some Q/\g Q=some (c x)/\e Q=some (f x))->aa6 F st g e X=some ((X.filter c).map f)
 |[],_=>rfl
 |x::X,h=>by
  obtain⟨Q,H,B,C⟩:=h x cS2;have i:=aB4 c f X λy E=>h y (cS1 _ E)
  erw[aa6,H,cI7,B,C,i,cP2];cases c x<;>simp
noncomputable def isZ:T->Bool
 |.tup [.int n,.int d]=>n==0&&d==1
 |_=>false
theorem bj5(a b c d:Int):eqD 8 (fr a b) (fr c d)=some ((a==c)&&(b==d)):=by
 show(ac9 (eqD 7) [.int a,.int b] [.int c,.int d]).bind _=_;erw[ac9,eqD,cI7];simp
theorem bx4(h:Fz k t):fEq t (fr 0 1)=↑(isZ t)/\fNe t (fr 0 1)=↑(!isZ t):=by
 obtain⟨n,d,rfl,_⟩:=h;exact⟨by erw[fEq,bj5,cI7];rfl,by erw[fNe,bj5,cI7];rfl⟩
noncomputable def ba6(u v:Int):T->Bool
 |.int i=> !([u,v].contains i)
 |_=>false
theorem aW2(h:t∈O2 0 n):∃i:Nat,i<n/\t=.int (i:Int):=by
 unfold O2 at h
 (obtain⟨i,H,rfl⟩:=cI3 h);exact⟨i,cI5 H,∅⟩
theorem aG0(lo:Int)(n:Nat):(O2 lo n).length=n:=by simp[O2]
theorem bF0(h:U8 p w=true):w.1≠w.2.1:=by
 erw[U8,ar4,cK2,cW5]at h;have :=h.2.2.2.2.1;simpa using this
structure cI1(k:Nat)(ws:List (Int×Int×Int))(r:List T):Prop where
 ne:∀w∈ws,w.1≠w.2.1
 fz:∀q∈r,Fz k q
 bits:1+ws.length*(k+1)<=3000
 kb:k<=3000
noncomputable def ag9(t:List T)(a:T):T:=t.foldl ah2 a
theorem bF5(k:Nat):∀(t:List T) (l:Nat) (a:T) (x y:Option T),(∀q∈t,Fz k q)->Fz l a->l+t.length*(k+1)<=3000->
  ∃Y,N4 (stN 2) (o6 1 (gN ab0 [d9,l7])) t [x,some a,y]=some (.nx [x,some (ag9 t a),Y])/\Fz (l+t.length*(k+1)) (ag9 t a)
 |[],l,a,x,y,_,h,_=>⟨y,rfl,by simpa[ag9]using h⟩
 |q::t,l,a,x,y,H,h,E=>by
  rw[cJ3,cV5]at E;obtain⟨p,P⟩:=aU3 h (H q cS2) ⋯;obtain⟨Y,B,C⟩:=bF5 k t (l+k+1) (ah2 a q) x (some q) (λz F=>H z (cS1 _ F)) P ⋯;refine⟨Y,?_,C.mono (by rw[cJ3,cV5];omega)⟩;rw[N4];erw[bG1,cI7,ad2,N7,D0,F7,v9,cJ6,cI8,jn,cJ7,cJ8,p];exact B
theorem cc8(h:∀q∈t,Fz k q)(l:1+t.length*(k+1)<=3000):Y3 [.lst t]=some (ag9 t (fr 0 1))/\Fz (1+t.length*(k+1)) (ag9 t (fr 0 1)):=by
 obtain⟨y,H,B⟩:=bF5 k t 1 (fr 0 1) ⇑t none h (aM6 0 (.inl rfl)) l;refine⟨?_,B⟩;rw[Y3,o7 1 _ _ _ rfl,aO5];rw[n8 (B:=[⇑t,some (fr 0 1),none]) rfl];rw[n8 (B:=[⇑t,some (ag9 t (fr 0 1)),y])]
 .rfl
 .simp only[O6,Y7,v9,cJ6,jn,cI7,bt2];exact H
theorem bt0(k:Nat):∀(t:List T) (l:Nat) (a:T) (x y:Option T),(∀q∈t,Fz k q)->Fz l a->l+t.length*(k+1)<=3000->
  ∃Y,N4 (stN 2) (o6 1 (gN W3 [d9,l7])) t [x,some a,y]=some (.nx [x,some (ag9 t a),Y])
 |[],l,a,x,y,_,h,_=>⟨y,rfl⟩
 |q::t,l,a,x,y,H,h,C=>by
  rw[cJ3,cV5]at C;obtain⟨F,p⟩:=aU3 h (H q cS2) ⋯;have P:=aY9 h (H q cS2) ⋯;obtain⟨Y,B⟩:=bt0 k t (l+k+1) (ah2 a q) x (some q) (λz E=>H z (cS1 _ E)) p ⋯;refine⟨Y,?_⟩;rw[N4];erw[bG1,cI7,ad2,N7,D0,F7,v9,cJ6,cI8,jn,cJ7,cJ8,P];exact B
theorem bP7(h:∀q∈t,Fz k q)(l:1+t.length*(k+1)<=3000):V2 [.lst t]=some (ag9 t (fr 0 1)):=by
 obtain⟨y,H⟩:=bt0 k t 1 (fr 0 1) ⇑t none h (aM6 0 (.inl rfl)) l;rw[V2,o7 1 _ _ _ rfl,bd3];rw[n8 (B:=[⇑t,some (fr 0 1),none]) rfl];rw[n8 (B:=[⇑t,some (ag9 t (fr 0 1)),y])]
 .rfl
 .simp only[O6,Y7,v9,cJ6,jn,cI7,bt2];exact H
noncomputable def bA5(t:T)(r:Int):Bool:=match t with
 |.tup [.int n,.int d]=>decide (r*d<n*1)
 |_=>false
theorem cu4(h:Fz k t)(C:k<=3000)(E:0<=r/\r<=1000):R6 [t,fr r 1]=↑(bA5 t r)/\L8 [fr r 1,t]=↑(bA5 t r):=by
 obtain⟨n,d,rfl,_,_,H,B⟩:=h;have b1:sm 1=true:=rfl;have b:sm r=true:=by erw[sm,cK2,cW5];omega
 constructor
 .rw[R6,o7 2 _ _ _ rfl,aM1];erw[y4,D6,G8,v9,A0,fr,cI9,cJ0,cJ3,cJ4,cJ9,cJ5,cI8,cJ6,jn,cI7,ix0,ix1,aw5 b1,aT2 b,aE3,Q7];rfl
 .rw[L8,o7 2 _ _ _ rfl,aL7];erw[y4,D6,G8,v9,A0,fr,cI9,cJ0,cJ3,cJ4,cJ9,cJ5,cI8,cJ6,jn,cI7,ix0,ix1,aw5 b1,aT2 b,af5,Q7];rfl
theorem aA1:∀(x:List T) (n:Nat),(S7 n x).length=x.length
 |[],_=>rfl
 |_::x,n=>by simp[S7,aA1 x (n+1)]
structure cI2(k:Nat)(ws:List (Int×Int×Int))(fs:List (List T)):Prop where
 len:fs.length<=3
 fz:∀r∈fs,∀q∈r,Fz k q
 col:∀r∈fs,r.length=ws.length
 k500:k<=500
 bits:1+ws.length*(k+1)<=3000
 ne:∀w∈ws,w.1≠w.2.1
 rm:∀w∈ws,0<=w.2.2/\w.2.2<=1000
 wl:ws.length<=10
def aM3:GS:=t5 (o0 (itZ (e8 d8 r9) d9) 2 [0] (st2 0 1) u5 (gN at6 [e8 l7 j4,d9,e8 d8 j4]))
theorem aj5(h:0<j)(H:j<1000000):J7 (.int i) (.int j)=↥(i/j):=aq7 h (P5 (k:=20) ⋯ ∎)
theorem bD8(c k:Int):∃d:Int,U3 [.int c,.int k]=↥d/\0<=d:=by
 have s:sm 6364136223846793005=true:=rfl;have S:sm 1442695040888963407=true:=rfl;have p:(0:Int)<340282366920938463463374607431768211507:=∎
 have P:(0:Int)<340282366920938463463374607431768211297:=∎
 have M:=cL9 (c*6364136223846793005+(k+1)*1442695040888963407) (show(340282366920938463463374607431768211507:Int)≠0 by decide);have m1:=cL8 (c*6364136223846793005+(k+1)*1442695040888963407) p;have e:(2:Nat)^129=680564733841876926926749214863536422912:=∎
 generalize H:(c*6364136223846793005+(k+1)*1442695040888963407)%340282366920938463463374607431768211507=z at M m1;have h:big z=true:=P5 (k:=129) ⋯ ∎;refine⟨z*z%340282366920938463463374607431768211297,?_,cL9 _ (show(340282366920938463463374607431768211297:Int)≠0 by decide)⟩;rw[U3,o7 2 _ _ _ rfl,bh5];rw[n8 (B:=[↥c,↥k,↥z])]
 .simp only[y4,D6,G8,v9,cJ6,cI8,jn,cI7,J6 h h,K7 P,Q7]
 .rw[<-H];erw[ad2,D6,G8,v9,A0,cI9,cJ0,cJ3,cJ4,cJ9,cJ5,cJ6,cI8,jn,cI7,aw5 s,aw5 S,Q8,K7 p];rfl
theorem am8(I:Nat->A3->Prop):∀(X:List T) (n:Nat) (Q:A3),I n Q->(∀i x,X[i]?=some x->∀Q,I (n+i) Q->∃E C,st x Q=some E/\b E=some (.nx C)/\I (n+i+1) C)->
  ∃B,N4 st b X Q=some (.nx B)/\I (n+X.length) B
 |[],n,Q,H,_=>⟨Q,rfl,H⟩
 |x::X,n,Q,H,h=>by
  obtain⟨E,C,F,J,L⟩:=h 0 x ∅ Q H;obtain⟨B,k,O⟩:=am8 I X (n+1) C L λi y N Q M=>by
   have :=h (i+1) y (by simpa using N) Q (by rw[show n+(i+1)=n+1+i by omega];exact M);rw[show n+(i+1)+1=n+1+i+1 by omega]at this;exact this
  refine⟨B,?_,by rw[cJ3,show n+(X.length+1)=n+1+X.length by omega];exact O⟩;rw[N4];erw[F,cI7,J];exact k
theorem bz3(h:(O2 0 n)[i]?=some x):i<n/\x=.int (i:Int):=by
 unfold O2 at h;rw[cQ0]at h;cases e:(List.range n)[i]? with
 |none=>rw[e]at h;cases h
 |some j=>
  rw[e]at h;obtain⟨H,B⟩:=List.getElem?_eq_some_iff.mp e;simp at H B;subst B;cases h;exact⟨H,∅⟩
theorem aH5(I:Nat->A3->Prop)(Q:A3)(F:I 0 Q)(h:∀i,i<n->∀Q,I i Q->∃C,b (Q.set k ↥(i:Int))=some (.nx C)/\I (i+1) C):
  ∃B,N4 (stN k) b (O2 0 n) Q=some (.nx B)/\I n B:=by
 obtain⟨B,L,E⟩:=am8 (st:=stN k) (b:=b) I (O2 0 n) 0 Q F λi x J Q H=>by
  obtain⟨l,rfl⟩:=bz3 J;rw[cV6]at H⊢;obtain⟨C,M,N⟩:=h i l Q H;exact⟨_,C,rfl,M,N⟩
 rw[aG0,cV6]at E;exact⟨B,L,E⟩
theorem aU8:∀{W:List (Int×Int×Int)},ak0 W=true->(∀w∈W,at8 [w.1,w.2.1] [x.1,x.2.1]=true)->ak0 (W++[x])=true
 |[],_,_=>rfl
 |[a],_,h=>by
  show(at8 [a.1,a.2.1] [x.1,x.2.1]&&true)=true;rw[h a cS2];rfl
 |a::b::r,B,h=>by
  have H:(at8 [a.1,a.2.1] [b.1,b.2.1]&&ak0 (b::r))=true:=B;rw[cK2]at H;have i:=aU8 (W:=b::r) H.2 λw C=>h w (cS1 _ C)
  show(at8 [a.1,a.2.1] [b.1,b.2.1]&&ak0 (b::r++[x]))=true;rw[H.1,i];rfl
structure aI8(p:Int)(one other:Int)(ws:List (Int×Int×Int)):Prop where
 len:ws.length<=8
 tr:∀w∈ws,U8 p w=true
 ri:ak0 ws=true
 lt:∀w∈ws,w.1<one\/(w.1=one/\w.2.1<other)
theorem cD1(h:a<c\/(a=c/\b<d)):at8 [a,b] [c,d]=true:=by
 unfold at8;rcases h with h|⟨h,H⟩
 .rw[cW6 ⋯];exact cW4 h
 .rw[cW7 h];unfold at8;rw[cW6 ⋯];exact cW4 H
theorem aI8.next(h:aI8 P o O s):aI8 P o (O+1) s:=⟨h.len,h.tr,h.ri,λW H=>by have :=h.lt W H;omega⟩
theorem aI8.snoc(h:aI8 P O o s)(l:s.length<8)(B:0<=O/\O<P)(C:0<=o/\o<P)(e:O≠o)(H:1<=r/\r<=20):aI8 P O (o+1) (s++[(O,o,r)]):=by
 refine⟨by simp;omega,λW hw=> ?_,aU8 h.ri λW hw=>cD1 (h.lt W hw),λW hw=> ?_⟩
 .rcases cK0 hw with hw|hw
  .exact h.tr W hw
  .simp only[cS7]at hw;subst hw;erw[U8,ar4,cK2,cW5];refine⟨B.1,⋯,C.1,⋯,?_,H.1,H.2⟩;simpa using e
 .rcases cK0 hw with hw|hw
  .have :=h.lt W hw;omega
  .simp only[cS7]at hw;subst hw;exact .inr ⟨rfl,by show o<o+1;omega⟩
theorem aa5(a:Int)(h:0<b):0<=a%b/\a%b<b:=⟨cL9 a ⋯,cL8 a h⟩
theorem cD0(m:Int):∃r:Int,M8 (.lst [.int 3,.int 20]) (.int (m%2))=↥r/\(r=3\/r=20):=by
 have :=aa5 m (b:=2) ∎;have h:m%2=0\/m%2=1:=⋯
 rcases h with h|h<;>rw[h]
 .exact⟨3,rfl,.inl rfl⟩
 .exact⟨20,rfl,.inr rfl⟩
theorem cF6(m:Int):∃p s v,aE9 [.int m]=some (k7 p s v)/\K0 p s v:=by
 rw[aE9,o7 1 _ _ _ rfl,by3];have hp:=aa5 m (b:=4) ∎;generalize o:2+m%4=p;have N:2<=p/\p<=5:=⋯
 have O: -(lim:Int)<=p/\p<=(lim:Int):=by have :(lim:Int)=1000000:=rfl;omega
 have aq:((p.toNat:Nat):Int)=p:=cN8 ⋯;rw[n8 (B:=[↥m,↥p,none,none,none,none,none,none,none]) (by
  rw[<-o];erw[ad2,gM,D5,cJ2,D6,G8,v9,A0,cI9,cJ0,cJ3,cJ4,cJ9,cJ5,cJ6,jn,cI7,K7 (show(0:Int)<4 by decide),Q8];rfl)]
 rw[n8 (B:=[↥m,↥p,⇑[],none,none,none,none,none,none]) rfl]
 let L:Int->Int->A3->Prop:=λaf ag B=>∃s a b c,B=[↥m,↥p,⇑(List.map z7 s),a,b,c,none,none,none]/\aI8 p af ag s
 have aa:∃Q,N4 (stN 3) (P1 (gLM [2] (itR d9)) (stN 4) (m8 (o6 5 (gM [2] (gN U3 [d8,g2 y9 (g2 J9 Z4 n9) v8])))
  (sIf (V1 (bOf (g2 fNe n9 v8)) (V1 (bOf (g2 fLt (g2 F8 u0 (gI 5)) (g2 y9 r9 (g2 F8 (g2 J7 d8 Z4) ac8)))) (bOf (g2 fLt (gN A7 [l7]) Z4)))) (aF7 2 (gM [2] (y8 [n9,v8,g2 y9 j4 (g2 F8 (g2 J7 u0 ao0) (e8 (A1 [ac8,ak3]) (g2 F8 (g2 J7 d8 ao0) r9)))]))) z9)))
   (O2 0 p.toNat) [↥m,↥p,⇑[],none,none,none,none,none,none]=some (.nx Q)/\L (p.toNat:Int) 0 Q:=by
  refine aH5 (λi=>L (i:Int) 0) _ ⟨[],none,none,none,rfl,⟨∅,∅,rfl,∅⟩⟩ λi f B ⟨s,a,b,c,H,W⟩=> ?_
  subst H;erw[cJ7,cJ8];have y:∃Q,N4 (stN 4) (m8 (o6 5 (gM [2] (gN U3 [d8,g2 y9 (g2 J9 Z4 n9) v8])))
    (sIf (V1 (bOf (g2 fNe n9 v8)) (V1 (bOf (g2 fLt (g2 F8 u0 (gI 5)) (g2 y9 r9 (g2 F8 (g2 J7 d8 Z4) ac8)))) (bOf (g2 fLt (gN A7 [l7]) Z4)))) (aF7 2 (gM [2] (y8 [n9,v8,g2 y9 j4 (g2 F8 (g2 J7 u0 ao0) (e8 (A1 [ac8,ak3]) (g2 F8 (g2 J7 d8 ao0) r9)))]))) z9))
     (O2 0 p.toNat) [↥m,↥p,⇑(List.map z7 s),↥(i:Int),b,c,none,none,none]=some (.nx Q)/\(∃s b c,Q=[↥m,↥p,⇑(List.map z7 s),↥(i:Int),b,c,none,none,none]/\aI8 p i (p.toNat:Int) s):=by
   refine aH5 (λj B=>∃s b c,B=[↥m,↥p,⇑(List.map z7 s),↥(i:Int),b,c,none,none,none]/\aI8 p i (j:Int) s) _ ⟨s,b,c,rfl,W⟩ λj hj B ⟨s,b,c,H,W⟩=> ?_
   subst H;erw[cJ7,cJ8];obtain⟨h,J,Z⟩:=bD8 m (8*(i:Int)+(j:Int));rw[n8 (B:=[↥m,↥p,⇑(List.map z7 s),↥(i:Int),↥(j:Int),↥h,none,none,none]) (by
    erw[ad2,gM,D5,cJ1,cJ2,cJ7,cJ8,N7,D0,F7,D6,G8,v9,cJ6,cI8,jn,cI7,aT2 (show sm 8=true from rfl),Q8,J])]
   obtain⟨r,u,ar⟩:=cD0 (m/64);have P:0<r:=⋯
   have ak:=aa5 (h/64) P;have ah:∃b,(V1 (bOf (g2 fNe n9 v8)) (V1 (bOf (g2 fLt (g2 F8 u0 (gI 5)) (g2 y9 r9 (g2 F8 (g2 J7 d8 Z4) ac8)))) (bOf (g2 fLt (gN A7 [l7]) Z4)))) [↥m,↥p,⇑(List.map z7 s),↥(i:Int),↥(j:Int),↥h,none,none,none]=some b/\(b=true->i≠j/\s.length<8):=by
    erw[bc7,V7,N7,D0,F7,D6,G8,v9,cJ6,cI8,jn,cI7,bb9,T4,K7 (show(0:Int)<5 by decide),K7 (show(0:Int)<3 by decide),aj5 (i:=m) (j:=8) ∎ ∎,Q8,af5,Y8,cQ8];refine⟨!((i:Int)==(j:Int))&&(decide (h%5<2+m/8%3)&&decide (((s.length:Nat):Int)<8)),?_,λI=> ?_⟩
    .cases((i:Int)==(j:Int))<;>cases decide (h%5<2+m/8%3)<;>rfl
    .simp only[cK2,cW5]at I;refine⟨λz=> ?_,⋯⟩;rw[z]at I;simp at I
   obtain⟨U,t1,t2⟩:=ah;rw[W5,t1];erw[cI7];cases U with
   |false=>exact⟨_,rfl,s,_,_,rfl,W.next⟩
   |true=>
    obtain⟨aj,l⟩:=t2 rfl;refine⟨[↥m,↥p,⇑(List.map z7 (s++[((i:Int),(j:Int),1+h/64%r)])),↥(i:Int),↥(j:Int),↥h,none,none,none],?_,_,_,_,rfl,?_⟩
    .simp only[if_true,aF7,gM,D5,cJ1,cJ2,cJ7,cJ8,aw3,aE1,D0,F7,D6,G8,v9,cJ6,cI8,jn,cI7,K7 (show(0:Int)<2 by decide),aj5 (i:=m) (j:=64) ∎ ∎,aj5 (i:=h) (j:=64) ∎ ∎,u,K7 P,Q8];rw[cW7 (by rw[cQ8];exact cU2 l ∎),cR5];rfl
    .refine W.snoc l ⟨⋯,⋯⟩ ⟨⋯,⋯⟩ ⋯ ⟨⋯,⋯⟩
  obtain⟨Q,k,ai,S,F,rfl,C⟩:=y;refine⟨_,?_,ai,↥(i:Int),S,F,rfl,⟨C.len,C.tr,C.ri,λw hw=> ?_⟩⟩
  .simp only[O6,gLM,D5,cJ1,cJ2,cJ7,cJ8,aL0,v9,cJ6,cI8,jn,cI7,aC2,cW7 O];exact k
  .have a1:=C.lt w hw;have a2:=C.tr w hw;erw[U8,ar4,cK2,cW5]at a2;left;show w.1<((i+1:Nat):Int);omega
 obtain⟨av,k,s,a,b,c,rfl,W⟩:=aa;rw[n8 (B:=[↥m,↥p,⇑(List.map z7 s),a,b,c,none,none,none]) (by
  erw[O6,gLM,D5,cJ1,cJ2,cJ7,cJ8,aL0,v9,cJ6,cI8,jn,cI7,aC2,cW7 O];exact k)]
 rw[n8 (B:=[↥m,↥p,⇑(List.map z7 s),a,b,c,⇑[],none,none]) rfl];have h3:=aa5 (m/256) (b:=3) ∎;generalize g:1+m/256%3=n;have hn:1<=n/\n<=3:=⋯
 have x: -(lim:Int)<=n/\n<=(lim:Int):=by have :(lim:Int)=1000000:=rfl;omega
 have ao:((n.toNat:Nat):Int)=n:=cN8 ⋯;have ae:∃Q,N4 (stN 7) (m8 (o6 5 (gM [6,2] (gN U3 [d8,g2 y9 (gI 70) L6])))
  (m8 (o6 8 (gM [6,2] (g2 F8 u0 d9)))
  (aF7 6 (gM [6,2] (y8 [an9,g2 F8 (g2 y9 (g2 y9 an9 j4) (g2 F8 (g2 J7 u0 Z4) (g2 ay3 d9 j4))) d9,g2 y9 j4 (g2 F8 (g2 J7 u0 ao0) (gI 9))])))))
   (O2 0 n.toNat) [↥m,↥p,⇑(List.map z7 s),a,b,c,⇑[],none,none]=some (.nx Q)/\
    ∃v c d e,Q=[↥m,↥p,⇑(List.map z7 s),a,b,c,⇑(List.map z7 v),d,e]/\v.length=n.toNat/\∀w∈v,U8 p w=true:=by
  refine aH5 (λi B=>∃v c d e,B=[↥m,↥p,⇑(List.map z7 s),a,b,c,⇑(List.map z7 v),d,e]/\v.length=i/\∀w∈v,U8 p w=true) _ ⟨[],c,none,none,rfl,rfl,∅⟩ λi f B ⟨v,c,d,e,H,l,V⟩=> ?_
  subst H;erw[cJ7,cJ8];obtain⟨h,J,Z⟩:=bD8 m (70+(i:Int));rw[n8 (B:=[↥m,↥p,⇑(List.map z7 s),a,b,↥h,⇑(List.map z7 v),↥(i:Int),e]) (by
   erw[ad2,gM,D5,cJ1,cJ2,cJ7,cJ8,N7,D0,F7,D6,G8,v9,cJ6,cI8,jn,cI7,Q8,J])]
  have E:0<p:=⋯
  have M:0<p-1:=⋯
  have u1:=aa5 h E;rw[n8 (B:=[↥m,↥p,⇑(List.map z7 s),a,b,↥h,⇑(List.map z7 v),↥(i:Int),↥(h%p)]) (by
   erw[ad2,gM,D5,cJ1,cJ2,cJ7,cJ8,D6,v9,cJ6,cI8,jn,cI7,K7 E])]
  have u2:=aa5 (h/8) M;have u3:=aa5 (h%p+1+h/8%(p-1)) E;have u4:=aa5 (h/64) (b:=9) ∎;refine⟨[↥m,↥p,⇑(List.map z7 s),a,b,↥h,⇑(List.map z7 (v++[(h%p,(h%p+1+h/8%(p-1))%p,1+h/64%9)])),↥(i:Int),↥(h%p)],?_,_,_,_,_,rfl,by simp[l],λw hw=> ?_⟩
  .simp only[aF7,gM,D5,cJ1,cJ2,cJ7,cJ8,aw3,D0,F7,D6,G8,v9,cJ6,cI8,jn,cI7,aj5 (i:=h) (j:=8) ∎ ∎,aj5 (i:=h) (j:=64) ∎ ∎,ay2,K7 M,K7 E,K7 (show(0:Int)<9 by decide),Q8];rw[cW7 (by rw[cQ8];exact cU2 (show v.length<3 by omega) ∎),cR5];rfl
  .rcases cK0 hw with hw|hw
   .exact V w hw
   .simp only[cS7]at hw;subst hw;erw[U8,ar4,cK2,cW5];refine⟨u1.1,⋯,u3.1,⋯,?_,⋯,⋯⟩;rw[cK7,beq_eq_false_iff_ne];intro z;have w1:h%p+1+h/8%(p-1)-h%p=p*((h%p+1+h/8%(p-1))/p):=by
     have :=Int.mul_ediv_add_emod (h%p+1+h/8%(p-1)) p;omega
    have R:1+h/8%(p-1)=p*((h%p+1+h/8%(p-1))/p):=⋯
    have w3:0<1+h/8%(p-1)/\1+h/8%(p-1)<p:=⋯
    generalize(h%p+1+h/8%(p-1))/p=q at R;rw[R]at w3;rcases cM3 q 1 with t|t
    .have :p*q<=p*0:=cM6 ⋯ ⋯;omega
    .have :p*1<=p*q:=cM6 ⋯ ⋯;omega
 obtain⟨aw,k2,v,F,X,Y,rfl,au,V⟩:=ae;rw[n8 (B:=[↥m,↥p,⇑(List.map z7 s),a,b,F,⇑(List.map z7 v),X,Y]) (by
  erw[O6,gLM,D5,cJ1,cJ2,cJ7,cJ8,aL0,D6,G8,v9,cJ6,cI8,jn,cI7,aC2,aj5 (i:=m) (j:=256) ∎ ∎,K7 (show(0:Int)<3 by decide),Q8];rw[g,cW7 x];exact k2)]
 refine⟨p,s,v,rfl,⟨N.1,N.2,W.len,W.tr,W.ri,⋯,⋯,V⟩⟩
noncomputable def bb3(i:Nat):T:=.int (i:Int)
noncomputable def M7(r:List Nat):T:=.lst (r.map bb3)
noncomputable def un(p:Int)(gs:List Int):Nat:=(List.range p.toNat).countP λ(i:Nat)=> !(gs.contains (i:Int))
theorem bg0(f g:E->Bool):∀(l:List E) (x:E),(∀y,g y=true->f y=true)->x∈l->f x=true->g x=false->l.countP g<l.countP f
 |[],_,_,h,_,_=>by simp at h
 |y::l,x,H,h,B,C=>by
  have L:l.countP g<=l.countP f:=List.countP_mono_left λz _ F=>H z F
  (rcases cI4 h with e|h)
  .subst e;rw[List.countP_cons_of_pos B,List.countP_cons_of_neg (by simp[C])];omega
  .have i:=bg0 f g l x H h B C;rw[List.countP_cons,List.countP_cons];have :(if g y=true then 1 else 0)<=(if f y=true then 1 else 0):=by
    by_cases q:g y=true
    .rw[cW7 q,cW7 (H y q)];exact cT8 _
    .rw[cW6 q];exact cV7 _
   omega
theorem aF3{p v:Int}{gs:List Int}(h:0<=v)(C:v<p)(B:gs.contains v=false):un p (gs++[v])<un p gs:=by
 unfold un;refine bg0 _ _ _ v.toNat (λy H=> ?_) (List.mem_range.mpr ⋯) ?_ ?_
 .simp only[cK7,cO6,List.mem_append,decide_eq_false_iff_not]at H⊢;exact λz=>H (.inl z)
 .rw[cN8 h,B];rfl
 .rw[cN8 h];simp
theorem aS8(gs:List Int):S5 (gs.map T.int)=some gs:=by
 induction gs with
 |nil=>rfl
 |cons g gs i=>erw[cI9,S5,i,cI7]
theorem aV7(v:Int)(gs:List Int):W7 (.int v) (.lst (gs.map T.int))=↑(!(gs.contains v)):=by
 erw[W7,fIn,aS8,cI7]
theorem bq0:∀{X:List T}{n i:Nat}{x:T},(S7 n X)[i]?=some x->∃y,X[i]?=some y/\x=.tup [.int ((n+i:Nat):Int),y]
 |[],n,i,x,h=>by simp[S7]at h
 |y::X,n,0,x,h=>by
  simp[S7]at h;exact⟨y,∅,h.symm⟩
 |y::X,n,i+1,x,h=>by
  erw[S7,cI8]at h;obtain⟨z,H,B⟩:=bq0 h;refine⟨z,by simpa using H,?_⟩;rw[B];congr 3;omega
theorem aa3{B:Type}{X:List B}{i:Nat}{x:B}(h:X[i]?=some x):i<X.length:=by
 rcases cU3 i X.length with q|q
 .exact q
 .rw[cP9 q]at h;cases h
theorem cC9(n:Nat):1<=9^n:=Nat.one_le_pow _ _ ∎
abbrev Way:=Int×Int×Int
noncomputable def sel(W:List Way)(f:Int->List (List Nat))(c:Int)(seen:List Int)(j:Nat):List (List Nat):=match W[j]? with
 |some w=>if w.1==c&& !(seen.contains w.2.1)then(f w.2.1).map (j:: ·)else []
 |none=>[]
noncomputable def M0(w:List Way)(goal:Int):Nat->Int->List Int->List (List Nat)
 |0,_,_=>[]
 |n+1,c,seen=>if c==goal then [[]]else(List.range w.length).flatMap (sel w (λv=>M0 w goal n v (seen++[v])) c seen)
noncomputable def frW(w:List Way)(j:Nat):Int:=((w[j]?).getD (0,0,0)).1
noncomputable def toW(w:List Way)(j:Nat):Int:=((w[j]?).getD (0,0,0)).2.1
noncomputable def rmW(w:List Way)(j:Nat):Int:=((w[j]?).getD (0,0,0)).2.2
theorem bv9(h:r∈sel W f C seen j):∃w R,W[j]?=some w/\w.1=C/\seen.contains w.2.1=false/\R∈f w.2.1/\r=j::R:=by
 unfold sel at h;cases e:W[j]? with
 |none=>rw[e]at h;cases h
 |some w=>
  rw[e]at h;dsimp only at h;split at h
  .rename_i c;erw[cK2,beq_iff_eq,cK7]at c;obtain⟨R,H,B⟩:=cI3 h;exact⟨w,R,rfl,c.1,c.2,H,B.symm⟩
  .cases h
theorem aS2(h:r∈M0 W goal n C seen):
  (C=goal/\r=[])\/(C≠goal/\∃m j w R,n=m+1/\W[j]?=some w/\w.1=C/\seen.contains w.2.1=false/\R∈M0 W goal m w.2.1 (seen++[w.2.1])/\r=j::R):=by
 cases n with
 |zero=>cases h
 |succ m=>
  rw[M0]at h;split at h
  .rename_i c;refine .inl ⟨by simpa using c,by simpa using h⟩
  .rename_i c;obtain⟨j,_,h⟩:=List.mem_flatMap.mp h;obtain⟨w,R,H,B,E,F,I⟩:=bv9 h;exact .inr ⟨by simpa using c,m,j,w,R,rfl,H,B,E,F,I⟩
structure by1(ws:List Way)(cur goal:Int)(seen:List Int)(r:List Nat):Prop where
 walk:Wlk (frW ws) (toW ws) r cur goal
 ix:∀i∈r,i<ws.length
 off:∀i∈r,seen.contains (toW ws i)=false
 nd:r.Nodup
theorem aN4:∀(n:Nat){c:Int}{seen:List Int}{r:List Nat},r∈M0 W goal n c seen->by1 W c goal seen r:=by
 intro n;induction n with
 |zero=>intro c seen r h;cases h
 |succ n L=>
  intro c seen r h;rcases aS2 h with⟨H,B⟩|⟨_,m,j,w,R,e,H,B,E,F,J⟩
  .subst B;exact⟨H,∅,∅,List.nodup_nil⟩
  .cases e;subst J;have I:=L F;have f:frW W j=w.1:=by unfold frW;rw[H];rfl
   have t:toW W j=w.2.1:=by unfold toW;rw[H];rfl
   refine⟨⟨f.trans B,by rw[t];exact I.walk⟩,?_,?_,?_⟩
   .intro i C;rcases cI4 C with q|q
    .subst q;exact aa3 H
    .exact I.ix i q
   .intro i C;rcases cI4 C with q|q
    .subst q;rw[t];exact E
    .have :=I.off i q;rw[cO6,decide_eq_false_iff_not]at this⊢;exact λz=>this (cR8 _ z)
   .refine List.nodup_cons.mpr ⟨λz=> ?_,I.nd⟩;have :=I.off j z;rw[t,cO6,decide_eq_false_iff_not]at this;exact this (cR9 _ (List.mem_singleton.mpr rfl))
theorem cf9(h:r∈M0 W goal n c seen)(C:c≠goal):r≠[]:=by
 rcases aS2 h with⟨H,_⟩|⟨_,m,j,w,R,e,H,E,F,I,B⟩
 .exact absurd H C
 .subst B;simp
def bO9(p:Int)(W:List Way):Prop:=W.length<=8/\∀w∈W,0<=w.2.1/\w.2.1<p
theorem K0.ways(N:K0 P s v):bO9 P s:=⟨N.wl,λW H=>by
 have h:=N.wt W H;erw[U8,ar4,cK2,cW5]at h;omega⟩
theorem aS4(f:C->List I)(B:Nat):∀(l:List C),(∀x∈l,(f x).length<=B)->(l.flatMap f).length<=l.length*B
 |[],_=>∅
 |x::X,h=>by
  have E:=h x cS2;have F:=aS4 f B X λy H=>h y (cS1 _ H)
  rw[List.flatMap_cons,cQ7,cJ3,Nat.add_mul];omega
theorem bU8(W:bO9 p s):∀(n:Nat) (C:Int) (seen:List Int),(M0 s goal n C seen).length<=9^un p seen/\∀r∈M0 s goal n C seen,r.length<=un p seen:=by
 intro n;induction n with
 |zero=>intro C seen;simp[M0]
 |succ n i=>
  intro C seen;have o:=cC9 (un p seen);refine⟨?_,?_⟩
  .rw[M0];split
   .simpa using o
   . --M y l N at t as O as Q P left
    cases u:un p seen with
    |zero=>
     rw[show(List.range s.length).flatMap (sel s (λv=>M0 s goal n v (seen++[v])) C seen)=[]from ?_]
     .simp
     .rw[List.flatMap_eq_nil_iff];intro j _;cases e:sel s (λv=>M0 s goal n v (seen++[v])) C seen j with
      |nil=>rfl
      |cons r rs=>
       obtain⟨w,R,h,H,F,I,J⟩:=bv9 (r:=r) (by rw[e];exact cS2);obtain⟨B,E⟩:=W.2 w (cS4 h);have :=aF3 B E F;omega
    |succ k=>
     have b:=aS4 (sel s (λv=>M0 s goal n v (seen++[v])) C seen) (9^k) (List.range s.length) λj _=>by
      unfold sel;cases e:s[j]? with
      |none=>simp
      |some w=>
       dsimp only;split
       .rename_i c;erw[cK2,beq_iff_eq,cK7]at c;obtain⟨B,E⟩:=W.2 w (cS4 e);have :=aF3 B E c.2;rw[cQ8];refine cU0 (i w.2.1 _).1 (cV2 ∎ ⋯)
       .simp
     rw[cQ9]at b;have :=cU8 (9^k) W.1;rw[cV3];omega
  .intro r L;rcases aS2 L with⟨h,H⟩|⟨_,m,j,w,R,e,h,H,F,I,J⟩
   .subst H;simp
   .cases e;subst J;obtain⟨B,E⟩:=W.2 w (cS4 h);have :=aF3 B E F;have :=(i w.2.1 _).2 R I;rw[cJ3];omega
theorem aK0(h:i<=n)(f:Nat->List B):((List.range i).flatMap f).length<=((List.range n).flatMap f).length:=by
 obtain⟨k,rfl⟩:∃k,n=i+k:=⟨n-i,⋯⟩
 rw[cS9,cP3,cQ7];omega
theorem bk3{W:List Way}{i:Nat}{x:T}(h:(S7 0 (W.map z7))[i]?=some x):∃w,W[i]?=some w/\x=.tup [.int (i:Int),z7 w]:=by
 obtain⟨y,H,B⟩:=bq0 h;rw[cV6]at B;rw[cQ0]at H;cases e:W[i]? with
 |none=>rw[e]at H;cases H
 |some w=>rw[e]at H;cases H;exact⟨w,rfl,B⟩
theorem bp3(X:List T)(x:T):M8 (.lst (X++[x])) (.int (-1))=some x:=by
 show(ixT (X++[x]).length (-1)).bind _=_;have :ixT (X++[x]).length (-1)=some X.length:=by
  unfold ixT;rw[cW6 ∎,cW7 (by simp;omega)];simp;omega
 rw[this];simp
theorem un5(h:p<=5)(gs:List Int):un p gs<=5:=by
 unfold un;refine cU0 List.countP_le_length ?_;rw[cQ9];omega
theorem ah5(N:K0 p w v):(M0 w goal n c seen).length<=59049/\∀r∈M0 w goal n c seen,r.length<=5:=by
 obtain⟨h,H⟩:=bU8 N.ways (goal:=goal) n c seen;have :=un5 N.p5 seen;refine⟨cU0 h (cU0 (cV2 ∎ this) ∎),λr B=>cU0 (H r B) this⟩
theorem bm8{Q:A3}{I:GL}{a:List Nat}{sub:List (List Nat)}{i:Nat}(h:I Q=some (sub.map M7))(H:Z6 1 a Q=[none,↥(i:Int)])(l:sub.length<=59049)(B:∀r∈sub,r.length<=5):
  o0 I 1 a (stN 0) u5 (g2 y9 (A1 [d9]) d8) Q=⇑((sub.map (i:: ·)).map M7):=by
 erw[o0,h,cI7];rw[cW7 (by rw[cQ8];show sub.length<=1000000;omega),ay6 (f:=λt=>match t with |.lst r=>.lst (.int (i:Int)::r)|_=>t)]
 .simp only[cI7,cR7];congr 2
 .intro x E;obtain⟨r,C,rfl⟩:=cI3 E;rw[H];refine⟨[some (M7 r),↥(i:Int)],rfl,?_⟩;have :=B r C;erw[D6,aE1,D0,F7,v9,cJ6,cI8,jn,cI7,M7,y9];rw[cW7 (by simp[lim];omega)];rfl
theorem bG2(h:W[j]?=some w)(H:((w.1==c)&& !(seen.contains w.2.1))=false):sel W f c seen j=[]:=by
 unfold sel;rw[h];dsimp only;rw[H];rfl
theorem bt5(h:W[j]?=some w)(H:((w.1==c)&& !(seen.contains w.2.1))=true):sel W f c seen j=(f w.2.1).map (j:: ·):=by
 unfold sel;rw[h];dsimp only;rw[H];rfl
theorem aP6{gs:List Int}{v:Int}(h:gs.length<=100):y9 (.lst (gs.map T.int)) (.lst [.int v])=⇑((gs++[v]).map T.int):=by
 erw[y9];rw[cW7 (by simp[lim];omega),cR5];rfl
theorem bl5{p:Int}{W s:List Way}(N:K0 p W s)(n:Nat)(first goal:Int)(gs:List Int)(g:gs.length<=100)
  (M:∀v,0<=v->v<p->gs.contains v=false->V9 n [k7 p W s,.int v,.int goal,.lst ((gs++[v]).map T.int)]=⇑((M0 W goal n v (gs++[v])).map M7)):
  V9 (n+1) [k7 p W s,.int first,.int goal,.lst (gs.map T.int)]=⇑((M0 W goal (n+1) first gs).map M7):=by
 have L:=ah5 N (goal:=goal) (c:=first) (n:=n+1) (seen:=gs);rw[V9,o7 4 _ _ _ rfl,aU0];have st:A0 7 [k7 p W s,.int first,.int goal,.lst (gs.map T.int)]=[some (k7 p W s),↥first,↥goal,⇑(gs.map T.int),none,none,none]:=rfl;rw[st];have t:(bOf (g2 fEq d9 l7)) [some (k7 p W s),↥first,↥goal,⇑(gs.map T.int),none,none,none]=some (first ==goal):=rfl;rw[M0]at L⊢;cases H:(first ==goal)with
 |true=>
  rw[W0 (t:=.lst [.lst []]) (by rw[W5,t,H];rfl),cW7 rfl];rfl
 |false=>
  rw[H,cW6 ∎]at L;rw[cW6 ∎];rw[n8 (B:=[some (k7 p W s),↥first,↥goal,⇑(gs.map T.int),none,none,none]) (by rw[W5,t,H];rfl)];rw[n8 (B:=[some (k7 p W s),↥first,↥goal,⇑(gs.map T.int),⇑[],none,none]) rfl];generalize C:sel W (λv=>M0 W goal n v (gs++[v])) first gs=S at L⊢
  have O:=am8 (st:=st2 5 6) (b:=sIf (V1 (bOf (g2 fEq (e8 C7 l8) d9)) (bOf (g2 W7 (e8 C7 j4) n9))) (o6 4 (g2 y9 v8 (o0 (itL (gN (V9 n) [d8,e8 C7 j4,l7,g2 y9 n9 (A1 [e8 C7 j4])])) 1 [5] (stN 0) u5 (g2 y9 (A1 [d9]) d8)))) z9)
   (λi Q=>∃a b,Q=[some (k7 p W s),↥first,↥goal,⇑(gs.map T.int),⇑(((List.range i).flatMap S).map M7),a,b]) (S7 0 (W.map z7)) 0
   [some (k7 p W s),↥first,↥goal,⇑(gs.map T.int),⇑[],none,none] ⟨none,none,rfl⟩ (λi x J Q z=>by
    obtain⟨a,b,I⟩:=z;subst I;rw[cV6];obtain⟨w,e,rfl⟩:=bk3 J;have U:=aa3 e;have y:=N.ways.2 w (cS4 e);refine⟨[some (k7 p W s),↥first,↥goal,⇑(gs.map T.int),⇑(((List.range i).flatMap S).map M7),↥(i:Int),some (z7 w)],[some (k7 p W s),↥first,↥goal,⇑(gs.map T.int),⇑(((List.range (i+1)).flatMap S).map M7),↥(i:Int),some (z7 w)],rfl,?_,_,_,rfl⟩;have R:(V1 (bOf (g2 fEq (e8 C7 l8) d9)) (bOf (g2 W7 (e8 C7 j4) n9))) [some (k7 p W s),↥first,↥goal,⇑(gs.map T.int),⇑(((List.range i).flatMap S).map M7),↥(i:Int),some (z7 w)]=some ((w.1==first)&& !(gs.contains w.2.1)):=by
     erw[bc7,V7,D6,G8,v9,cJ6,cI8,jn,cI7,z7,aA8,ix0,ix1,L9,T4,aV7];cases(w.1==first)<;>rfl
    rw[W5,R];have l:(List.range (i+1)).flatMap S=(List.range i).flatMap S++S i:=by rw[cT0,cP3];simp
    have E:=cU0 (aK0 (show i+1<=W.length by omega) S) L.1;rw[l,cQ7]at E;cases h:((w.1==first)&& !(gs.contains w.2.1))with
    |false=>
     have :S i=[]:=by rw[<-C];exact bG2 e h
     rw[l,this,cO5];rfl
    |true=>
     have B:S i=(M0 W goal n w.2.1 (gs++[w.2.1])).map (i:: ·):=by rw[<-C];exact bt5 e h
     erw[cK2,cK7]at h;have P:=M w.2.1 y.1 y.2 h.2;have F:=ah5 N (goal:=goal) (c:=w.2.1) (n:=n) (seen:=gs++[w.2.1]);erw[cI7,if_true];have call:(gN (V9 n) [d8,e8 C7 j4,l7,g2 y9 n9 (A1 [e8 C7 j4])]) [some (k7 p W s),↥first,↥goal,⇑(gs.map T.int),⇑(((List.range i).flatMap S).map M7),↥(i:Int),some (z7 w)]=⇑((M0 W goal n w.2.1 (gs++[w.2.1])).map M7):=by
      erw[N7,aE1,D0,F7,D6,G8,v9,cJ6,cI8,jn,cI7,z7,aA8,ix1,aP6 g];exact P
     have c:=bm8 (Q:=[some (k7 p W s),↥first,↥goal,⇑(gs.map T.int),⇑(((List.range i).flatMap S).map M7),↥(i:Int),some (z7 w)]) (I:=itL (gN (V9 n) [d8,e8 C7 j4,l7,g2 y9 n9 (A1 [e8 C7 j4])])) (a:=[5]) (i:=i) (by rw[Y7,call];rfl) rfl F.1 F.2;have f:y9 (.lst (((List.range i).flatMap S).map M7)) (.lst (((M0 W goal n w.2.1 (gs++[w.2.1])).map (i:: ·)).map M7))=⇑(((List.range (i+1)).flatMap S).map M7):=by
      rw[l,B];rw[B]at E;erw[y9];rw[cW7 (by rw[cQ8,cQ8];show _<=1000000;omega),cR5]
     erw[ad2,D6,c,v9,cJ6,cI8,jn,cI7,f,cJ7,cJ8])
  obtain⟨X,k,a,b,rfl⟩:=O;rw[cV6,aA1,cQ8]at k;rw[n8 (B:=[some (k7 p W s),↥first,↥goal,⇑(gs.map T.int),⇑(((List.range W.length).flatMap S).map M7),a,b]) (by exact k)];rfl
theorem cA5(N:K0 p w s):∀(n:Nat) (first goal:Int) (gs:List Int),un p gs<=n->gs.length+n<=50->
  V9 (n+1) [k7 p w s,.int first,.int goal,.lst (gs.map T.int)]=⇑((M0 w goal (n+1) first gs).map M7):=by
 intro n;induction n with
 |zero=>
  intro first goal gs u g
  refine bl5 N 0 first goal gs ⋯ (λv H B h=> ?_)
  have :=aF3 H B h;omega
 |succ n i=>
  intro first goal gs u g
  refine bl5 N (n+1) first goal gs ⋯ (λv H B h=> ?_)
  have :=aF3 H B h;exact i v goal (gs++[v]) ⋯ (by simp;omega)
theorem bt1{p:Int}{W X:List Way}(N:K0 p W X)(n:Nat)(c goal:Int)(pre:List Int)(g:(pre++[c]).length<=100)
  (O:∀v,0<=v->v<p->(pre++[c]).contains v=false->P6 n [.lst (W.map z7),.lst (((pre++[c])++[v]).map T.int),.int goal]=⇑((M0 W goal n v ((pre++[c])++[v])).map M7)):
  P6 (n+1) [.lst (W.map z7),.lst ((pre++[c]).map T.int),.int goal]=⇑((M0 W goal (n+1) c (pre++[c])).map M7):=by
 have L:=ah5 N (goal:=goal) (c:=c) (n:=n+1) (seen:=pre++[c]);have I:M8 (.lst ((pre++[c]).map T.int)) (.int (-1))=↥c:=by
  rw[cR5];exact bp3 _ _
 generalize Y:pre++[c]=gs at *;rw[P6,o7 3 _ _ _ rfl,aC0];have st:A0 6 [.lst (W.map z7),.lst (gs.map T.int),.int goal]=[⇑(W.map z7),⇑(gs.map T.int),↥goal,none,none,none]:=rfl;rw[st];have t:(bOf (g2 fEq (e8 d9 (g1 O5 j4)) l7)) [⇑(W.map z7),⇑(gs.map T.int),↥goal,none,none,none]=some (c==goal):=by
  erw[V7,D6,as0,G8,v9,cJ6,cI8,jn,cI7,aT1,I,L9,T4]
 rw[M0]at L⊢;cases H:(c==goal)with
 |true=>
  rw[W0 (t:=.lst [.lst []]) (by rw[W5,t,H];rfl),cW7 rfl];rfl
 |false=>
  rw[H,cW6 ∎]at L;rw[cW6 ∎];rw[n8 (B:=[⇑(W.map z7),⇑(gs.map T.int),↥goal,none,none,none]) (by rw[W5,t,H];rfl)];rw[n8 (B:=[⇑(W.map z7),⇑(gs.map T.int),↥goal,⇑[],none,none]) rfl];generalize B:sel W (λv=>M0 W goal n v (gs++[v])) c gs=S at L⊢;have P:=am8 (st:=st2 4 5) (b:=sIf (V1 (bOf (g2 fEq (e8 u0 l8) (e8 d9 (g1 O5 j4)))) (bOf (g2 W7 (e8 u0 j4) d9))) (ax0 3 (gM [3] (o0 (itL (gN (P6 n) [d8,g2 y9 d9 (A1 [e8 u0 j4]),l7])) 1 [4] (stN 0) u5 (g2 y9 (A1 [d9]) d8)))) z9)
   (λi Q=>∃a b,Q=[⇑(W.map z7),⇑(gs.map T.int),↥goal,⇑(((List.range i).flatMap S).map M7),a,b]) (S7 0 (W.map z7)) 0
   [⇑(W.map z7),⇑(gs.map T.int),↥goal,⇑[],none,none] ⟨none,none,rfl⟩ (λi x M Q z=>by
    obtain⟨a,b,J⟩:=z;subst J;rw[cV6];obtain⟨w,e,rfl⟩:=bk3 M;have Z:=aa3 e;have y:=N.ways.2 w (cS4 e);refine⟨[⇑(W.map z7),⇑(gs.map T.int),↥goal,⇑(((List.range i).flatMap S).map M7),↥(i:Int),some (z7 w)],[⇑(W.map z7),⇑(gs.map T.int),↥goal,⇑(((List.range (i+1)).flatMap S).map M7),↥(i:Int),some (z7 w)],rfl,?_,_,_,rfl⟩;have U:(V1 (bOf (g2 fEq (e8 u0 l8) (e8 d9 (g1 O5 j4)))) (bOf (g2 W7 (e8 u0 j4) d9))) [⇑(W.map z7),⇑(gs.map T.int),↥goal,⇑(((List.range i).flatMap S).map M7),↥(i:Int),some (z7 w)]=some ((w.1==c)&& !(gs.contains w.2.1)):=by
     erw[bc7,V7,D6,as0,G8,v9,cJ6,cI8,jn,cI7,z7,aA8,ix0,ix1,aT1,I,L9,T4,aV7];cases(w.1==c)<;>rfl
    rw[W5,U];have l:(List.range (i+1)).flatMap S=(List.range i).flatMap S++S i:=by rw[cT0,cP3];simp
    have C:=cU0 (aK0 (show i+1<=W.length by omega) S) L.1;rw[l,cQ7]at C;cases h:((w.1==c)&& !(gs.contains w.2.1))with
    |false=>
     have :S i=[]:=by rw[<-B];exact bG2 e h
     rw[l,this,cO5];rfl
    |true=>
     have s:S i=(M0 W goal n w.2.1 (gs++[w.2.1])).map (i:: ·):=by rw[<-B];exact bt5 e h
     erw[cK2,cK7]at h;have R:=O w.2.1 y.1 y.2 h.2;have E:=ah5 N (goal:=goal) (c:=w.2.1) (n:=n) (seen:=gs++[w.2.1]);erw[cI7,if_true];have mk:D5 [3] [⇑(W.map z7),⇑(gs.map T.int),↥goal,⇑(((List.range i).flatMap S).map M7),↥(i:Int),some (z7 w)]=[⇑(W.map z7),⇑(gs.map T.int),↥goal,none,↥(i:Int),some (z7 w)]:=rfl;have call:(gN (P6 n) [d8,g2 y9 d9 (A1 [e8 u0 j4]),l7]) [⇑(W.map z7),⇑(gs.map T.int),↥goal,none,↥(i:Int),some (z7 w)]=⇑((M0 W goal n w.2.1 (gs++[w.2.1])).map M7):=by
      erw[N7,aE1,D0,F7,D6,G8,v9,cJ6,cI8,jn,cI7,z7,aA8,ix1,aP6 g];exact R
     have F:=bm8 (Q:=[⇑(W.map z7),⇑(gs.map T.int),↥goal,none,↥(i:Int),some (z7 w)]) (I:=itL (gN (P6 n) [d8,g2 y9 d9 (A1 [e8 u0 j4]),l7])) (a:=[4]) (i:=i) (by rw[Y7,call];rfl) rfl E.1 E.2;rw[s]at C;erw[ax0,gM,mk,F,cJ6,cI8,jn,cI7];rw[cW7 (by rw[cQ8,cQ8];show _<=1000000;omega),l,s,cR5];rfl)
  obtain⟨d,k,a,b,rfl⟩:=P;rw[cV6,aA1,cQ8]at k;rw[n8 (B:=[⇑(W.map z7),⇑(gs.map T.int),↥goal,⇑(((List.range W.length).flatMap S).map M7),a,b]) (by exact k)];rfl
theorem cF2(N:K0 p w s):∀(n:Nat) (c goal:Int) (pre:List Int),un p (pre++[c])<=n->(pre++[c]).length+n<=50->
  P6 (n+1) [.lst (w.map z7),.lst ((pre++[c]).map T.int),.int goal]=⇑((M0 w goal (n+1) c (pre++[c])).map M7):=by
 intro n;induction n with
 |zero=>
  intro c goal pre u g;refine bt1 N 0 c goal pre ⋯ (λv H B h=> ?_);have :=aF3 H B h;omega
 |succ n i=>
  intro c goal pre u g;refine bt1 N (n+1) c goal pre ⋯ (λv H B h=> ?_);have :=aF3 H B h;exact i v goal (pre++[c]) ⋯ (by rw[cQ7];simp at g⊢;omega)
theorem O1(h:g Q=some t)(k:b (Q.set i (some t))=o):m8 (o6 i g) b Q=o:=by
 rw[n8 (B:=Q.set i (some t)) (by unfold o6;rw[h];rfl)];exact k
theorem k8(h:a Q=some x)(H:gs l Q=some X):gs (a::l) Q=some (x::X):=by
 show(a Q).bind _=_;rw[h,cI7,H];rfl
theorem ae4(h:gs l Q=some x):y8 l Q=some (.tup x):=by unfold y8;rw[h];rfl
theorem az9(h:gs l Q=some x):A1 l Q=⇑x:=by unfold A1;rw[h];rfl
theorem j8(h:a Q=some x)(H:b Q=some y)(B:f x y=some z):g2 f a b Q=some z:=by unfold g2;rw[h,cI7,H,cI7,B]
theorem B6(h:a Q=some x)(H:b Q=some y)(B:M8 x y=some z):e8 a b Q=some z:=j8 h H B
theorem bB2(i n)(h:D3 i Q=some x)(H:M8 x (.int n)=some z):e8 (D3 i) (gI n) Q=some z:=j8 h rfl H
theorem m7(h:gs l Q=some x)(H:f x=some z):gN f l Q=some z:=by unfold gN;rw[h,cI7,H]
theorem bb5(H:0<=i)(B:i<(x.length:Int)):∃t,M8 (.lst x) (.int i)=some t/\t∈x:=by
 have h:i.toNat<x.length:=⋯
 refine⟨x[i.toNat],?_,cQ6 h⟩;show(ixT x.length i).bind _=_;unfold ixT;rw[cW7 H,cW7 B,cI7,cP8 h]
theorem aD3(h:ae9 [t]=↑true):X7 [t]=some (.val .non):=by
 have e:ae8 [some t]=some (.o (.nx [some t])):=by
  unfold ae8;erw[rIf,ac1,bOf,gN,gs,D3,cJ6,jn,cI7,h,toB];rfl
 show al4 (ae8 [some t])=_;rw[e];rfl
theorem ca5(h:ae9 [t]=↑false):X7 [t]=some (.exc "BadNet"):=by
 have e:ae8 [some t]=some (.exc "BadNet"):=by
  unfold ae8;erw[rIf,ac1,bOf,gN,gs,D3,cJ6,jn,cI7,h,toB];rfl
 show al4 (ae8 [some t])=_;rw[e];rfl
theorem bK5(h:R7 [t,u]=↑true):ao8 [t,u]=some (.val .non):=by
 have e:as1 [some t,some u]=some (.o (.nx [some t,some u])):=by
  unfold as1;erw[rIf,ac1,bOf,gN,gs,D3,cJ6,cI8,jn,cI7,h,toB];rfl
 show al4 (as1 [some t,some u])=_;rw[e];rfl
theorem bH2(h:gs l Q=some x)(H:F x=some (.exc c)):af7 (ak8 F l) b Q=some (.exc c):=by
 unfold af7 ak8;rw[h,cI7,H];rfl
theorem as5(h:gs l Q=some x)(H:F x=some (.val t)):af7 (ak8 F l) b Q=b Q:=by
 unfold af7 ak8;rw[h,cI7,H];rfl
theorem bX2(h:ae9 [t]=↑true)(H:R7 [t,u]=↑true)(B:ab1 [t,u]=↑a)(C:ao7 [t,u]=↑b):aO8 [t,u]=some (.val (.bl (a&&b))):=by
 show al4 (br9 [some t,some u])=_;unfold br9;rw[as5 (x:=[t]) rfl (aD3 h),as5 (x:=[t,u]) rfl (bK5 H)];erw[U6,t5,E8,bOf,gN,gs,D3,cJ6,cI8,jn,cI7,B,C,toB];cases a<;>rfl
theorem bs8(h:ae9 [t]=↑true)(B:R7 [t,u]=↑true)(C:A6 2 2 aM3 [t,u]=some z)(E:∀Q,aM3 [some t,some u]≠some (.nx Q)):av5 [t,u]=some (.val z):=by
 show al4 (aM2 [some t,some u])=_;unfold aM2;rw[as5 (x:=[t]) rfl (aD3 h),as5 (x:=[t,u]) rfl (bK5 B)];have H:al3 (aM3 [some t,some u])=some z:=C;show al4 ((aM3 [some t,some u]).bind λo=>some (.o o))=_;cases e:aM3 [some t,some u]with
 |none=>rw[e]at H;cases H
 |some o=>
  rw[e]at H;cases o with
  |ret F=>cases H;rfl
  |nx Q=>exact absurd e (E Q)
  |bk Q=>cases H
  |ct Q=>cases H
theorem ct3(t u:T):∀Q,aM3 [some t,some u]≠some (.nx Q):=λQ h=>by
 unfold aM3 t5 at h;cases e:(o0 (itZ (e8 d8 r9) d9) 2 [0] (st2 0 1) u5 (gN at6 [e8 l7 j4,d9,e8 d8 j4])) [some t,some u]with
 |none=>rw[e]at h;cases h
 |some x=>rw[e]at h;cases h
theorem bk6(h:F x=some (.exc "BadNet")):aF4 F x=some (.str "BadNet"):=by
 unfold aF4;rw[h];rfl
theorem bQ8(h:F x=some (.val t)):aF4 F x=some t:=by
 unfold aF4;rw[h];rfl
theorem ar9(h:a Q=some x)(H:f x=some z):g1 f a Q=some z:=by unfold g1;rw[h,cI7,H]
theorem Y2(h:x.length+y.length<=lim):y9 (.lst x) (.lst y)=⇑(x++y):=cW7 h
theorem bW4(f:T->T)(H:i Q=some X)(l:X.length<=lim)(h:∀x∈X,∃B,st x (Z6 n a Q)=some B/\e B=some (f x)):o0 i n a st u5 e Q=⇑(X.map f):=by
 unfold o0;rw[H,cI7,cW7 l,ay6 X h];rfl
theorem A4(h:g Q=↑b):bOf g Q=some b:=by unfold bOf;rw[h];rfl
theorem aE5(h:g Q=some b):ac1 g Q=some !b:=by unfold ac1;rw[h];rfl
noncomputable def ai0(w s:List Way)(k:Nat):List (Nat×List Nat):=match s[k]? with
 |some v=>(M0 w v.2.1 7 v.1 [v.1]).map λr=>(k,r)
 |none=>[]
noncomputable def lns(w v:List Way):List (Nat×List Nat):=(List.range v.length).flatMap (ai0 w v)
noncomputable def P8(l:Nat×List Nat):T:=.tup [.int (l.1:Int),M7 l.2]
theorem bw0(h:l∈lns w s):∃v,s[l.1]?=some v/\l.2∈M0 w v.2.1 7 v.1 [v.1]:=by
 obtain⟨k,_,h⟩:=List.mem_flatMap.mp h;unfold ai0 at h;cases e:s[k]? with
 |none=>rw[e]at h;cases h
 |some v=>
  rw[e]at h;obtain⟨r,H,B⟩:=cI3 h;subst B;exact⟨v,e,H⟩
theorem bW6(N:K0 p w s)(k:Nat):(ai0 w s k).length<=59049:=by
 unfold ai0;cases s[k]? with
 |none=>simp
 |some v=>dsimp only;rw[cQ8];exact(ah5 N).1
theorem aw1(N:K0 p w v):(lns w v).length<=177147:=by
 have :=aS4 (ai0 w v) 59049 (List.range v.length) λk _=>bW6 N k
 rw[cQ9]at this;have h:=N.v3;have :v.length*59049<=3*59049:=cU8 _ h;unfold lns;omega
theorem cv8(N:K0 p w s)(u v:Int):ak6 [.lst (w.map z7),.lst [.int u],.int v]=⇑((M0 w v 7 u [u]).map M7):=
 cF2 N 6 u v [] (cU0 (un5 N.p5 _) ∎) ∅
theorem cx1(N:K0 p w s)(u v:Int):ar1 [k7 p w s,.int u,.int v,.lst [.int u]]=⇑((M0 w v 7 u [u]).map M7):=
 cA5 N 6 u v [u] (cU0 (un5 N.p5 _) ∎) ∅
theorem by5(N:K0 p w s):ao6 [k7 p w s]=⇑((lns w s).map P8):=by
 rw[ao6,o7 1 _ _ _ rfl,aY1];rw[n8 (B:=[some (k7 p w s),⇑[],none,none]) rfl];have B:=am8 (st:=st2 2 3) (b:=ax0 1 (gM [1] (o0 (itL (gN ak6 [e8 d8 j4,A1 [e8 n9 l8],e8 n9 j4])) 1 [2] (stN 0) u5 (y8 [d9,d8]))))
  (λi Q=>∃a b,Q=[some (k7 p w s),⇑(((List.range i).flatMap (ai0 w s)).map P8),a,b]) (S7 0 (s.map z7)) 0 [some (k7 p w s),⇑[],none,none] ⟨none,none,rfl⟩ (λi x h Q z=>by
   obtain⟨a,b,H⟩:=z;subst H;rw[cV6];obtain⟨v,e,rfl⟩:=bk3 h;have C:=aa3 e;refine⟨[some (k7 p w s),⇑(((List.range i).flatMap (ai0 w s)).map P8),↥(i:Int),some (z7 v)],[some (k7 p w s),⇑(((List.range (i+1)).flatMap (ai0 w s)).map P8),↥(i:Int),some (z7 v)],rfl,?_,_,_,rfl⟩;have L:(List.range (i+1)).flatMap (ai0 w s)=(List.range i).flatMap (ai0 w s)++ai0 w s i:=by rw[cT0,cP3];simp
   have S:ai0 w s i=(M0 w v.2.1 7 v.1 [v.1]).map λr=>(i,r):=by unfold ai0;rw[e]
   have l:=cU0 (aK0 (show i+1<=s.length by omega) (ai0 w s)) (aw1 N);rw[L,cQ7,S,cQ8]at l;have P:=(ah5 N (goal:=v.2.1) (c:=v.1) (n:=7) (seen:=[v.1])).1;have c:(o0 (itL (gN ak6 [e8 d8 j4,A1 [e8 n9 l8],e8 n9 j4])) 1 [2] (stN 0) u5 (y8 [d9,d8])) [some (k7 p w s),none,↥(i:Int),some (z7 v)]=⇑((ai0 w s i).map P8):=by
    rw[bW4 (X:=(M0 w v.2.1 7 v.1 [v.1]).map M7) (f:=λt=>.tup [.int (i:Int),t])]
    .rw[S,cR7,cR7];rfl
    .simp only[Y7,N7,aE1,D0,F7,D6,G8,v9,cJ6,cI8,jn,cI7,k7,z7,aA8,ix0,ix1];rw[cv8 N];rfl
    .rw[cQ8];show _<=1000000;omega
    .intro x h;exact⟨_,rfl,rfl⟩
   have mk:D5 [1] [some (k7 p w s),⇑(((List.range i).flatMap (ai0 w s)).map P8),↥(i:Int),some (z7 v)]=[some (k7 p w s),none,↥(i:Int),some (z7 v)]:=rfl;erw[ax0,gM,mk,c,cJ6,cI8,jn,cI7];rw[cW7 (by rw[cQ8,cQ8,S,cQ8];show _<=1000000;omega),L,cR5];rfl)
 obtain⟨E,k,a,b,rfl⟩:=B;rw[cV6,aA1,cQ8]at k;rw[n8 (B:=[some (k7 p w s),⇑((lns w s).map P8),a,b]) (by exact k)];rfl
noncomputable def M1(ws vs:List Way):J8 where
 W:=vs.length
 P:=ws.length
 want:=rmW vs
 cap:=rmW ws
 n:=(lns ws vs).length
 of:=λl=>(((lns ws vs)[l]?).getD (0,[])).1
 on:=λl p=>(((lns ws vs)[l]?).getD (0,[])).2.contains p
 free:=λ_=>true
 need:=λ_=>0
theorem ag8(h:∀w∈W,U8 p w=true)(H:k<W.length):1<=rmW W k/\rmW W k<=20:=by
 unfold rmW;rw[cP8 H];have :=h W[k] (cQ6 H);erw[U8,ar4,cK2,cW5]at this;show 1<=W[k].2.2/\W[k].2.2<=20;omega
theorem bb0(h:l<(lns w s).length):∃k r v,(lns w s)[l]?=some (k,r)/\s[k]?=some v/\r∈M0 w v.2.1 7 v.1 [v.1]:=by
 obtain⟨v,H,B⟩:=bw0 (cQ6 h);exact⟨_,_,v,cP8 h,H,B⟩
theorem bv5{fe:Nat->Bool}{nd:Nat->Int}(N:K0 p ws vs)(w0:∃k,k<vs.length/\fe k=true):((M1 ws vs).hold fe nd sc).Ok where
 w0:=w0
 want:=λk hk=>by have :=ag8 N.vt hk;show 0<rmW vs k;omega
 of:=λl hl=>by
  obtain⟨k,r,v,h1,h2,_⟩:=bb0 hl;show(((lns ws vs)[l]?).getD (0,[])).1<vs.length;rw[h1];exact aa3 h2
 on:=λl hl=>by
  obtain⟨k,r,v,h1,h2,h3⟩:=bb0 hl;have hv:=N.vt v (cS4 h2);have ne:=cf9 h3 (bF0 hv);obtain⟨j,r',rfl⟩:=List.exists_cons_of_ne_nil ne;refine⟨j,(aN4 7 h3).ix j cS2,?_⟩;show(((lns ws vs)[l]?).getD (0,[])).2.contains j=true;rw[h1];simp
noncomputable def u9(f:Nat->Int)(n:Nat):List T:=mr n λj=>.int (f j)
noncomputable def ag0(R:Nat->Nat->Int)(m L:Nat):List T:=mr (m+1) λi=>.lst (u9 (R i) (L+1))
noncomputable def at7(a:Nat->Nat)(m:Nat):List T:=mr m λi=>.int (a i:Int)
noncomputable def bdA(q m L:Nat)(b:ABd):T:=bdT q (ag0 b.R m L) (at7 b.aB m) b.u
noncomputable def X1:Option Nat->T
 |some c=>.int (c:Int)
 |none=>.non
theorem z0:(mr n f).length=n:=by unfold mr;rw[cQ8,cQ9]
theorem ax6(h:i<n):(mr n f)[i]?=some (f i):=by unfold mr;rw[cQ0,cQ1 h];rfl
theorem N3(h:∀i,i<n->f i=g i):mr n f=mr n g:=cR6 λi H=>h i (cI5 H)
theorem aD6:mr (n+1) f=mr n f++[f n]:=by unfold mr;rw[cT0,cR5];rfl
theorem O4{f:Nat->T}(h:i<n):M8 (.lst (mr n f)) (.int (i:Int))=some (f i):=aS7 (ax6 h)
theorem aq1(f:Nat->T)(n:Nat):M8 (.lst (mr (n+1) f)) (.int (-1))=some (f n):=by rw[aD6];exact bp3 _ _
theorem w9(g:Nat->T)(F:t Q=some (mr n f))(H:n<=lim)(h:∀i,i<n->∃C,st (f i) (Z6 N E Q)=some C/\e C=some (g i)):o0 t N E st u5 e Q=⇑(mr n g):=by
 erw[o0,F,cI7];rw[cW7 (by rw[z0];exact H)];have :∀l:List Nat,(∀i∈l,i<n)->aa6 (Z6 N E Q) st u5 e (l.map f)=some (l.map g):=by
  intro l;induction l with
  |nil=>intro _;rfl
  |cons a l L=>
   intro H;obtain⟨C,I,J⟩:=h a (H a cS2);rw[cI9,aa6,I,cI7,bc5,cI7,cW7 rfl,J,cI7,L λi B=>H i (cS1 _ B)];rfl
 rw[this _ λi B=>cI5 B];rfl
theorem aJ8{B:Type}(f:Nat->B)(n r:Nat)(x:B):(mr n f).set r x=mr n λi=>if i=r then x else f i:=by
 apply List.ext_getElem?;intro i;rw[List.getElem?_set,z0];by_cases h:i<n
 .rw[ax6 h,ax6 h];by_cases e:r=i
  .rw[cW7 e,cW7 (e▸h),cW7 e.symm]
  .rw[cW6 e,cW6 λz=>e z.symm]
 .rw[cP9 (by rw[z0];omega),cP9 (by rw[z0];omega)];split
  .rw[cW6 ⋯]
  .rfl
theorem R0(f g:Nat->T)(n:Nat):U4 (mr n f) (mr n g)=mr n λj=>.tup [f j,g j]:=by
 have :∀l:List Nat,U4 (l.map f) (l.map g)=l.map λj=>.tup [f j,g j]:=by
  intro l;induction l with
  |nil=>rfl
  |cons a l i=>erw[cI9,U4,i]
 exact this _
structure Sz(m L:Nat)(b:ABd):Prop where
 up:0<b.u
 u:big b.u=true
 R:∀i j,i<m+1->j<L+1->big (b.R i j)=true
theorem cu2{f g:Nat->Int}{c:Nat}(F:0<u)(b:big u=true)(H:∀j,j<L+1->big (f j)=true)(B:∀j,j<L+1->big (g j)=true)(h:c<L+1)(E:L+1<=lim):ad4 [.lst (u9 f (L+1)),.lst (u9 g (L+1)),.int (c:Int),.int u]=⇑(u9 (λj=>(f j*g c-g j*f c)/u) (L+1)):=by
 rw[ad4,o7 4 _ _ _ rfl,aL9,y4,w9 (f:=λj=>.tup [.int (f j),.int (g j)]) (λj=>.int ((f j*g c-g j*f c)/u)) (by rw[<-R0];rfl) E λj C=>⟨_,rfl,?_⟩]
 .rfl
 .exact j8 (j8 (j8 (x:=.int (f j)) rfl (j8 (x:=.lst (u9 g (L+1))) rfl rfl (O4 h)) (J6 (H j C) (B c h))) (j8 (x:=.int (g j)) rfl (j8 (x:=.lst (u9 f (L+1))) rfl rfl (O4 h)) (J6 (B j C) (H c h))) ay2) rfl (aq7 F b)
theorem bv3{f:Nat->T}(h:∀i,aq0 (f i)=true):aq0 (.lst (mr n f))=true:=by
 rw[aq0];unfold mr;generalize List.range n=l;induction l with
 |nil=>rfl
 |cons a l I=>rw[cI9,az6,I,h];rfl
theorem aS1:aq0 (.lst (u9 f n))=true:=bv3 λ_=>rfl
theorem bC1(h:g (vw i Q)=some t)(H:aq0 t=true):gV i g Q=some t:=by unfold gV;rw[h,cI7,cW7 H]
theorem C8(h:g Q=some t):o6 i g Q=some (.nx (Q.set i (some t))):=by rw[ad2,h];rfl
theorem X8(h:c Q=some true):sIf c a b Q=a Q:=by rw[W5,h];rfl
theorem Q2(h:c Q=some false):sIf c a b Q=b Q:=by rw[W5,h];rfl
theorem cv9{t os s R:List T}{r c:Nat}(H:r<t.length)(B:r<os.length)(h:s[c]?=↥k):bi4 Q (.lst t) (bdT q R os u) (.int (r:Int)) (.int (c:Int)) (.lst s)=some (.nx ((Q.set 4 ⇑(t.set r (.lst s))).set 0 (some (bdT q (t.set r (.lst s)) (os.set r (.int (c:Int))) k)))):=by
 show((ixT t.length (r:Int)).bind λn=>(ixT os.length (r:Int)).bind λN=>(ixT s.length (c:Int)).bind _)=_;rw[am7 H,cI7,am7 B,cI7,am7 (aa3 h),cI7,h];rfl
theorem cu3{q m L r c:Nat}{b:ABd}(Z:Sz m L b)(N:r<m)(B:c<L+1)(C:L+1<=lim)(M:m+1<=lim):ao5 [bdA q m L b,.int (r:Int),.int (c:Int)]=some (bdA q m L (V3 b r c)):=by
 have H:r<m+1:=⋯
 let e:Int:=if b.R r c<0 then -1 else 1
 let K:=λj=>e*b.R r j
 have I:∀j,j<L+1->big (K j)=true:=λj F=>by
  show big ((if b.R r c<0 then -1 else 1)*b.R r j)=true;split
  .rw[Int.neg_one_mul];have :=Z.R r j H F;unfold big at *;rwa[Int.natAbs_neg]
  .rw[Int.one_mul];exact Z.R r j H F
 let E:Option T->Option T->A3:=λx y=>[some (bdA q m L b),↥(r:Int),↥(c:Int),x,y]
 have s:o6 3 (gV 0 (e8 (g1 (K4 "rows") d8) d9)) (E none none)=some (.nx (E ⇑(u9 (b.R r) (L+1)) none)):=C8 (bC1 (j8 (x:=.lst (ag0 b.R m L)) rfl rfl (O4 H)) aS1);have t:(bOf (g2 fLt (e8 n9 l7) l8)) (E ⇑(u9 (b.R r) (L+1)) none)=some (decide (b.R r c<0)):=A4 (j8 (j8 (x:=.lst (u9 (b.R r) (L+1))) rfl rfl (O4 B)) rfl af5);have S:sIf (bOf (g2 fLt (e8 n9 l7) l8)) (o6 3 (gV 0 (o0 (itL n9) 1 [] (stN 0) u5 (g1 O5 d8)))) z9 (E ⇑(u9 (b.R r) (L+1)) none)=some (.nx (E ⇑(u9 K (L+1)) none)):=by
  by_cases h:b.R r c<0
  .rw[cW4 h]at t;have k:K=λj=> -b.R r j:=by funext j;show(if b.R r c<0 then -1 else 1)*b.R r j=_;rw[cW7 h,Int.neg_one_mul]
   rw[X8 t,k];exact C8 (bC1 (w9 (f:=λj=>.int (b.R r j)) (λj=>.int (-b.R r j)) rfl C λj _=>⟨_,rfl,rfl⟩) aS1)
  .rw[cW3 h]at t;have k:K=b.R r:=by funext j;show(if b.R r c<0 then -1 else 1)*b.R r j=_;rw[cW6 h,Int.one_mul]
   rw[Q2 t,k];rfl
 have p:gV 0 (o0 (itL (g1 (K4 "rows") d8)) 1 [3,2,0] (stN 0) u5 (gN ad4 [d8,d9,l7,g1 (K4 "under") n9])) (E ⇑(u9 K (L+1)) none)=⇑(ag0 (λl j=>(b.R l j*K c-K j*b.R l c)/b.u) m L):=
  bC1 (w9 (f:=λi=>.lst (u9 (b.R i) (L+1))) (λl=>.lst (u9 (λj=>(b.R l j*K c-K j*b.R l c)/b.u) (L+1))) rfl M λl J=>⟨_,rfl,m7 (x:=[.lst (u9 (b.R l) (L+1)),.lst (u9 K (L+1)),.int (c:Int),.int b.u]) rfl (cu2 Z.up Z.u (λj=>Z.R l j J) I B C)⟩) (bv3 λ_=>aS1)
 unfold ao5 aR0;rw[br6];show(m8 _ _ (E none none)).bind _=_;rw[n8 s,n8 S];unfold bi6;rw[p];show(bi4 _ (.lst (ag0 _ m L)) (bdA q m L b) (.int (r:Int)) (.int (c:Int)) (.lst (u9 K (L+1)))).bind _=_;unfold bdA;rw[cv9 (k:=K c) (by unfold ag0;rw[z0];exact H) (by unfold at7;rw[z0];exact N) (ax6 B)];show some (bdT q ((mr (m+1) _).set r _) ((mr m _).set r _) (K c))=_;rw[aJ8,aJ8,N3 (g:=λi=>.lst (u9 ((V3 b r c).R i) (L+1))) λi _=> ?_,N3 (n:=m) (g:=λi=>.int ((V3 b r c).aB i:Int)) λi _=> ?_]
 .rfl
 .show _=T.int ((setN b.aB r c i:Nat):Int);unfold setN;split<;>rfl
 .show _=T.lst (u9 (nxt (flp e b.R r) b.u r c i) (L+1));unfold nxt flp;by_cases h:i=r
  .rw[cW7 h];exact congrArg T.lst (N3 λj _=>by dsimp only;rw[cW7 h,cW7 rfl])
  .rw[cW6 h];exact congrArg T.lst (N3 λj _=>by dsimp only;rw[cW6 h,cW6 h,cW7 rfl,cW7 rfl,cW6 h])
theorem L5(h:a Q=↑x)(H:b Q=↑y):E8 a b Q=↑(x&&y):=by
 rw[Y1,A4 h];cases x<;>first |rfl|exact H
theorem cr9(h:a Q=↑x)(H:b Q=↑y):gOr a b Q=↑(x||y):=by
 rw[cs0,A4 h];cases x<;>first |rfl|exact H
theorem bc6(h:a Q=some x)(H:x=true->b Q=some y):V1 a b Q=some (x&&y):=by
 unfold V1;rw[h];cases x<;>first |rfl|exact H rfl
theorem cj3(h:a Q=some x)(H:x=false->b Q=some y):bOr a b Q=some (x||y):=by
 unfold bOr;rw[h];cases x<;>first |exact H rfl|rfl
theorem bj4(h:g Q=some t)(H:aj8 t=true):gF g Q=some t:=by unfold gF;rw[h,cI7,cW7 H]
theorem bw1{a b:Nat}:decide ((a:Int)<(b:Int))=decide (a<b):=by
 by_cases h:a<b
 .rw[cW4 h,cW4 ⋯]
 .rw[cW3 h,cW3 ⋯]
theorem ci5(E:c<n)(h:f c<0)(H:∀j,j<c->0<=f j):W2 f n=some c:=by
 cases e:W2 f n with
 |none=>exact absurd h (Int.not_lt.mpr (aL2 e c E))
 |some d=>
  obtain⟨F,B,C⟩:=aA0 e;rcases Nat.lt_trichotomy c d with q|q|q
  .exact absurd h (Int.not_lt.mpr (C c q))
  .rw[q]
  .exact absurd B (Int.not_lt.mpr (H d q))
theorem bX4(h:∀j,j<n->0<=f j):W2 f n=none:=by
 cases e:W2 f n with
 |none=>rfl
 |some d=>obtain⟨B,C,E⟩:=aA0 e;exact absurd C (Int.not_lt.mpr (h d B))
theorem cb3:∀(d k:Nat) (a x y:Option T),k+d=n->(∀j,j<k->0<=f j)->∃X Y,N4 (st2 1 2) (sIf (bOf (g2 fLt l7 l8)) (t5 d9) z9) (S7 k ((List.range' k d).map λj=>.int (f j))) [a,x,y]=some (match W2 f n with |some c=>.ret (.int (c:Int))|none=>.nx [a,X,Y])
 |0,k,a,x,y,h,H=>⟨x,y,by rw[bX4 (λj B=>H j ⋯)];rfl⟩
 |d+1,k,a,x,y,h,H=>by
  rw[List.range'_succ,cI9,S7,N4];have t:(bOf (g2 fLt l7 l8)) [a,↥(k:Int),↥(f k)]=some (decide (f k<0)):=rfl;show∃X Y,(sIf _ _ _ [a,↥(k:Int),↥(f k)]).bind _=_;by_cases q:f k<0
  .rw[ci5 ⋯ q H,X8 (by rw[t,cW4 q])];exact⟨x,y,rfl⟩
  .rw[Q2 (by rw[t,cW3 q])];exact cb3 d (k+1) a _ _ ⋯ λj B=>by
    by_cases e:j=k
    .rw[e];exact Int.not_lt.mp q
    .exact H j ⋯
theorem cG4(f:Nat->Int)(n:Nat):E9 [.lst (u9 f n)]=some (X1 (W2 f n)):=by
 obtain⟨x,y,h⟩:=cb3 (f:=f) (n:=n) n 0 ⇑(u9 f n) none none ⋯ (λj B=>absurd B (cV1 _));rw[<-List.range_eq_range']at h;rw[E9,o7 1 _ _ _ rfl,ao4];have H:P1 (itE d8) (st2 1 2) (sIf (bOf (g2 fLt l7 l8)) (t5 d9) z9) (A0 3 [.lst (u9 f n)])=_:=h;cases e:W2 f n<;>rw[e]at H
 .rw[n8 H];rfl
 .rw[W0 H];rfl
section
theorem cj7(Z:Sz m L b)(h:c<L+1)(H:i<m)(C:k<m):ad6 [bdA q m L b,.int (c:Int),.int (i:Int),.int (k:Int)]=↑(al7 b.R b.aB L c i k):=by
 have I:i<m+1:=⋯
 have B:k<m+1:=⋯
 rw[ad6,o7 4 _ _ _ rfl,aM0,
  O1 (t:=.lst (u9 (b.R i) (L+1))) (j8 (x:=.lst (ag0 b.R m L)) (y:=.int (i:Int)) rfl rfl (O4 I)) rfl,
  O1 (t:=.lst (u9 (b.R k) (L+1))) (j8 (x:=.lst (ag0 b.R m L)) (y:=.int (k:Int)) rfl rfl (O4 B)) rfl,
  O1 (t:=.int (b.R i L*b.R k c-b.R k L*b.R i c)) (j8 (j8 (j8 (x:=.lst (u9 (b.R i) (L+1))) rfl rfl (aq1 ..)) (j8 (x:=.lst (u9 (b.R k) (L+1))) rfl rfl (O4 h)) (J6 (Z.R i L I ⋯) (Z.R k c B h))) (j8 (j8 (x:=.lst (u9 (b.R k) (L+1))) rfl rfl (aq1 ..)) (j8 (x:=.lst (u9 (b.R i) (L+1))) rfl rfl (O4 h)) (J6 (Z.R k L B ⋯) (Z.R i c I h))) ay2) rfl,
  y4,cr9 (j8 (x:=.int (b.R i L*b.R k c-b.R k L*b.R i c)) rfl rfl af5) (L5 (j8 (x:=.int (b.R i L*b.R k c-b.R k L*b.R i c)) rfl rfl L9) (j8 (j8 (x:=.lst (at7 b.aB m)) rfl rfl (O4 H)) (j8 (x:=.lst (at7 b.aB m)) rfl rfl (O4 C)) af5))]
 unfold al7;rw[bw1];rfl
theorem cr5:(bOf (g2 ab9 l7 (gC .non))) [x,y,some (X1 o),z]=some o.isNone:=by cases o<;>rfl
theorem Z9(h:g Q=↥(n:Int))(H:n<=lim):itR g Q=some (mr n λi=>.int (i:Int)):=by
 rw[aL0,h,cI7,aC2,cI7,cW7 ⋯,cN7];exact congrArg some (N3 λi _=>by rw[cN9])
theorem bv2(h:m<=lim):(itR (gN A7 [g1 (K4 "owners") d8])) (some (bdA q m L b)::Q)=some (mr m λi=>.int (i:Int)):=Z9 (by show some (T.int ((at7 b.aB m).length:Int))=_;unfold at7;rw[z0]) h
theorem aa4{f:Nat->T}{b:GS}(v:Nat->A3->Prop)(J:v 0 Q)(h:∀i,i<n->∀Q,v i Q->∃E F,st (f i) Q=some E/\b E=some (.nx F)/\v (i+1) F):∃C,N4 st b (mr n f) Q=some (.nx C)/\v n C:=by
 have :=am8 (st:=st) (b:=b) v (mr n f) 0 Q J λi x H Q I=>by
  have B:i<n:=by have :=aa3 H;rwa[z0]at this
  rw[ax6 B]at H;cases H;rw[cV6]at I⊢;exact h i B Q I
 rwa[cV6,z0]at this
theorem cA4(Z:Sz m L b)(h:c<L+1)(B:m<=lim):ad5 [bdA q m L b,.int (c:Int)]=some (X1 (tgt b.R b.aB L c m)):=by
 rw[ad5,o7 2 _ _ _ rfl,aE7,n8 (B:=[some (bdA q m L b),↥(c:Int),some .non,none]) rfl];obtain⟨E,C,x,rfl⟩:=aa4 (st:=stN 3) (n:=m) (f:=λi=>.int (i:Int)) (Q:=[some (bdA q m L b),↥(c:Int),some .non,none]) (b:=sIf (V1 (bOf (g2 fGt (e8 (e8 (g1 (K4 "rows") d8) n9) d9) l8)) (bOr (bOf (g2 ab9 l7 (gC .non))) (bOf (gN ad6 [d8,d9,n9,l7])))) (o6 2 n9) z9)
  (λi Q=>∃x,Q=[some (bdA q m L b),↥(c:Int),some (X1 (tgt b.R b.aB L c i)),x]) ⟨none,rfl⟩ λi H Q ⟨x,e⟩=>by
   subst e;refine⟨_,[some (bdA q m L b),↥(c:Int),some (X1 (tgt b.R b.aB L c (i+1))),↥(i:Int)],rfl,?_,_,rfl⟩;have c1:(bOf (g2 fGt (e8 (e8 (g1 (K4 "rows") d8) n9) d9) l8)) [some (bdA q m L b),↥(c:Int),some (X1 (tgt b.R b.aB L c i)),↥(i:Int)]=some (decide (0<b.R i c)):=A4 (j8 (j8 (x:=.lst (u9 (b.R i) (L+1))) (j8 (x:=.lst (ag0 b.R m L)) rfl rfl (O4 ⋯)) rfl (O4 h)) rfl aE3);have c2:=cj3 (cr5 (x:=some (bdA q m L b)) (y:=↥(c:Int)) (o:=tgt b.R b.aB L c i) (z:=↥(i:Int))) (b:=bOf (gN ad6 [d8,d9,n9,l7])) (y:=match tgt b.R b.aB L c i with |none=>true|some k=>al7 b.R b.aB L c i k) λz=>by
    cases e:tgt b.R b.aB L c i with
    |none=>rw[e]at z;cases z
    |some k=>
     have :=(bk9 e).1;exact A4 (m7 (x:=[bdA q m L b,.int (c:Int),.int (i:Int),.int (k:Int)]) rfl (cj7 Z h H ⋯))
   show sIf _ _ _ [some (bdA q m L b),↥(c:Int),some (X1 (tgt b.R b.aB L c i)),↥(i:Int)]=_;rw[W5,bc6 c1 λ_=>c2,show tgt b.R b.aB L c (i+1)=if decide (0<b.R i c)then(match tgt b.R b.aB L c i with |none=>some i|some k=>if al7 b.R b.aB L c i k then some i else some k)else tgt b.R b.aB L c i from rfl];cases decide (0<b.R i c)
   .rfl
   .cases tgt b.R b.aB L c i with
    |none=>rfl
    |some k=>dsimp only;cases al7 b.R b.aB L c i k<;>rfl
 rw[n8 (by rw[O6,bv2 B];exact C)];rfl
end
theorem aG9{o:Int->Int}(H:k n=some (o n)):∀{r:List Int}(c:Int),(∀x∈r,k x=some (o x))->Z3 k c (o c) (r++[n])=(Z3 k c (o c) r).bind λm=>some (if o n<o m then n else m)
 |[],c,_=>by
  show(k n).bind _=_;rw[H];show(if o n<o c then some n else some c)=some (if o n<o c then n else c);split<;>rfl
 |x::r,c,h=>by
  have B:=λy C=>h y (cS1 _ C)
  show(k x).bind _=((k x).bind _).bind _;rw[h x cS2];show(if o x<o c then Z3 k x (o x) (r++[n])else Z3 k c (o c) (r++[n]))=(if o x<o c then Z3 k x (o x) r else Z3 k c (o c) r).bind _;split
  .exact aG9 H x B
  .exact aG9 H c B
theorem aW1{a:Nat->Nat}{p:Nat->Bool}(H:∀i,i<m->B (i:Int)=some (a i:Int)):∀{n:Nat},n<=m->cq5 B (((List.range n).filter p).map λi:Nat=>(i:Int))=some (X1 (slb p (λi k=>decide (a i<a k)) n))
 |0,_=>rfl
 |n+1,h=>by
  have I:=aW1 (p:=p) H (n:=n) ⋯;rw[cT0,List.filter_append,cR5,slb];have E:=H n ⋯;cases e:p n with
  |false=>rw[show[n].filter p=[] by simp[e]];simpa using I
  |true=>
   rw[show[n].filter p=[n] by simp[e],cW7 rfl];have M:∀x∈((List.range n).filter p).map λi:Nat=>(i:Int),B x=some (a x.toNat:Int):=λx C=>by
    obtain⟨i,F,rfl⟩:=cI3 C;rw[cN7];exact H i (by have :=cI5 (List.mem_filter.mp F).1;omega)
   cases l:((List.range n).filter p).map λi:Nat=>(i:Int)with
   |nil=>
    rw[l]at I;cases z:slb p (λi k=>decide (a i<a k)) n with
    |some k=>rw[z]at I;cases I
    |none=>
     show(B n).bind _=_;rw[E];rfl
   |cons x r=>
    rw[l]at I M;have C:=M x cS2;replace I:((B x).bind λk=>(Z3 B x k r).bind λm=>some (T.int m))=_:=I;show((B x).bind λk=>(Z3 B x k (r++[(n:Int)])).bind λm=>some (T.int m))=_;rw[C,cI7]at I⊢;rw[aG9 (o:=λx=>(a x.toNat:Int)) E x λy J=>M y (cS1 _ J)];cases z:slb p (λi k=>decide (a i<a k)) n with
    |none=>
     rw[z]at I;cases w:Z3 B x (a x.toNat:Int) r with
     |none=>rw[w]at I;cases I
     |some k=>rw[w]at I;cases I
    |some k=>
     rw[z]at I;cases w:Z3 B x (a x.toNat:Int) r with
     |none=>rw[w]at I;cases I
     |some L=>
      rw[w]at I;cases I;show some (T.int (if(a (n:Int).toNat:Int)<(a (k:Int).toNat:Int)then(n:Int)else(k:Int)))=some (X1 (if decide (a n<a k)then some n else some k));rw[cN7,cN7];by_cases q:a n<a k
      .rw[cW7 ⋯,cW4 q];rfl
      .rw[cW6 ⋯,cW3 q];rfl
theorem bb2{f:Nat->Int}:∀l:List Nat,S5 (l.map λi=>.int (f i))=some (l.map f)
 |[]=>rfl
 |a::l=>by rw[cI9,S5,bb2 l];rfl
theorem cG9(H:m<=lim):Z2 [bdA q m L b]=some (X1 (brk b.R b.aB L m)):=by
 rw[Z2,o7 1 _ _ _ rfl,ay9,O1 (t:=.lst (((List.range m).filter λi=>decide (b.R i L<0)).map λi:Nat=>.int (i:Int))) (o:=some (.ret (X1 (brk b.R b.aB L m)))) ?_ ?_]
 .rfl
 .unfold o0;show((itR (gN A7 [g1 (K4 "owners") d8])) [some (bdA q m L b),none]).bind _=_;rw[bv2 H,cI7,cW7 (by rw[z0];exact H),aB4 (c:=λt=>match t with |.int z=>decide (b.R z.toNat L<0)|_=>false) (f:=λt=>t) _ λx B=>by
   obtain⟨i,h,rfl⟩:=cI3 B;exact⟨[↥(i:Int),some (bdA q m L b)],rfl,by
    show _=some (decide (b.R (i:Int).toNat L<0));rw[cN7];exact A4 (j8 (j8 (x:=.lst (u9 (b.R i) (L+1))) (j8 (x:=.lst (ag0 b.R m L)) rfl rfl (O4 (by have :=cI5 h;omega))) rfl (aq1 ..)) rfl af5),rfl⟩]
  rw[List.map_id',List.filter_map];rfl
 .rw[y4,j8 (x:=.lst (((List.range m).filter λi=>decide (b.R i L<0)).map λi:Nat=>.int (i:Int))) (y:=.lst (at7 b.aB m)) (z:=X1 (brk b.R b.aB L m)) rfl rfl]
  .rfl
  .show(S5 _).bind (λI=>(S5 (at7 b.aB m)).bind _)=_;unfold at7 mr;rw[bb2,cI7,bb2,cI7];refine aW1 (m:=m) (λi h=> ?_) (cT8 _);rw[cQ8,cQ9,am7 h,cI7];exact ax6 h
theorem bX7(f:Nat->Int)(n:Nat):al5 (u9 f (n+1)) none (some (-1))=u9 f n:=by
 show((u9 f (n+1)).drop 0).take ((-1+((u9 f (n+1)).length:Int)).toNat-0)=_;unfold u9;rw[z0,aD6,show(-1+((n+1:Nat):Int)).toNat-0=n by omega,cP0,cT5 (by rw[z0];exact cT8 _),cT6 (by rw[z0];exact cT8 _)]
theorem bp6(o:Option Nat):aj8 (X1 o)=true:=by cases o<;>rfl
theorem bN8{g:G}(h:g Q=⇑(u9 f (L+1))):gF (gN E9 [gSl g none (some (g1 O5 j4))]) Q=some (X1 (W2 f L)):=bj4 (m7 (k8 (x:=.lst (u9 f L)) (by unfold gSl;rw[h];exact congrArg (λl=>some (T.lst l)) (bX7 f L)) rfl) (cG4 f L)) (bp6 _)
theorem whl{I:ABd->Prop}{y:ABd->Option Nat}{C:GS}(H:∀b,n b=none->y b=none)(s:∀b o,I b->n b=some o->∃b1 c,o=some b1/\y b=some c/\I b1/\C [some (bdA q m L b),↥(c:Int)]=some (.nx [some (bdA q m L b1),some (X1 (y b1))])):∀k b B,I b->lp n k b=some B->K8 (bOf (g2 bp7 d9 (gC .non))) C k [some (bdA q m L b),some (X1 (y b))]=some (.nx [some (bdA q m L B),some .non])
 |0,_,_,_,h=>by cases h
 |k+1,b,B,E,h=>by
  rw[lp]at h;rw[K8];cases e:n b with
  |none=>
   rw[e]at h;rw[H b e];cases h;rfl
  |some o=>
   obtain⟨b1,c,rfl,J,i,F⟩:=s b o E e;rw[e]at h;rw[J];show(C [some (bdA q m L b),↥(c:Int)]).bind _=_;rw[F];exact whl H s k b1 B i h
theorem bo3{f:B->C}(h:o.map f=none):o=none:=by
 cases o
 .rfl
 .cases h
theorem bx2(h:0<m):ae5 [some (bdA q m L b),x]=(L+1)^m+1:=by
 obtain⟨M,rfl⟩:∃M,m=M+1:=⟨m-1,⋯⟩
 unfold ae5 bdA bdT ag0 mr;rw[cT1,cI9];show(u9 (b.R 0) (L+1)).length^(at7 b.aB (M+1)).length+1=_;unfold u9 at7;rw[z0,z0]
theorem bw2:∀{k:Nat}{b B:ABd}(j:Nat),lp n k b=some B->lp n (k+j) b=some B
 |0,_,_,_,h=>by cases h
 |k+1,b,B,j,h=>by
  rw[Nat.add_right_comm,lp];rw[lp]at h;cases e:n b with
  |none=>rw[e]at h;exact h
  |some o=>
   rw[e]at h;cases o with
   |none=>cases h
   |some b1=>exact bw2 (b:=b1) j h
theorem bw3(h:lp n (L^m) b=some B):lp n ((L+1)^m+1) b=some B:=by
 have :=bw2 ((L+1)^m+1-L^m) h;rwa[Nat.add_sub_of_le (cU0 (Nat.pow_le_pow_left (cT9 L) m) (cT9 _))]at this
section
variable {q m:Nat}{A:Nat->Vc}(g:q+m+1<=lim)(i:m+1<=lim)(h:0<m)
include g i h
theorem cG0{v:Int}{x:Nat->Int}(P:U5 q m A)(z:∀b:ABd,∀s,Sd m (q+m) A s b.R b.aB b.u->Sz m (q+m) b)(M:0<v)(N:∀j,j<q+m->0<=x j)(H:∀k,k<m->l9 (λj=>x j*A j k) q+x (q+k)=v*A (q+m) k)(S:Sd m (q+m) A s b.R b.aB b.u)(l:lp (nxK m (q+m)) ((q+m)^m) b=some B):af4 [bdA q m (q+m) b]=some (bdA q m (q+m) B):=by
 have C:∀b (x:Option T),gF (gN Z2 [d8]) [some (bdA q m (q+m) b),x]=some (X1 (brk b.R b.aB (q+m) m)):=λb x=>bj4 (m7 (x:=[bdA q m (q+m) b]) rfl (cG9 ⋯)) (bp6 _)
 unfold af4 aR0;rw[au3];show(m8 _ _ [some (bdA q m (q+m) b),none]).bind _=_;rw[O1 (t:=X1 (brk b.R b.aB (q+m) m)) (C b none) rfl];show(K8 _ _ (ae5 [some (bdA q m (q+m) b),some (X1 (brk b.R b.aB (q+m) m))]) [some (bdA q m (q+m) b),some (X1 (brk b.R b.aB (q+m) m))]).bind _=_;rw[bx2 h,whl (n:=nxK m (q+m)) (y:=λb=>brk b.R b.aB (q+m) m) (I:=λb=>∃s,Sd m (q+m) A s b.R b.aB b.u) (λb e=>bo3 e) (λb o I e=> ?_) _ b B ⟨s,S⟩ (bw3 l)]
 .rfl
 .obtain⟨r,c,p,rfl,E,F,J⟩:=bo7 P M N H b o I e;obtain⟨s,S⟩:=I;have L:=p.hr;have O:=p.hc;refine⟨_,r,rfl,E,J,?_⟩;rw[n8 (B:=[some (bdA q m (q+m) (V3 b r c)),↥(r:Int)])]
  .exact C8 (C _ _)
  .have c1:=bN8 (f:=b.R r) (L:=q+m) (Q:=[some (bdA q m (q+m) b),↥(r:Int)]) (g:=e8 (g1 (K4 "rows") d8) d9) (j8 (x:=.lst (ag0 b.R m (q+m))) rfl rfl (O4 ⋯));rw[F]at c1;unfold aZ9;rw[c1];show(ao5 [bdA q m (q+m) b,.int (r:Int),.int (c:Int)]).bind _=_;rw[cu3 (z b s S) L ⋯ g i];rfl
theorem cG7(P:U5 q m A)(z:∀b:ABd,∀s,Sd m (q+m) A s b.R b.aB b.u->Sz m (q+m) b)(d:∀j,j<q->0<=l9 (A j) (m+1))(S:St m (q+m) A s b.R b.aB b.u)(l:lp (nxC m (q+m)) ((q+m)^m) b=some B):aF0 [bdA q m (q+m) b]=some (bdA q m (q+m) B):=by
 have C:∀b (x:Option T),gF (gN E9 [gSl (e8 (g1 (K4 "rows") d8) (g1 O5 j4)) none (some (g1 O5 j4))]) [some (bdA q m (q+m) b),x]=some (X1 (W2 (b.R m) (q+m))):=λb x=>bN8 (j8 (x:=.lst (ag0 b.R m (q+m))) rfl rfl (aq1 ..))
 unfold aF0 aR0;rw[bd5];show(m8 _ _ [some (bdA q m (q+m) b),none]).bind _=_;rw[O1 (t:=X1 (W2 (b.R m) (q+m))) (C b none) rfl];show(K8 _ _ (ae5 [some (bdA q m (q+m) b),some (X1 (W2 (b.R m) (q+m)))]) [some (bdA q m (q+m) b),some (X1 (W2 (b.R m) (q+m)))]).bind _=_;rw[bx2 h,whl (n:=nxC m (q+m)) (y:=λb=>W2 (b.R m) (q+m)) (I:=λb=>St m (q+m) A s b.R b.aB b.u) (λb e=>bo3 e) (λb o I e=> ?_) _ b B S (bw3 l)]
 .rfl
 .obtain⟨r,c,p,rfl,H,E,F⟩:=bg2 P d b o I e;have J:=p.hr;have L:=p.hc;have Z:=z b s I.toSd;refine⟨_,c,rfl,H,F,?_⟩;rw[n8 (B:=[some (bdA q m (q+m) (V3 b r c)),↥(c:Int)])]
  .exact C8 (C _ _)
  .have t:=cA4 (q:=q) Z (c:=c) ⋯ ⋯;rw[E]at t;unfold aZ9;rw[bj4 (m7 (x:=[bdA q m (q+m) b,.int (c:Int)]) rfl t) rfl];show(ao5 [bdA q m (q+m) b,.int (r:Int),.int (c:Int)]).bind _=_;rw[cu3 Z J ⋯ g i];rfl
end
theorem af2{c:GB}(h:c Q=some x):gIf c a b Q=if x then a Q else b Q:=by unfold gIf;rw[h];rfl
theorem aO1{a b:Nat}:((a:Int)==(b:Int))=decide (a=b):=by
 by_cases h:a=b
 .rw[h,cW2,cW4 rfl]
 .rw[cW3 h,beq_eq_false_iff_ne];omega
theorem ag7(f:Nat->Int)(a b:Nat):u9 f (a+b)=u9 f a++u9 (λj=>f (a+j)) b:=ak2
theorem aj0(h:∀j,j<n->f j=g j):u9 f n=u9 g n:=N3 λj H=>congrArg T.int (h j H)
theorem aU4(f g h:Nat->T)(n:Nat):aa0 (mr n f) (mr n g) (mr n h)=mr n λi=>.tup [f i,g i,h i]:=by
 have :∀l:List Nat,aa0 (l.map f) (l.map g) (l.map h)=l.map λi=>.tup [f i,g i,h i]:=by
  intro l;induction l with
  |nil=>rfl
  |cons a l I=>erw[cI9,aa0,I]
 exact this _
theorem aX1(f:Nat->T):∀(d k:Nat),S7 k ((List.range' k d).map f)=(List.range' k d).map λi=>.tup [.int (i:Int),f i]
 |0,_=>rfl
 |d+1,k=>by rw[List.range'_succ,cI9,S7,aX1 f d (k+1)];rfl
theorem am9(f:Nat->T)(n:Nat):S7 0 (mr n f)=mr n λi=>.tup [.int (i:Int),f i]:=by
 unfold mr;rw[List.range_eq_range',aX1]
theorem M5{n:Nat}{f:Nat->T}(h:g Q=⇑(mr n f)):gN A7 [g] Q=↥(n:Int):=by
 rw[m7 (k8 h rfl) rfl,z0]
noncomputable def aC3(A:Nat->Vc)(q m:Nat):List T:=mr m λi=>.lst (u9 (λj=>A j i) q)
noncomputable def stA(q m:Nat)(A:Nat->Vc):ABd:=⟨λi j=>A j i,aB0 q m,1⟩
theorem cG1(P:U5 q m A)(I:∀j,j<q->A j m= -g j)(F:∀i,i<m->A (q+m) i=b i)(J:q+m+1<=500000):aM7 [.lst (u9 g q),.lst (aC3 A q m),.lst (u9 b m)]=some (bdA q m (q+m) (stA q m A)):=by
 have L:lim=1000000:=rfl;have M:m<=lim:=⋯
 let E:Option T->A3:=λs=>[none,⇑(u9 g q),⇑(aC3 A q m),⇑(u9 b m),s]
 let S:Nat->T:=λi=>.lst (u9 (λj=>if j=i then 1 else 0) m)
 have s:Gi1 (E none)=⇑(mr m S):=w9 (f:=λi=>.int (i:Int)) _ (Z9 (M5 rfl) M) M λi h=>⟨_,rfl,w9 (f:=λi=>.int (i:Int)) (λj=>.int (if j=i then 1 else 0)) (Z9 (M5 rfl) M) M λj H=>⟨_,rfl,by
  rw[af2 (x:=decide (j=i)) (A4 (j8 (x:=.int (j:Int)) (y:=.int (i:Int)) rfl rfl (by rw[L9,aO1])))];by_cases e:j=i
  .rw[cW4 e,cW7 e];rfl
  .rw[cW3 e,cW6 e];rfl⟩⟩
 have B:Gi2 (E ⇑(mr m S))=↥(q:Int):=M5 rfl;have C:Gi3 (E ⇑(mr m S))=⇑(mr m λi=>.lst (u9 (λj=>A j i) (q+m+1))):=by
  refine w9 (f:=λi=>.tup [.lst (u9 (λj=>A j i) q),S i,.int (b i)]) _ (congrArg some (aU4 ..)) M λi h=>⟨_,rfl,?_⟩
  rw[show u9 (λj=>A j i) (q+m+1)=u9 (λj=>A j i) q++u9 (λj=>if j=i then 1 else 0) m++[.int (b i)] by
   rw[ag7,ag7];congr 1
   .congr 1;exact aj0 λj H=>by
     rw[P.aB j i H ⋯];by_cases e:j=i
     .rw[cW7 e.symm,cW7 e]
     .rw[cW6 λz=>e z.symm,cW6 e]
   .show[T.int (A (q+m+0) i)]=_;rw[Nat.add_zero,F i h]]
  have l1:∀(f:Nat->Int) n,(u9 f n).length=n:=λf n=>z0
  exact j8 (j8 (x:=.lst (u9 (λj=>A j i) q)) (y:=S i) rfl rfl (Y2 (by rw[l1,l1];omega))) (y:=.lst [.int (b i)]) rfl (Y2 (by rw[cQ7,l1,l1];show _+1<=_;omega))
 have a:Gi4 (E ⇑(mr m S))=⇑(u9 (λj=>A j m) (q+m+1)):=by
  rw[show u9 (λj=>A j m) (q+m+1)=u9 (λj=> -g j) q++u9 (λ_=>0) (m+1) by
   rw[cT7,ag7];congr 1
   .exact aj0 I
   .refine aj0 λj H=> ?_
    by_cases e:j<m
    .rw[P.aB j m e ⋯,cW6 ⋯]
    .rw[show j=m by omega,P.lz]]
  refine j8 (w9 (f:=λj=>.int (g j)) (λj=>.int (-g j)) rfl ⋯ λj _=>⟨_,rfl,rfl⟩) (w9 (f:=λi=>.int (i:Int)) (λ_=>.int 0) (Z9 (n:=m+1) (j8 (M5 rfl) rfl rfl) ⋯) ⋯ λj _=>⟨_,rfl,rfl⟩) (Y2 ?_);rw[z0,z0];omega
 have o:Gi5 (E ⇑(mr m S))=⇑(at7 (aB0 q m) m):=w9 (f:=λi=>.int (i:Int)) _ (Z9 (M5 rfl) M) M λi h=>⟨_,rfl,by
  rw[j8 (x:=.int (q:Int)) (y:=.int (i:Int)) (M5 rfl) rfl Q8];unfold aB0;rw[cW7 h,Int.natCast_add]⟩
 unfold aM7 bR4 bB6;show(Gi1 (E none)).bind (λs=>(Gi2 (E (some s))).bind λq=>(Gi3 (E (some s))).bind λr=>(Gi4 (E (some s))).bind λl=>(Gi5 (E (some s))).bind _)=_;rw[s,cI7,B,C,a,o];show(if(mr m _).length<lim then some (bdT _ (mr m (λi=>T.lst (u9 (λj=>A j i) (q+m+1)))++[T.lst (u9 (λj=>A j m) (q+m+1))]) _ 1)else none)=_;rw[cW7 (by rw[z0];omega),<-aD6 (f:=λi=>T.lst (u9 (λj=>A j i) (q+m+1)))];rfl
theorem aG7(h:0<u):nrm 0 u=fr 0 1:=by
 unfold nrm;rw[Int.gcd_zero_left,cN5 ⋯,Int.ediv_self ⋯];simp
theorem cm9{Q:A3}{r:List T}{i:Nat}{t:T}{B g:G}(k:Nat)(h:g Q=some t)(H:B Q=↥(i:Int))(C:(Q[k]?).join=⇑r)(E:i<r.length):aZ8 k B g Q=some (.nx (Q.set k ⇑(r.set i t))):=by
 unfold aZ8;rw[h,cI7,H,cI7,C];dsimp only;rw[am7 E];rfl
theorem cH5(Z:Sz m L b)(J:∀i k,i<m->k<m->b.aB i=b.aB k->i=k)(I:0<s)(C:big s=true)(H:(b.u*s).natAbs<2^4000)(P:m<=lim)(h:q<=lim):ai7 [bdA q m L b,.int s]=⇑(mr q λj=>nrm (amt m L b.R b.aB j) (b.u*s)):=by
 let R:Nat->Option T:=λi=>⇑(mr q λj=>nrm (amt i L b.R b.aB j) (b.u*s))
 let E:Option T->Option T->Option T->A3:=λr x y=>[some (bdA q m L b),↥s,r,x,y]
 have u:=cN1 Z.up I;have S:o6 2 (gFr (gM [] (o0 (itR (g1 (K4 "sought") d8)) 1 [] (stN 0) u5 (gC T0)))) (E none none none)=some (.nx (E (R 0) none none)):=by
  refine C8 ?_;unfold gFr;show((o0 (itR (g1 (K4 "sought") d8)) 1 [] (stN 0) u5 (gC T0)) (E none none none)).bind _=_;rw[w9 (f:=λi=>.int (i:Int)) (λj=>nrm (amt 0 L b.R b.aB j) (b.u*s)) (Z9 (n:=q) rfl h) h λj _=>⟨_,rfl,by
   show some (fr 0 1)=some (nrm 0 (b.u*s));rw[aG7 u]⟩]
  rfl
 obtain⟨U,M,x,y,rfl⟩:=aa4 (st:=st2 3 4) (n:=m) (f:=λi=>.tup [.int (i:Int),.int (b.aB i:Int)]) (Q:=E (R 0) none none) (b:=sIf (bOf (g2 fLt v8 (g1 (K4 "sought") d8))) (aZ8 2 v8 (gF (gN ae0 [e8 (e8 (g1 (K4 "rows") d8) n9) (g1 O5 j4),g2 J9 (g1 (K4 "under") d8) d9]))) z9)
  (λi Q=>∃x y,Q=E (R i) x y) ⟨none,none,rfl⟩ λi F Q ⟨x,y,e⟩=>by
   subst e;have n:∀j,amt (i+1) L b.R b.aB j=if b.aB i=j then b.R i L else amt i L b.R b.aB j:=λj=>by
    unfold amt;rw[l9];by_cases e:b.aB i=j
    .rw[cW7 e,cW7 e,M9 λk O=>cW6 λz=> ?_,cN9];have :=J k i ⋯ F (z.trans e.symm);omega
    .rw[cW6 e,cW6 e,cL7]
   refine⟨_,E (R (i+1)) ↥(i:Int) ↥(b.aB i:Int),rfl,?_,_,_,rfl⟩;have t:(bOf (g2 fLt v8 (g1 (K4 "sought") d8))) (E (R i) ↥(i:Int) ↥(b.aB i:Int))=some (decide (b.aB i<q)):=by
    rw[<-bw1];rfl
   show sIf _ _ _ (E (R i) ↥(i:Int) ↥(b.aB i:Int))=_;by_cases e:b.aB i<q
   .rw[X8 (by rw[t,cW4 e]),cm9 (r:=mr q λj=>nrm (amt i L b.R b.aB j) (b.u*s)) (t:=nrm (b.R i L) (b.u*s)) (i:=b.aB i) 2 (bj4 (m7 (k8 (j8 (j8 (x:=.lst (ag0 b.R m L)) (y:=.int (i:Int)) rfl rfl (O4 ⋯)) rfl (aq1 ..)) (k8 (j8 (x:=.int b.u) (y:=.int s) rfl rfl (J6 Z.u C)) rfl)) (aZ0 u H ∎)) rfl) rfl rfl (by rw[z0];exact e),aJ8,N3 (g:=λj=>nrm (amt (i+1) L b.R b.aB j) (b.u*s)) λj _=> ?_]
    .rfl
    .rw[n j];by_cases B:b.aB i=j
     .rw[cW7 B.symm,cW7 B]
     .rw[cW6 λz=>B z.symm,cW6 B]
   .rw[Q2 (by rw[t,cW3 e])];show some (Out.nx (E (R i) _ _))=some (.nx (E (R (i+1)) _ _));rw[show R (i+1)=R i from congrArg (λl=>some (T.lst l)) (N3 λj N=>by rw[n j,cW6 ⋯])]
 rw[ai7,o7 2 _ _ _ rfl,aM5];show al3 (m8 _ _ (E none none none))=_;rw[n8 S,n8 (B:=E (R m) x y)]
 .rfl
 .rw[O6,show gLM [2] (itE (g1 (K4 "owners") d8)) (E (R 0) none none)=some (mr m λi=>.tup [.int (i:Int),.int (b.aB i:Int)])from congrArg some (am9 ..)];exact M
theorem cF5(Z:Sz m (q+m) b)(H:b.u.natAbs<2^4000)(h:m<=lim):ak7 [bdA q m (q+m) b]=⇑(mr m λk=>nrm (b.R m (q+k)) b.u):=by
 rw[ak7,o7 1 _ _ _ rfl,aP8,y4,w9 (n:=m) (f:=λk=>.int (b.R m (q+k))) (λk=>nrm (b.R m (q+k)) b.u) ?_ h λk _=>⟨_,rfl,m7 (k8 (x:=.int (b.R m (q+k))) rfl (k8 (x:=.int b.u) rfl rfl)) (aZ0 Z.up H ∎)⟩]
 .rfl
 .rw[Y7];unfold gSl;rw[show(e8 (g1 (K4 "rows") d8) (g1 O5 j4)) (A0 1 [bdA q m (q+m) b])=⇑(u9 (b.R m) (q+m+1))from j8 (x:=.lst (ag0 b.R m (q+m))) rfl rfl (aq1 ..)];show some (al5 (u9 (b.R m) (q+m+1)) (some (q:Int)) (some (-1)))=_;rw[cT7,ag7];unfold al5;have l1:(u9 (b.R m) q++u9 (λj=>b.R m (q+j)) (m+1)).length=q+(m+1):=by rw[cQ7];unfold u9;rw[z0,z0]
  rw[l1];have e:aQ9 (q+(m+1)) 0 (some (q:Int))=q:=by
   show(if(q:Int)<0 then((q:Int)+((q+(m+1):Nat):Int)).toNat else min (q:Int).toNat (q+(m+1)))=q;rw[cW6 ⋯,cN7,cU6 ⋯]
  have E:aQ9 (q+(m+1)) (q+(m+1)) (some (-1))=q+m:=by
   show((-1:Int)+((q+(m+1):Nat):Int)).toNat=_;omega
  rw[e,E,Nat.add_sub_cancel_left,List.drop_append_of_le_length (by unfold u9;rw[z0];exact cT8 _),cO9 (by unfold u9;rw[z0];exact cT8 _),cJ5,ag7,cT5 (by unfold u9;rw[z0];exact cT8 _),cT6 (by unfold u9;rw[z0];exact cT8 _)];rfl
noncomputable def O3(d:Nat->Int):Nat->Int
 |0=>1
 |n+1=>O3 d n*d n
theorem cG5{n d:Nat->Int}(H:∀i,i<m->big (O3 d i)=true)(B:∀i,i<m->big (d i)=true):ad7 [.lst (mr m λi=>fr (n i) (d i))]=↥(O3 d m):=by
 rw[ad7,o7 1 _ _ _ rfl,aE8,n8 (B:=[⇑(mr m λi=>fr (n i) (d i)),↥1,none]) rfl];obtain⟨C,k,x,rfl⟩:=aa4 (st:=stN 2) (n:=m) (f:=λi=>fr (n i) (d i)) (b:=o6 1 (g2 J9 d9 (e8 l7 j4))) (Q:=[⇑(mr m λi=>fr (n i) (d i)),↥1,none]) (λi Q=>∃x,Q=[⇑(mr m λi=>fr (n i) (d i)),↥(O3 d i),x]) ⟨none,rfl⟩ λi h Q ⟨x,e⟩=>by
  subst e;exact⟨_,_,rfl,C8 (j8 (x:=.int (O3 d i)) rfl (j8 (x:=fr (n i) (d i)) rfl rfl (ix1 ..)) (J6 (H i h) (B i h))),_,rfl⟩
 rw[n8 (by exact k)];rfl
theorem X3(H:0<b):∃n d,nrm a b=fr n d/\0<d/\Int.gcd n d=1/\n*b=a*d:=by
 obtain⟨p,P,_,_⟩:=am6 (n:=a) H;refine⟨_,_,rfl,p,P,?_⟩;have h:(Int.gcd a b:Int)*(a/(Int.gcd a b:Int))=a:=Int.mul_ediv_cancel' (Int.gcd_dvd_left ..);have B:(Int.gcd a b:Int)*(b/(Int.gcd a b:Int))=b:=Int.mul_ediv_cancel' (cM1 ..);generalize a/(Int.gcd a b:Int)=x at *;generalize b/(Int.gcd a b:Int)=y at *;generalize(Int.gcd a b:Int)=g at *;rw[<-h,<-B,cM7,cM4]
theorem bL1(F:0<d)(I:0<e)(g1:Int.gcd n d=1)(g2:Int.gcd m e=1)(h:n*e=m*d):n=m/\d=e:=by
 have H:d.natAbs∣e.natAbs:=by
  have c:Nat.Coprime d.natAbs n.natAbs:=by rw[Nat.Coprime,Nat.gcd_comm];exact g1
  refine c.dvd_of_dvd_mul_right ⟨m.natAbs,?_⟩;have :=congrArg Int.natAbs h;rw[cN4,cN4]at this;rw[cU7,this,cU7]
 have B:e.natAbs∣d.natAbs:=by
  have c:Nat.Coprime e.natAbs m.natAbs:=by rw[Nat.Coprime,Nat.gcd_comm];exact g2
  refine c.dvd_of_dvd_mul_right ⟨n.natAbs,?_⟩;have :=congrArg Int.natAbs h;rw[cN4,cN4]at this;rw[cU7,<-this,cU7]
 have C:=Nat.dvd_antisymm H B;have E:d=e:=⋯
 subst E;exact⟨cM0 ⋯ h,rfl⟩
theorem aK5(H:0<b)(B:0<d)(h:a*d=c*b):nrm a b=nrm c d:=by
 obtain⟨n,e,C,E,F,I⟩:=X3 (a:=a) H;obtain⟨m,f,k,J,L,M⟩:=X3 (a:=c) B;have :n*f=m*e:=by
  have z:(n*f)*(b*d)=(m*e)*(b*d):=by
   calc (n*f)*(b*d)=(n*b)*(f*d):=by erw[cM5,cM7]
    _=(a*e)*(f*d):=by rw[I]
    _=(a*d)*(e*f):=by erw[cM5,cM7]
    _=(c*b)*(e*f):=by rw[h]
    _=(c*f)*(b*e):=by erw[cM5,cM7]
    _=(m*d)*(b*e):=by rw[M]
    _=(m*e)*(b*d):=by erw[cM5,cM7]
  exact cM0 (by have :=cN1 H B;omega) z
 obtain⟨r,R⟩:=bL1 E J F L this;rw[C,k,r,R]
section
variable {u:Int}(h:0<u)
include h
theorem ax2(a b:Int):ah2 (nrm a u) (nrm b u)=nrm (a+b) u:=by
 obtain⟨n,e,H,B,I,C⟩:=X3 (a:=a) h;obtain⟨m,f,k,E,J,F⟩:=X3 (a:=b) h;rw[H,k];show nrm (n*f+m*e) (e*f)=_;refine aK5 (cN1 B E) h ?_
 calc (n*f+m*e)*u=(n*u)*f+(m*u)*e:=by rw[cL6];erw[cM5,cM7]
  _=(a*e)*f+(b*f)*e:=by rw[C,F]
  _=(a+b)*(e*f):=by rw[cL6];erw[cM5,cM7]
theorem bU2(a:Int):bU3 (nrm a u)=nrm (-a) u:=by
 obtain⟨n,e,H,B,C,E⟩:=X3 (a:=a) h;rw[H];show fr (-n) e=_;rw[<-cp4 (n:= -n) (d:=e) (by simpa[Int.gcd]using C)];exact aK5 B h (by rw[cN6,E,cN6])
theorem bW3(a r:Int):bA5 (nrm a u) r=decide (r*u<a):=by
 obtain⟨n,e,B,C,E,H⟩:=X3 (a:=a) h;rw[B];show decide (r*e<n*1)=_;rw[cN0];by_cases z:r*u<a
 .rw[cW4 z,cW4];have :(r*u)*e<a*e:=cM8 z C;rw[<-H,cN2]at this;exact cM2 this ⋯
 .rw[cW3 z,cW3];intro q;apply z;have :(r*e)*u<n*u:=cM8 q h;rw[H,cN2]at this;exact cM2 this ⋯
theorem ar0(H:a.natAbs<2^k)(B:u.natAbs<2^k):Fz k (nrm a u):=aY8 h H B
theorem bE8(H:0<=a)(B:a.natAbs<2^k)(C:u.natAbs<2^k):Am k (nrm a u):=cv5 h H B C
theorem bD5(B:a.natAbs<2^k)(C:b.natAbs<2^k)(H:u.natAbs<2^k)(E:k<=1990):ab0 [nrm a u,nrm b u]=some (nrm (a+b) u):=by
 rw[(aU3 (ar0 h B H) (ar0 h C H) ⋯).1,ax2 h]
theorem bD7(B:a.natAbs<2^k)(C:b.natAbs<2^k)(H:u.natAbs<2^k)(E:k<=1990):an1 [nrm a u,nrm b u]=some (nrm (a-b) u):=by
 rw[(cF7 (ar0 h B H) (ar0 h C H) ⋯).1,bU2 h,ax2 h];rfl
theorem bl7:∀(s:List Int) (a:Int),ag9 (s.map λk=>nrm k u) (nrm a u)=nrm (a+s.sum) u
 |[],a=>by simp[ag9]
 |k::s,a=>by
  have :=bl7 s (a+k);unfold ag9 at this⊢;rw[cI9,cJ1,ax2 h,this,List.sum_cons,Int.add_assoc]
theorem bH5(s:List Int):ag9 (s.map λk=>nrm k u) (fr 0 1)=nrm s.sum u:=by
 rw[<-aG7 h,bl7 h,cN9]
end
noncomputable def gtB:T->T->Bool
 |.tup [.int a,.int b],.tup [.int c,.int d]=>decide (c*b<a*d)
 |_,_=>false
theorem aJ1(J:Fz k t)(I:Fz k s)(N:k<=2000):R6 [t,s]=↑(gtB t s)/\L8 [s,t]=↑(gtB t s):=by
 obtain⟨a,b,rfl,L,_,H,C⟩:=J;obtain⟨c,d,rfl,M,_,E,F⟩:=I;have B:∀{x:Int},x.natAbs<2^k->big x=true:=λh=>P5 h ⋯
 constructor
 .rw[R6,o7 2 _ _ _ rfl,aM1];erw[y4,D6,G8,v9,A0,fr,cI9,cJ0,cJ3,cJ4,cJ9,cJ5,cI8,cJ6,jn,cI7,ix0,ix1,J6 (B H) (B F),J6 (B E) (B C),aE3,Q7];rfl
 .rw[L8,o7 2 _ _ _ rfl,aL7];erw[y4,D6,G8,v9,A0,fr,cI9,cJ0,cJ3,cJ4,cJ9,cJ5,cI8,cJ6,jn,cI7,ix0,ix1,J6 (B H) (B F),J6 (B E) (B C),af5,Q7];rfl
theorem bM3(h:0<u)(a c:Int):gtB (nrm a u) (nrm c u)=decide (c<a):=by
 obtain⟨n,e,H,B,L,C⟩:=X3 (a:=a) h;obtain⟨m,f,F,I,M,J⟩:=X3 (a:=c) h;rw[H,F];show decide (m*e<n*f)=_;have k:(m*e)*u=c*(e*f)/\(n*f)*u=a*(e*f):=by
  constructor
  .calc (m*e)*u=(m*u)*e:=by erw[cM5,cM7]
    _=(c*f)*e:=by rw[J]
    _=c*(e*f):=by erw[cM5,cM7]
  .calc (n*f)*u=(n*u)*f:=by erw[cM5,cM7]
    _=(a*e)*f:=by rw[C]
    _=a*(e*f):=by erw[cM5,cM7]
 have E:=cN1 B I;by_cases z:c<a
 .rw[cW4 z,cW4];have :c*(e*f)<a*(e*f):=cM8 z E;rw[<-k.1,<-k.2]at this;exact cM2 this ⋯
 .rw[cW3 z,cW3];intro q;apply z;have :(m*e)*u<(n*f)*u:=cM8 q h;rw[k.1,k.2]at this;exact cM2 this ⋯
noncomputable def T9(t:T)(z:Int):T:=match t with
 |.tup [.int a,.int b]=>nrm (a*z) b
 |t=>t
theorem bd7(I:Fz k t)(L:k<=3000)(z:Int)(J:z.natAbs<2^60):af6 [t,fr z 1]=some (T9 t z)/\P7 [t,fr z 1]=some (T9 t z):=by
 obtain⟨a,b,rfl,F,g,E,H⟩:=I;have B:∀{x:Int},x.natAbs<2^k->big x=true:=λh=>P5 h ⋯
 have b1:big 1=true:=P5 (k:=1) ∎ ∎;have C:big z=true:=P5 J ∎;constructor
 .rw[af6,o7 2 _ _ _ rfl,bd4];erw[y4,N7,D0,F7,D6,G8,v9,A0,fr,cI9,cJ0,cJ3,cJ4,cJ9,cJ5,cI8,cJ6,jn,cI7,ix0,ix1,J6 (B E) C,J6 (B H) b1,cN0,aZ0 F H (by omega:k<=4000),Q7];rfl
 .rw[P7,o7 2 _ _ _ rfl,aL8];erw[y4,N7,D0,F7,D6,G8,v9,A0,fr,cI9,cJ0,cJ3,cJ4,cJ9,cJ5,cI8,cJ6,jn,cI7,ix0,ix1,J6 (B E) C,J6 (B H) b1,cN0,bZ3 F H (by omega:k<=4000),Q7];rfl
theorem bs1(C:Fz k t)(z:Int)(E:z.natAbs<2^60):Fz (k+60) (T9 t z):=by
 obtain⟨a,b,rfl,H,g,h,B⟩:=C;refine aY8 H ?_ (cU2 B (cV2 ∎ ⋯));rw[cN4];exact N2 h E
theorem aR5(h:0<u)(a z:Int):T9 (nrm a u) z=nrm (a*z) u:=by
 obtain⟨n,e,H,B,E,C⟩:=X3 (a:=a) h;rw[H];show nrm (n*z) e=_;refine aK5 B h ?_;rw[cN2,C,cN2]
noncomputable def gl0:Nat->Int:=λj=>if j=0 then 1 else 0
structure au2(d:J8)(e:Nat)(u:Int)(x y:Nat->Int):Prop where
 B:J8.Best d u x (λj=>y (d.W+j)) y
 us:u.natAbs<2^100
 xs:∀j,(x j).natAbs<2^(e+104)
 ys:∀j,j<d.m->(y j).natAbs<2^100
theorem cA9{d:J8}{n B y:Nat->Int}(O:d.Ok)(hm:d.m<=11)(hq:d.q<=177148)(v:∀j k,j≠d.q+d.m->(d.A j k).natAbs<=20)(w:∀k,k<d.m->(d.A (d.q+d.m) k).natAbs<=2^e)(he:e<=3000)
  (hd:∀i,i<d.m->0<B i) (I:∀i,i<=d.m->(O3 B i).natAbs<2^3000) (hb:∀i,i<d.m->d.A (d.q+d.m) i=n i*(O3 B d.m/B i)) (hn:∀i,i<d.m->big (n i)=true) (Q:∀i,i<d.m->big (B i)=true) (af:∀i,i<d.m->big (O3 B d.m/B i)=true)
  (ai:0<O3 B d.m) (N:0<V) (hy:∀ah,0<=y ah) (hr:∀p,p<d.P->d.loa y p<=V*d.cap p) (ae:∀k,k<d.W->V*d.need k<=d.bro y k):
  ∃u x y,au2 d e u x y/\aF1 [.lst (u9 gl0 d.q),.lst (aC3 d.A d.q d.m),.lst (mr d.m λi=>fr (n i) (B i))]=some (.tup [.lst (mr d.q λj=>nrm (x j) (u*O3 B d.m)),.lst (mr d.m λk=>nrm (y k) u)]):=by
 have P:=J8.prob (d:=d);have lm:lim=1000000:=rfl;have X:0<d.m:=by obtain⟨k,hk,_⟩:=O.w0;unfold J8.m;omega
 obtain⟨x,W,U⟩:=J8.start hy hr ae;have c:=λs (b:ABd) (S:Sd d.m (d.q+d.m) d.A s b.R b.aB b.u)=>P.sz hm v w S
 have z:∀b:ABd,∀s,Sd d.m (d.q+d.m) d.A s b.R b.aB b.u->Sz d.m (d.q+d.m) b:=λb s S=>by
  obtain⟨o,r,t⟩:=c s b S;refine⟨S.T.pos,P5 o ∎,λi j H F=> ?_⟩;by_cases h:j=d.q+d.m
  .rw[h];exact P5 (t i H) ⋯
  .exact P5 (r i j H ⋯ h) ∎
 obtain⟨s,L⟩:=P.start;obtain⟨b1,l1,a,M⟩:=bL8 (b:=stA d.q d.m d.A) P L N W U;obtain⟨b2,l2,C,aa⟩:=bC8 P (J8.ones O) M;obtain⟨J,z2,z3⟩:=c a b2 C.toSd;have Z:=z b2 a C.toSd;have Y:d.q+d.m+1<=lim:=⋯
 have m1:d.m+1<=lim:=⋯
 have ag:=cG1 (b:=λi=>n i*(O3 B d.m/B i)) (g:=gl0) P (λj F=>by rw[J8.goal F];unfold gl0;split<;>rfl) hb ⋯;have kb:=cG0 Y m1 X P z N W U L l1;have l:=cG7 Y m1 X P z (J8.ones O) M l2;have us:(b2.u*O3 B d.m).natAbs<2^4000:=by
  rw[cN4];exact cU2 (N2 J (I d.m (cT8 _))) (cV2 ∎ ∎)
 have f:=cH5 (q:=d.q) Z (λi k H hk e=>C.T.inj ⋯ ⋯ e) ai (P5 (I d.m (cT8 _)) ∎) us ⋯ ⋯;have pr:=cF5 (q:=d.q) Z (cU2 J (cV2 ∎ ∎)) ⋯;refine⟨b2.u,amt d.m (d.q+d.m) b2.R b2.aB,λk=>b2.R d.m (d.q+k),⟨J8.best O C aa,J,λj=> ?_,λj F=>z2 _ _ ⋯ ⋯ ⋯⟩,?_⟩
 .by_cases e:Bs d.m b2.aB j
  .obtain⟨i,H,e⟩:=e;rw[<-e,cj5 C.toSd H];exact z3 i ⋯
  .rw[cj6 e];exact Nat.pow_pos ∎
 .rw[aF1,o7 3 _ _ _ rfl,bs0]
  let R:=T.lst (aC3 d.A d.q d.m)
  let E:=T.lst (mr d.m λi=>fr (n i) (B i))
  rw[O1 (t:=.int (O3 B d.m)) (o:=some (.ret (.tup [.lst (mr d.q λj=>nrm (amt d.m (d.q+d.m) b2.R b2.aB j) (b2.u*O3 B d.m)),.lst (mr d.m λk=>nrm (b2.R d.m (d.q+k)) b2.u)])))]
  .rfl
  .exact m7 (x:=[E]) rfl (cG5 (λi H=>P5 (I i ⋯) ∎) Q)
  .have g:(o0 (itL l7) 1 [3] (stN 0) u5 (g2 J9 (e8 d8 l8) (g2 J7 d9 (e8 d8 j4)))) [⇑(u9 gl0 d.q),some R,some E,↥(O3 B d.m),none]=⇑(u9 (λi=>n i*(O3 B d.m/B i)) d.m):=
    w9 (f:=λi=>fr (n i) (B i)) _ rfl ⋯ λi H=>⟨_,rfl,j8 (j8 (x:=fr (n i) (B i)) rfl rfl (ix0 ..)) (j8 (x:=.int (O3 B d.m)) rfl (j8 (x:=fr (n i) (B i)) rfl rfl (ix1 ..)) (aq7 (hd i H) (Q i H))) (J6 (hn i H) (af i H))⟩
   show aU7 _ _ _ _ _ _ [⇑(u9 gl0 d.q),some R,some E,↥(O3 B d.m),none]=_;unfold aU7;rw[k8 (x:=.lst (u9 gl0 d.q)) rfl (k8 (x:=R) rfl (k8 g rfl)),cI7,ag,cI7,kb,cI7,l,cI7,ae4 (k8 (m7 (x:=[bdA d.q d.m (d.q+d.m) b2,.int (O3 B d.m)]) rfl f) (k8 (m7 (x:=[bdA d.q d.m (d.q+d.m) b2]) rfl pr) rfl))];rfl
section
variable (o:Nat->Nat)(x:Nat->Int)(k:Nat)(w:Int)
noncomputable def lft:Nat->Int
 |0=>w
 |i+1=>lft i-(if o i=k then(if lft i<x i then lft i else x i)else 0)
noncomputable def tkn(i:Nat):Int:=if o i=k then(if lft o x k w i<x i then lft o x k w i else x i)else 0
variable {o x k w}
theorem aS3(i:Nat):lft o x k w (i+1)=lft o x k w i-tkn o x k w i:=rfl
theorem aN8:∀i,lft o x k w i=w-l9 (tkn o x k w) i
 |0=>by simp[lft,l9]
 |i+1=>by rw[aS3,aN8 i,l9];omega
theorem aD8(H:∀i,0<=x i)(h:0<=w):∀i,0<=lft o x k w i
 |0=>h
 |i+1=>by
  have :=aD8 H h i;rw[lft];split
  .split<;>omega
  .omega
theorem bk8(h:∀i,0<=x i)(H:0<=w)(i:Nat):0<=tkn o x k w i:=by
 have :=aD8 (o:=o) (k:=k) h H i;have :=h i;unfold tkn;split
 .split<;>omega
 .omega
theorem ck2(i:Nat):tkn o x k w i<=if o i=k then x i else 0:=by
 unfold tkn;split
 .split<;>omega
 .omega
theorem bL4(H:∀i,0<=x i)(B:0<=w):∀i,lft o x k w i=0\/lft o x k w i=w-l9 (λl=>if o l=k then x l else 0) i
 |0=>.inr (by simp[lft,l9])
 |i+1=>by
  rw[lft,l9];have :=H i;rcases bL4 H B i with h|h
  .left;rw[h];split
   .split<;>omega
   .omega
  .by_cases e:o i=k
   .rw[cW7 e,cW7 e];by_cases q:lft o x k w i<x i
    .rw[cW7 q];left;omega
    .rw[cW6 q];right;omega
   .rw[cW6 e,cW6 e];right;omega
theorem cd4(B:∀i,0<=x i)(H:0<=w)(h:w<=l9 (λl=>if o l=k then x l else 0) n):l9 (tkn o x k w) n=w:=by
 have C:=aN8 (o:=o) (x:=x) (k:=k) (w:=w) n;have E:=aD8 (o:=o) (k:=k) B H n;rcases bL4 (o:=o) (k:=k) B H n with q|q<;>omega
theorem aQ6(H:∀i,0<=x i)(h:0<=w)(c:Nat->Bool)(i:Nat):0<=l9 (λl=>if c l then tkn o x k w l else 0) i/\l9 (λl=>if c l then tkn o x k w l else 0) i<=w:=by
 have B:=aN8 (o:=o) (x:=x) (k:=k) (w:=w) i;have C:=aD8 (o:=o) (k:=k) H h i;have a:=al9 (f:=λ_=>0) (g:=λl=>if c l then tkn o x k w l else 0) (n:=i) λl _=>by
  have :=bk8 (o:=o) (k:=k) H h l;split<;>omega
 have b:=al9 (f:=λl=>if c l then tkn o x k w l else 0) (g:=tkn o x k w) (n:=i) λl _=>by
  have :=bk8 (o:=o) (k:=k) H h l;split<;>omega
 rw[au7]at a;omega
end
theorem bM0(j:Nat)(r:List Nat):fIn (.int (j:Int)) (M7 r)=↑(r.contains j):=by
 have :S5 (r.map bb3)=some (r.map λ(i:Nat)=>(i:Int)):=by
  have :=aS8 (r.map λ(i:Nat)=>(i:Int));rwa[cR7]at this
 show(S5 (r.map bb3)).bind _=_;rw[this,cI7];congr 2;rw[cO6,cO6];by_cases h:j∈r
 .rw[cW4 h,cW4];exact List.mem_map.mpr ⟨j,h,rfl⟩
 .rw[cW3 h,cW3];intro z;obtain⟨i,H,B⟩:=cI3 z;apply h;have :i=j:=⋯
  rwa[<-this]
noncomputable def ofL(L:List (Nat×List Nat))(l:Nat):Nat:=((L[l]?).getD (0,[])).1
noncomputable def onL(L:List (Nat×List Nat))(l p:Nat):Bool:=((L[l]?).getD (0,[])).2.contains p
theorem aW3(d:B)(l:List B):l=mr l.length λi=>(l[i]?).getD d:=by
 apply List.ext_getElem?;intro i;rw[cQ0];by_cases h:i<l.length
 .rw[cQ1 h,cP8 h];simp[h]
 .rw[cP9 ⋯,cP9 (by simp;omega)];rfl
noncomputable def u7(v:List Way)(k:Nat):T:=aA8 (frW v k) (toW v k) (rmW v k)
theorem D9(v:List Way):v.map z7=mr v.length (u7 v):=by
 conv=>lhs;rw[aW3 (0,0,0) v,cR7]
 rfl
theorem aF8(h:∀w∈W,U8 p w=true)(H:k<W.length):(rmW W k).natAbs<2^60:=by
 have :=ag8 h H;omega
theorem bD9(N:K0 p w v)(t:Nat->T)(B:∀i,i<v.length->Fz k (t i))(H:k<=3000):ab2 [k7 p w v,.lst (mr v.length t)]=⇑(mr v.length λi=>T9 (t i) (rmW v i)):=by
 have C:=N.v3;rw[ab2,o7 2 _ _ _ rfl,aY6,y4,w9 (n:=v.length) (f:=λi=>.tup [t i,u7 v i]) (λi=>T9 (t i) (rmW v i)) (by rw[<-R0,<-D9];rfl) (by show _<=1000000;omega) λi h=>⟨_,rfl,m7 (k8 (x:=t i) rfl (k8 (ae4 (k8 (j8 (x:=u7 v i) rfl rfl (ix2 ..)) (k8 rfl rfl))) rfl)) (bd7 (B i h) H _ (aF8 N.vt h)).1⟩];rfl
theorem ar7(L:List (Nat×List Nat)):L.map P8=mr L.length λl=>P8 ((L[l]?).getD (0,[])):=by
 conv=>lhs;rw[aW3 (0,[]) L,cR7]
 rfl
theorem cG3{u:Int}(H:0<u){L:List (Nat×List Nat)}{x:Nat->Int}{k P e:Nat}{w:Int}(C:∀i,0<=x i)(B:0<=w)(F:u.natAbs<2^e)(U:w.natAbs<2^e)(W:∀i,(x i).natAbs<2^e)(p:e<=1900)(I:P<=lim)(y:L.length<=lim):
  av4 [.int (P:Int),.lst (L.map P8),.lst (mr L.length λl=>nrm (x l) u),.int (k:Int),nrm w u]=⇑(mr P λj=>nrm (l9 (λl=>if onL L l j then tkn (ofL L) x k w l else 0) L.length) u):=by
 let R:=λi:Nat=>some (T.lst (mr P λj=>nrm (l9 (λl=>if onL L l j then tkn (ofL L) x k w l else 0) i) u))
 let f:=λi=>some (nrm (lft (ofL L) x k w i) u)
 let n:=λl:Nat=>P8 ((L[l]?).getD (0,[]))
 let E:Option T->Option T->Option T->Option T->Option T->A3:=λr s a b c=>[↥(P:Int),⇑(L.map P8),some (T.lst (mr L.length λl=>nrm (x l) u)),↥(k:Int),some (nrm w u),r,s,a,b,c]
 have t:∀{z:Int},0<=z->z<=w->z.natAbs<2^e:=λd g=>Nat.lt_of_le_of_lt ⋯ U
 obtain⟨aa,X,a,b,c,rfl⟩:=aa4 (st:=st2 7 8) (n:=L.length) (f:=λl=>.tup [n l,nrm (x l) u]) (Q:=E (R 0) (f 0) none none none) (b:=sIf (bOf (g2 fEq (e8 L6 l8) n9)) (m8 (o6 9 (gIf (bOf (gN R6 [an9,C7])) C7 an9)) (m8 (o6 6 (gN an1 [C7,S6])) (o6 5 (o0 (itE u0) 2 [9,7] (st2 0 1) u5 (gIf (bOf (g2 fIn d8 (e8 n9 j4))) (gN ab0 [d9,l7]) d9))))) z9)
  (λi Q=>∃a b c,Q=E (R i) (f i) a b c) ⟨none,none,none,rfl⟩ λi v Q ⟨a,b,c,h⟩=>by
   subst h;have Y:=aD8 (o:=ofL L) (k:=k) C B i;have lw:=aN8 (o:=ofL L) (x:=x) (k:=k) (w:=w) i;have sp:0<=l9 (tkn (ofL L) x k w) i/\l9 (tkn (ofL L) x k w) i<=w:=by simpa using aQ6 (o:=ofL L) (x:=x) (k:=k) (w:=w) C B (λ_=>true) i
   have t0:=bk8 (o:=ofL L) (k:=k) C B i;have t1:tkn (ofL L) x k w i<=w:=by
    have :=aD8 (o:=ofL L) (k:=k) C B (i+1);rw[aS3]at this;omega
   have M:(lft (ofL L) x k w i).natAbs<2^e:=t Y ⋯;have J:=t t0 t1;have N:(bOf (g2 fEq (e8 L6 l8) n9)) (E (R i) (f i) (some (n i)) (some (nrm (x i) u)) c)=some (decide (ofL L i=k)):=A4 (by rw[<-aO1];exact j8 (j8 (x:=n i) rfl rfl (ix0 ..)) rfl L9);refine⟨_,E (R (i+1)) (f (i+1)) (some (n i)) (some (nrm (x i) u)) (if ofL L i=k then some (nrm (tkn (ofL L) x k w i) u)else c),rfl,?_,_,_,_,rfl⟩;show sIf _ _ _ (E (R i) (f i) (some (n i)) (some (nrm (x i) u)) c)=_;by_cases q:ofL L i=k
   .have Z:tkn (ofL L) x k w i=if lft (ofL L) x k w i<x i then lft (ofL L) x k w i else x i:=cW7 q
    rw[X8 (by rw[N,cW4 q]),cW7 q,O1 (t:=nrm (tkn (ofL L) x k w i) u) ?_ rfl]
    .show m8 _ _ (E (R i) (f i) (some (n i)) (some (nrm (x i) u)) (some (nrm (tkn (ofL L) x k w i) u)))=_;rw[O1 (t:=nrm (lft (ofL L) x k w (i+1)) u) (m7 (x:=[nrm (lft (ofL L) x k w i) u,nrm (tkn (ofL L) x k w i) u]) rfl (bD7 H M J F ⋯)) rfl];refine C8 (t:=.lst (mr P λj=>nrm (l9 (λl=>if onL L l j then tkn (ofL L) x k w l else 0) (i+1)) u)) (w9 (f:=λj=>.tup [.int (j:Int),nrm (l9 (λl=>if onL L l j then tkn (ofL L) x k w l else 0) i) u]) _ (congrArg some (am9 ..)) I λj _=>⟨_,rfl,?_⟩);have S:=aQ6 (o:=ofL L) (x:=x) (k:=k) (w:=w) C B (λl=>onL L l j) i;rw[af2 (x:=onL L i j) (A4 (j8 (x:=.int (j:Int)) rfl (j8 (x:=n i) rfl rfl (ix1 ..)) (bM0 ..))),l9];cases onL L i j
     .rw[cW6 cK6,cW6 cK6,cL7];rfl
     .exact m7 rfl (bD5 H (t S.1 S.2) J F ⋯)
    .have o:=(aJ1 (ar0 H (W i) F) (ar0 H M F) ⋯).1;rw[bM3 H]at o;rw[af2 (x:=decide (lft (ofL L) x k w i<x i)) (A4 (m7 (x:=[nrm (x i) u,nrm (lft (ofL L) x k w i) u]) rfl o)),Z];by_cases z:lft (ofL L) x k w i<x i
     .rw[cW4 z,cW7 z];rfl
     .rw[cW3 z,cW6 z];rfl
   .have O:tkn (ofL L) x k w i=0:=cW6 q;rw[Q2 (by rw[N,cW3 q]),cW6 q,show R (i+1)=R i from congrArg (λl=>some (T.lst l)) (N3 λj _=>by rw[l9,O];split<;>rw[cL7]),show f (i+1)=f i from congrArg (λz=>some (nrm z u)) (by rw[aS3,O,Int.sub_zero])];rfl
 rw[av4,o7 5 _ _ _ rfl,aY5,n8 (B:=E (R 0) none none none none) (C8 (w9 (f:=λi=>.int (i:Int)) _ (Z9 (n:=P) rfl I) I λj _=>⟨_,rfl,by
  show some (fr 0 1)=some (nrm 0 u);rw[aG7 H]⟩)),n8 (B:=E (R 0) (f 0) none none none) rfl,n8 (B:=E (R L.length) (f L.length) a b c)]
 .rfl
 .rw[O6,show itZ d9 l7 (E (R 0) (f 0) none none none)=some (mr L.length λl=>.tup [n l,nrm (x l) u]) by rw[<-R0];show some (U4 (L.map P8) _)=_;rw[ar7]];exact X
noncomputable def qT(r:Rat):T:=fr r.num r.den
def Qs(t:Nat)(r:Rat):Prop:=r.num.natAbs<2^t/\r.den<2^t
theorem aa2(r:Rat):(0:Int)<r.den:=Int.natCast_pos.mpr (Nat.pos_of_ne_zero r.den_nz)
theorem bi8(r:Rat):Int.gcd r.num r.den=1:=r.reduced
theorem bz7(r:Rat):(r.num:Rat)=r*r.den:=by
 have H:(r.num:Rat)/(r.den:Rat)=r:=by rw[<-Rat.mkRat_eq_div,Rat.mkRat_self]
 have h:=J8.pos_cast (aa2 r);rw[Rat.intCast_natCast]at h
 grind
theorem bd6(h:Qs t r):Fz t (qT r):=⟨_,_,rfl,aa2 r,bi8 r,h.1,h.2⟩
theorem bi9{a b:Int}(F:0<b)(h:r*(b:Rat)=(a:Rat)):qT r=nrm a b:=by
 obtain⟨n,d,e,H,B,C⟩:=X3 (a:=a) F;have k:r.num*b=a*r.den:=by
  have E:=bz7 r;have :((r.num*b:Int):Rat)=((a*r.den:Int):Rat):=by rw[Rat.intCast_mul,Rat.intCast_mul,<-h,E,Rat.intCast_natCast];grind
  exact Rat.intCast_inj.mp this
 have :r.num*d=n*r.den:=by
  refine cM0 (show b≠0 by omega) ?_;rw[cN2,k,cN2 n,C,cN2]
 obtain⟨R,I⟩:=bL1 (aa2 r) H (bi8 r) B this;rw[e,qT,R,I]
theorem aC7{a b:Int}(h:0<b):qT ((a:Rat)/(b:Rat))=nrm a b:=bi9 h (by have :=J8.pos_cast h;grind)
section
variable (w v:List Way)(g:Nat->Bool)(l:Nat->Rat)
noncomputable def hT(k:Nat):T:=if g k then .non else qT (l k)
noncomputable def nnB(i:Nat):Int:=if i<v.length then(if g i then 0 else -(l i).num*rmW v i/Int.gcd (-(l i).num*rmW v i) (l i).den)else rmW w (i-v.length)
noncomputable def ddB(i:Nat):Int:=if i<v.length then(if g i then 1 else(l i).den/Int.gcd (-(l i).num*rmW v i) (l i).den)else 1
noncomputable def scB:Int:=O3 (ddB v g l) (v.length+w.length)
noncomputable def ndB(k:Nat):Int:= -(nnB w v g l k*(scB w v g l/ddB v g l k))
noncomputable def hD:J8:=(M1 w v).hold g (ndB w v g l) (scB w v g l)
end
section
variable {p:Int}{w v:List Way}{g:Nat->Bool}{l:Nat->Rat}(N:K0 p w v)
include N
theorem cA2(t:T)(h:∃b,ab9 t .non=↑b/\b=g k)(H:k<v.length):av2 [.int (rmW v k),.lst ((lns w v).map P8),t,.int (k:Int)]=⇑(u9 (λj=>(hD w v g l).A j k) (hD w v g l).q):=by
 obtain⟨_,h,rfl⟩:=h;have C:=aw1 N;have E:lim=1000000:=rfl;rw[av2,o7 4 _ _ _ rfl,aX8,y4,j8 (x:=.lst [.int (if g k then rmW v k else 0)]) (y:=.lst (u9 (λL=>if ofL (lns w v) L=k then -1 else 0) (lns w v).length)) (z:=.lst (u9 (λj=>(hD w v g l).A j k) (hD w v g l).q))]
 .rfl
 .refine az9 (k8 ?_ rfl);rw[af2 (A4 (j8 (x:=t) rfl rfl h))];cases g k<;>rfl
 .rw[ar7];refine w9 (f:=λL=>P8 (((lns w v)[L]?).getD (0,[]))) (λL=>.int (if ofL (lns w v) L=k then -1 else 0)) rfl ⋯ λL B=>⟨_,rfl,?_⟩
  rw[af2 (x:=decide (ofL (lns w v) L=k)) (A4 (by rw[<-aO1];exact j8 (j8 (x:=P8 (((lns w v)[L]?).getD (0,[]))) rfl rfl (ix0 ..)) rfl L9))];by_cases e:ofL (lns w v) L=k
  .rw[cW4 e,cW7 e];rfl
  .rw[cW3 e,cW6 e];rfl
 .rw[Y2 (by rw[show(u9 _ _).length=_ from z0];show 1+_<=_;omega),show u9 (λj=>(hD w v g l).A j k) (hD w v g l).q=u9 (λj=>(hD w v g l).A j k) 1++u9 (λL=>(hD w v g l).A (1+L) k) (lns w v).length from ag7 _ 1 _,aj0 (n:=(lns w v).length) (f:=λL=>if ofL (lns w v) L=k then -1 else 0) (g:=λL=>(hD w v g l).A (1+L) k) λL B=>(J8.al (d:=hD w v g l) B H).symm];show _=some (T.lst ([T.int ((hD w v g l).A 0 k)]++_));rw[J8.a0 H];rfl
theorem cA1(h:j<w.length):aA7 [.lst ((lns w v).map P8),.int (j:Int)]=⇑(u9 (λi=>(hD w v g l).A i (v.length+j)) (hD w v g l).q):=by
 have B:=aw1 N;have C:lim=1000000:=rfl;rw[aA7,o7 2 _ _ _ rfl,bh2,y4,j8 (x:=.lst [.int 0]) (y:=.lst (u9 (λL=>if onL (lns w v) L j then 1 else 0) (lns w v).length)) (z:=.lst (u9 (λi=>(hD w v g l).A i (v.length+j)) (hD w v g l).q)) rfl]
 .rfl
 .rw[ar7];refine w9 (f:=λL=>P8 (((lns w v)[L]?).getD (0,[]))) (λL=>.int (if onL (lns w v) L j then 1 else 0)) rfl ⋯ λL H=>⟨_,rfl,?_⟩
  rw[af2 (x:=onL (lns w v) L j) (A4 (j8 (x:=.int (j:Int)) rfl (j8 (x:=P8 (((lns w v)[L]?).getD (0,[]))) rfl rfl (ix1 ..)) (bM0 ..)))];cases onL (lns w v) L j<;>rfl
 .rw[Y2 (by rw[show(u9 _ _).length=_ from z0];show 1+_<=_;omega),show u9 (λi=>(hD w v g l).A i (v.length+j)) (hD w v g l).q=u9 (λi=>(hD w v g l).A i (v.length+j)) 1++u9 (λL=>(hD w v g l).A (1+L) (v.length+j)) (lns w v).length from ag7 _ 1 _,aj0 (n:=(lns w v).length) (f:=λL=>if onL (lns w v) L j then 1 else 0) (g:=λL=>(hD w v g l).A (1+L) (v.length+j)) λL H=>(J8.al' (d:=hD w v g l) H h).symm];show _=some (T.lst ([T.int ((hD w v g l).A 0 (v.length+j))]++_));rw[show(hD w v g l).A 0 (v.length+j)=0 from J8.a0' h]
theorem cH1(H:∀k,k<v.length->g k=false->Qs t (l k))(F:t<=2000):as3 [k7 p w v,.lst (mr v.length (hT g l))]=⇑(mr (hD w v g l).m λi=>fr (nnB w v g l i) (ddB v g l i)):=by
 have B:=N.v3;have C:=N.wl;have L:lim=1000000:=rfl
 let b:=λi=>if g i then fr 0 1 else fr (-(l i).num) (l i).den
 rw[as3,o7 2 _ _ _ rfl,aQ3,O1 (t:=.lst (mr v.length λi=>T9 (b i) (rmW v i))) (m7 (k8 (x:=k7 p w v) rfl (k8 (w9 (f:=hT g l) b rfl ⋯ λi h=>⟨_,rfl,?_⟩) rfl)) (bD9 N (k:=t+1) b (λi h=> ?_) ⋯)) rfl,y4,j8 (x:=.lst (mr v.length λi=>T9 (b i) (rmW v i))) rfl (w9 (f:=u7 w) (λi=>fr (rmW w i) 1) (by rw[<-D9];rfl) ⋯ λi h=>⟨_,rfl,ae4 (k8 (j8 (x:=u7 w i) rfl rfl (ix2 ..)) rfl)⟩) (z:=.lst (mr (hD w v g l).m λi=>fr (nnB w v g l i) (ddB v g l i)))]
 .rfl
 .rw[Y2 (by rw[z0,z0];omega),show mr (hD w v g l).m (λi=>fr (nnB w v g l i) (ddB v g l i))=_ from ak2,N3 (n:=v.length) (g:=λi=>fr (nnB w v g l i) (ddB v g l i)) λi h=> ?_,N3 (n:=w.length) (g:=λj=>fr (nnB w v g l (v.length+j)) (ddB v g l (v.length+j))) λj E=> ?_]
  .rfl
  .unfold nnB ddB;rw[cW6 ⋯,cW6 ⋯,Nat.add_sub_cancel_left]
  .unfold nnB ddB;rw[cW7 h,cW7 h];show T9 (if g i then fr 0 1 else fr (-(l i).num) (l i).den) (rmW v i)=_;cases g i
   .rfl
   .show nrm (0*rmW v i) 1=fr 0 1;rw[cO0,aG7 ∎]
 .unfold hT;show(gIf (bOf (g2 ab9 d8 (gC .non))) (gC T0) (y8 [g1 O5 (e8 d8 l8),e8 d8 j4])) [some (if g i then .non else qT (l i))]=some (if g i then fr 0 1 else fr (-(l i).num) (l i).den);cases g i<;>rfl
 .show Fz (t+1) (if g i then fr 0 1 else fr (-(l i).num) (l i).den);cases e:g i
  .have :=H i h e;refine Fz.mono (k:=t) ⟨_,_,rfl,aa2 _,?_,?_,this.2⟩ ⋯
   .rw[Int.gcd,Int.natAbs_neg];exact bi8 _
   .rw[Int.natAbs_neg];exact this.1
  .exact aM6 0 (.inl rfl)
end
theorem bu4{a b d:Rat}(H:0<d)(h:a*d=b*d):a=b:=by
 have e:=Rat.mul_inv_cancel d λz=>by rw[z]at H;exact Rat.lt_irrefl H
 have :=congrArg (· *d⁻¹) h;simpa only[Rat.mul_assoc,e,Rat.mul_one]using this
noncomputable def Y9(f:Nat->Bool):Nat->Nat
 |0=>0
 |n+1=>Y9 f n+if f n then 0 else 1
theorem aX4:∀n,Y9 f n<=n
 |0=>cT8 _
 |n+1=>by have :=aX4 (f:=f) n;rw[Y9];split<;>omega
theorem aX3(H:f k=true):∀{n},k<n->Y9 f n<n
 |n+1,h=>by
  rw[Y9];by_cases e:k=n
  .rw[<-e,H,cW7 rfl];have :=aX4 (f:=f) k;omega
  .have :=aX3 H (n:=n) ⋯;split<;>omega
theorem bm7{d:Nat->Int}:∀{n},(∀i,i<n->0<d i)->0<O3 d n
 |0,_=>show(0:Int)<1 by decide
 |n+1,h=>cN1 (bm7 λi H=>h i ⋯) (h n ⋯)
theorem aR7{d:Nat->Int}:∀{n i},i<n->d i∣O3 d n
 |n+1,i,h=>by
  by_cases e:i=n
  .rw[e];exact Int.dvd_mul_left ..
  .exact Int.dvd_trans (aR7 ⋯) (Int.dvd_mul_right ..)
section
variable {p:Int}{w v:List Way}{g:Nat->Bool}{l:Nat->Rat}{t:Nat}(N:K0 p w v)(h:∀k,k<v.length->g k=false->Qs t (l k))
theorem bq2(i:Nat):0<ddB v g l i:=by
 unfold ddB;split
 .split
  .decide
  .exact(am6 (n:= -(l i).num*rmW v i) (aa2 (l i))).1
 .decide
theorem af1:0<scB w v g l:=bm7 λi _=>bq2 i
theorem aV8(H:k<v.length)(f:g k=false):ndB w v g l k*(l k).den=(l k).num*rmW v k*scB w v g l:=by
 have C:=Int.gcd_dvd_left (-(l k).num*rmW v k) (l k).den;have F:=cM1 (-(l k).num*rmW v k) (l k).den;have e:nnB w v g l k*(l k).den= -(l k).num*rmW v k*ddB v g l k:=by
  unfold nnB ddB;rw[cW7 H,cW7 H,f,cW6 cK6,cW6 cK6];have a:=Int.ediv_mul_cancel C;have b:=Int.ediv_mul_cancel F;generalize(Int.gcd (-(l k).num*rmW v k) (l k).den:Int)=B at *
  conv=>lhs;rw[<-b]
  conv=>rhs;rw[<-a]
  rw[cM5 (_/B) B,<-cM4]
 have E:=Int.ediv_mul_cancel (aR7 (d:=ddB v g l) (n:=v.length+w.length) (i:=k) ⋯);unfold ndB;rw[cN6,cN2,e,cM4,cM5 (ddB v g l k),show scB w v g l/ddB v g l k*ddB v g l k=scB w v g l from E,cN6,cN6,Int.neg_neg]
theorem bK6(C:k<v.length):(ndB w v g l k:Rat)=if g k then 0 else(scB w v g l:Rat)*((M1 w v).wn k*l k):=by
 cases e:g k
 .have H:=congrArg (Int.cast (R:=Rat)) (aV8 (w:=w) (l:=l) C e);rw[Rat.intCast_mul,Rat.intCast_mul,Rat.intCast_mul,bz7,Rat.intCast_natCast]at H;have B:=J8.pos_cast (aa2 (l k));rw[Rat.intCast_natCast]at B;rw[cW6 cK6,show(M1 w v).wn k=(rmW v k:Rat)from rfl];exact bu4 B (H.trans (by grind))
 .unfold ndB nnB;rw[cW7 C,e,cW7 rfl,cW7 rfl,cO0];rfl
include N h
theorem aN7(J:i<v.length+w.length):(nnB w v g l i).natAbs<=2^(t+5)/\(ddB v g l i).natAbs<=2^t:=by
 have P:(2:Nat)^(t+5)=2^t*32:=Nat.pow_add 2 t 5;have B:0<(2:Nat)^t:=Nat.pow_pos ∎;unfold nnB ddB;by_cases H:i<v.length
 .rw[cW7 H,cW7 H];cases e:g i
  .rw[cW6 cK6,cW6 cK6];obtain⟨_,_,C,E⟩:=am6 (n:= -(l i).num*rmW v i) (aa2 (l i));obtain⟨F,I⟩:=h i H e;have r:=ag8 N.vt H;refine⟨cU0 C ?_,cU0 E (by rw[Int.natAbs_natCast];omega)⟩;rw[cN4,Int.natAbs_neg,P];exact Nat.mul_le_mul (Nat.le_of_lt F) ⋯
  .exact⟨cV7 _,B⟩
 .rw[cW6 H,cW6 H];have r:=ag8 N.wt (k:=i-v.length) ⋯;refine⟨?_,B⟩;rw[P];omega
theorem aD0(W:∃k,k<v.length/\g k=true)(H:i<=v.length+w.length):(O3 (ddB v g l) i).natAbs<=2^(2*t):=by
 have o:∀i,i<=v.length->(O3 (ddB v g l) i).natAbs<=2^(t*Y9 g i):=by
  intro i;induction i with
  |zero=>exact λ_=>cT8 _
  |succ i I=>
   intro B;have C:=I ⋯;have E:=(aN7 N h (i:=i) ⋯).2;rw[O3,cN4,Y9];cases e:g i
   .rw[cW6 cK6,Nat.mul_succ,Nat.pow_add];exact Nat.mul_le_mul C E
   .unfold ddB at *;rw[cW7 ⋯,e,cW7 rfl,cW7 rfl,Nat.add_zero];show _*1<=_;rw[Nat.mul_one];exact C
 have u:∀j,(O3 (ddB v g l) (v.length+j))=O3 (ddB v g l) v.length:=by
  intro j;induction j with
  |zero=>rfl
  |succ j I=>rw[<-cT7,O3,I];unfold ddB;rw[cW6 ⋯,cN0]
 have c2:∀i,i<=v.length->Y9 g i<=2:=λi H=>by
  obtain⟨k,F,f⟩:=W;have J:=N.v3;have :=aX3 f F;have :=aX4 (f:=g) i;by_cases e:i=v.length
  .rw[e];omega
  .omega
 have fin:∀i,i<=v.length->(O3 (ddB v g l) i).natAbs<=2^(2*t):=λi H=>cU0 (o i H) (cV2 ∎ (by rw[cU7];exact cU8 t (c2 i H)))
 by_cases B:i<=v.length
 .exact fin i B
 .obtain⟨j,rfl⟩:=Nat.le.dest (Nat.le_of_lt (Nat.not_le.mp B));rw[u j];exact fin _ (cT8 _)
end
noncomputable def wvH(w v:List Way)(f:Nat->Bool)(l:Nat->Rat)(u:Int)(x:Nat->Int)(k:Nat):Int:=if f k then x 0*rmW v k else ndB w v f l k*u
noncomputable def P0(w v:List Way)(x W:Nat->Int)(k j:Nat):Int:=l9 (λl=>if onL (lns w v) l j then tkn (ofL (lns w v)) (λl=>x (1+l)) k (W k) l else 0) (lns w v).length
noncomputable def R5(w v:List Way)(U:Int)(x W:Nat->Int):T:=.lst (mr v.length λk=>.lst (mr w.length λj=>nrm (P0 w v x W k j) U))
noncomputable def aG6(w v:List Way)(u:Int)(y:Nat->Int):T:=.tup [.lst (mr w.length λj=>nrm (y (v.length+j)) u),.lst (mr v.length λk=>nrm (y k) u)]
section
variable {p:Int}{w v:List Way}{g:Nat->Bool}{l:Nat->Rat}{t:Nat}(N:K0 p w v)(h:∀k,k<v.length->g k=false->Qs t (l k))(j:t<=440)(i:∃k,k<v.length/\g k=true)
theorem cr6(B:I<v.length+w.length):(hD w v g l).A ((hD w v g l).q+(hD w v g l).m) I=nnB w v g l I*(scB w v g l/ddB v g l I):=by
 by_cases H:I<v.length
 .rw[J8.ab H];show - -(nnB w v g l I*(scB w v g l/ddB v g l I))=_;rw[Int.neg_neg]
 .obtain⟨J,rfl⟩:=Nat.le.dest (Nat.not_lt.mp H);rw[show(hD w v g l).A _ (v.length+J)=rmW w J*scB w v g l from J8.ab' (show J<w.length by omega)];unfold nnB ddB;rw[cW6 H,cW6 H,Int.ediv_one,Nat.add_sub_cancel_left]
include N
theorem cD6(J k:Nat)(H:J≠(hD w v g l).q+(hD w v g l).m):((hD w v g l).A J k).natAbs<=20:=by
 unfold J8.A;split
 .split
  .split
   .have :=ag8 N.vt (k:=k) (by assumption);show(rmW v k).natAbs<=20;omega
   .decide
  .split<;>decide
 .split
  .split
   .split<;>decide
   .split
    .split<;>decide
    .decide
  .split
   .split<;>decide
   .split<;>decide
include h i
theorem aX2(B:I<v.length+w.length):(scB w v g l/ddB v g l I).natAbs<=2^(2*t):=by
 have H:=aD0 N h i (cT8 _);have e:=Int.ediv_mul_cancel (aR7 (d:=ddB v g l) B);have E:=congrArg Int.natAbs e;rw[cN4]at E;refine cU0 ?_ H;rw[<-E];exact Nat.le_mul_of_pos_right _ (Int.natAbs_pos.mpr (by have :=bq2 (v:=v) (g:=g) (l:=l) I;omega))
include j
theorem cH2(S:(M1 w v).Feas E)(U:∀k,k<v.length->g k=false->(M1 w v).wn k*l k<=E k):∃u x y,au2 (hD w v g l) (3*t+5) u x y/\aF1 [.lst (u9 gl0 (hD w v g l).q),.lst (aC3 (hD w v g l).A (hD w v g l).q (hD w v g l).m),.lst (mr (hD w v g l).m λI=>fr (nnB w v g l I) (ddB v g l I))]=some (.tup [.lst (mr (hD w v g l).q λJ=>nrm (x J) (u*scB w v g l)),.lst (mr (hD w v g l).m λk=>nrm (y k) u)]):=by
 obtain⟨V,y,F,O,r,M⟩:=S;have Y:=N.v3;have Z:=N.wl;have c:=aw1 N;have s:=af1 (w:=w) (v:=v) (g:=g) (l:=l);have C:∀{a b:Nat}{x:Int},x.natAbs<=2^a->a<b->x.natAbs<2^b:=λQ R=>Nat.lt_of_le_of_lt Q (Nat.pow_lt_pow_right ∎ R)
 refine cA9 (d:=hD w v g l) (V:=V) (y:=λL=>scB w v g l*y L) (bv5 N i) (show v.length+w.length<=11 by omega) (show 1+(lns w v).length<=177148 by omega) (cD6 N) (λk B=> ?_) ⋯ (λI _=>bq2 I) (λI H=>C (aD0 N h i H) ⋯) (λI H=>cr6 H) (λI H=>P5 (C (aN7 N h H).1 (cU5 _)) ⋯) (λI H=>P5 (C (aN7 N h H).2 (cU5 _)) ⋯) (λI H=>P5 (C (aX2 N h i H) (cU5 _)) ⋯) s F (λL=>cM9 (Int.le_of_lt s) (O L)) (λJ W=> ?_) λk B=> ?_
 .rw[cr6 B,cN4,show 3*t+5=t+5+2*t by omega,Nat.pow_add 2 (t+5)];exact Nat.mul_le_mul (aN7 N h B).1 (aX2 N h i B)
 .have e:(hD w v g l).loa (λL=>scB w v g l*y L) J=scB w v g l*(M1 w v).loa y J:=by
   unfold J8.loa;rw[<-J4];exact w8 λL _=>by show(if(M1 w v).on L J then _ else _)=_;split<;>simp
  rw[e];show _<=V*(rmW w J*scB w v g l);rw[<-cM4,cM5 (scB w v g l)];exact Int.mul_le_mul_of_nonneg_right (r J W) (Int.le_of_lt s)
 .have e:(hD w v g l).bro (λL=>scB w v g l*y L) k=scB w v g l*(M1 w v).bro y k:=by
   unfold J8.bro;rw[<-J4];exact w8 λL _=>by show(if(M1 w v).of L=k then _ else _)=_;split<;>simp
  rw[e];show V*ndB w v g l k<=_;refine Rat.intCast_le_intCast.mp ?_;rw[Rat.intCast_mul,Rat.intCast_mul,<-M k B,bK6 B];have X:=J8.pos_cast F;have P:=J8.pos_cast s;cases f:g k
  .have :=Rat.mul_le_mul_of_nonneg_left (U k B f) (Rat.le_of_lt (Rat.mul_pos X P));rw[cW6 cK6]
   grind
  .have b0:(0:Rat)<=E k*V:=by
    rw[M k B];exact J8.le_cast (ar6 λL _=>by split;exact O L;exact Int.le_refl _)
   have :=Rat.mul_nonneg (Rat.le_of_lt P) b0;rw[cW7 rfl]
   grind
end
theorem aH4(h:g Q=some t):gM [] g Q=some t:=h
theorem cs1(h:g Q=⇑x):gFr g Q=⇑x:=by unfold gFr;rw[h];rfl
theorem cx0(h:a Q=some (.nx B))(k:b B=o):m8 a b Q=o:=by rw[n8 h];exact k
theorem cs6{i:Nat}(h:g Q=⇑u)(H:(Q[i]?).join=⇑t)(l:t.length+u.length<=lim):ax0 i g Q=some (.nx (Q.set i ⇑(t++u))):=by
 unfold ax0;rw[h,cI7,H];exact cW7 l
theorem aF6(h:a Q=⇑t)(H:gPt lo Q=some l)(B:gPt i Q=some r)(C:al5 t l r=u):gSl a lo i Q=⇑u:=by
 unfold gSl;rw[h,cI7,H,cI7,B,<-C];rfl
theorem cz6{f:Nat->T}:al5 (mr (a+b) f) none (some (a:Int))=mr a f:=by
 show((mr (a+b) f).drop 0).take ((if(a:Int)<0 then((a:Int)+((mr (a+b) f).length:Int)).toNat else min (a:Int).toNat (mr (a+b) f).length)-0)=_;rw[cW6 ⋯,cN7,z0,cU6 ⋯,ak2];exact List.take_left' z0
theorem cz5{f:Nat->T}:al5 (mr (a+b) f) (some (a:Int)) none=mr b λj=>f (a+j):=by
 show((mr (a+b) f).drop (if(a:Int)<0 then((a:Int)+((mr (a+b) f).length:Int)).toNat else min (a:Int).toNat (mr (a+b) f).length)).take ((mr (a+b) f).length-(if(a:Int)<0 then((a:Int)+((mr (a+b) f).length:Int)).toNat else min (a:Int).toNat (mr (a+b) f).length))=_;rw[cW6 ⋯,cN7,z0,cU6 ⋯,ak2,List.drop_left' z0,Nat.add_sub_cancel_left];exact cT6 (by rw[z0];exact cT8 _)
section
variable {p:Int}{w v:List Way}{g:Nat->Bool}{l:Nat->Rat}{t:Nat}(N:K0 p w v)(h:∀k,k<v.length->g k=false->Qs t (l k))(j:t<=440)(i:∃k,k<v.length/\g k=true)
theorem bj2(k:Nat):ab9 (hT g l k) .non=↑(g k):=by unfold hT;cases g k<;>rfl
include N h j i
theorem cF4(Q:∀k,k<v.length->g k=false->0<=l k)(Y:(M1 w v).Feas e)(Z:∀k,k<v.length->g k=false->(M1 w v).wn k*l k<=e k):
  ∃u x y,au2 (hD w v g l) (3*t+5) u x y/\Q9 [k7 p w v,.lst (mr v.length (hT g l))]=some (.tup [nrm (x 0) (u*scB w v g l),R5 w v (u*scB w v g l) x (wvH w v g l u x),aG6 w v u y]):=by
 obtain⟨u,x,y,B,X⟩:=cH2 N h j i Y Z;refine⟨u,x,y,B,?_⟩;have h3:=N.v3;have h8:=N.wl;have ll:=aw1 N;have lm:lim=1000000:=rfl;have R:=B.B.pos;have s:=af1 (w:=w) (v:=v) (g:=g) (l:=l);have U:=cN1 R s;have o:=aD0 N h i (cT8 _);have P:∀{a b:Nat},a<=b->(2:Nat)^a<=2^b:=λM=>cV2 ∎ M
 have O:(u*scB w v g l).natAbs<2^1900:=by
  rw[cN4];exact cU2 (N2 B.us (Nat.lt_of_le_of_lt o (Nat.pow_lt_pow_right ∎ (cU5 _)))) (P ⋯)
 have F:∀J,(x J).natAbs<2^1500:=λJ=>cU2 (B.xs J) (P ⋯)
 have wl:∀f:Nat->T,(List.map f (List.range v.length)).length<=lim:=λf=>by rw[cQ8,cQ9];omega
 let W:=wvH w v g l u x
 have S:∀k,k<v.length->0<=W k/\(W k).natAbs<2^1900:=λk H=>by
  have rm:=ag8 N.vt H;show 0<=(if g k then _ else _)/\(if g k then _ else _:Int).natAbs<_;cases f:g k
  .rw[cW6 cK6];have n:0<=ndB w v g l k:=Int.not_lt.mp λaa=>by
    have a:=aV8 (w:=w) (l:=l) H f;have b:=Int.mul_neg_of_neg_of_pos aa (aa2 (l k));have c:=cM9 (cM9 (Rat.num_nonneg.mpr (Q k H f)) (show 0<=rmW v k by omega)) (Int.le_of_lt s);omega
   refine⟨cM9 n (Int.le_of_lt R),?_⟩;rw[cN4];refine cU2 (N2 (k:=3*t+6) ?_ B.us) (P ⋯);unfold ndB;rw[Int.natAbs_neg,cN4];refine Nat.lt_of_le_of_lt (Nat.mul_le_mul (aN7 N h ⋯).1 (aX2 N h i ⋯)) ?_;rw[<-Nat.pow_add];exact Nat.pow_lt_pow_right ∎ ⋯
  .rw[cW7 rfl];refine⟨cM9 (B.B.x0 0) ⋯,?_⟩;rw[cN4];exact cU2 (N2 (F 0) (aF8 N.vt H)) (P ∎)
 let E:=λk=>if g k then nrm (x 0) (u*scB w v g l)else qT (l k)
 have z:ab2 [k7 p w v,.lst (mr v.length E)]=⇑(mr v.length λk=>nrm (W k) (u*scB w v g l)):=by
  rw[bD9 N (k:=1900) E (λk H=> ?_) ∎,N3 λk H=> ?_]
  .show T9 (if g k then _ else _) _=nrm (if g k then _ else _) _;cases f:g k
   .rw[cW6 cK6,cW6 cK6];refine aK5 (aa2 _) U ?_;rw[cN2 _ u,aV8 H f,cM5 u,<-cM4]
   .exact aR5 U _ _
  .show Fz 1900 (if g k then _ else _);cases f:g k
   .exact(bd6 (h k H f)).mono ⋯
   .exact ar0 U (cU2 (F 0) (P ∎)) O
 have n1:M8 (k7 p w v) (.int 1)=⇑(mr w.length (u7 w)):=by rw[<-D9];exact ix1 ..
 have n2:M8 (k7 p w v) (.int 2)=⇑(mr v.length (u7 v)):=by rw[<-D9];exact ix2 ..
 let q:=(hD w v g l).q
 let C:=T.lst (mr q λJ=>nrm (x J) (u*scB w v g l))
 let r:=T.lst (mr (v.length+w.length) λk=>nrm (y k) u)
 rw[Q9,o7 2 _ _ _ rfl]
 suffices M:br7 (A0 9 [k7 p w v,.lst (mr v.length (hT g l))])=some (.ret (.tup [nrm (x 0) (u*scB w v g l),R5 w v (u*scB w v g l) x W,aG6 w v u y])) by rw[M];rfl
 refine O1 (aH4 (m7 (x:=[k7 p w v]) rfl (by5 N))) (O1 (t:=.int (v.length:Int)) (aH4 (M5 (j8 (x:=k7 p w v) rfl rfl n2))) (O1 (cs1 (aH4 (w9 (f:=λI=>.int (I:Int)) (λk=>.lst (u9 (λJ=>(hD w v g l).A J k) q)) (Z9 rfl ⋯) ⋯ λk H=>⟨_,rfl,m7 (k8 (j8 (j8 (j8 (x:=k7 p w v) rfl rfl n2) (y:=.int (k:Int)) rfl (O4 H)) rfl (ix2 ..)) (k8 (x:=.lst ((lns w v).map P8)) rfl (k8 (j8 (x:=.lst (mr v.length (hT g l))) (y:=.int (k:Int)) rfl rfl (O4 H)) (k8 (x:=.int (k:Int)) rfl rfl)))) (cA2 N _ ⟨_,bj2 k,rfl⟩ H)⟩))) (cx0 (cs6 (w9 (f:=λI=>.int (I:Int)) (λJ=>.lst (u9 (λI=>(hD w v g l).A I (v.length+J)) q)) (Z9 (M5 (j8 (x:=k7 p w v) rfl rfl n1)) ⋯) ⋯ λJ d=>⟨_,rfl,m7 (x:=[.lst ((lns w v).map P8),.int (J:Int)]) rfl (cA1 N d)⟩) rfl (by rw[z0,z0];omega)) ?_)));rw[<-ak2 (f:=λI=>T.lst (u9 (λJ=>(hD w v g l).A J I) q))];refine O1 (t:=.tup [C,r]) (aH4 (m7 (k8 (x:=.lst (u9 gl0 q)) ?_ (k8 (x:=.lst (aC3 (hD w v g l).A q (v.length+w.length))) rfl (k8 (m7 (x:=[k7 p w v,.lst (mr v.length (hT g l))]) rfl (cH1 N h ⋯)) rfl))) X)) (O1 (aH4 (j8 (j8 (x:=.tup [C,r]) rfl rfl (ix0 ..)) rfl (O4 (i:=0) (show 0<1+_ by omega)))) (O1 (aH4 (m7 (k8 (x:=k7 p w v) rfl (k8 (w9 (f:=hT g l) E rfl ⋯ λk H=>⟨_,rfl,?_⟩) rfl)) z)) (O1 (t:=R5 w v (u*scB w v g l) x W) (aH4 (w9 (f:=λI=>.int (I:Int)) _ (Z9 rfl ⋯) ⋯ λk H=>⟨_,rfl,m7 (k8 (M5 (j8 (x:=k7 p w v) rfl rfl n1)) (k8 (x:=.lst ((lns w v).map P8)) rfl (k8 (ar9 (j8 (x:=.tup [C,r]) rfl rfl (ix0 ..)) (z:=.lst (mr (lns w v).length λL=>nrm (x (1+L)) (u*scB w v g l))) ?_) (k8 (x:=.int (k:Int)) rfl (k8 (j8 (x:=.lst (mr v.length λk=>nrm (W k) (u*scB w v g l))) (y:=.int (k:Int)) rfl rfl (O4 H)) rfl))))) (cG3 U (λL=>B.B.x0 _) (S k H).1 O (S k H).2 (λL=>cU2 (F _) (P ∎)) ∎ ⋯ ⋯)⟩)) ?_)))
 .refine j8 (x:=.lst [.int 1]) (y:=.lst (u9 (λ_=>0) (lns w v).length)) rfl (w9 (f:=λL=>P8 (((lns w v)[L]?).getD (0,[]))) (λ_=>.int 0) ?_ ⋯ λL Q=>⟨_,rfl,rfl⟩) ?_
  .rw[<-ar7];rfl
  .rw[Y2 (by rw[show(u9 _ _).length=_ from z0];show 1+_<=_;omega),show u9 gl0 q=u9 gl0 1++u9 (λL=>gl0 (1+L)) (lns w v).length from ag7 _ 1 _,aj0 (n:=(lns w v).length) (f:=λ_=>(0:Int)) (g:=λL=>gl0 (1+L)) λL _=>by unfold gl0;rw[cW6 ⋯]];rfl
 .show(gIf (bOf (g2 ab9 d8 (gC .non))) d9 d8) [some (hT g l k),some (nrm (x 0) (u*scB w v g l))]=some (E k);rw[af2 (A4 (j8 (x:=hT g l k) rfl rfl (bj2 k)))];show _=some (if g k then _ else _);unfold hT;cases g k<;>rfl
 .show some (T.lst ((mr (1+(lns w v).length) _).drop 1))=_;rw[ak2];rfl
 .rw[y4,ae4 (k8 (x:=nrm (x 0) (u*scB w v g l)) rfl (k8 (x:=R5 w v (u*scB w v g l) x W) rfl (k8 (ae4 (k8 (x:=.lst (mr w.length λJ=>nrm (y (v.length+J)) u)) ?_ (k8 (x:=.lst (mr v.length λk=>nrm (y k) u)) ?_ rfl))) rfl)))]
  .rfl
  .exact aF6 (j8 (x:=.tup [C,r]) rfl rfl (ix1 ..)) rfl rfl cz5
  .exact aF6 (j8 (x:=.tup [C,r]) rfl rfl (ix1 ..)) rfl rfl cz6
end
theorem bZ9{a b:Rat}(h:a.num=b.num)(H:(a.den:Int)=b.den):a=b:=Rat.ext h ⋯
theorem cE0(a b:Rat):fEq (qT a) (qT b)=↑(decide (a=b)):=by
 unfold fEq;rw[qT,qT,bj5];by_cases h:a=b
 .rw[h,cW4 rfl,cW2,cW2];rfl
 .rw[cW3 h];have :(a.num==b.num&&(a.den:Int)==b.den)=false:=by
   rw[Bool.and_eq_false_iff,beq_eq_false_iff_ne,beq_eq_false_iff_ne];by_cases e:a.num=b.num
   .exact .inr λz=>h (bZ9 e z)
   .exact .inl e
  rw[this];rfl
theorem ct9{a b:Int}(C:0<b)(F:a.natAbs<2^t)(I:b.natAbs<2^t):Qs t ((a:Rat)/(b:Rat)):=by
 have e:=aC7 (a:=a) C;obtain⟨_,_,h,H⟩:=am6 (n:=a) C;unfold qT nrm at e;injection e with e
 injection e with B E
 injection E with E
 injection B with B
 injection E with E
 rw[<-B]at h;rw[<-E]at H;exact⟨Nat.lt_of_le_of_lt h F,Nat.lt_of_le_of_lt H I⟩
theorem Qs.mono(h:Qs t r)(H:t<=l):Qs l r:=⟨cU2 h.1 (cV2 ∎ H),cU2 h.2 (cV2 ∎ H)⟩
structure Rz(ws vs:List Way)(fe:Nat->Bool)(lam:Nat->Rat)(t:Nat)(u:Int)(x y:Nat->Int)(s:Rat):Prop where
 TD:au2 (hD ws vs fe lam) (3*t+5) u x y
 R:Rsd vs.length (M1 ws vs).wn (M1 ws vs).Feas fe lam s λk=>(y k:Rat)/u
 cost:N9 (λj=>(y (vs.length+j):Rat)/u*rmW ws j) ws.length=s+N9 (λk=>(y k:Rat)/u*(if fe k then 0 else(M1 ws vs).wn k*lam k)) vs.length
 sU:qT s=nrm (x 0) (u*scB ws vs fe lam)
 sz:Qs (3*t+110) s
section
variable {p:Int}{w v:List Way}{g:Nat->Bool}{l:Nat->Rat}{t:Nat}(N:K0 p w v)
include N
theorem bZ2(H:∀k,k<v.length->g k=false->Qs t (l k))(J:t<=440)(W:∃k,k<v.length/\g k=true)(I:∀k,k<v.length->g k=false->0<=l k)(F:(M1 w v).Feas b)(C:∀k,k<v.length->g k=false->(M1 w v).wn k*l k<=b k):
  ∃u x y s,Rz w v g l t u x y s/\Q9 [k7 p w v,.lst (mr v.length (hT g l))]=some (.tup [qT s,R5 w v (u*scB w v g l) x (wvH w v g l u x),aG6 w v u y]):=by
 obtain⟨u,x,y,B,h⟩:=cF4 N H J W I F C;have S:=af1 (w:=w) (v:=v) (g:=g) (l:=l);have U:=cN1 B.B.pos S;obtain⟨R,c⟩:=J8.Best.rsd (d:=M1 w v) (lam:=l) (bv5 N W) B.B S λk E=>bK6 E
 have e:(x 0:Rat)/((u:Rat)*(scB w v g l:Rat))=(x 0:Rat)/((u*scB w v g l:Int):Rat):=by rw[Rat.intCast_mul]
 rw[e]at R c;refine⟨u,x,y,_,⟨B,R,c,aC7 U,ct9 U ?_ ?_⟩,by rw[aC7 U];exact h⟩
 .exact cU2 (B.xs 0) (cV2 ∎ ⋯)
 .rw[cN4];exact cU2 (N2 B.us (Nat.lt_of_le_of_lt (aD0 N H W (cT8 _)) (Nat.pow_lt_pow_right ∎ (cU5 _)))) (cV2 ∎ ⋯)
theorem cH0{L:Nat->Rat}{n:Nat}(B:n<v.length)(I:∀k,k<v.length->k≠n->Qs t (L k))(J:t<=440)(E:∀k,k<v.length->0<=L k)(F:(M1 w v).Feas b)(C:∀k,k<v.length->(M1 w v).wn k*L k<=b k):
  ∃u x y s,Rz w v (λk=>decide (k=n)) L t u x y s/\R8 [k7 p w v,.lst (mr v.length λk=>qT (L k)),.int (n:Int)]=some (if s=L n then aG6 w v u y else .non):=by
 have M:=N.v3;obtain⟨u,x,y,s,Z,h⟩:=bZ2 (g:=λk=>decide (k=n)) (l:=L) N (λk H e=>I k H (of_decide_eq_false e)) J ⟨n,B,cW4 rfl⟩ (λk H _=>E k H) F λk H _=>C k H
 refine⟨u,x,y,s,Z,?_⟩
 let r:=T.tup [qT s,R5 w v (u*scB w v (λk=>decide (k=n)) L) x (wvH w v (λk=>decide (k=n)) L u x),aG6 w v u y]
 rw[R8,o7 3 _ _ _ rfl,aA6,O1 (t:=r) (m7 (k8 (x:=k7 p w v) rfl (k8 (w9 (f:=λk=>.tup [.int (k:Int),qT (L k)]) (hT (λk=>decide (k=n)) L) (congrArg some (am9 ..)) (by show _<=1000000;omega) λk H=>⟨_,rfl,?_⟩) rfl)) h) rfl,y4,af2 (x:=decide (s=L n)) (A4 (j8 (j8 (x:=r) rfl rfl (ix0 ..)) (j8 (x:=.lst (mr v.length λk=>qT (L k))) (y:=.int (n:Int)) rfl rfl (O4 B)) (cE0 s (L n))))]
 .by_cases e:s=L n
  .rw[cW4 e,cW7 rfl,cW7 e,B6 (x:=r) rfl rfl (ix2 ..)];rfl
  .rw[cW3 e,cW6 cK6,cW6 e];rfl
 .rw[af2 (x:=decide (k=n)) (A4 (j8 (x:=.int (k:Int)) (y:=.int (n:Int)) rfl rfl (by rw[L9,aO1])))];show _=some (if decide (k=n)then T.non else qT (L k));cases decide (k=n)<;>rfl
end
theorem bc4(H:f j=true)(C:f k=true)(B:j<k):∀{n},k<n->Y9 f n+2<=n
 |n+1,h=>by
  rw[Y9];by_cases e:k=n
  .rw[<-e,C,cW7 rfl];have :=aX3 H B;omega
  .have :=bc4 H C B (n:=n) ⋯;split<;>omega
theorem bX9(h:∀k,k<n->f k=true->F k=true):Y9 F n<=Y9 f n:=by
 induction n with
 |zero=>exact cT8 _
 |succ n i=>
  have :=i λk B=>h k ⋯
  have H:=h n ⋯;rw[Y9,Y9];cases a:f n
  .rw[cW6 cK6];split<;>omega
  .rw[H a,cW7 rfl];omega
theorem bX8(h:∀k,k<n->f k=true->F k=true)(H:k<n)(B:F k=true)(C:f k=false):Y9 F n+1<=Y9 f n:=by
 induction n with
 |zero=>omega
 |succ n i=>
  rw[Y9,Y9];by_cases e:k=n
  .have :=bX9 (n:=n) λk H=>h k ⋯
   rw[<-e,B,C,cW7 rfl,cW6 cK6];rw[<-e]at this;omega
  .have :=i (λk H=>h k ⋯) ⋯;have E:=h n ⋯;cases a:f n
   .rw[cW6 cK6];split<;>omega
   .rw[E a,cW7 rfl];omega
noncomputable def Tz:Nat->Nat
 |0=>0
 |r+1=>3*Tz r+110
def Pap(w v:List Way)(n:Nat)(l:Nat->Rat)(t:T):Prop:=∃u x y,Rz w v (λk=>decide (k=n)) l 440 u x y (l n)/\t=aG6 w v u y
structure Fst(ws vs:List Way)(r:Nat)(fe:Nat->Bool)(lam:Nat->Rat)(L g:Rat)(pap:Nat->T)(fl:T):Prop where
 ze:r=0->∀k,k<vs.length->fe k=true
 cnt:r<=Y9 fe vs.length
 sz:∀k,k<vs.length->fe k=false->Qs (Tz r) (lam k)
 s4:r<=3/\∃k0,∀k,k<vs.length->fe k=false->k≠k0->Qs 440 (lam k)
 l0:0<=L
 lo:∀k,k<vs.length->fe k=false->0<=lam k/\lam k<=L
 feas:∃be,(M1 ws vs).Feas be/\∀k,k<vs.length->(M1 ws vs).wn k*(if fe k then L else lam k)<=be k
 pp:∀n,n<vs.length->fe n=false->∃lev,Pap ws vs n lev (pap n)/\lev n=lam n/\∀k,k<vs.length->0<=lev k/\lev k<=(if fe k then L else lam k)/\lev k<=lam n
 fl:0<r->∃fe0 lam0 t u x y s,t<=440/\Rz ws vs fe0 lam0 t u x y s/\fl=R5 ws vs (u*scB ws vs fe0 lam0) x (wvH ws vs fe0 lam0 u x)/\(∀k,k<vs.length->fe0 k=false->Qs t (lam0 k))/\(∃k,k<vs.length/\fe0 k=true)/\(∀k,k<vs.length->fe0 k=false->0<=lam0 k)/\∀k,k<vs.length->fe k=false->lam k=if fe0 k then s else lam0 k
 gr:0<r->g<=L/\(∀k,k<vs.length->fe k=false->g<=lam k)/\∃n,n<vs.length/\fe n=false/\lam n=g
section
variable {p:Int}{i v:List Way}{h:Nat->Bool}{l:Nat->Rat}{L g:Rat}{j:Nat->T}{k:T}{r:Nat}(N:K0 p i v)
theorem bv1(H:Pap i v n B t):U7 t=false:=by
 obtain⟨u,x,y,_,rfl⟩:=H;rfl
include N
theorem aJ4(H:B<v.length):0<(M1 i v).wn B:=J8.pos_cast (show 0<rmW v B by have :=ag8 N.vt H;omega)
theorem cx2(S:Fst i v r h l L g j k)(hf:∃B,B<v.length/\h B=true)(hg:r=0->∀s a,Q9 [k7 p i v,.lst (mr v.length (hT h l))]=some (.tup (qT s::a))->s=g)(a4 a5:Option T):
  ∃F ak L' M ai b4 b5,Fst i v (r+1) F ak L' g M ai/\(m8 (o6 4 (gN Q9 [d8,d9])) (m8 (o6 3 (e8 v8 j4)) (m8 (o6 5 (o0 (itL d9) 1 [4] (stN 0) u5 (gIf (bOf (g2 ab9 d8 (gC .non))) (e8 d9 l8) d8))) (m8 (o6 2 (o0 (itR (gN A7 [u0])) 1 [0,5,2,1] (stN 0) u5 (gIf (bOf (g2 ab9 (e8 v8 d8) (gC .non))) (gN R8 [d9,l7,d8]) (e8 n9 d8)))) (o6 1 (o0 (itZ l7 u0) 2 [] (st2 0 1) u5 (gIf (bOf (g2 ab9 d8 (gC .non))) (gC .non) d9)))))))
   [some (k7 p i v),⇑(mr v.length (hT h l)),⇑(mr v.length j),some k,a4,a5]=some (.nx [some (k7 p i v),⇑(mr v.length (hT F ak)),⇑(mr v.length M),some ai,b4,b5]):=by
 have h3:=N.v3;have lm:lim=1000000:=rfl;obtain⟨kf,d,t⟩:=hf;have r2:r<=2:=by have :=S.cnt;have :=aX3 t d;omega
 have tz:Tz r<=440:=by
  rcases r with _|_|_|r
  .decide
  .decide
  .decide
  .omega
 obtain⟨X,hF,aj⟩:=S.feas;obtain⟨u,x,aq,s,Z,ra⟩:=bZ2 (l:=l) N S.sz tz ⟨kf,d,t⟩ (λB H e=>(S.lo B H e).1) hF λB H e=>by have :=aj B H;rwa[e,cW6 cK6]at this
 have W:L<=s:=Z.R.most hF S.l0 aj;obtain⟨ar,aa,Y⟩:=Z.R.got
 let C:=λB=>if h B then s else l B
 have ae:∀B,B<v.length->0<=C B:=λB H=>by
  show 0<=if h B then s else l B
  cases e:h B
  .exact(S.lo B H e).1
  .exact Z.R.s0
 have af:∀B,B<v.length->C B<=s:=λB H=>by
  show(if h B then s else l B)<=s;cases e:h B
  .exact Rat.le_trans (S.lo B H e).2 W
  .exact Rat.le_refl
 have ao:∀{n} B,B<v.length->h B=true->B≠n->n<v.length->h n=true->Qs 440 s:=λ{n} B H e R E O=>by
  refine Z.sz.mono ?_;rcases r with _|_|_|r
  .decide
  .decide
  .have c:=S.cnt;rcases Nat.lt_or_gt_of_ne R with q|q
   .have :=bc4 e O q E;omega
   .have :=bc4 O e q H;omega
  .omega
 have ah:∀B,∃P:T,B<v.length->h B=true->R8 [k7 p i v,.lst (mr v.length λB=>qT (C B)),.int (B:Int)]=some P/\(Pap i v B C P\/P=.non/\∃X,(M1 i v).Feas X/\(∀J,J<v.length->(M1 i v).wn J*C J<=X J)/\(M1 i v).wn B*s<X B):=λn=>by
  by_cases Q:n<v.length/\h n=true
  .obtain⟨E,O⟩:=Q;have ln:C n=s:=cW7 O;obtain⟨u',x',y',s',Z',Q⟩:=cH0 (t:=440) (L:=C) N E (λB H R=>by
    show Qs 440 (if h B then s else l B);cases e:h B
    .exact(S.sz B H e).mono tz
    .exact ao B H e R E O) ∎ ae aa Y
   have le:s<=s':=Z'.R.most aa Z.R.s0 λB H=>by
    by_cases q:B=n
    .rw[cW4 q,cW7 rfl,<-ln,q];exact Y n E
    .rw[cW3 q,cW6 cK6];exact Y B H
   refine⟨_,λ_ _=>⟨Q,?_⟩⟩;by_cases q:s'=C n
   .rw[cW7 q];exact .inl ⟨u',x',y',q▸Z',rfl⟩
   .rw[cW6 q];obtain⟨b2,f2,g2⟩:=Z'.R.got;have lt:s<s':=Rat.lt_of_le_of_ne le λz=>q (by rw[ln,z])
    refine .inr ⟨rfl,b2,f2,λJ I=> ?_,?_⟩
    .refine Rat.le_trans ?_ (g2 J I);by_cases w:J=n
     .rw[cW4 w,cW7 rfl,w,ln];exact Rat.mul_le_mul_of_nonneg_left le (Rat.le_of_lt (aJ4 N E))
     .rw[cW3 w,cW6 cK6];exact Rat.le_refl
    .have :=g2 n E;rw[cW4 rfl,cW7 rfl]at this;have l2:=Rat.mul_lt_mul_of_pos_left lt (aJ4 N E)
     grind
  .exact⟨.non,λa b=>absurd ⟨a,b⟩ Q⟩
 let P:=λB=>Classical.choose (ah B)
 have ag:=λB=>Classical.choose_spec (ah B)
 let F:=λB=>h B&&U7 (P B)
 let M:=λB=>if h B then P B else j B
 have sub:∀B,F B=true->h B=true:=λB Q=>(Bool.and_eq_true_iff.mp Q).1
 obtain⟨n,E,O,R⟩:=Z.R.stuck;have dn:F n=false:=by
  show(h n&&U7 (P n))=false;rcases(ag n E O).2 with q|⟨_,b2,f2,g1,g2⟩
  .rw[bv1 q,Bool.and_false]
  .have :=Z.R.tied f2 g1 E;rw[cW7 O]at this;rcases Rat.mul_eq_zero.mp this with w|w
   .exact absurd w R
   .exfalso;have :(M1 i v).wn n*s=b2 n:=by grind
    rw[this]at g2;exact Rat.lt_irrefl g2
 have S':Fst i v (r+1) F C s g M (R5 i v (u*scB i v h l) x (wvH i v h l u x)):=by
  refine⟨λz=>absurd z (Nat.succ_ne_zero _),cU0 (Nat.succ_le_succ S.cnt) (bX8 (λB _=>sub B) E O dn),λB H e=> ?_,⟨⋯,kf,λB H e ne=> ?_⟩,Z.R.s0,λB H e=>⟨ae B H,af B H⟩,⟨ar,aa,λB H=> ?_⟩,λB H e=> ?_,λ_=>⟨h,l,Tz r,u,x,aq,s,tz,Z,rfl,S.sz,⟨kf,d,t⟩,λB H e=>(S.lo B H e).1,λB _ _=>rfl⟩,λ_=> ?_⟩
  .show Qs (3*Tz r+110) (if h B then s else l B);cases f:h B
   .exact(S.sz B H f).mono ⋯
   .exact Z.sz
  .show Qs 440 (if h B then s else l B);cases f:h B
   .exact(S.sz B H f).mono tz
   .exact ao B H f ne d t
  .refine Rat.le_trans (Rat.mul_le_mul_of_nonneg_left ?_ (Rat.le_of_lt (aJ4 N H))) (Y B H);cases f:F B
   .exact Rat.le_refl
   .rw[sub B f];exact Rat.le_refl
  .have up:∀J,J<v.length->(if h J then L else l J)<=(if F J then s else C J):=λJ I=>by
    show _<=(if F J then s else if h J then s else l J);cases f:h J
    .have :F J=false:=by show(h J&&_)=false;rw[f];rfl
     rw[this];exact Rat.le_refl
    .rw[cW7 rfl,cW7 rfl];split<;>exact W
   show∃U,Pap i v B U (if h B then P B else j B)/\U B=(if h B then s else l B)/\_;cases f:h B
   .obtain⟨U,q1,q2,q3⟩:=S.pp B H f;refine⟨U,q1,q2,λJ I=>⟨(q3 J I).1,Rat.le_trans (q3 J I).2.1 (up J I),?_⟩⟩;show U J<=if h B then s else l B
    rw[f];exact(q3 J I).2.2
   .rcases(ag B H f).2 with q|⟨q,_⟩
    .refine⟨C,q,cW7 f,λJ I=>⟨ae J I,?_,?_⟩⟩
     .split
      .exact af J I
      .exact Rat.le_refl
     .show C J<=if h B then s else l B
      rw[f];exact af J I
    .exfalso;have e:(h B&&U7 (P B))=false:=e;rw[f,show P B=.non from q]at e;cases e
  .by_cases z:r=0
   .have e:=hg z s _ ra;have al:∀B,B<v.length->C B=g:=λB H=>(cW7 (S.ze z B H)).trans e
    exact⟨e▸Rat.le_refl,λB H _=>(al B H)▸Rat.le_refl,n,E,dn,al n E⟩
   .obtain⟨g1,g2,o,n1,n2,n3⟩:=S.gr ⋯;refine⟨Rat.le_trans g1 W,λB H _=> ?_,o,n1,?_,?_⟩
    .show g<=if h B then s else l B
     cases f:h B
     .exact g2 B H f
     .exact Rat.le_trans g1 W
    .show(h o&&_)=false;rw[n2];rfl
    .show(if h o then s else l o)=g;rw[n2];exact n3
 let y:=T.tup [qT s,R5 i v (u*scB i v h l) x (wvH i v h l u x),aG6 i v u aq]
 refine⟨F,C,s,M,_,some y,⇑(mr v.length λB=>qT (C B)),S',?_⟩;refine O1 (t:=y) (m7 (x:=[k7 p i v,.lst (mr v.length (hT h l))]) rfl ra) (O1 (B6 (x:=y) rfl rfl (ix1 ..)) (O1 (t:=.lst (mr v.length λB=>qT (C B))) (w9 (f:=hT h l) (λB=>qT (C B)) rfl ⋯ λB H=>⟨_,rfl,?_⟩) (O1 (t:=.lst (mr v.length M)) (w9 (f:=λau=>.int (au:Int)) M (Z9 (M5 rfl) ⋯) ⋯ λB H=>⟨_,rfl,?_⟩) (C8 (w9 (f:=λB=>.tup [M B,qT (C B)]) (hT F C) (congrArg some (R0 ..)) ⋯ λB H=>⟨_,rfl,?_⟩)))))
 .rw[af2 (A4 (j8 (x:=hT h l B) rfl rfl (bj2 B)))];show _=some (qT (if h B then s else l B));cases e:h B
  .rw[cW6 cK6,cW6 cK6];show some (hT h l B)=_;unfold hT;rw[e];rfl
  .rw[cW7 rfl,cW7 rfl,B6 (x:=y) rfl rfl (ix0 ..)]
 .rw[af2 (A4 (j8 (j8 (x:=.lst (mr v.length (hT h l))) (y:=.int (B:Int)) rfl rfl (O4 H)) rfl (bj2 B)))];show _=some (if h B then P B else j B);cases e:h B
  .rw[cW6 cK6,cW6 cK6];exact B6 (x:=.lst (mr v.length j)) (y:=.int (B:Int)) rfl rfl (O4 H)
  .rw[cW7 rfl,cW7 rfl];exact m7 (x:=[k7 p i v,.lst (mr v.length λB=>qT (C B)),.int (B:Int)]) rfl (ag B H e).1
 .have e:U7 (M B)=F B:=by
   show U7 (if h B then P B else j B)=(h B&&U7 (P B));cases f:h B
   .obtain⟨_,q,_⟩:=S.pp B H f;exact bv1 q
   .rfl
  rw[af2 (x:=F B) (A4 (j8 (x:=M B) rfl rfl (by rw[<-e];rfl)))];unfold hT;cases F B<;>rfl
end
theorem cm6(h:qT a=qT b):a=b:=by
 unfold qT at h;injection h with h
 injection h with B H
 injection H with H
 injection B with B
 injection H with H
 exact bZ9 B H
theorem bi7(h:a Q=some (.nx B)):af7 (U6 a) b Q=b B:=by unfold af7 U6;rw[h];rfl
noncomputable def cb4:GS:=m8 (o6 4 (gN Q9 [d8,d9])) (m8 (o6 3 (e8 v8 j4)) (m8 (o6 5 (o0 (itL d9) 1 [4] (stN 0) u5 (gIf (bOf (g2 ab9 d8 (gC .non))) (e8 d9 l8) d8))) (m8 (o6 2 (o0 (itR (gN A7 [u0])) 1 [0,5,2,1] (stN 0) u5 (gIf (bOf (g2 ab9 (e8 v8 d8) (gC .non))) (gN R8 [d9,l7,d8]) (e8 n9 d8)))) (o6 1 (o0 (itZ l7 u0) 2 [] (st2 0 1) u5 (gIf (bOf (g2 ab9 d8 (gC .non))) (gC .non) d9))))))
section
variable {p:Int}{w v:List Way}{g:Rat}(N:K0 p w v)
theorem by0{f:Nat->Bool}{l:Nat->Rat}:(mr n (hT f l)).any U7=true ↔∃k,k<n/\f k=true:=by
 have e:∀k,U7 (hT f l k)=f k:=λk=>by unfold hT;cases f k<;>rfl
 rw[List.any_eq_true];constructor
 .intro⟨t,B,C⟩;obtain⟨k,H,rfl⟩:=cI3 B;exact⟨k,cI5 H,(e k)▸C⟩
 .intro⟨k,H,h⟩;exact⟨_,List.mem_map.mpr ⟨k,List.mem_range.mpr H,rfl⟩,(e k).trans h⟩
include N
theorem bx3(O:Q9 [k7 p w v,.lst (mr v.length λ_=>.non)]=some (.tup (qT g::a0))):∀(k r:Nat) (F:Nat->Bool) (l:Nat->Rat) (L:Rat) (P:Nat->T) (B:T) (a4 a5:Option T),v.length<k+r->Fst w v r F l L g P B->
  ∃U E J I C b4 b5,0<U/\Fst w v U (λ_=>false) E J g I C/\K8 (bOf (g1 aL3 d9)) cb4 k [some (k7 p w v),⇑(mr v.length (hT F l)),⇑(mr v.length P),some B,a4,a5]=some (.nx [some (k7 p w v),⇑(mr v.length λk=>qT (E k)),⇑(mr v.length I),some C,b4,b5])
 |0,r,F,l,L,P,B,a4,a5,h,S=>by have :=S.cnt;have :=aX4 (f:=F) v.length;omega
 |k+1,r,F,l,L,P,B,a4,a5,h,S=>by
  have v1:=N.v1;have X:aL3 (.lst (mr v.length (hT F l)))=↑((mr v.length (hT F l)).any U7):=cW7 (List.all_eq_true.mpr λt ht=>by
   obtain⟨k,_,rfl⟩:=cI3 ht;show aK6 (if F k then _ else _)=true;cases F k<;>rfl)
  rw[K8,show(bOf (g1 aL3 d9)) [some (k7 p w v),⇑(mr v.length (hT F l)),⇑(mr v.length P),some B,a4,a5]=some ((mr v.length (hT F l)).any U7)from A4 (ar9 rfl X),cI7];by_cases f:∃k,k<v.length/\F k=true
  .rw[by0.mpr f,cW7 rfl];obtain⟨Y,E,J,I,C,b4,b5,W,e⟩:=cx2 N S f (λz s a R=>by
    rw[N3 (g:=λ_=>.non) λk H=>by unfold hT;rw[S.ze z k H,cW7 rfl],O]at R;injection R with R
    injection R with R
    injection R with R
    exact(cm6 R).symm) a4 a5
   rw[show cb4 _=_ from e];exact bx3 O k (r+1) Y E J I C b4 b5 ⋯ W
  .have al:∀k,k<v.length->F k=false:=λk H=>by
    cases e:F k
    .rfl
    .exact absurd ⟨k,H,e⟩ f
   have nf:(mr v.length (hT F l)).any U7=false:=by
    cases e:(mr v.length (hT F l)).any U7
    .rfl
    .exact absurd (by0.mp e) f
   have M:0<r:=Nat.pos_of_ne_zero λz=>by have :=S.ze z 0 ⋯;rw[al 0 ⋯]at this;cases this
   have c:∀n,n<=v.length->Y9 (λ_=>false) n=Y9 F n:=λn=>by
    induction n with
    |zero=>intro _;rfl
    |succ n ih=>intro h;rw[Y9,Y9,ih ⋯,al n ⋯]
   rw[nf,cW6 cK6,N3 (g:=λk=>qT (l k)) λk H=>by unfold hT;rw[al k H,cW6 cK6]];obtain⟨q1,q2,n,n1,n2,n3⟩:=S.gr M;refine⟨r,l,L,P,B,a4,a5,M,⟨λz=>absurd z ⋯,by rw[c _ (cT8 _)];exact S.cnt,λk H _=>S.sz k H (al k H),⟨S.s4.1,S.s4.2.elim λk0 h=>⟨k0,λk H _=>h k H (al k H)⟩⟩,S.l0,λk H _=>S.lo k H (al k H),?_,λn Q _=> ?_,λ_=> ?_,λ_=>⟨q1,λk H _=>q2 k H (al k H),n,n1,rfl,n3⟩⟩,rfl⟩
   .obtain⟨b,b1,b2⟩:=S.feas;exact⟨b,b1,λk H=>by have :=b2 k H;rwa[al k H]at this⟩
   .obtain⟨ae,l1,l2,l3⟩:=S.pp n Q (al n Q);exact⟨ae,l1,l2,λk H=>by have :=l3 k H;rwa[al k H]at this⟩
   .obtain⟨Z,aa,t,af,ag,ah,s,d,i,j,o,u,x,y⟩:=S.fl M;exact⟨Z,aa,t,af,ag,ah,s,d,i,j,o,u,x,λk H _=>y k H (al k H)⟩
theorem cu6(h:Q9 [k7 p w v,.lst (mr v.length λ_=>.non)]=some (.tup (qT g::a0))):∃r B L P f,0<r/\Fst w v r (λ_=>false) B L g P f/\M6 [k7 p w v]=some (.val (.tup [.lst (mr v.length λk=>qT (B k)),f,.lst (mr v.length P)])):=by
 have E:=N.v3;have n:∀Q,(o0 (itL (e8 d8 r9)) 1 [] (stN 0) u5 (gC .non)) (some (k7 p w v)::Q)=⇑(mr v.length λ_=>.non):=λQ=>w9 (f:=u7 v) _ (by rw[<-D9];rfl) (by show _<=1000000;omega) λk _=>⟨_,rfl,rfl⟩
 have s:Fst w v 0 (λ_=>true) (λ_=>0) 0 g (λ_=>.non) (.lst []):=by
  refine⟨λ_ _ _=>rfl,cV7 _,λ_ _ e=>(by cases e),⟨∎,0,λ_ _ e=>(by cases e)⟩,Rat.le_refl,λ_ _ e=>(by cases e),⟨λ_=>0,⟨1,λ_=>0,∎,λ_=>Int.le_refl _,λj H=> ?_,λk C=> ?_⟩,λk C=> ?_⟩,λ_ _ e=>(by cases e),λz=>absurd z (cU1 _),λz=>absurd z (cU1 _)⟩
  .unfold J8.loa;rw[M9 λl _=>by split<;>rfl];have :=ag8 N.wt H;show(0:Int)<=1*rmW w j;omega
  .unfold J8.bro;rw[M9 λl _=>by split<;>rfl];exact Rat.zero_mul _
  .rw[cW7 rfl,Rat.mul_zero];exact Rat.le_refl
 obtain⟨r,B,L,P,f,b4,b5,R,S,e⟩:=bx3 N h 5 0 _ _ _ _ _ none none ⋯ s;refine⟨r,B,L,P,f,R,S,?_⟩;show al4 (af3 [some (k7 p w v),none,none,none,none,none])=_;unfold af3;rw[as5 (x:=[k7 p w v]) rfl (aD3 (aD5 N)),bi7 (B:=[some (k7 p w v),⇑(mr v.length λ_=>.non),none,none,none,none]) (C8 (n _)),bi7 (B:=[some (k7 p w v),⇑(mr v.length λ_=>.non),⇑(mr v.length λ_=>.non),none,none,none]) (C8 (n _)),bi7 (B:=[some (k7 p w v),⇑(mr v.length λ_=>.non),⇑(mr v.length λ_=>.non),⇑[],none,none]) (C8 rfl)];exact(congrArg al4 (bi7 (b:=U6 (t5 (y8 [d9,n9,l7]))) e)).trans rfl
end
noncomputable def cv(w:List Way)(v:Int)(j:Nat):Int:=hit (toW w j) v-hit (frW w j) v
theorem bq3:(cv w v j).natAbs<=1:=by
 unfold cv hit;split<;>split<;>decide
section
variable {p:Int}{w v:List Way}{U:Int}{a:Nat->Int}(N:K0 p w v)(h:0<U)(i:U.natAbs<2^1900)(g:∀j,(a j).natAbs<=2^1900)
include N h i g
theorem cA7(B:Int):at6 [.lst (mr w.length (u7 w)),.lst (mr w.length λj=>nrm (a j) U),.int B]=some (nrm (l9 (λj=>cv w B j*a j) w.length) U)/\X2 [k7 p w v,.lst (mr w.length λj=>nrm (a j) U),.int B]=some (nrm (l9 (λj=>cv w B j*a j) w.length) U):=by
 have R:=N.wl;have P:(2:Nat)^1910=2^1900*1024:=Nat.pow_add 2 1900 10;have b9:(2:Nat)^1900<2^1910:=Nat.pow_lt_pow_right ∎ ∎
 let S:=l9 (λj=>cv w B j*a j)
 have M:∀I,I<=w.length->(S I).natAbs<=8*2^1900:=λI H=>cU0 (aw7 (K:=2^1900) λj _=>by
  rw[cN4];exact cU0 (Nat.mul_le_mul bq3 (g j)) (by rw[Nat.one_mul];exact cT8 _)) (cU8 _ ⋯)
 have l:∀{z:Int},z.natAbs<=9*2^1900->z.natAbs<2^1910:=λF=>by
  rw[P,cU7];exact Nat.lt_of_le_of_lt F (Nat.mul_lt_mul_of_pos_right ∎ (Nat.pow_pos ∎))
 have d:∀I,I<=w.length->(S I+a I).natAbs<=9*2^1900:=λI H=>cU0 (Int.natAbs_add_le ..) (by rw[cV5 8];exact Nat.add_le_add (M I H) (g I))
 have s:∀I,I<=w.length->(S I).natAbs<2^1910:=λI H=>l (cU0 (M I H) (cU8 _ ∎))
 have J:∀I,(a I).natAbs<2^1910:=λI=>Nat.lt_of_le_of_lt (g I) b9
 have b:=Nat.lt_trans i b9
 let r:=T.lst (mr w.length λj=>nrm (a j) U)
 constructor
 .let E:T->Option T->Option T->A3:=λf x y=>[⇑(mr w.length (u7 w)),some r,↥B,some f,x,y]
  obtain⟨O,k,x,y,rfl⟩:=aa4 (st:=st2 4 5) (n:=w.length) (f:=λj=>.tup [u7 w j,nrm (a j) U]) (Q:=E (nrm (S 0) U) none none) (b:=m8 (sIf (bOf (g2 fEq (e8 v8 j4) l7)) (o6 3 (gN ab0 [n9,u0])) z9) (sIf (bOf (g2 fEq (e8 v8 l8) l7)) (o6 3 (gN an1 [n9,u0])) z9))
   (λI Q=>∃x y,Q=E (nrm (S I) U) x y) ⟨none,none,rfl⟩ λI H Q ⟨x,y,F⟩=>by
    subst F;have t1:∀f,(bOf (g2 fEq (e8 v8 j4) l7)) (E f (some (u7 w I)) (some (nrm (a I) U)))=some (toW w I==B):=λf=>A4 (j8 (j8 (x:=u7 w I) rfl rfl (ix1 ..)) rfl L9)
    have t2:∀f,(bOf (g2 fEq (e8 v8 l8) l7)) (E f (some (u7 w I)) (some (nrm (a I) U)))=some (frW w I==B):=λf=>A4 (j8 (j8 (x:=u7 w I) rfl rfl (ix0 ..)) rfl L9)
    refine⟨_,E (nrm (S (I+1)) U) (some (u7 w I)) (some (nrm (a I) U)),rfl,?_,_,_,rfl⟩;show m8 _ _ (E (nrm (S I) U) (some (u7 w I)) (some (nrm (a I) U)))=_;rw[show S (I+1)=S I+(hit (toW w I) B-hit (frW w I) B)*a I from rfl];unfold hit;by_cases L:toW w I=B
    .rw[n8 (B:=E (nrm (S I+a I) U) (some (u7 w I)) (some (nrm (a I) U))) (by rw[X8 (by rw[t1,beq_iff_eq.mpr L])];exact C8 (m7 (x:=[nrm (S I) U,nrm (a I) U]) rfl (bD5 h (s I ⋯) (J I) b ∎))),cW7 L];by_cases C:frW w I=B
     .rw[X8 (by rw[t2,beq_iff_eq.mpr C]),cW7 C,C8 (m7 (x:=[nrm (S I+a I) U,nrm (a I) U]) rfl (bD7 h (l (d I ⋯)) (J I) b ∎)),Int.add_sub_cancel,Int.sub_self,cO0,cL7];rfl
     .rw[Q2 (by rw[t2,cI6 C]),cW6 C,Int.sub_zero,Int.one_mul];rfl
    .rw[n8 (B:=E (nrm (S I) U) (some (u7 w I)) (some (nrm (a I) U))) (by rw[Q2 (by rw[t1,cI6 L])];rfl),cW6 L];by_cases C:frW w I=B
     .rw[X8 (by rw[t2,beq_iff_eq.mpr C]),cW7 C,C8 (m7 (x:=[nrm (S I) U,nrm (a I) U]) rfl (bD7 h (s I ⋯) (J I) b ∎)),Int.zero_sub,Int.neg_one_mul];rfl
     .rw[Q2 (by rw[t2,cI6 C]),cW6 C,Int.sub_zero,cO0,cL7];rfl
  rw[at6,o7 3 _ _ _ rfl,bP4,n8 (B:=E (nrm (S 0) U) none none) (by rw[show S 0=0 from rfl,aG7 h];rfl),n8 (B:=E (nrm (S w.length) U) x y)]
  .rfl
  .rw[O6,show itZ d8 d9 (E (nrm (S 0) U) none none)=some (mr w.length λj=>.tup [u7 w j,nrm (a j) U])from congrArg some (R0 ..)];exact k
 .let E:T->Option T->Option T->A3:=λf x y=>[some (k7 p w v),some r,↥B,some f,x,y]
  obtain⟨O,k,x,y,rfl⟩:=aa4 (st:=st2 4 5) (n:=w.length) (f:=λj=>.tup [nrm (a j) U,u7 w j]) (Q:=E (nrm (S 0) U) none none) (b:=o6 3 (gN W3 [n9,gN P7 [v8,y8 [g2 ay3 (gN aj9 [g2 fEq (e8 u0 j4) l7]) (gN aj9 [g2 fEq (e8 u0 l8) l7]),j4]]]))
   (λI Q=>∃x y,Q=E (nrm (S I) U) x y) ⟨none,none,rfl⟩ λI H Q ⟨x,y,F⟩=>by
    subst F;have Z:∀W,aj9 [.bl (W==B)]=↥(hit W B):=λW=>by
     unfold hit;by_cases e:W=B
     .rw[cW7 e,beq_iff_eq.mpr e];rfl
     .rw[cW6 e,cI6 e];rfl
    have c:(a I*cv w B I).natAbs<2^1910:=by
     rw[cN4];exact Nat.lt_of_le_of_lt (Nat.mul_le_mul (g I) bq3) (by rw[Nat.mul_one];exact b9)
    refine⟨_,_,rfl,C8 (t:=nrm (S (I+1)) U) (m7 (k8 (x:=nrm (S I) U) rfl (k8 (m7 (k8 (x:=nrm (a I) U) rfl (k8 (ae4 (k8 (j8 (m7 (k8 (j8 (j8 (x:=u7 w I) rfl rfl (ix1 ..)) rfl L9) rfl) (Z _)) (m7 (k8 (j8 (j8 (x:=u7 w I) rfl rfl (ix0 ..)) rfl L9) rfl) (Z _)) ay2) rfl)) rfl)) ((bd7 (ar0 h (J I) b) ∎ (cv w B I) (Nat.lt_of_le_of_lt bq3 ∎)).2.trans (by rw[aR5 h]))) rfl)) ((aY9 (ar0 h (s I ⋯) b) (ar0 h c b) ∎).trans (by rw[ax2 h,cM5 (a I)];rfl))),_,_,rfl⟩
  rw[X2,o7 3 _ _ _ rfl,aX9,n8 (B:=E (nrm (S 0) U) none none) (by rw[show S 0=0 from rfl,aG7 h];rfl),n8 (B:=E (nrm (S w.length) U) x y)]
  .rfl
  .rw[O6,show itZ d9 (e8 d8 j4) (E (nrm (S 0) U) none none)=some (mr w.length λj=>.tup [nrm (a j) U,u7 w j]) by rw[<-R0,<-D9];rfl];exact k
end
theorem aJ5(g:Nat->Int):∀(r:List Nat) (P:Nat),r.Nodup->(∀i∈r,i<P)->l9 (λj=>if r.contains j then g j else 0) P=(r.map g).sum
 |[],P,_,_=>by
  rw[M9 λj _=>∅];rfl
 |a::r,P,n,h=>by
  obtain⟨n1,n2⟩:=List.nodup_cons.mp n;have I:=aJ5 g r P n2 λi H=>h i (cS1 _ H)
  rw[cI9,List.sum_cons,<-I];have o:l9 (λj=>if j=a then g j else 0) P=g a:=by
   rw[O0 (k:=a) (h a cS2) λi _ B=>cW6 B,cW7 rfl]
  rw[<-o,<-ap1];refine w8 λj _=> ?_
  by_cases e:j=a
  .subst e;have :r.contains j=false:=by rw[cO6];exact cW3 n1
   simp[n1]
  .have :(a::r).contains j=r.contains j:=by simp[e]
   rw[this,cW6 e,cN9]
theorem ba9(C:l<(lns w s).length):∃r,(lns w s)[l]?=some (ofL (lns w s) l,r)/\ofL (lns w s) l<s.length/\by1 w (frW s (ofL (lns w s) l)) (toW s (ofL (lns w s) l)) [frW s (ofL (lns w s) l)] r/\∀j,onL (lns w s) l j=r.contains j:=by
 obtain⟨k,r,v,h,H,B⟩:=bb0 C;have e:ofL (lns w s) l=k:=by unfold ofL;rw[h];rfl
 have f:frW s k=v.1:=by unfold frW;rw[H];rfl
 have g:toW s k=v.2.1:=by unfold toW;rw[H];rfl
 rw[e,f,g];refine⟨r,h,aa3 H,aN4 7 B,λj=> ?_⟩;unfold onL;rw[h];rfl
section
variable {p:Int}{w v:List Way}{g:Nat->Bool}{l:Nat->Rat}{e:Nat}{u:Int}{x y:Nat->Int}(N:K0 p w v)(h:au2 (hD w v g l) e u x y)(wn:∀k,k<v.length->0<=wvH w v g l u x k)
theorem cd3(N:K0 p w v)(H:k<v.length):frW v k≠toW v k:=by
 have B:=bF0 (N.vt v[k] (cQ6 H));unfold frW toW;rw[cP8 H];exact B
include h wn
theorem bL3(j:Nat)(H:k<v.length):0<=P0 w v x (wvH w v g l u x) k j/\P0 w v x (wvH w v g l u x) k j<=wvH w v g l u x k:=
 aQ6 (o:=ofL (lns w v)) (k:=k) (λL=>h.B.x0 (1+L)) (wn k H) (λL=>onL (lns w v) L j) (lns w v).length
theorem cd5(H:k<v.length):l9 (tkn (ofL (lns w v)) (λL=>x (1+L)) k (wvH w v g l u x k)) (lns w v).length=wvH w v g l u x k:=by
 refine cd4 (λL=>h.B.x0 (1+L)) (wn k H) (Int.le_trans ?_ (h.B.less k H));show(if g k then _ else _)<=(if g k then rmW v k else 0)*x 0+u*ndB w v g l k;cases f:g k
 .rw[cW6 cK6,cW6 cK6,cO0,cN9,cM5];exact Int.le_refl _
 .have z:ndB w v g l k=0:=by
   unfold ndB nnB;rw[cW7 H,f,cW7 rfl,cO0];rfl
  rw[cW7 rfl,cW7 rfl,z,cN3,cL7,cM5];exact Int.le_refl _
theorem bM6(F:k<v.length)(B:Int):l9 (λj=>cv w B j*P0 w v x (wvH w v g l u x) k j) w.length=(hit (toW v k) B-hit (frW v k) B)*wvH w v g l u x k:=by
 have t:=cd5 h wn F;have z:∀L,ofL (lns w v) L≠k->tkn (ofL (lns w v)) (λL=>x (1+L)) k (wvH w v g l u x k) L=0:=λL e=>cW6 e
 have ld:∀j,P0 w v x (wvH w v g l u x) k j=l9 (λL=>if onL (lns w v) L j then tkn (ofL (lns w v)) (λL=>x (1+L)) k (wvH w v g l u x k) L else 0) (lns w v).length:=λ_=>rfl
 generalize tkn (ofL (lns w v)) (λL=>x (1+L)) k (wvH w v g l u x k)=C at t z ld;rw[w8 (g:=λj=>l9 (λL=>cv w B j*(if onL (lns w v) L j then C L else 0)) (lns w v).length) λj _=>by rw[J4,ld],ag5 (λL j=>cv w B j*(if onL (lns w v) L j then C L else 0)),<-t,<-J4];refine w8 λL I=> ?_
 obtain⟨r,J,M,H,E⟩:=ba9 I;by_cases e:ofL (lns w v) L=k
 .rw[e]at H;have s:=aJ5 (λj=>hit (toW w j) B-hit (frW w j) B) r w.length H.nd H.ix;rw[H.walk.gain B]at s;rw[<-s,cM5,<-J4];refine w8 λj _=> ?_
  rw[E j];cases r.contains j
  .rw[cW6 cK6,cW6 cK6,cN3,cN3]
  .rw[cW7 rfl,cW7 rfl,cM5];rfl
 .rw[z L e,cN3];exact M9 λj _=>by split<;>exact cN3 _
omit wn in
theorem bG8(B:j<w.length):l9 (λk=>P0 w v x (wvH w v g l u x) k j) v.length<=rmW w j*(u*scB w v g l):=by
 rw[cM7];refine Int.le_trans ?_ (h.B.room j B);rw[show l9 (λk=>P0 w v x (wvH w v g l u x) k j) v.length=l9 (λL=>l9 (λk=>if onL (lns w v) L j then tkn (ofL (lns w v)) (λL=>x (1+L)) k (wvH w v g l u x k) L else 0) v.length) (lns w v).length from ag5 (λL k=>if onL (lns w v) L j then tkn (ofL (lns w v)) (λL=>x (1+L)) k (wvH w v g l u x k) L else 0) _ _];refine al9 λL C=> ?_
 obtain⟨r,F,H,I,J⟩:=ba9 C;show _<=if onL (lns w v) L j then x (1+L)else 0
 cases onL (lns w v) L j
 .rw[M9 λk _=>cW6 cK6];exact Int.le_refl _
 .rw[cW7 rfl,O0 (k:=ofL (lns w v) L) H λk _ E=>by rw[cW7 rfl];exact cW6 λz=>E z.symm,cW7 rfl];have :=ck2 (o:=ofL (lns w v)) (x:=λL=>x (1+L)) (k:=ofL (lns w v) L) (w:=wvH w v g l u x (ofL (lns w v) L)) L;rwa[cW7 rfl]at this
end
theorem ct7{f:Nat->T}(H:t Q=some (mr n f))(E:n<=lim)(h:∀i,i<n->∃B,st (f i) (Z6 N C Q)=some B/\e B=↑true):gN af9 [o0 t N C st u5 e] Q=↑true:=by
 refine m7 (k8 (w9 (λ_=>.bl true) H E h) rfl) ?_;have :∀l:List Nat,T7 (l.map λ_=>.bl true)=some (l.map λ_=>true):=λl=>by
  induction l with
  |nil=>rfl
  |cons a l I=>rw[cI9,T7,I];rfl
 show(T7 _).bind _=_;rw[this,cI7,cO3];exact congrArg (λb=>some (T.bl b)) (List.all_eq_true.mpr λ_ _=>rfl)
section
variable {p:Int}{w v:List Way}{g:Nat->Bool}{l:Nat->Rat}{e:Nat}{u:Int}{x y:Nat->Int}(N:K0 p w v)(h:au2 (hD w v g l) e u x y)(wn:∀k,k<v.length->0<=wvH w v g l u x k/\(wvH w v g l u x k).natAbs<2^1900)(i:(u*scB w v g l).natAbs<2^1900)
include N h wn i
theorem bj3(H:k<v.length)(B:Int):at6 [.lst (mr w.length (u7 w)),.lst (mr w.length λj=>nrm (P0 w v x (wvH w v g l u x) k j) (u*scB w v g l)),.int B]=some (nrm ((hit (toW v k) B-hit (frW v k) B)*wvH w v g l u x k) (u*scB w v g l))/\X2 [k7 p w v,.lst (mr w.length λj=>nrm (P0 w v x (wvH w v g l u x) k j) (u*scB w v g l)),.int B]=some (nrm ((hit (toW v k) B-hit (frW v k) B)*wvH w v g l u x k) (u*scB w v g l)):=by
 have W:=λk H=>(wn k H).1
 rw[<-bM6 h W H B];exact cA7 N (cN1 h.B.pos af1) i (λj=>by
  have E:=bL3 (y:=y) h W j H;have C:=(wn k H).2;exact Nat.le_of_lt (Nat.lt_of_le_of_lt ⋯ C)) B
theorem cb2(C:k<v.length)(H:ba6 (frW v k) (toW v k) (.int B)=true):nrm ((hit (toW v k) B-hit (frW v k) B)*wvH w v g l u x k) (u*scB w v g l)=fr 0 1:=by
 erw[ba6,List.contains_cons,List.contains_nil,Bool.or_false,cK7,Bool.or_eq_false_iff,beq_eq_false_iff_ne,ne_eq]at H;unfold hit;rw[cW6 λz=>H.2 z.symm,cW6 λz=>H.1 z.symm,Int.sub_zero,cO0,aG7 (cN1 h.B.pos af1)]
theorem cF9(B:k<v.length):as2 [k7 p w v,u7 v k,.lst (mr w.length λj=>nrm (P0 w v x (wvH w v g l u x) k j) (u*scB w v g l))]=↑true:=by
 have M:=N.p2;have O:=N.p5;have L: -(lim:Int)<=p/\p<=(lim:Int):=by have :(lim:Int)=1000000:=rfl;omega
 let r:=T.lst (mr w.length λj=>nrm (P0 w v x (wvH w v g l u x) k j) (u*scB w v g l))
 let b:=(O2 0 p.toNat).filter (ba6 (frW v k) (toW v k))
 have C:b.length<=lim:=cU0 (List.length_filter_le _ _) (by rw[aG0];show _<=1000000;omega);have s:o6 3 (o0 (itR (e8 d8 l8)) 1 [1] (stN 0) (bOf (g2 W7 d8 (g1 (ai1 0 (some 2)) d9))) d8) [some (k7 p w v),some (u7 v k),some r,none]=some (.nx [some (k7 p w v),some (u7 v k),some r,⇑b]):=by
  refine C8 ?_;unfold o0;rw[aL0,B6 (x:=k7 p w v) rfl rfl (ix0 ..),cI7,aC2,cI7,cW7 L,cI7,cW7 (by rw[aG0];show _<=1000000;omega),aB4 (ba6 (frW v k) (toW v k)) id (O2 0 p.toNat) λt H=>by
   obtain⟨I,J,rfl⟩:=aW2 H;exact⟨[↥(I:Int),some (u7 v k)],rfl,rfl,rfl⟩,List.map_id]
  rfl
 rw[as2,o7 3 _ _ _ rfl,aP9];show al3 (m8 _ _ [some (k7 p w v),some (u7 v k),some r,none])=_;rw[n8 s,y4,aq8 (X:=b) (λ_=>true) rfl C λt H=>by
  obtain⟨E,F⟩:=List.mem_filter.mp H;obtain⟨I,J,rfl⟩:=aW2 E;refine⟨[↥(I:Int),some r,some (k7 p w v)],rfl,j8 (m7 (x:=[.lst (mr w.length (u7 w)),r,.int (I:Int)]) (k8 (by rw[<-D9];exact B6 (x:=k7 p w v) rfl rfl (ix1 ..)) rfl) (bj3 N h wn i B (I:Int)).1) rfl (by rw[cb2 N h wn i B F];rfl)⟩,List.all_eq_true.mpr λ_ _=>rfl]
 rfl
end
theorem bl0{a:Nat->Int}(C:n<=8)(h:∀i,i<n->(a i).natAbs<=2^1900)(H:i<=n):(l9 a i).natAbs<2^1910:=by
 refine Nat.lt_of_le_of_lt (aw7 (K:=2^1900) λj B=>h j ⋯) ?_;rw[show(2:Nat)^1910=1024*2^1900 from(Nat.pow_add 2 10 1900)];exact Nat.mul_lt_mul_of_pos_right ⋯ (Nat.pow_pos ∎)
theorem bZ6{U:Int}{a:Nat->Int}(H:0<U)(F:U.natAbs<2^1900)(E:n<=8)(h:∀i,i<n->(a i).natAbs<=2^1900):Y3 [.lst (mr n λi=>nrm (a i) U)]=some (nrm (l9 a n) U)/\V2 [.lst (mr n λi=>nrm (a i) U)]=some (nrm (l9 a n) U):=by
 have b9:(2:Nat)^1900<2^1910:=Nat.pow_lt_pow_right ∎ ∎;have b:=Nat.lt_trans F b9;have C:=λi B=>Nat.lt_of_le_of_lt (h i B) b9
 constructor
 .obtain⟨I,k,x,rfl⟩:=aa4 (st:=stN 2) (n:=n) (f:=λi=>nrm (a i) U) (Q:=[⇑(mr n λi=>nrm (a i) U),some (nrm (l9 a 0) U),none]) (b:=o6 1 (gN ab0 [d9,l7])) (λi Q=>∃x,Q=[⇑(mr n λi=>nrm (a i) U),some (nrm (l9 a i) U),x]) ⟨none,rfl⟩ λi B Q ⟨x,e⟩=>by
   subst e;exact⟨_,_,rfl,C8 (m7 (x:=[nrm (l9 a i) U,nrm (a i) U]) rfl (bD5 H (bl0 E h ⋯) (C i B) b ∎)),_,rfl⟩
  rw[Y3,o7 1 _ _ _ rfl,aO5,n8 (B:=[⇑(mr n λi=>nrm (a i) U),some (nrm (l9 a 0) U),none]) (by rw[show l9 a 0=0 from rfl,aG7 H];rfl),n8 (by exact k)];rfl
 .obtain⟨I,k,x,rfl⟩:=aa4 (st:=stN 2) (n:=n) (f:=λi=>nrm (a i) U) (Q:=[⇑(mr n λi=>nrm (a i) U),some (nrm (l9 a 0) U),none]) (b:=o6 1 (gN W3 [d9,l7])) (λi Q=>∃x,Q=[⇑(mr n λi=>nrm (a i) U),some (nrm (l9 a i) U),x]) ⟨none,rfl⟩ λi B Q ⟨x,e⟩=>by
   subst e;exact⟨_,_,rfl,C8 (m7 (x:=[nrm (l9 a i) U,nrm (a i) U]) rfl ((aY9 (ar0 H (bl0 E h (Nat.le_of_lt B)) b) (ar0 H (C i B) b) ∎).trans (by rw[ax2 H];rfl))),_,rfl⟩
  rw[V2,o7 1 _ _ _ rfl,bd3,n8 (B:=[⇑(mr n λi=>nrm (a i) U),some (nrm (l9 a 0) U),none]) (by rw[show l9 a 0=0 from rfl,aG7 H];rfl),n8 (by exact k)];rfl
section
variable {p:Int}{w v:List Way}{g:Nat->Bool}{l:Nat->Rat}{e:Nat}{u:Int}{x y:Nat->Int}(N:K0 p w v)(h:au2 (hD w v g l) e u x y)(wn:∀k,k<v.length->0<=wvH w v g l u x k/\(wvH w v g l u x k).natAbs<2^1900)(i:(u*scB w v g l).natAbs<2^1900)
include N h wn i
theorem aD7(H:k<v.length):0<=P0 w v x (wvH w v g l u x) k j/\(P0 w v x (wvH w v g l u x) k j).natAbs<=2^1900:=by
 have B:=bL3 (y:=y) h (λk H=>(wn k H).1) j H;have C:=(wn k H).2;exact⟨B.1,Nat.le_of_lt (Nat.lt_of_le_of_lt ⋯ C)⟩
theorem bB4:R7 [k7 p w v,R5 w v (u*scB w v g l) x (wvH w v g l u x)]=↑true:=by
 have C:=N.v3;have E:=N.wl;unfold R5;rw[bZ4 (λ_=>true) (λt H=> ?_) (by rw[z0];show _<=1000000;omega),z0,cQ8,cW4 rfl,cK9,List.all_eq_true.mpr λ_ _=>rfl];obtain⟨k,B,rfl⟩:=cI3 H;rw[bd8 (λ_=>true) (λt H=> ?_) (by rw[z0];show _<=1000000;omega),z0,cQ8,cW4 rfl,cK9,List.all_eq_true.mpr λ_ _=>rfl];obtain⟨j,F,rfl⟩:=cI3 H;have L:=aD7 (j:=j) N h wn i (cI5 B);exact(bE8 (k:=1901) (cN1 h.B.pos af1) L.1 (Nat.lt_of_le_of_lt L.2 (Nat.pow_lt_pow_right ∎ ∎)) (Nat.lt_trans i (Nat.pow_lt_pow_right ∎ ∎))).yes
theorem cq6:ab1 [k7 p w v,R5 w v (u*scB w v g l) x (wvH w v g l u x)]=↑true:=by
 have B:=N.v3;rw[ab1,o7 2 _ _ _ rfl,aA3,y4,ct7 (n:=v.length) (f:=λk=>.tup [u7 v k,.lst (mr w.length λj=>nrm (P0 w v x (wvH w v g l u x) k j) (u*scB w v g l))]) (by rw[<-R0,<-D9];rfl) (by show _<=1000000;omega) λk H=>⟨_,rfl,m7 (x:=[k7 p w v,u7 v k,.lst (mr w.length λj=>nrm (P0 w v x (wvH w v g l u x) k j) (u*scB w v g l))]) rfl (cF9 N h wn i H)⟩];rfl
theorem cb9(C:j<w.length)(a:List Nat)(H:Z6 1 a Q=[none,↥(j:Int)])(B:I Q=some (mr v.length λk=>.lst (mr w.length λj=>nrm (P0 w v x (wvH w v g l u x) k j) (u*scB w v g l)))):o0 I 1 a (stN 0) u5 (e8 d8 d9) Q=⇑(mr v.length λk=>nrm (P0 w v x (wvH w v g l u x) k j) (u*scB w v g l)):=by
 have E:=N.v3;refine w9 _ B (by show _<=1000000;omega) λk F=>⟨_,rfl,?_⟩
 rw[H];exact B6 (x:=.lst (mr w.length λj=>nrm (P0 w v x (wvH w v g l u x) k j) (u*scB w v g l))) (y:=.int (j:Int)) rfl rfl (O4 C)
theorem bK9(H:j<w.length):R6 [nrm (l9 (λk=>P0 w v x (wvH w v g l u x) k j) v.length) (u*scB w v g l),fr (rmW w j) 1]=↑false/\L8 [fr (rmW w j) 1,nrm (l9 (λk=>P0 w v x (wvH w v g l u x) k j) v.length) (u*scB w v g l)]=↑false:=by
 have C:=N.v3;have U:=cN1 h.B.pos (af1 (w:=w) (v:=v) (g:=g) (l:=l));have R:=ag8 N.wt H;have m:=cu4 (k:=1910) (r:=rmW w j) (ar0 U (bl0 (n:=v.length) ⋯ (λk B=>(aD7 (j:=j) N h wn i B).2) (cT8 _)) (Nat.lt_trans i (Nat.pow_lt_pow_right ∎ ∎))) ∎ ⋯;have r:=bG8 h H;rw[bW3 U,cW3 (Int.not_lt.mpr r)]at m;exact m
theorem cl4:ao7 [k7 p w v,R5 w v (u*scB w v g l) x (wvH w v g l u x)]=↑true:=by
 have C:=N.v3;have E:=N.wl;have U:=cN1 h.B.pos (af1 (w:=w) (v:=v) (g:=g) (l:=l));rw[ao7,o7 2 _ _ _ rfl,aY4,y4,bx0,A4 (b:=false) (m7 (k8 (w9 (n:=w.length) (f:=λj=>.tup [.int (j:Int),u7 w j]) (λ_=>.bl false) (by rw[<-am9,<-D9];rfl) (by show _<=1000000;omega) λj H=>⟨_,rfl,m7 (k8 (m7 (x:=[R5 w v (u*scB w v g l) x (wvH w v g l u x),.int (j:Int)]) rfl ?_) (k8 (ae4 (k8 (j8 (x:=u7 w j) rfl rfl (ix2 ..)) rfl)) rfl)) (bK9 N h wn i H).1⟩) rfl) ?_)]
 .rfl
 .have :∀L:List Nat,T7 (L.map λ_=>.bl false)=some (L.map λ_=>false):=λL=>by
   induction L with
   |nil=>rfl
   |cons a L I=>rw[cI9,T7,I];rfl
  show(T7 _).bind _=_;rw[this,cI7,List.any_map];exact congrArg (λb=>some (T.bl b)) (List.any_eq_false.mpr λ_ _ z=>by cases z)
 .rw[bs2,o7 2 _ _ _ rfl,bP2,y4,m7 (k8 (cb9 N h wn i H [1] rfl rfl) rfl) (bZ6 U i ⋯ λk B=>(aD7 N h wn i B).2).1];rfl
theorem cr8:aO8 [k7 p w v,R5 w v (u*scB w v g l) x (wvH w v g l u x)]=some (.val (.bl true)):=bX2 (aD5 N) (bB4 N h wn i) (cq6 N h wn i) (cl4 N h wn i)
theorem cc2(H:k<v.length):(hit (toW v k) (toW v k)-hit (frW v k) (toW v k))*wvH w v g l u x k=wvH w v g l u x k:=by
 unfold hit;rw[cW7 rfl,cW6 (cd3 N H),Int.sub_zero,Int.one_mul]
theorem bg4:av5 [k7 p w v,R5 w v (u*scB w v g l) x (wvH w v g l u x)]=some (.val (.lst (mr v.length λk=>nrm (wvH w v g l u x k) (u*scB w v g l))))/\ak5 [k7 p w v,R5 w v (u*scB w v g l) x (wvH w v g l u x)]=⇑(mr v.length λk=>nrm (wvH w v g l u x k) (u*scB w v g l)):=by
 have B:=N.v3;have I:∀Q,itZ (e8 d8 r9) d9 (some (k7 p w v)::some (R5 w v (u*scB w v g l) x (wvH w v g l u x))::Q)=some (mr v.length λk=>.tup [u7 v k,.lst (mr w.length λj=>nrm (P0 w v x (wvH w v g l u x) k j) (u*scB w v g l))]):=λQ=>by rw[<-R0,<-D9];rfl
 constructor
 .refine bs8 (aD5 N) (bB4 N h wn i) ?_ (ct3 _ _);rw[o7 2 _ _ _ rfl,aM3,y4];show al3 ((o0 _ _ _ _ _ _ [some (k7 p w v),some (R5 w v (u*scB w v g l) x (wvH w v g l u x))]).bind _)=_;rw[w9 (f:=λk=>.tup [u7 v k,.lst (mr w.length λj=>nrm (P0 w v x (wvH w v g l u x) k j) (u*scB w v g l))]) (λk=>nrm (wvH w v g l u x k) (u*scB w v g l)) (I []) (by show _<=1000000;omega) λk H=>⟨_,rfl,m7 (x:=[.lst (mr w.length (u7 w)),.lst (mr w.length λj=>nrm (P0 w v x (wvH w v g l u x) k j) (u*scB w v g l)),.int (toW v k)]) (k8 (by rw[<-D9];exact B6 (x:=k7 p w v) rfl rfl (ix1 ..)) (k8 rfl (k8 (B6 (x:=u7 v k) rfl rfl (ix1 ..)) rfl))) ((bj3 N h wn i H (toW v k)).1.trans (by rw[cc2 N h wn i H]))⟩];rfl
 .rw[ak5,o7 2 _ _ _ rfl,aP7,y4];show al3 ((o0 _ _ _ _ _ _ [some (k7 p w v),some (R5 w v (u*scB w v g l) x (wvH w v g l u x))]).bind _)=_;rw[w9 (f:=λk=>.tup [u7 v k,.lst (mr w.length λj=>nrm (P0 w v x (wvH w v g l u x) k j) (u*scB w v g l))]) (λk=>nrm (wvH w v g l u x k) (u*scB w v g l)) (I []) (by show _<=1000000;omega) λk H=>⟨_,rfl,m7 (x:=[k7 p w v,.lst (mr w.length λj=>nrm (P0 w v x (wvH w v g l u x) k j) (u*scB w v g l)),.int (toW v k)]) (k8 rfl (k8 rfl (k8 (B6 (x:=u7 v k) rfl rfl (ix1 ..)) rfl))) ((bj3 N h wn i H (toW v k)).2.trans (by rw[cc2 N h wn i H]))⟩];rfl
end
section
variable {p:Int}{w v:List Way}{g:Nat->Bool}{l:Nat->Rat}{e:Nat}{u:Int}{x y:Nat->Int}(N:K0 p w v)(h:au2 (hD w v g l) e u x y)(wn:∀k,k<v.length->0<=wvH w v g l u x k/\(wvH w v g l u x k).natAbs<2^1900)(i:(u*scB w v g l).natAbs<2^1900)
include N h wn i
theorem cd1:az1 [k7 p w v,R5 w v (u*scB w v g l) x (wvH w v g l u x)]=↑true:=by
 have P:=N.v3;have R:=N.wl;have W:=N.p2;have X:=N.p5;have U:=cN1 h.B.pos (af1 (w:=w) (v:=v) (g:=g) (l:=l));have J:p=(p.toNat:Int):=(cN8 ⋯).symm
 let F:=R5 w v (u*scB w v g l) x (wvH w v g l u x)
 let r:=λk=>T.lst (mr w.length λj=>nrm (P0 w v x (wvH w v g l u x) k j) (u*scB w v g l))
 let E:Option T->Option T->Option T->Option T->Option T->A3:=λa b c d f=>[some (k7 p w v),some F,a,b,c,d,f]
 obtain⟨Y,L,a,b,c,rfl⟩:=aa4 (st:=st2 2 3) (n:=v.length) (f:=λk=>.tup [u7 v k,r k]) (Q:=E none none none none none) (b:=P1 (itR (e8 d8 l8)) (stN 4) (sIf (V1 (bOf (g2 W7 v8 (g1 (ai1 0 (some 2)) l7))) (bOf (g2 fNe (gN X2 [d8,n9,v8]) (y8 [l8,j4])))) (t5 (gC (.bl false))) z9))
  (λ_ Q=>∃a b c,Q=E a b c none none) ⟨none,none,none,rfl⟩ λk B Q ⟨a,b,c,H⟩=>by
   subst H;obtain⟨Z,M,d,rfl⟩:=aa4 (st:=stN 4) (n:=p.toNat) (f:=λI=>.int (I:Int)) (Q:=E (some (u7 v k)) (some (r k)) c none none) (b:=sIf (V1 (bOf (g2 W7 v8 (g1 (ai1 0 (some 2)) l7))) (bOf (g2 fNe (gN X2 [d8,n9,v8]) (y8 [l8,j4])))) (t5 (gC (.bl false))) z9)
    (λ_ Q=>∃d,Q=E (some (u7 v k)) (some (r k)) d none none) ⟨c,rfl⟩ λI S Q ⟨d,H⟩=>by
     subst H;refine⟨_,E (some (u7 v k)) (some (r k)) ↥(I:Int) none none,rfl,?_,_,rfl⟩;show sIf _ _ _ (E (some (u7 v k)) (some (r k)) ↥(I:Int) none none)=_;have t1:(bOf (g2 W7 v8 (g1 (ai1 0 (some 2)) l7))) (E (some (u7 v k)) (some (r k)) ↥(I:Int) none none)=some (ba6 (frW v k) (toW v k) (.int (I:Int))):=rfl;rw[Q2]
     .rfl
     .cases o:ba6 (frW v k) (toW v k) (.int (I:Int))
      .rw[o]at t1;unfold V1;rw[t1];rfl
      .rw[o]at t1;have t2:(bOf (g2 fNe (gN X2 [d8,n9,v8]) (y8 [l8,j4]))) (E (some (u7 v k)) (some (r k)) ↥(I:Int) none none)=some false:=A4 (j8 (m7 (x:=[k7 p w v,r k,.int (I:Int)]) rfl (bj3 N h wn i B (I:Int)).2) (y:=fr 0 1) rfl (by rw[cb2 N h wn i B o];rfl));exact bc6 t1 λ_=>t2
   refine⟨_,E (some (u7 v k)) (some (r k)) d none none,rfl,?_,_,_,_,rfl⟩;rw[O6,Z9 (n:=p.toNat) (by rw[<-J];exact B6 (x:=k7 p w v) rfl rfl (ix0 ..)) (by show _<=1000000;omega)];exact M
 obtain⟨n,O,d,f,rfl⟩:=aa4 (st:=st2 5 6) (n:=w.length) (f:=λj=>.tup [.int (j:Int),u7 w j]) (Q:=E a b c none none) (b:=sIf (bOf (gN L8 [y8 [e8 C7 r9,j4],gN V2 [o0 (itL d9) 1 [5] (stN 0) u5 (e8 d8 d9)]])) (t5 (gC (.bl false))) z9)
  (λ_ Q=>∃d f,Q=E a b c d f) ⟨none,none,rfl⟩ λj C Q ⟨d,f,H⟩=>by
   subst H;refine⟨_,E a b c ↥(j:Int) (some (u7 w j)),rfl,?_,_,_,rfl⟩;show sIf _ _ _ (E a b c ↥(j:Int) (some (u7 w j)))=_;rw[Q2 (A4 (m7 (k8 (ae4 (k8 (j8 (x:=u7 w j) rfl rfl (ix2 ..)) rfl)) (k8 (m7 (k8 (cb9 N h wn i C [5] rfl rfl) rfl) (bZ6 U i ⋯ λk B=>(aD7 N h wn i B).2).2) rfl)) (bK9 N h wn i C).2))];rfl
 rw[az1,o7 2 _ _ _ rfl,br2,n8 (B:=E a b c none none),n8 (B:=E a b c d f)]
 .rfl
 .rw[O6,show itE (e8 d8 j4) (E a b c none none)=some (mr w.length λj=>.tup [.int (j:Int),u7 w j]) by rw[<-am9,<-D9];rfl];exact O
 .rw[O6,show itZ (e8 d8 r9) d9 (A0 7 [k7 p w v,F])=some (mr v.length λk=>.tup [u7 v k,r k]) by rw[<-R0,<-D9];rfl];exact L
end
structure Tri(ws vs:List Way)(P H:Nat->T):Prop where
 ps:∀j,j<ws.length->Fz 300 (P j)
 hs:∀k,k<vs.length->Fz 300 (H k)
theorem Fz.am(h:Fz k t):X6 [t]=↑(amB t):=by
 obtain⟨n,d,rfl,_⟩:=h;exact bP8
theorem Fz.num(h:Fz k t):∃n d,t=fr n d/\amB t=decide (0<=n):=by
 obtain⟨n,d,rfl,H,g,_⟩:=h;refine⟨n,d,rfl,?_⟩;show((decide (0<d)&&(Int.gcd n d==1))&&decide (0<=n))=_;rw[cW4 H,g];rfl
theorem Am.amB(h:Am k t):L3.amB t=true:=by
 have :=h.fz.am;rw[h.yes]at this;injection this with this
 injection this with this
 exact this.symm
theorem bf7(n:Nat):∀(X Y:List T),(∀x∈X,∃a b,x=fr a b)->(∀x∈Y,∃a b,x=fr a b)->∃b,ac9 (eqD (n+2)) X Y=some b/\(X=Y->b=true)/\(b=true->X.length=Y.length->X=Y)
 |[],Y,_,_=>⟨true,rfl,λ_=>rfl,λ_ h=>by cases Y with |nil=>rfl|cons _ _=>simp at h⟩
 |x::X,[],_,_=>⟨true,rfl,λ_=>rfl,λ_ h=>by simp at h⟩
 |x::X,y::Y,E,F=>by
  obtain⟨b,I,J,L⟩:=bf7 n X Y (λz H=>E z (cS1 _ H)) (λz H=>F z (cS1 _ H));obtain⟨a,c,rfl⟩:=E x cS2;obtain⟨B,C,rfl⟩:=F y cS2;have e:eqD (n+2) (fr a c) (fr B C)=some ((a==B)&&(c==C)):=by
   show(ac9 (eqD (n+1)) [.int a,.int c] [.int B,.int C]).bind _=_;erw[ac9,eqD,cI7];simp
  refine⟨((a==B)&&(c==C))&&b,by rw[ac9,e,cI7,I];rfl,λz=> ?_,λz l=> ?_⟩
  .cases z;rw[J rfl];simp
  .simp only[cK2,beq_iff_eq]at z;rw[z.1.1,z.1.2,L z.2 (by simpa using l)]
theorem cs8(E:∀x∈X,∃a b,x=fr a b)(F:∀x∈y,∃a b,x=fr a b):∃b,fEq (.lst X) (.lst y)=↑b/\fNe (.lst X) (.lst y)=↑(!b)/\(X=y->b=true)/\(b=true->X=y):=by
 by_cases h:X.length=y.length
 .obtain⟨b,H,B,C⟩:=bf7 5 X y E F;have e:eqD 8 (.lst X) (.lst y)=some b:=by
   show(if X.length=y.length then ac9 (eqD 7) X y else some false)=_;rw[cW7 h,H]
  exact⟨b,by unfold fEq;rw[e];rfl,by unfold fNe;rw[e];rfl,B,λz=>C z h⟩
 .have e:eqD 8 (.lst X) (.lst y)=some false:=by
   show(if X.length=y.length then ac9 (eqD 7) X y else some false)=_;rw[cW6 h]
  exact⟨false,by unfold fEq;rw[e];rfl,by unfold fNe;rw[e];rfl,λz=>absurd (congrArg _ z) h,λz=>by cases z⟩
theorem cs9(H:Fz k t)(h:Fz l s):∃b,fEq t s=↑b/\(t=s->b=true)/\(b=true->t=s):=by
 obtain⟨n,d,rfl,_⟩:=H;obtain⟨N,B,rfl,_⟩:=h;refine⟨(n==N)&&(d==B),by unfold fEq;rw[bj5];rfl,λz=> ?_,λz=> ?_⟩
 .cases z;simp
 .simp only[cK2,beq_iff_eq]at z;rw[z.1,z.2]
noncomputable def paB(n:Nat)(P:Nat->T):Bool:=(mr n P).all amB
noncomputable def ad0(P:Nat->T)(r:List Nat):T:=ag9 (r.map P) (fr 0 1)
noncomputable def htB(w v:List Way)(P H:Nat->T):Bool:=(lns w v).all λl=> !gtB (H l.1) (ad0 P l.2)
noncomputable def an4(v:List Way)(H:Nat->T):T:=ag9 (mr v.length λi=>T9 (H i) (rmW v i)) (fr 0 1)
theorem aL1(g:L->T)(d:L->Bool)(I:A3->Prop):∀(l:List L) (Q:A3),I Q->(∀a∈l,∀Q,I Q->∃B,st (g a) Q=some B/\(d a=true->∃C,b B=some (.nx C)/\I C)/\(d a=false->b B=some (.ret (.bl false))))->
  (l.all d=true->∃J,N4 st b (l.map g) Q=some (.nx J)/\I J)/\(l.all d=false->N4 st b (l.map g) Q=some (.ret (.bl false)))
 |[],Q,H,_=>⟨λ_=>⟨Q,rfl,H⟩,λh=>by simp at h⟩
 |x::X,Q,H,h=>by
  obtain⟨B,E,M,N⟩:=h x cS2 Q H;rw[cO1,cI9];cases F:d x with
  |false=>
   refine⟨λz=>by simp at z,λ_=> ?_⟩;rw[N4];erw[E,cI7,N F]
  |true=>
   obtain⟨C,k,P⟩:=M F;have i:=aL1 g d I X C P λy O=>h y (cS1 _ O)
   rw[N4];erw[E,cI7,k,cK9];exact i
theorem at4{E:Type}{B:A3}{I:GL}{n:Nat}{C:List Nat}{st:St1}{e:G}{l:List E}{g:E->T}(h:E->T)(F:I B=some (l.map g))(H:l.length<=lim)(M:∀a∈l,∃Q,st (g a) (Z6 n C B)=some Q/\e Q=some (h a)):o0 I n C st u5 e B=⇑(l.map h):=by
 erw[o0,F,cI7];rw[cW7 (by rw[cQ8];exact H)];have :∀l:List E,(∀a∈l,∃Q,st (g a) (Z6 n C B)=some Q/\e Q=some (h a))->aa6 (Z6 n C B) st u5 e (l.map g)=some (l.map h):=by
  intro l;induction l with
  |nil=>intro _;rfl
  |cons a l O=>
   intro H;obtain⟨Q,J,L⟩:=H a cS2;rw[cI9,aa6,J,cI7,bc5,cI7,cW7 rfl,L,cI7,O λi N=>H i (cS1 _ N)];rfl
 rw[this _ M];rfl
theorem cc3(f:B->Bool)(l:List B):bc2 [.lst (l.map λa=>.bl (f a))]=↑(l.any f):=by
 have :T7 (l.map λa=>.bl (f a))=some (l.map f):=by
  induction l with
  |nil=>rfl
  |cons a l i=>rw[cI9,T7,i];rfl
 show(T7 _).bind _=_;rw[this,cI7,List.any_map];rfl
theorem bw9(h:a Q=↑x):aT0 a Q=↑(!x):=by
 rw[bx0,A4 h,cI7]
theorem ai3(h:a Q=some x)(H:b Q=some y):bOr a b Q=some (x||y):=by
 rw[ct5,h,cI7,H];cases x<;>rfl
theorem bp1(f:B->Int)(l:List B):S5 (l.map λa=>.int (f a))=some (l.map f):=by
 have :=aS8 (l.map f);rwa[cR7]at this
theorem aG8:∀(x:Int) (I:List Int),∃m,an6 (x::I)=some m/\decide (m<0)=(x::I).any λi=>decide (i<0)
 |x,[]=>⟨x,rfl,∅⟩
 |x,y::I=>by
  obtain⟨m,h,H⟩:=aG8 y I;rw[an6,h];refine⟨_,rfl,?_⟩;rw[cO4,<-H];by_cases q:m<x
  .rw[cW7 q];by_cases z:m<0
   .simp[z]
   .rw[cW3 z,cW3 (show¬x<0 by omega)];rfl
  .rw[cW6 q];by_cases z:x<0
   .simp[z]
   .rw[cW3 z,cW3 (show¬m<0 by omega)];rfl
noncomputable def ap9:T->Int
 |.tup (.int n::_)=>n
 |_=>0
theorem aV6(h:Fz k t):M8 t (.int 0)=↥(ap9 t)/\amB t= !decide (ap9 t<0):=by
 obtain⟨n,d,rfl,e⟩:=h.num;refine⟨ix0 _ _,?_⟩;rw[e];show decide (0<=n)= !decide (n<0);by_cases z:0<=n
 .rw[cW4 z,cW3 ⋯];rfl
 .rw[cW3 z,cW4 ⋯];rfl
theorem bc9{k:Nat}{l:List T}(h:∀t∈l,Fz k t):(l.map ap9).any (λi=>decide (i<0))= !(l.all amB):=by
 induction l with
 |nil=>rfl
 |cons a l I=>
  rw[cI9,cO4,cO1,I λt H=>h t (cS1 _ H),(aV6 (h a cS2)).2];cases decide (ap9 a<0)<;>rfl
theorem aT6:∀{l:List B},(∀a∈l,f a=g a)->l.all f=l.all g
 |[],_=>rfl
 |a::l,h=>by rw[cO1,cO1,h a cS2,aT6 λb H=>h b (cS1 _ H)]
noncomputable def hrB(w v:List Way)(P H:Nat->T):Bool:=paB w.length P&&(paB v.length H&&htB w v P H)
section
variable (N:K0 p w v)(R:Tri w v P H)
include N R
omit N in
theorem bg1(r:List Nat)(C:∀j∈r,j<w.length):∀q∈r.map P,Fz 300 q:=λq B=>by
 obtain⟨j,h,rfl⟩:=cI3 B;exact R.ps j (C j h)
omit N in
theorem aT3(r:List Nat)(h:∀j∈r,j<w.length)(l:r.length<=5):Y3 [.lst (r.map P)]=some (ad0 P r)/\V2 [.lst (r.map P)]=some (ad0 P r)/\Fz 1600 (ad0 P r):=by
 have L:(r.map P).length=r.length:=cQ8 ..;have b:1+(r.map P).length*(300+1)<=3000:=⋯
 obtain⟨B,C⟩:=cc8 (k:=300) (bg1 R r h) b;have E:=bP7 (k:=300) (bg1 R r h) b;have F:1+(r.map P).length*(300+1)<=1600:=⋯
 exact⟨B,E,C.mono F⟩
omit N R in
theorem be9{Q:A3}{I:GL}{a:List Nat}{r:List Nat}{n:Nat}{f:Nat->T}(C:∀j∈r,j<n)(l:r.length<=5)(h:I Q=some (r.map bb3))(c:Z6 1 a Q=[none,⇑(mr n f)]):o0 I 1 a (stN 0) u5 (e8 d9 d8) Q=⇑(r.map f):=by
 erw[o0,h,cI7,c];rw[cW7 (by rw[cQ8];show _<=1000000;omega),ay6 (f:=λt=>match t with |.int i=>f i.toNat|t=>t)]
 .rw[cR7];rfl
 .intro x E;obtain⟨j,B,rfl⟩:=cI3 E;refine⟨[some (bb3 j),⇑(mr n f)],rfl,?_⟩;erw[D6,v9,cJ6,cI8,jn,cI7,bb3,cN7];exact aS7 (by simp[C j B])
theorem bQ7(C:l∈lns w v):l.1<v.length/\(∀j∈l.2,j<w.length)/\l.2.length<=5:=by
 obtain⟨E,B,h⟩:=bw0 C;exact⟨aa3 B,(aN4 7 h).ix,(ah5 N).2 _ h⟩
theorem cG6(B:∀j∈r,j<w.length)(h:r.length<=5):aZ1 [.lst (mr w.length P),M7 r]=some (ad0 P r):=by
 rw[aZ1,o7 2 _ _ _ rfl,bP5,y4];rw[m7 (k8 (be9 (f:=P) B h rfl rfl) rfl) (aT3 R r B h).1];rfl
theorem cg7:av3 [k7 p w v,.tup [.lst (mr w.length P),.lst (mr v.length H)]]=↑(true&&(paB w.length P&&(paB v.length H&&htB w v P H))):=by
 have J:=N.v3;have h:=N.wl;have O:=aw1 N;rw[av3,o7 2 _ _ _ rfl,aY3,y4];have r:∀(n:Nat) (f:Nat->T),n<=8->(∀j,j<n->Fz 300 (f j))->N6 [.lst (mr n f),.int (n:Int)]=↑(paB n f):=λn f M B=>by
  rw[bd8 amB (λt I=> ?_) (by simp;show _<=1000000;omega),cW4 ∅,cK9]
  .rfl
  .obtain⟨j,C,rfl⟩:=cI3 I;exact(B j (cI5 C)).am
 have e:M8 (.tup [.lst (mr w.length P),.lst (mr v.length H)]) (.int 0)=⇑(mr w.length P):=ix0 _ _;have E:M8 (.tup [.lst (mr w.length P),.lst (mr v.length H)]) (.int 1)=⇑(mr v.length H):=ix1 _ _ _;have n1:M8 (k7 p w v) (.int 1)=⇑(w.map z7):=by erw[k7,ix1]
 have n2:M8 (k7 p w v) (.int 2)=⇑(v.map z7):=by erw[k7,ix2]
 rw[L5 (x:=true) (y:=paB w.length P&&(paB v.length H&&htB w v P H)) (m7 (x:=[.tup [.lst (mr w.length P),.lst (mr v.length H)]]) rfl rfl) (L5 ?_ (L5 ?_ ?_))]
 .rfl
 .exact m7 (k8 (j8 rfl rfl e) (k8 (m7 (k8 (j8 rfl rfl n1) rfl) (by rw[Y8,cQ8])) rfl)) (r w.length P h R.ps)
 .exact m7 (k8 (j8 rfl rfl E) (k8 (m7 (k8 (j8 rfl rfl n2) rfl) (by rw[Y8,cQ8])) rfl)) (r v.length H ⋯ R.hs)
 .have :htB w v P H= !((lns w v).any λl=>gtB (H l.1) (ad0 P l.2)):=by
   unfold htB;rw[List.not_any_eq_all_not]
  rw[this];refine bw9 (m7 (k8 (at4 (l:=lns w v) (g:=P8) (λl=>.bl (gtB (H l.1) (ad0 P l.2))) ?_ (by show _<=1000000;omega) λl F=>⟨[some (P8 l),some (.tup [.lst (mr w.length P),.lst (mr v.length H)])],rfl,?_⟩) rfl) (cc3 _ _))
  .rw[Y7,m7 (x:=[k7 p w v]) rfl (by5 N)];rfl
  .obtain⟨t1,t2,t3⟩:=bQ7 N R F;have L:M8 (P8 l) (.int 0)=↥(l.1:Int):=ix0 _ _;have l1:M8 (P8 l) (.int 1)=some (M7 l.2):=ix1 _ _ _;have x:M8 (.lst (mr v.length H)) (.int (l.1:Int))=some (H l.1):=aS7 (by simp[t1]);refine m7 (k8 (j8 (j8 rfl rfl E) (j8 rfl rfl L) x) (k8 (m7 (k8 (j8 rfl rfl e) (k8 (j8 rfl rfl l1) rfl)) (cG6 N R t2 t3)) rfl)) ?_;exact(aJ1 ((R.hs _ t1).mono ∎) (aT3 R l.2 t2 t3).2.2 ∎).1
theorem aZ4:Y3 [.lst (mr w.length λi=>T9 (P i) (rmW w i))]=some (an4 w P)/\V2 [.lst (mr w.length λi=>T9 (P i) (rmW w i))]=some (an4 w P)/\Fz 3000 (an4 w P):=by
 have F:=N.wl;have l:(mr w.length λi=>T9 (P i) (rmW w i)).length=w.length:=∅
 have f:∀q∈mr w.length (λi=>T9 (P i) (rmW w i)),Fz 360 q:=λq E=>by
  obtain⟨i,h,rfl⟩:=cI3 E;have h:=cI5 h;exact bs1 (R.ps i h) _ (aF8 N.wt h)
 have b:1+(mr w.length λi=>T9 (P i) (rmW w i)).length*(360+1)<=3000:=⋯
 obtain⟨B,C⟩:=cc8 (k:=360) f b;exact⟨B,bP7 (k:=360) f b,C.mono b⟩
theorem aU5(C:∀t z,Fz 300 t->z.natAbs<2^60->F [t,fr z 1]=some (T9 t z))(I:∀W∈x,U8 p W=true)(l:x.length<=8)(E:∀i,i<x.length->Fz 300 (f i))(B:J Q=some (U4 (mr x.length f) (x.map z7))):
  o0 J 2 [] (st2 0 1) u5 (gN F [d8,y8 [e8 d9 r9,j4]]) Q=⇑(mr x.length λi=>T9 (f i) (rmW x i)):=by
 refine w9 (n:=x.length) (f:=λi=>.tup [f i,u7 x i]) (λi=>T9 (f i) (rmW x i)) ?_ (by show _<=1000000;omega) λi h=>⟨[some (f i),some (u7 x i)],rfl,?_⟩
 .rw[B,D9,R0]
 .simp only[N7,aw3,D0,F7,D6,G8,v9,cJ6,cI8,jn,cI7,u7,aA8,ix2];exact C _ _ (E i h) (aF8 I h)
theorem cz9:aO7 [k7 p w v,.lst (mr w.length P)]=some (an4 w P):=by
 rw[aO7,o7 2 _ _ _ rfl,by2,y4];rw[m7 (k8 (aU5 N R (F:=af6) (x:=w) (f:=P) (λt z h B=>(bd7 h ∎ z B).1) N.wt N.wl R.ps rfl) rfl) (aZ4 N R).1];rfl
theorem cA0:aJ0 [k7 p w v,.lst (mr w.length P)]=some (an4 w P):=by
 rw[aJ0,o7 2 _ _ _ rfl,br3,y4];rw[m7 (k8 (aU5 N R (F:=P7) (x:=w) (f:=P) (λt z h B=>(bd7 h ∎ z B).2) N.wt N.wl R.ps rfl) rfl) (aZ4 N R).2.1];rfl
theorem cA6:W8 [k7 p w v,.tup [.lst (mr w.length P),.lst (mr v.length H)]]=↑(hrB w v P H):=by
 have h1:=N.v1;have h3:=N.v3;have h8:=N.wl;rw[W8,o7 2 _ _ _ rfl,au4]
 let B:=T.tup [.lst (mr w.length P),.lst (mr v.length H)]
 let s:=T.lst (mr w.length P)
 let h:=T.lst (mr v.length H)
 rw[n8 (B:=[some (k7 p w v),some B,some s,some h,none,none,none]) rfl];have n1:M8 (k7 p w v) (.int 1)=⇑(w.map z7):=by erw[k7,ix1]
 have n2:M8 (k7 p w v) (.int 2)=⇑(v.map z7):=by erw[k7,ix2]
 have S:∀t∈mr w.length P++mr v.length H,Fz 300 t:=λt E=>by
  rcases cK0 E with E|E
  .obtain⟨j,L,rfl⟩:=cI3 E;exact R.ps j (cI5 L)
  .obtain⟨j,L,rfl⟩:=cI3 E;exact R.hs j (cI5 L)
 have ae:(o0 (itL (g2 y9 l7 n9)) 1 [] (stN 0) u5 (e8 d8 l8)) [some (k7 p w v),some B,some s,some h,none,none,none]=⇑((mr w.length P++mr v.length H).map λt=>.int (ap9 t)):=by
  refine at4 (l:=mr w.length P++mr v.length H) (g:=id) _ ?_ (by simp;show _<=1000000;omega) λt E=>⟨[some t],rfl,j8 rfl rfl (aV6 (S t E)).1⟩
  rw[List.map_id,Y7,j8 rfl rfl (Y2 (by simp;show _<=1000000;omega))];rfl
 have ak:∃m,av1 [.lst ((mr w.length P++mr v.length H).map λt=>.int (ap9 t))]=↥m/\decide (m<0)= !(paB w.length P&&paB v.length H):=by
  have e:=bc9 S;rw[List.all_append]at e;have ne:(mr w.length P++mr v.length H).map ap9≠[]:=by
   intro z;have :=congrArg List.length z;rw[cQ8,cQ7,cQ8,cQ8,cQ9,cQ9,cJ4]at this;omega
  obtain⟨a,ai,l⟩:=List.exists_cons_of_ne_nil ne;obtain⟨m,n,o⟩:=aG8 a ai;rw[<-l]at n o;refine⟨m,?_,o.trans e⟩;show(S5 _).bind _=_;rw[bp1,cI7,n];rfl
 obtain⟨m,m1,m2⟩:=ak;have c1:(bOf (g2 fLt (gN av1 [o0 (itL (g2 y9 l7 n9)) 1 [] (stN 0) u5 (e8 d8 l8)]) l8)) [some (k7 p w v),some B,some s,some h,none,none,none]=some (!(paB w.length P&&paB v.length H)):=by
  rw[<-m2];exact A4 (j8 (m7 (k8 ae rfl) m1) rfl af5)
 have c2:(bOf (g2 fNe (gN A7 [l7]) (gN A7 [e8 d8 j4]))) [some (k7 p w v),some B,some s,some h,none,none,none]=some false:=by
  refine A4 (j8 (x:=.int (w.length:Int)) (y:=.int (w.length:Int)) (m7 (x:=[s]) rfl (by show some (T.int _)=_;simp)) (m7 (k8 (j8 rfl rfl n1) rfl) (by rw[Y8,cQ8])) ∅)
 have c3:(bOf (g2 fNe (gN A7 [n9]) (gN A7 [e8 d8 r9]))) [some (k7 p w v),some B,some s,some h,none,none,none]=some false:=by
  refine A4 (j8 (x:=.int (v.length:Int)) (y:=.int (v.length:Int)) (m7 (x:=[h]) rfl (by show some (T.int _)=_;simp)) (m7 (k8 (j8 rfl rfl n2) rfl) (by rw[Y8,cQ8])) ∅)
 have J:=ai3 c1 (ai3 c2 c3);erw[Bool.or_false]at J;unfold hrB;rw[<-Bool.and_assoc];cases W:(paB w.length P&&paB v.length H)with
 |false=>
  rw[W]at J;rw[W0 (t:=.bl false) (by rw[W5,J];rfl)];rfl
 |true=>
  rw[W]at J;rw[n8 (B:=[some (k7 p w v),some B,some s,some h,none,none,none]) (by rw[W5,J];rfl),cK9];have ah:∀k,k<v.length->∀x,(let g:=λr=> !gtB (H k) (ad0 P r)
    let aa:=M0 w (toW v k) 7 (frW v k) [frW v k]
    let y:=(P1 (itL (gN ar1 [d8,e8 v8 l8,e8 v8 j4,A1 [e8 v8 l8]])) (stN 6) (sIf (bOf (gN L8 [gN V2 [o0 (itL C7) 1 [2] (stN 0) u5 (e8 d9 d8)],u0])) (t5 (gC (.bl false))) z9)) [some (k7 p w v),some B,some s,some h,some (u7 v k),some (H k),x]
    (aa.all g=true->∃X,y=some (.nx [some (k7 p w v),some B,some s,some h,some (u7 v k),some (H k),X]))/\(aa.all g=false->y=some (.ret (.bl false)))):=by
   intro k C x;dsimp only;have d:M8 (u7 v k) (.int 0)=↥(frW v k):=ix0 _ _;have i1:M8 (u7 v k) (.int 1)=↥(toW v k):=ix1 _ _ _;have i:(itL (gN ar1 [d8,e8 v8 l8,e8 v8 j4,A1 [e8 v8 l8]])) [some (k7 p w v),some B,some s,some h,some (u7 v k),some (H k),x]=some ((M0 w (toW v k) 7 (frW v k) [frW v k]).map M7):=by
    rw[Y7,m7 (k8 (a:=d8) rfl (k8 (bB2 4 0 rfl d) (k8 (bB2 4 1 rfl i1) (k8 (az9 (k8 (bB2 4 0 rfl d) rfl)) rfl)))) (cx1 N _ _)];rfl
   have F:=aL1 (st:=stN 6) (b:=sIf (bOf (gN L8 [gN V2 [o0 (itL C7) 1 [2] (stN 0) u5 (e8 d9 d8)],u0])) (t5 (gC (.bl false))) z9) M7 (λr=> !gtB (H k) (ad0 P r)) (λQ=>∃x,Q=[some (k7 p w v),some B,some s,some h,some (u7 v k),some (H k),x]) (M0 w (toW v k) 7 (frW v k) [frW v k]) [some (k7 p w v),some B,some s,some h,some (u7 v k),some (H k),x] ⟨x,rfl⟩ (λr Y Q Z=>by
    obtain⟨ao,M⟩:=Z;subst M;have u:=aN4 7 Y;have l:=(ah5 N).2 r Y;have c:=aT3 R r u.ix l;have un:=(aJ1 ((R.hs k C).mono ∎) c.2.2 ∎).2;have t:(bOf (gN L8 [gN V2 [o0 (itL C7) 1 [2] (stN 0) u5 (e8 d9 d8)],u0])) [some (k7 p w v),some B,some s,some h,some (u7 v k),some (H k),some (M7 r)]=some (gtB (H k) (ad0 P r)):=A4 (m7 (k8 (m7 (k8 (be9 (f:=P) u.ix l rfl rfl) rfl) c.2.1) (k8 (a:=u0) rfl rfl)) un);refine⟨[some (k7 p w v),some B,some s,some h,some (u7 v k),some (H k),some (M7 r)],rfl,λz=>⟨[some (k7 p w v),some B,some s,some h,some (u7 v k),some (H k),some (M7 r)],?_,_,rfl⟩,λz=> ?_⟩
    .rw[W5,t];have :gtB (H k) (ad0 P r)=false:=by simpa using z
     rw[this];rfl
    .rw[W5,t];have :gtB (H k) (ad0 P r)=true:=by simpa using z
     rw[this];rfl)
   rw[O6,i,cI7];exact⟨λz=>by obtain⟨aj,f1,X,rfl⟩:=F.1 z;exact⟨X,f1⟩,F.2⟩
  have O:=aL1 (st:=st2 4 5) (b:=(P1 (itL (gN ar1 [d8,e8 v8 l8,e8 v8 j4,A1 [e8 v8 l8]])) (stN 6) (sIf (bOf (gN L8 [gN V2 [o0 (itL C7) 1 [2] (stN 0) u5 (e8 d9 d8)],u0])) (t5 (gC (.bl false))) z9))) (λk=>T.tup [u7 v k,H k]) (λk=>(M0 w (toW v k) 7 (frW v k) [frW v k]).all λr=> !gtB (H k) (ad0 P r)) (λQ=>∃a b x,Q=[some (k7 p w v),some B,some s,some h,a,b,x]) (List.range v.length) [some (k7 p w v),some B,some s,some h,none,none,none] ⟨none,none,none,rfl⟩ (λk C Q Z=>by
   obtain⟨a,b,x,M⟩:=Z;subst M;have C:=cI5 C;have I:=ah k C x;refine⟨[some (k7 p w v),some B,some s,some h,some (u7 v k),some (H k),x],rfl,λz=> ?_,λz=>I.2 z⟩;obtain⟨X,ag⟩:=I.1 z;exact⟨_,ag,_,_,_,rfl⟩)
  have same:(List.range v.length).all (λk=>(M0 w (toW v k) 7 (frW v k) [frW v k]).all λr=> !gtB (H k) (ad0 P r))=htB w v P H:=by
   unfold htB lns;rw[List.all_flatMap];refine aT6 λk C=> ?_
   have C:=cI5 C;unfold ai0;rw[cP8 C];have f:frW v k=v[k].1:=by unfold frW;rw[cP8 C];rfl
   have af:toW v k=v[k].2.1:=by unfold toW;rw[cP8 C];rfl
   rw[f,af];dsimp only;rw[cO3];rfl
  have i:(itZ (e8 d8 r9) n9) [some (k7 p w v),some B,some s,some h,none,none,none]=some (mr v.length λk=>T.tup [u7 v k,H k]):=by
   rw[<-R0,<-D9];rw[cr4,Y7,bB2 0 2 rfl n2];rfl
  rw[same]at O;cases U:htB w v P H with
  |true=>
   obtain⟨aj,o1,a,b,x,rfl⟩:=O.1 U;rw[n8 (B:=[some (k7 p w v),some B,some s,some h,a,b,x]) (by rw[O6,i,cI7];exact o1)];rfl
  |false=>
   rw[W0 (t:=.bl false) (by rw[O6,i,cI7];exact O.2 U)];rfl
end
noncomputable def qmu(t s:T):T:=match t,s with
 |.tup [.int a,.int b],.tup [.int c,.int d]=>nrm (a*c) (b*d)
 |t,_=>t
theorem cF3(U:Fz k t)(S:Fz l s)(h:k+l<=4000):af6 [t,s]=some (qmu t s)/\P7 [t,s]=some (qmu t s)/\Fz (k+l) (qmu t s):=by
 obtain⟨a,b,rfl,P,_,J,L⟩:=U;obtain⟨c,d,rfl,R,_,M,N⟩:=S;have E:(b*d).natAbs<2^(k+l):=by rw[cN4];exact N2 L N
 have p:=cN1 P R;have B:∀{x:Int},x.natAbs<2^k->big x=true:=λh=>P5 h ⋯
 have C:∀{x:Int},x.natAbs<2^l->big x=true:=λh=>P5 h ⋯
 have g:∀{F:List T->Option T}{Q:A3}{z:T},d8 Q=some (fr a b)->d9 Q=some (fr c d)->F [.int (a*c),.int (b*d)]=some z->gN F [g2 J9 (e8 d8 l8) (e8 d9 l8),g2 J9 (e8 d8 j4) (e8 d9 j4)] Q=some z:=λH I O=>m7 (k8 (j8 (B6 H rfl (ix0 ..)) (B6 I rfl (ix0 ..)) (J6 (B J) (C M))) (k8 (j8 (B6 H rfl (ix1 ..)) (B6 I rfl (ix1 ..)) (J6 (B L) (C N))) rfl)) O
 refine⟨?_,?_,aY8 p (by rw[cN4];exact N2 J M) E⟩
 .rw[af6,o7 2 _ _ _ rfl,bd4,y4,g rfl rfl (aZ0 p E h)];rfl
 .rw[P7,o7 2 _ _ _ rfl,aL8,y4,g rfl rfl (bZ3 p E h)];rfl
noncomputable def qsN(q:Nat->T):Nat->T
 |0=>fr 0 1
 |n+1=>ah2 (qsN q n) (q n)
noncomputable def bts(k:Nat->Nat):Nat->Nat
 |0=>1
 |n+1=>bts k n+k n+1
theorem aX6:∀{n i},i<=n->bts k i<=bts k n
 |0,i,h=>by rw[Nat.le_zero.mp h];exact cT8 _
 |n+1,i,h=>by
  by_cases e:i=n+1
  .rw[e];exact cT8 _
  .have :=aX6 (k:=k) (n:=n) (i:=i) ⋯;rw[bts];omega
theorem aU9{q:Nat->T}(h:∀i,i<n->Fz (k i) (q i))(H:bts k n<=4000):∀i,i<=n->Fz (bts k i) (qsN q i)
 |0,_=>aM6 (k:=0) 0 (.inl rfl)
 |i+1,B=>(aU3 (aU9 h H i ⋯) (h i ⋯) (by have :=aX6 (k:=k) B;rw[bts]at this;omega)).2
theorem cF1{q:Nat->T}(h:∀i,i<n->Fz (k i) (q i))(b:bts k n<=4000):Y3 [.lst (mr n q)]=some (qsN q n):=by
 obtain⟨C,B,x,rfl⟩:=aa4 (st:=stN 2) (n:=n) (f:=q) (Q:=[⇑(mr n q),some (fr 0 1),none]) (b:=o6 1 (gN ab0 [d9,l7])) (λi Q=>∃x,Q=[⇑(mr n q),some (qsN q i),x]) ⟨none,rfl⟩ λi H Q ⟨x,e⟩=>by
  subst e;exact⟨_,_,rfl,C8 (m7 (x:=[qsN q i,q i]) rfl (aU3 (aU9 h b i ⋯) (h i H) (by have :=aX6 (k:=k) (show i+1<=n from H);rw[bts]at this;omega)).1),_,rfl⟩
 rw[Y3,o7 1 _ _ _ rfl,aO5,n8 (B:=[⇑(mr n q),some (fr 0 1),none]) rfl,n8 (by exact B)];rfl
theorem ap2(h:g Q=some t):al3 (t5 g Q)=some t:=by rw[y4,h];rfl
theorem bE9(h:Fz k t)(H:amB t=true):gtB t (fr 0 1)= !isZ t:=by
 obtain⟨n,d,e,I⟩:=h.num;obtain⟨N,J,B,L,g,_⟩:=h;rw[e]at B;injection B with B
 injection B with C E
 injection E with E
 injection C with C
 injection E with E
 subst C E;rw[I]at H;have M:=of_decide_eq_true H;rw[e];show decide (0*d<n*1)= !(n==0&&d==1);rw[cO0,cN0];by_cases z:n=0
 .have F:d=1:=by rw[z,Int.gcd_zero_left]at g;omega
  rw[z,F];rfl
 .rw[cW4 ⋯,cI6 z];rfl
section
variable {p:Int}{w v:List Way}{P H S:Nat->T}{j:Nat->Nat}(N:K0 p w v)(R:Tri w v P H)(g:∀k,k<v.length->Fz (j k) (S k))(h:∀k,k<v.length->j k<=1500)(i:bts (λk=>300+(j k+60)) v.length<=4000)
noncomputable def ac0(v:List Way)(S H:Nat->T)(k:Nat):T:=qmu (H k) (T9 (S k) (rmW v k))
include N R g h i
theorem aL5(B:k<v.length):af6 [H k,T9 (S k) (rmW v k)]=some (ac0 v S H k)/\P7 [H k,T9 (S k) (rmW v k)]=some (ac0 v S H k)/\Fz (300+(j k+60)) (ac0 v S H k):=cF3 (R.hs k B) (bs1 (g k B) _ (aF8 N.vt B)) (by have :=h k B;omega)
theorem cA8:ag3 [k7 p w v,.lst (mr v.length S),.lst (mr v.length H)]=some (qsN (ac0 v S H) v.length):=by
 have C:=N.v3;rw[ag3,o7 3 _ _ _ rfl,aA5,y4,m7 (k8 (w9 (n:=v.length) (f:=λk=>.tup [H k,T9 (S k) (rmW v k)]) (ac0 v S H) ?_ (by show _<=1000000;omega) λk B=>⟨_,rfl,m7 (x:=[H k,T9 (S k) (rmW v k)]) rfl (aL5 N R g h i B).1⟩) rfl) (cF1 (λk B=>(aL5 N R g h i B).2.2) i)]
 .rfl
 .unfold itZ;rw[Y7,Y7,m7 (x:=[k7 p w v,.lst (mr v.length S)]) rfl (bD9 N (k:=1500) S (λk B=>(g k B).mono (h k B)) ∎)];exact congrArg some (R0 ..)
noncomputable def aI6(w v:List Way)(S P H:Nat->T)(n:Nat)(c:Bool):Bool:=hrB w v P H&&(!isZ (H n)&&((List.range v.length).all (λk=> !(gtB (S k) (S n)&& !isZ (H k)))&&c))
theorem bE0(C:n<v.length):∃c,az3 [k7 p w v,.lst (mr v.length S),.tup [.lst (mr w.length P),.lst (mr v.length H)],.int (n:Int)]=↑(aI6 w v S P H n c)/\fEq (an4 w P) (qsN (ac0 v S H) v.length)=↑c/\(an4 w P=qsN (ac0 v S H) v.length->c=true):=by
 have F:=N.v3;obtain⟨c,c1,c2,_⟩:=cs9 (aZ4 N R).2.2 (aU9 (λk B=>(aL5 N R g h i B).2.2) i _ (cT8 _));refine⟨c,?_,c1,c2⟩
 let E:=T.tup [.lst (mr w.length P),.lst (mr v.length H)]
 have M:∀k,k<v.length->R6 [H k,T0]=↑(gtB (H k) (fr 0 1)):=λk B=>(aJ1 (R.hs k B) (aM6 (k:=299) 0 (.inl rfl)) ∎).1
 rw[az3,o7 4 _ _ _ rfl,bP6];refine(ap2 (Q:=[some (k7 p w v),⇑(mr v.length S),some E,↥(n:Int)]) (L5 (m7 (x:=[k7 p w v,E]) rfl (cg7 N R)) (L5 (m7 (k8 (B6 (B6 (x:=E) rfl rfl (ix1 ..)) (y:=.int (n:Int)) rfl (O4 C)) (k8 (x:=T0) rfl rfl)) (M n C)) (L5 (bw9 (m7 (k8 (w9 (n:=v.length) (f:=λk=>.tup [S k,H k]) (λk=>.bl (gtB (S k) (S n)&&gtB (H k) (fr 0 1))) (congrArg some (R0 ..)) (by show _<=1000000;omega) λk B=>⟨_,rfl,L5 (m7 (k8 (x:=S k) rfl (k8 (B6 (x:=.lst (mr v.length S)) (y:=.int (n:Int)) rfl rfl (O4 C)) rfl)) (aJ1 ((g k B).mono (h k B)) ((g n C).mono (h n C)) ∎).1) (m7 (k8 (x:=H k) rfl (k8 (x:=T0) rfl rfl)) (M k B))⟩) rfl) (cc3 (λk=>gtB (S k) (S n)&&gtB (H k) (fr 0 1)) (List.range v.length)))) (j8 (m7 (k8 (x:=k7 p w v) rfl (k8 (B6 (x:=E) rfl rfl (ix0 ..)) rfl)) (cz9 N R)) (m7 (k8 (x:=k7 p w v) rfl (k8 (x:=.lst (mr v.length S)) rfl (k8 (B6 (x:=E) rfl rfl (ix1 ..)) rfl))) (cA8 N R g h i)) c1))))).trans ?_;show some (T.bl _)=some (T.bl _);unfold aI6 hrB;rw[cK9];cases e:paB w.length P&&(paB v.length H&&htB w v P H)
 .rfl
 .have a:∀k,k<v.length->amB (H k)=true:=λk B=>by
   have :=(Bool.and_eq_true_iff.mp (Bool.and_eq_true_iff.mp e).2).1;unfold paB at this;exact List.all_eq_true.mp this _ (List.mem_map.mpr ⟨k,List.mem_range.mpr B,rfl⟩)
  rw[bE9 (R.hs n C) (a n C),List.not_any_eq_all_not,aT6 (l:=List.range v.length) (g:=λk=> !(gtB (S k) (S n)&& !isZ (H k))) λk B=>by rw[bE9 (R.hs k (cI5 B)) (a k (cI5 B))]]
end
theorem cs3{f:Nat->T}{b:GS}(B:Nat->Bool)(v:Nat->A3->Prop)(h:∀i,i<n->∀Q,v i Q->∃E,st (f i) Q=some E/\(B i=true->∃F,b E=some (.nx F)/\v (i+1) F)/\(B i=false->b E=some (.ret (.bl false))))(H:v 0 Q):((List.range n).all B=true->∃C,N4 st b (mr n f) Q=some (.nx C)/\v n C)/\((List.range n).all B=false->N4 st b (mr n f) Q=some (.ret (.bl false))):=by
 have o:∀d k Q,k+d=n->v k Q->((List.range' k d).all B=true->∃C,N4 st b ((List.range' k d).map f) Q=some (.nx C)/\v n C)/\((List.range' k d).all B=false->N4 st b ((List.range' k d).map f) Q=some (.ret (.bl false))):=by
  intro d;induction d with
  |zero=>exact λk Q e I=>⟨λ_=>⟨Q,rfl,by rw[<-e];exact I⟩,λz=>(by cases z)⟩
  |succ d N=>
   intro k Q e I;obtain⟨E,J,L,M⟩:=h k ⋯ Q I;rw[List.range'_succ,cI9,cO1,N4,J,cI7];cases g:B k
   .exact⟨λz=>(by cases z),λ_=>by rw[M g];rfl⟩
   .obtain⟨F,O,P⟩:=L g;rw[O];exact N (k+1) F ⋯ P
 unfold mr;rw[List.range_eq_range'];exact o n 0 Q ⋯ H
section
variable {p:Int}{w v:List Way}{P H S:Nat->T}{i:Nat->Nat}(N:K0 p w v)(R:Tri w v P H)(g:∀k,k<v.length->Fz (i k) (S k))(h:∀k,k<v.length->i k<=1500)(j:bts (λk=>300+(i k+60)) v.length<=4000)
include N R g h j
theorem cz8(I:n<v.length)(L:fEq (an4 w P) (qsN (ac0 v S H) v.length)=↑c):ag2 [k7 p w v,.lst (mr v.length S),.int (n:Int),.tup [.lst (mr w.length P),.lst (mr v.length H)]]=↑(aI6 w v S P H n c):=by
 have O:=N.v3
 let J:=T.tup [.lst (mr w.length P),.lst (mr v.length H)]
 let E:A3->A3:=λl=>some (k7 p w v)::⇑(mr v.length S)::↥(n:Int)::some J::l
 have t1:(bOr (ac1 (bOf (gN W8 [d8,n9]))) (bOf (g2 fEq (e8 (e8 n9 j4) l7) (y8 [l8,j4])))) (E [none,none,none,none])=some (!hrB w v P H||isZ (H n)):=ai3 (aE5 (A4 (m7 (x:=[k7 p w v,J]) rfl (cA6 N R)))) (A4 (j8 (B6 (B6 (x:=J) rfl rfl (ix1 ..)) (y:=.int (n:Int)) rfl (O4 I)) (y:=fr 0 1) rfl (bx4 (R.hs n I)).1));rw[ag2,o7 4 _ _ _ rfl,aA2];show al3 (m8 _ _ (E [none,none,none,none]))=_;unfold aI6;cases r:hrB w v P H
 .rw[r]at t1;rw[W0 (t:=.bl false) (by rw[X8 (by rw[t1];rfl)];rfl)];rfl
 .rw[r]at t1;cases z:isZ (H n)
  .rw[z]at t1;rw[n8 (B:=E [none,none,none,none]) (by rw[Q2 (by rw[t1];rfl)];rfl),n8 (B:=E [some (fr 0 1),none,none,none]) rfl];have F:=cs3 (st:=st3 5 6 7) (n:=v.length) (f:=λk=>.tup [H k,S k,u7 v k]) (Q:=E [some (fr 0 1),none,none,none]) (b:=m8 (sIf (V1 (bOf (g2 fNe u0 (y8 [l8,j4]))) (bOf (gN L8 [e8 d9 l7,C7]))) (t5 (gC (.bl false))) z9) (o6 4 (gN W3 [v8,gN P7 [u0,gN P7 [C7,y8 [e8 L6 r9,j4]]]])))
    (λk=> !(gtB (S k) (S n)&& !isZ (H k))) (λk Q=>∃a b c,Q=E [some (qsN (ac0 v S H) k),a,b,c]) (λk B Q ⟨a,b,c,e⟩=>by
     subst e;have t2:(V1 (bOf (g2 fNe u0 (y8 [l8,j4]))) (bOf (gN L8 [e8 d9 l7,C7]))) (E [some (qsN (ac0 v S H) k),some (H k),some (S k),some (u7 v k)])=some (!isZ (H k)&&gtB (S k) (S n)):=bc6 (A4 (j8 (x:=H k) rfl (y:=fr 0 1) rfl (bx4 (R.hs k B)).2)) λ_=>A4 (m7 (k8 (B6 (x:=.lst (mr v.length S)) (y:=.int (n:Int)) rfl rfl (O4 I)) (k8 (x:=S k) rfl rfl)) (aJ1 ((g k B).mono (h k B)) ((g n I).mono (h n I)) ∎).2)
     refine⟨E [some (qsN (ac0 v S H) k),some (H k),some (S k),some (u7 v k)],rfl,λC=> ?_,λC=> ?_⟩
     .rw[Bool.and_comm,cK7]at C;refine⟨E [some (qsN (ac0 v S H) (k+1)),some (H k),some (S k),some (u7 v k)],?_,_,_,_,rfl⟩;rw[n8 (B:=E [some (qsN (ac0 v S H) k),some (H k),some (S k),some (u7 v k)]) (by rw[Q2 (by rw[t2,C])];rfl)];have d:=aL5 N R g h j B;exact C8 (m7 (k8 (x:=qsN (ac0 v S H) k) rfl (k8 (m7 (k8 (x:=H k) rfl (k8 (m7 (k8 (x:=S k) rfl (k8 (ae4 (k8 (B6 (x:=u7 v k) rfl rfl (ix2 ..)) rfl)) rfl)) (bd7 (g k B) (by have :=h k B;omega) _ (aF8 N.vt B)).2) rfl)) d.2.1) rfl)) (aY9 (aU9 (λk B=>(aL5 N R g h j B).2.2) j k ⋯) d.2.2 (by have :=aX6 (k:=λk=>300+(i k+60)) (show k+1<=v.length from B);rw[bts]at this;omega)))
     .rw[Bool.and_comm,Bool.not_eq_false']at C;rw[W0 (t:=.bl false) (by rw[X8 (by rw[t2,C])];rfl)]) ⟨none,none,none,rfl⟩
   have t:bB3 (e8 n9 j4) d9 (e8 d8 r9) (E [some (fr 0 1),none,none,none])=some (mr v.length λk=>.tup [H k,S k,u7 v k]):=by rw[<-aU4,<-D9];rfl
   cases al:(List.range v.length).all (λk=> !(gtB (S k) (S n)&& !isZ (H k)))
   .rw[W0 (t:=.bl false) (by rw[O6,t];exact F.2 al)];rfl
   .obtain⟨U,M,a,b,c,rfl⟩:=F.1 al;rw[n8 (B:=E [some (qsN (ac0 v S H) v.length),a,b,c]) (by rw[O6,t];exact M)];refine(ap2 (j8 (m7 (k8 (x:=k7 p w v) rfl (k8 (B6 (x:=J) rfl rfl (ix0 ..)) rfl)) (cA0 N R)) (y:=qsN (ac0 v S H) v.length) rfl L)).trans rfl
  .rw[z]at t1;rw[W0 (t:=.bl false) (by rw[X8 (by rw[t1];rfl)];rfl)];rfl
end
theorem bG7{f:Nat->T}{k:Nat->Nat}(C:n<=8)(h:∀j,j<n->Fz (k j) (f j)):N6 [.lst (mr n f),.int (n:Int)]=↑(paB n f):=by
 rw[bd8 amB (λt B=> ?_) (by rw[z0];show _<=1000000;omega),z0,cW4 rfl,cK9]
 .rfl
 .obtain⟨j,H,rfl⟩:=cI3 B;exact(h j (cI5 H)).am
theorem ch8{f:Nat->T}{k:Nat}{l:List T}(H:∀t∈l,Fz k t)(C:l.length<=lim)(E:l≠[])(h:itL g Q=some l):(bOf (g2 fLt (gN av1 [o0 (itL g) 1 [] (stN 0) u5 (e8 d8 l8)]) l8)) Q=some (!l.all amB):=by
 have c:=at4 (l:=l) (g:=id) (B:=Q) (I:=itL g) (n:=1) (C:=[]) (st:=stN 0) (e:=e8 d8 l8) (λt=>.int (ap9 t)) (by rw[List.map_id];exact h) C λt F=>⟨[some t],rfl,B6 (x:=t) rfl rfl (aV6 (H t F)).1⟩
 obtain⟨a,r,e⟩:=List.exists_cons_of_ne_nil (show l.map ap9≠[] by rw[ne_eq,List.map_eq_nil_iff];exact E);obtain⟨m,I,B⟩:=aG8 a r;rw[<-e,bc9 H]at B;rw[<-B];refine A4 (j8 (m7 (k8 c rfl) (z:=.int m) ?_) rfl af5);show(S5 _).bind _=_;rw[bp1,cI7,e,I];rfl
theorem bD0(f:Nat->Bool)(n:Nat):af9 [.lst (mr n λk=>.bl (f k))]=↑((List.range n).all f):=by
 have :∀l:List Nat,T7 (l.map λk=>.bl (f k))=some (l.map f):=λl=>by
  induction l with
  |nil=>rfl
  |cons a l i=>rw[cI9,T7,i];rfl
 show(T7 _).bind _=_;rw[this,cI7,cO3];rfl
section
variable {p:Int}{w v:List Way}{g:Nat->Bool}{l:Nat->Rat}{e:Nat}{u:Int}{x y:Nat->Int}{S:Nat->T}{P H:Nat->Nat->T}{s:Nat->Nat}(N:K0 p w v)(i:au2 (hD w v g l) e u x y)(wn:∀k,k<v.length->0<=wvH w v g l u x k/\(wvH w v g l u x k).natAbs<2^1900)(j:(u*scB w v g l).natAbs<2^1900)
 (R:∀n,n<v.length->Tri w v (P n) (H n)) (o:∀k,k<v.length->Fz (s k) (S k)) (h:∀k,k<v.length->s k<=1500) (r:bts (λk=>300+(s k+60)) v.length<=4000)
noncomputable def ppT(w v:List Way)(P H:Nat->Nat->T):T:=.lst (mr v.length λn=>.tup [.lst (mr w.length (P n)),.lst (mr v.length (H n))])
noncomputable def soB(w v:List Way)(S:Nat->T)(P H:Nat->Nat->T)(d:Bool)(c:Nat->Bool):Bool:=paB v.length S&&(d&&(List.range v.length).all λn=>aI6 w v S (P n) (H n) n (c n))
include N i wn j R o h r
theorem ct4:∃d c,A8 [k7 p w v,.tup [.lst (mr v.length S),R5 w v (u*scB w v g l) x (wvH w v g l u x),ppT w v P H]]=some (.val (.bl (soB w v S P H d c)))/\aa9 [k7 p w v,.tup [.lst (mr v.length S),R5 w v (u*scB w v g l) x (wvH w v g l u x),ppT w v P H]]=↑(soB w v S P H d c)/\
  ((∀k,k<v.length->nrm (wvH w v g l u x k) (u*scB w v g l)=T9 (S k) (rmW v k))->d=true)/\(∀n,n<v.length->an4 w (P n)=qsN (ac0 v S (H n)) v.length->c n=true)/\W4 [k7 p w v,R5 w v (u*scB w v g l) x (wvH w v g l u x),.lst (mr v.length S)]=↑d:=by
 have v1:=N.v1;have h3:=N.v3;have h8:=N.wl;have lm:lim=1000000:=rfl;have aa:=cN1 i.B.pos (af1 (w:=w) (v:=v) (g:=g) (l:=l));have X:=λk C=>(o k C).mono (h k C)
 let f:=R5 w v (u*scB w v g l) x (wvH w v g l u x)
 let M:=T.lst (mr v.length S)
 let br:=mr v.length λk=>nrm (wvH w v g l u x k) (u*scB w v g l)
 let Q:=mr v.length λk=>T9 (S k) (rmW v k)
 obtain⟨d,d1,d2,d3,_⟩:=cs8 (X:=br) (y:=Q) (λt F=>by
  obtain⟨k,C,rfl⟩:=cI3 F;exact⟨_,_,rfl⟩) (λt F=>by
  obtain⟨k,C,rfl⟩:=cI3 F;obtain⟨n,d,e,_⟩:=bs1 (o k (cI5 C)) _ (aF8 N.vt (cI5 C));exact⟨n,d,e⟩)
 let c:=λn=>if B:n<v.length then Classical.choose (bE0 N (R n B) o h r B)else true
 have U:∀n,n<v.length->az3 [k7 p w v,M,.tup [.lst (mr w.length (P n)),.lst (mr v.length (H n))],.int (n:Int)]=↑(aI6 w v S (P n) (H n) n (c n))/\fEq (an4 w (P n)) (qsN (ac0 v S (H n)) v.length)=↑(c n)/\(an4 w (P n)=qsN (ac0 v S (H n)) v.length->c n=true):=λn B=>by
  rw[show c n=Classical.choose (bE0 N (R n B) o h r B)from dif_pos B];exact Classical.choose_spec (bE0 N (R n B) o h r B)
 have bw:=bD9 N (k:=1500) S X ∎;have n2:M8 (k7 p w v) (.int 2)=⇑(mr v.length (u7 v)):=by rw[<-D9];exact ix2 ..
 have n1:M8 (k7 p w v) (.int 1)=⇑(mr w.length (u7 w)):=by rw[<-D9];exact ix1 ..
 let I:=T.tup [M,f,ppT w v P H]
 have Z:W4 [k7 p w v,f,M]=↑d:=by
  rw[W4,o7 3 _ _ _ rfl,aU2];exact(ap2 (Q:=[some (k7 p w v),some f,some M]) (L5 (m7 (x:=[k7 p w v,f]) rfl (bB4 N i wn j)) (L5 (m7 (x:=[k7 p w v,f]) rfl (by unfold X0;rw[cr8 N i wn j];rfl)) (j8 (m7 (x:=[k7 p w v,f]) rfl (by unfold X0;rw[(bg4 N i wn j).1];rfl)) (m7 (x:=[k7 p w v,M]) rfl bw) d1)))).trans rfl
 refine⟨d,c,?_,?_,λB=>d3 (N3 B),λn O=>(U n O).2.2,Z⟩
 .show al4 (Z0 [some (k7 p w v),some I])=_;unfold Z0;rw[as5 (x:=[k7 p w v]) rfl (aD3 (aD5 N))];have ae:∀W,W [some (k7 p w v),some I]=some (T.bl (soB w v S P H d c))->al4 (U6 (t5 W) [some (k7 p w v),some I])=some (.val (.bl (soB w v S P H d c))):=λW B=>by
   unfold U6;rw[y4,B];rfl
  refine ae _ (Eq.trans (L5 (m7 (x:=[I]) rfl rfl) (L5 (m7 (k8 (B6 (x:=I) rfl rfl (ix0 ..)) (k8 (M5 (B6 (x:=k7 p w v) rfl rfl n2)) rfl)) (bG7 ⋯ o)) (L5 (m7 (k8 (x:=k7 p w v) rfl (k8 (B6 (x:=I) rfl rfl (ix1 ..)) (k8 (B6 (x:=I) rfl rfl (ix0 ..)) rfl))) Z) (L5 (ar9 (B6 (x:=I) rfl rfl (ix2 ..)) rfl) (L5 (j8 (M5 (B6 (x:=I) rfl rfl (ix2 ..))) (M5 (B6 (x:=k7 p w v) rfl rfl n2)) L9) (m7 (k8 (w9 (n:=v.length) (f:=λn=>.tup [.int (n:Int),.tup [.lst (mr w.length (P n)),.lst (mr v.length (H n))]]) (λn=>.bl (aI6 w v S (P n) (H n) n (c n))) (by unfold itE;rw[Y7,B6 (x:=I) rfl rfl (ix2 ..)];exact congrArg some (am9 ..)) ⋯ λn O=>⟨_,rfl,m7 (k8 (x:=k7 p w v) rfl (k8 (B6 (x:=I) rfl rfl (ix0 ..)) (k8 (x:=.tup [.lst (mr w.length (P n)),.lst (mr v.length (H n))]) rfl (k8 (x:=.int (n:Int)) rfl rfl)))) (U n O).1⟩) rfl) (bD0 ..))))))) ?_);unfold soB;rw[cW2];rfl
 .let E:Option T->Option T->A3:=λa b=>[some (k7 p w v),some I,some M,some f,some (ppT w v P H),a,b]
  have t1:=ai3 (A4 (j8 (f:=fNe) (M5 (f:=S) (g:=l7) (Q:=E none none) rfl) (M5 (B6 (a:=d8) (b:=r9) (x:=k7 p w v) rfl rfl n2)) (z:=.bl false) (by show some (T.bl !((v.length:Int)==v.length))=_;rw[cW2];rfl))) (ai3 (A4 (j8 (f:=fNe) (M5 (f:=λn=>.tup [.lst (mr w.length (P n)),.lst (mr v.length (H n))]) (g:=v8) (Q:=E none none) rfl) (M5 (B6 (a:=d8) (b:=r9) (x:=k7 p w v) rfl rfl n2)) (z:=.bl false) (by show some (T.bl !((v.length:Int)==v.length))=_;rw[cW2];rfl))) (ch8 (f:=S) (k:=1500) (g:=l7) (Q:=E none none) (l:=mr v.length S) (λt F=>by obtain⟨k,C,rfl⟩:=cI3 F;exact X k (cI5 C)) (by rw[z0];omega) (λaf=>by have :=congrArg List.length af;rw[z0,cJ4]at this;omega) rfl));rw[Bool.false_or,Bool.false_or]at t1;rw[aa9,o7 2 _ _ _ rfl,bh4,n8 (B:=E none none) rfl];unfold soB;cases hp:paB v.length S
  .rw[W0 (t:=.bl false) (by rw[X8 (by rw[t1];show some (!paB v.length S)=_;rw[hp];rfl)];rfl)];rfl
  .rw[n8 (B:=E none none) (by rw[Q2 (by rw[t1];show some (!paB v.length S)=_;rw[hp];rfl)];rfl)]
   let L:=λk=>mr w.length λJ=>nrm (P0 w v x (wvH w v g l u x) k J) (u*scB w v g l)
   obtain⟨ag,k1,a,rfl⟩:=aa4 (st:=stN 5) (n:=v.length) (f:=λk=>.lst (L k)) (Q:=E none none) (b:=sIf (bOr (bOf (g2 fNe (gN A7 [u0]) (gN A7 [e8 d8 j4]))) (bOf (g2 fLt (gN av1 [g2 y9 (A1 [l8]) (o0 (itL u0) 1 [] (stN 0) u5 (e8 d8 l8))]) l8))) (t5 (gC (.bl false))) z9)
    (λ_ qQ=>∃a,qQ=E a none) ⟨none,rfl⟩ λk C qQ ⟨a,B⟩=>by
     subst B;refine⟨_,E ⇑(L k) none,rfl,?_,_,rfl⟩;have ld:=λJ=>aD7 (j:=J) N i wn j C
     have Y:∀J,Am 1901 (nrm (P0 w v x (wvH w v g l u x) k J) (u*scB w v g l)):=λJ=>bE8 aa (ld J).1 (Nat.lt_of_le_of_lt (ld J).2 (Nat.pow_lt_pow_right ∎ ∎)) (Nat.lt_trans j (Nat.pow_lt_pow_right ∎ ∎))
     have z:∀t∈L k,Fz 1901 t/\amB t=true:=λt F=>by
      obtain⟨J,_,rfl⟩:=cI3 F;exact⟨(Y J).fz,(Y J).amB⟩
     obtain⟨m,m1,m2⟩:=aG8 0 ((L k).map ap9);have c2:=at4 (l:=L k) (g:=id) (B:=E ⇑(L k) none) (I:=itL u0) (n:=1) (C:=[]) (st:=stN 0) (e:=e8 d8 l8) (λt=>.int (ap9 t)) (by rw[List.map_id];rfl) (by rw[z0];omega) λt F=>⟨[some t],rfl,B6 (x:=t) rfl rfl (aV6 (z t F).1).1⟩
     have m3:decide (m<0)=false:=by
      rw[m2,cO4,bc9 λt F=>(z t F).1,List.all_eq_true.mpr λt F=>(z t F).2];rfl
     show sIf _ _ _ (E ⇑(L k) none)=_;rw[Q2 (ai3 (x:=false) (y:=false) (A4 (j8 (M5 rfl) (M5 (B6 (x:=k7 p w v) rfl rfl n1)) (by show some (T.bl !((w.length:Int)==w.length))=_;rw[cW2];rfl))) (A4 (j8 (m7 (k8 (j8 (x:=.lst [.int 0]) rfl c2 (Y2 (by rw[cQ8,z0];show 1+_<=_;omega))) rfl) (z:=.int m) (by
      show(S5 (.int 0::(L k).map λt=>.int (ap9 t))).bind _=_;rw[S5,bp1];show(an6 (0::(L k).map ap9)).bind _=_;rw[m1];rfl)) rfl (by rw[af5,m3]))))]
     rfl
   rw[n8 (B:=E a none) (by exact k1),n8 (B:=E a ⇑Q) (C8 (w9 (n:=v.length) (f:=λk=>.tup [S k,u7 v k]) (λk=>T9 (S k) (rmW v k)) (by rw[<-R0,<-D9];rfl) ⋯ λk C=>⟨_,rfl,m7 (k8 (x:=S k) rfl (k8 (ae4 (k8 (B6 (x:=u7 v k) rfl rfl (ix2 ..)) rfl)) rfl)) (bd7 (X k C) ∎ _ (aF8 N.vt C)).2⟩))];have t2:(bOr (ac1 (bOf (gN az1 [d8,n9]))) (bOf (g2 fNe (gN ak5 [d8,n9]) C7))) (E a ⇑Q)=some (!d):=ai3 (x:=false) (aE5 (b:=true) (A4 (m7 (x:=[k7 p w v,f]) rfl (cd1 N i wn j)))) (A4 (j8 (m7 (x:=[k7 p w v,f]) rfl (bg4 N i wn j).2) (y:=.lst Q) rfl d2));cases d
   .rw[W0 (t:=.bl false) (by rw[X8 (by rw[t2];rfl)];rfl)];rfl
   .rw[n8 (B:=E a ⇑Q) (by rw[Q2 (by rw[t2];rfl)];rfl)];exact(ap2 (m7 (k8 (w9 (n:=v.length) (f:=λn=>.tup [.int (n:Int),.tup [.lst (mr w.length (P n)),.lst (mr v.length (H n))]]) (λn=>.bl (aI6 w v S (P n) (H n) n (c n))) (congrArg some (am9 ..)) ⋯ λn O=>⟨_,rfl,m7 (x:=[k7 p w v,M,.int (n:Int),.tup [.lst (mr w.length (P n)),.lst (mr v.length (H n))]]) rfl (cz8 N (R n O) o h r O (U n O).2.1)⟩) rfl) (bD0 ..))).trans rfl
end
theorem aV1(r:Rat):r*((r.den:Int):Rat)=(r.num:Rat):=by rw[bz7,Rat.intCast_natCast]
theorem cx4(a b:Rat):ah2 (qT a) (qT b)=qT (a+b):=by
 refine(bi9 (cN1 (aa2 a) (aa2 b)) ?_).symm;have h:=aV1 a;have H:=aV1 b;rw[Rat.intCast_mul,Rat.intCast_add,Rat.intCast_mul,Rat.intCast_mul]
 grind
theorem bZ8(a:Rat)(z:Int):T9 (qT a) z=qT (a*z):=by
 refine(bi9 (aa2 a) ?_).symm;have h:=aV1 a;rw[Rat.intCast_mul]
 grind
theorem cC8(a b:Rat):qmu (qT a) (qT b)=qT (a*b):=by
 refine(bi9 (cN1 (aa2 a) (aa2 b)) ?_).symm;have h:=aV1 a;have H:=aV1 b;rw[Rat.intCast_mul,Rat.intCast_mul]
 grind
theorem bT8{r:Nat->Rat}{q:Nat->T}:∀{n},(∀k,k<n->q k=qT (r k))->qsN q n=qT (N9 r n)
 |0,_=>rfl
 |n+1,h=>by rw[qsN,N9,bT8 λk H=>h k ⋯,h n ⋯,cx4]
theorem cr7(a b:Rat):gtB (qT a) (qT b)=decide (b<a):=by
 show decide (b.num*a.den<a.num*b.den)=_;by_cases h:b<a
 .rw[cW4 h,cW4 ((Rat.lt_iff ..).mp h)]
 .rw[cW3 h,cW3 λz=>h ((Rat.lt_iff ..).mpr z)]
theorem z_q(a:Rat):isZ (qT a)=decide (a=0):=by
 show(a.num==0&&(a.den:Int)==1)=_;by_cases h:a=0
 .rw[h];rfl
 .rw[cW3 h,cI6 λz=>h (Rat.num_eq_zero.mp z)];rfl
theorem ck8{r:Nat->Rat}{P:Nat->T}{w:List Way}(h:∀j,j<w.length->P j=qT (r j)):an4 w P=qT (N9 (λj=>r j*rmW w j) w.length):=by
 unfold an4;have :∀n,ag9 (mr n λi=>T9 (P i) (rmW w i)) (fr 0 1)=qsN (λi=>T9 (P i) (rmW w i)) n:=λn=>by
  induction n with
  |zero=>rfl
  |succ n I=>rw[aD6];unfold ag9 at *;rw[List.foldl_append,I];rfl
 rw[this];exact bT8 λj H=>by rw[h j H,bZ8]
section
variable {p:Int}{w v:List Way}{g l:Nat->Rat}{t n:Nat}{u:Int}{x y:Nat->Int}(N:K0 p w v)(s:n<v.length)(Z:Rz w v (λk=>decide (k=n)) l t u x y (l n))(j:(M1 w v).Feas o)(h:∀k,k<v.length->(M1 w v).wn k*g k<=o k)(i:∀k,k<v.length->l k<=g k)(r:l n=g n)
include N s Z j h i r
theorem bn2(H:k<v.length):(y k:Rat)/u*((M1 w v).wn k*g k)=(y k:Rat)/u*((M1 w v).wn k*l k)/\((y k:Rat)/u≠0->g k=l k):=by
 have L:∀k,k<v.length->(M1 w v).wn k*(if decide (k=n)then l n else l k)<=o k:=λk H=>by
  refine Rat.le_trans ?_ (h k H);by_cases q:k=n
  .rw[cW4 q,cW7 rfl,r,q];exact Rat.le_refl
  .rw[cW3 q,cW6 cK6];exact Rat.mul_le_mul_of_nonneg_left (i k H) (Rat.le_of_lt (aJ4 N H))
 have d:=Z.R.tied j L H;have C:(if decide (k=n)then l n else l k)=l k:=by
  by_cases q:k=n
  .rw[cW4 q,cW7 rfl,q]
  .rw[cW3 q,cW6 cK6]
 rw[C]at d;have W:=aJ4 N H;have l2:=i k H;have b2:=h k H;by_cases z:(y k:Rat)/u=0
 .exact⟨by rw[z,Rat.zero_mul,Rat.zero_mul],λB=>absurd z B⟩
 .have e:o k=(M1 w v).wn k*l k:=by
   rcases Rat.mul_eq_zero.mp d with q|q
   .exact absurd q z
   .grind
  rw[e]at b2;have m:=Rat.mul_le_mul_of_nonneg_left l2 (Rat.le_of_lt W);have E:g k*(M1 w v).wn k=l k*(M1 w v).wn k:=by grind
  have :=bu4 W E;exact⟨by rw[this],λ_=>this⟩
theorem bV6:an4 w (λJ=>nrm (y (v.length+J)) u)=qsN (ac0 v (λk=>qT (g k)) λk=>nrm (y k) u) v.length:=by
 have B:=Z.TD.B.pos;rw[ck8 (r:=λJ=>(y (v.length+J):Rat)/u) λJ _=>(aC7 B).symm,bT8 (r:=λk=>(y k:Rat)/u*((M1 w v).wn k*g k)) λk H=>by
  unfold ac0;dsimp only;rw[bZ8,<-aC7 B,cC8,Rat.mul_comm (g k)];rfl,Z.cost]
 congr 1;have un:=Z.R.unit;have e:=ab4 1 (l n) (λk=>(y k:Rat)/u*(if decide (k=n)then 0 else(M1 w v).wn k*l k)) (λk=>(if decide (k=n)then(M1 w v).wn k else 0)*((y k:Rat)/u)) v.length;rw[un]at e;rw[V4 (f:=λk=>(y k:Rat)/u*((M1 w v).wn k*g k)) (g:=λk=>1*((y k:Rat)/u*(if decide (k=n)then 0 else(M1 w v).wn k*l k))+l n*((if decide (k=n)then(M1 w v).wn k else 0)*((y k:Rat)/u))) λk H=> ?_,e]
 .grind
 .rw[(bn2 N s Z j h i r H).1];by_cases q:k=n
  .rw[cW4 q,cW7 rfl,cW7 rfl,q];grind
  .rw[cW3 q,cW6 cK6,cW6 cK6];grind
end
section
variable {p:Int}{w v:List Way}{fe:Nat->Bool}{l:Nat->Rat}{e t:Nat}{u:Int}{x y:Nat->Int}(N:K0 p w v)
include N
theorem cv7(B:au2 (hD w v fe l) (3*t+5) u x y)(C:∀k,k<v.length->fe k=false->Qs t (l k))(I:t<=440)(W:∃k,k<v.length/\fe k=true)(E:∀k,k<v.length->fe k=false->0<=l k):(u*scB w v fe l).natAbs<2^1900/\∀k,k<v.length->0<=wvH w v fe l u x k/\(wvH w v fe l u x k).natAbs<2^1900:=by
 have F:=B.B.pos;have s:=af1 (w:=w) (v:=v) (g:=fe) (l:=l);have P:∀{a b:Nat},a<=b->(2:Nat)^a<=2^b:=λh=>cV2 ∎ h
 refine⟨?_,λk H=> ?_⟩
 .rw[cN4];exact cU2 (N2 B.us (Nat.lt_of_le_of_lt (aD0 N C W (cT8 _)) (Nat.pow_lt_pow_right ∎ (cU5 _)))) (P ⋯)
 .have r:=ag8 N.vt H;unfold wvH;cases f:fe k
  .rw[cW6 cK6];have n:0<=ndB w v fe l k:=Int.not_lt.mp λz=>by
    have a:=aV8 (w:=w) (l:=l) H f;have b:=Int.mul_neg_of_neg_of_pos z (aa2 (l k));have c:=cM9 (cM9 (Rat.num_nonneg.mpr (E k H f)) (show 0<=rmW v k by omega)) (Int.le_of_lt s);omega
   refine⟨cM9 n (Int.le_of_lt F),?_⟩;rw[cN4];refine cU2 (N2 (k:=3*t+6) ?_ B.us) (P ⋯);unfold ndB;rw[Int.natAbs_neg,cN4];refine Nat.lt_of_le_of_lt (Nat.mul_le_mul (aN7 N C ⋯).1 (aX2 N C W ⋯)) ?_;rw[<-Nat.pow_add];exact Nat.pow_lt_pow_right ∎ ⋯
  .rw[cW7 rfl];refine⟨cM9 (B.B.x0 0) ⋯,?_⟩;rw[cN4];exact cU2 (N2 (B.xs 0) (aF8 N.vt H)) (P ⋯)
omit N in
theorem bJ5(B:au2 (hD w v fe l) e u x y):(∀j,j<w.length->Am 290 (nrm (y (v.length+j)) u))/\∀k,k<v.length->Am 290 (nrm (y k) u):=by
 have b:∀{z:Int},z.natAbs<2^100->z.natAbs<2^290:=λh=>Nat.lt_trans h (Nat.pow_lt_pow_right ∎ ∎)
 exact⟨λj H=>bE8 B.B.pos (B.B.p0 j H) (b (B.ys _ (show v.length+j<v.length+w.length by omega))) (b B.us),λk C=>bE8 B.B.pos (B.B.h0 k C) (b (B.ys _ (show k<v.length+w.length by omega))) (b B.us)⟩
theorem cD5(B:au2 (hD w v fe l) e u x y):hrB w v (λj=>nrm (y (v.length+j)) u) (λk=>nrm (y k) u)=true:=by
 obtain⟨F,I⟩:=bJ5 B;have C:=B.B.pos;unfold hrB paB;rw[cK2,cK2];refine⟨?_,?_,?_⟩
 .rw[cO3,cO2];exact λj H=>(F j (cI5 H)).amB
 .rw[cO3,cO2];exact λj H=>(I j (cI5 H)).amB
 .unfold htB;rw[cO2];intro M J;obtain⟨i,h,e⟩:=List.mem_iff_getElem.mp J;obtain⟨r,R,P,E,O⟩:=ba9 h;rw[cP8 h,e]at R;injection R with R
  have L:=B.B.lane i h;have s:=aJ5 (λj=>y (v.length+j)) r w.length E.nd E.ix;have c:ad0 (λj=>nrm (y (v.length+j)) u) M.2=nrm (r.map λj=>y (v.length+j)).sum u:=by
   unfold ad0;rw[R,show(r.map λj=>nrm (y (v.length+j)) u)=(r.map λj=>y (v.length+j)).map λa=>nrm a u by rw[cR7];rfl,bH5 C]
  rw[c,bM3 C,R];rw[show l9 (λp=>if(hD w v fe l).on i p then y ((hD w v fe l).W+p)else 0) (hD w v fe l).P=l9 (λj=>if r.contains j then y (v.length+j)else 0) w.length from w8 λj _=>by
   show(if onL (lns w v) i j then _ else _)=_;rw[O j];rfl,s]at L
  have L:y (ofL (lns w v) i)<=_:=L;show(!decide (_<y (ofL (lns w v) i)))=true;rw[cW3 (Int.not_lt.mpr L)];rfl
theorem ct2(B:Nat)(h:v.length<=3):bts (λk=>300+((if k=B then 1440 else 450)+60)) v.length<=4000:=by
 have :∀n,bts (λk=>300+((if k=B then 1440 else 450)+60)) n<=1+n*811+(if B<n then 990 else 0):=λn=>by
  induction n with
  |zero=>simp[bts]
  |succ n i=>
   rw[bts];by_cases e:n=B
   .rw[cW7 e,cW7 ⋯];rw[cW6 ⋯]at i;omega
   .rw[cW6 e];split at i<;>split<;>omega
 refine cU0 (this _) ?_;split<;>omega
structure Tol(p:Int)(w v:List Way)(S:Nat->T)(fl:T)(PP HH:Nat->Nat->T)(k0:Nat):Prop where
 tp:∀n,n<v.length->∀j,j<w.length->Fz 290 (PP n j)
 th:∀n,n<v.length->∀k,k<v.length->Fz 290 (HH n k)
 sz:∀k,k<v.length->Fz (if k=k0 then 1435 else 445) (S k)
 pa:paB v.length S=true
 br:W4 [k7 p w v,fl,.lst (mr v.length S)]=↑true
 fe:∃f:Nat->Nat->T,fl=.lst (mr v.length λk=>.lst (mr w.length (f k)))/\∀k j,∃a b,f k j=fr a b
 bo:∀S' P' H',(∀k,k<v.length->Fz (if k=k0 then 1440 else 450) (S' k))->(∀n,n<v.length->Tri w v (P' n) (H' n))->∃b,A8 [k7 p w v,.tup [.lst (mr v.length S'),fl,ppT w v P' H']]=some (.val (.bl b))/\aa9 [k7 p w v,.tup [.lst (mr v.length S'),fl,ppT w v P' H']]=↑b
 t1:A8 [k7 p w v,.tup [.lst (mr v.length S),fl,ppT w v PP HH]]=some (.val (.bl true))
 t2:aa9 [k7 p w v,.tup [.lst (mr v.length S),fl,ppT w v PP HH]]=↑true
theorem ck1(St:Fst w v r (λ_=>false) l aj ak g fl)(r0:0<r):∃P E F,.lst (mr v.length g)=ppT w v P E/\Tol p w v (λk=>qT (l k)) fl P E F:=by
 have h3:=N.v3;have H:∀n,∃(u:Int) (y:Nat->Int),n<v.length->(∃L x,Rz w v (λk=>decide (k=n)) L 440 u x y (L n)/\L n=l n/\∀k,k<v.length->L k<=l k/\L k<=l n)/\g n=aG6 w v u y:=λn=>by
  by_cases C:n<v.length
  .obtain⟨L,⟨u,x,y,Z,e⟩,R,h⟩:=St.pp n C rfl;exact⟨u,y,λ_=>⟨⟨L,x,Z,R,λk B=>⟨(h k B).2.1,(h k B).2.2⟩⟩,e⟩⟩
  .exact⟨0,λ_=>0,λh=>absurd h C⟩
 let I:=λn=>Classical.choose (H n)
 let Y:=λn=>Classical.choose (Classical.choose_spec (H n))
 have s:∀n,n<v.length->(∃L x,Rz w v (λk=>decide (k=n)) L 440 (I n) x (Y n) (L n)/\L n=l n/\∀k,k<v.length->L k<=l k/\L k<=l n)/\g n=aG6 w v (I n) (Y n):=λn=>Classical.choose_spec (Classical.choose_spec (H n))
 let P:=λn j=>nrm (Y n (v.length+j)) (I n)
 let E:=λn k=>nrm (Y n k) (I n)
 have Q:∀n,n<v.length->(∀j,j<w.length->Am 290 (P n j))/\∀k,k<v.length->Am 290 (E n k):=λn C=>by
  obtain⟨⟨L,x,Z,_⟩,_⟩:=s n C;exact bJ5 Z.TD
 have ai:∀n,n<v.length->Tri w v (P n) (E n):=λn C=>⟨λj X=>((Q n C).1 j X).fz.mono ∎,λk B=>((Q n C).2 k B).fz.mono ∎⟩
 obtain⟨W,ah,t,u,x,y,ao,ht,Z,rfl,hq,w0,hl,af⟩:=St.fl r0;obtain⟨bU,wn⟩:=cv7 N Z.TD hq ht w0 hl;obtain⟨_,F,s4⟩:=St.s4;have U:=cN1 Z.TD.B.pos (af1 (w:=w) (v:=v) (g:=W) (l:=ah));obtain⟨be,i,ae⟩:=St.feas;have tz:Tz r<=1430:=by
  have :=St.s4.1;rcases r with _|_|_|_|r
  .decide
  .decide
  .decide
  .decide
  .omega
 have sz:∀k,k<v.length->Fz (if k=F then 1435 else 445) (qT (l k)):=λk B=>by
  split
  .exact(bd6 (St.sz k B rfl)).mono ⋯
  .exact(bd6 (s4 k B rfl (by assumption))).mono ∎
 have gen:=λ(S:Nat->T) O M a (b:∀n,n<v.length->Tri w v (O n) (M n))=>ct4 (s:=λk=>if k=F then 1440 else 450) (S:=S) (P:=O) (H:=M) N Z.TD wn bU b a (λk _=>by show(if k=F then 1440 else 450)<=1500;split<;>decide) (ct2 N F h3)
 obtain⟨d,c,b1,b2,b3,b4,b5⟩:=gen (λk=>qT (l k)) P E (λk B=>(sz k B).mono (by split<;>decide)) ai;have J:soB w v (λk=>qT (l k)) P E d c=true:=by
  unfold soB;rw[b3 λk B=> ?_,cK9,cK2]
  .refine⟨?_,List.all_eq_true.mpr λn C=> ?_⟩
   .unfold paB;rw[cO3,cO2];intro k B;have B:=cI5 B;show((decide ((0:Int)<(l k).den)&&(Int.gcd (l k).num (l k).den==1))&&decide (0<=(l k).num))=true;rw[cW4 (aa2 _),bi8,cW4 (Rat.num_nonneg.mpr (St.lo k B rfl).1)];rfl
   .have C:=cI5 C;obtain⟨⟨L,x',z,R,h⟩,_⟩:=s n C;have o:∀k,k<v.length->(M1 w v).wn k*l k<=be k:=ae;have ag:=z.TD.B.pos;have td:=λk B=>(bn2 N C z i o (λk B=>(h k B).1) R (k:=k) B).2
    have hz:∀k,E n k=qT ((Y n k:Rat)/(I n)):=λk=>(aC7 ag).symm
    unfold aI6;rw[b4 n C (bV6 N C z i o (λk B=>(h k B).1) R),cD5 N z.TD,cK9,Bool.and_true,cK2];refine⟨?_,List.all_eq_true.mpr λk B=> ?_⟩
    .obtain⟨m,m1,m2,m3⟩:=z.R.stuck;rw[of_decide_eq_true m2]at m3;rw[hz,z_q,cW3 m3];rfl
    .have B:=cI5 B;rw[hz,z_q,cr7];by_cases aa:(Y n k:Rat)/(I n)=0
     .rw[cW4 aa,Bool.not_true,Bool.and_false];rfl
     .have l2:=(h k B).2;rw[<-td k B aa]at l2;rw[cW3 (show¬l n<l k from λaq=>by grind)];rfl
  .rw[af k B rfl];show nrm (if W k then _ else _) _=_;cases f:W k
   .rw[cW6 cK6,cW6 cK6];refine(aK5 (aa2 _) U ?_).symm;rw[cN2 _ u,aV8 B f,cM5 u,<-cM4]
   .rw[cW7 rfl,cW7 rfl,Z.sU,aR5 U]
 rw[J]at b1 b2;unfold soB at J;rw[cK2,cK2]at J;rw[J.2.1]at b5;exact⟨P,E,F,congrArg T.lst (N3 λn C=>(s n C).2),λn C j X=>((Q n C).1 j X).fz,λn C k B=>((Q n C).2 k B).fz,sz,J.1,b5,⟨_,rfl,λk j=>⟨_,_,rfl⟩⟩,λS O M a b=>(gen S O M a b).elim λd h=>h.elim λc h=>⟨_,h.1,h.2.1⟩,b1,b2⟩
end
theorem bp9{f:T->T->Option Bool}:∀{X:List T},(∀x∈X,f x x=some true)->ac9 f X X=some true
 |[],_=>rfl
 |x::X,h=>by rw[ac9,h x cS2,cI7,bp9 λy H=>h y (cS1 _ H)];rfl
theorem cs7(h:∀x∈X,eqD n x x=some true):eqD (n+1) (.lst X) (.lst X)=some true:=by
 show(if X.length=X.length then ac9 (eqD n) X X else some false)=_;rw[cW7 rfl,bp9 h]
theorem aX0(h:∀x∈X,eqD n x x=some true):eqD (n+1) (.tup X) (.tup X)=some true:=by
 show(ac9 (eqD n) X X).bind (λb=>some (b&&X.length==X.length))=_;rw[bp9 h,cI7,cW2];rfl
theorem aN9(h:Fz k t):eqD (n+2) t t=some true:=by
 obtain⟨a,b,rfl,_⟩:=h;refine aX0 λx H=> ?_
 rcases cI4 H with rfl|H
 .show some (a==a)=_;rw[cW2]
 .rw[List.mem_singleton.mp H];show some (b==b)=_;rw[cW2]
theorem aO0{f:Nat->T}(h:∀i,i<n->eqD m (f i) (f i)=some true):eqD (m+1) (.lst (mr n f)) (.lst (mr n f))=some true:=cs7 λt B=>by
 obtain⟨i,H,rfl⟩:=cI3 B;exact h i (cI5 H)
theorem cF8{l:Nat->Rat}{g:Rat}(F:0<n)(P:n<=8)(s:∀k,k<n->Qs 1430 (l k))(J:∀k,k<n->g<=l k)(M:m<n)(N:l m=g):at5 [.lst (mr n λk=>qT (l k))]=some (qT g):=by
 let L:=T.lst (mr n λk=>qT (l k))
 obtain⟨R,O,x,j,rfl,H,B⟩:=aa4 (st:=stN 2) (n:=n) (f:=λk=>qT (l k)) (Q:=[some L,some (qT (l 0)),none]) (b:=o6 1 (e8 (A1 [d9,l7]) (gN aj9 [gN L8 [l7,d9]]))) (λi Q=>∃x j,Q=[some L,some (qT (l j)),x]/\j<n/\∀k,k<i->l j<=l k) ⟨none,0,rfl,F,λk C=>absurd C (cV1 _)⟩ λi E Q ⟨x,j,e,H,h⟩=>by
  subst e;have un:=(aJ1 (bd6 (s j H)) (bd6 (s i E)) ∎).2;rw[cr7]at un;have st:∀b t,M8 (.lst [qT (l j),qT (l i)]) (.int (if b then 1 else 0))=some t->decide (l i<l j)=b->o6 1 (e8 (A1 [d9,l7]) (gN aj9 [gN L8 [l7,d9]])) [some L,some (qT (l j)),some (qT (l i))]=some (.nx [some L,some t,some (qT (l i))]):=λb t B I=>C8 (j8 (az9 (k8 (x:=qT (l j)) rfl (k8 (x:=qT (l i)) rfl rfl))) (m7 (k8 (m7 (x:=[qT (l i),qT (l j)]) rfl un) rfl) (by rw[I];rfl)) B)
  by_cases q:l i<l j
  .exact⟨_,_,rfl,st true (qT (l i)) rfl (cW4 q),_,i,rfl,E,λk C=>by
    by_cases e:k=i
    .rw[e];exact Rat.le_refl
    .exact Rat.le_trans (Rat.le_of_lt q) (h k ⋯)⟩
  .exact⟨_,_,rfl,st false (qT (l j)) rfl (cW3 q),_,j,rfl,H,λk C=>by
    by_cases e:k=i
    .rw[e];exact Rat.not_lt.mp q
    .exact h k ⋯⟩
 rw[at5,o7 1 _ _ _ rfl,bh3,n8 (B:=[some L,some (qT (l 0)),none]) (C8 (B6 (x:=L) rfl rfl (O4 (i:=0) F))),n8 (by exact O)];have e:l j=g:=Rat.le_antisymm (N▸B m M) (J j H);rw[e];rfl
section
variable {p:Int}{w v:List Way}(N:K0 p w v)
include N
theorem cG2:∃g a0,Q9 [k7 p w v,.lst (mr v.length λ_=>.non)]=some (.tup (qT g::a0))/\W9 [k7 p w v]=some (.val (.tup (qT g::a0))):=by
 have E:=N.v1;have B:=N.v3;obtain⟨u,x,y,s,Z,h⟩:=bZ2 (g:=λ_=>true) (l:=λ_=>0) (t:=0) (b:=λ_=>0) N (λ_ _ e=>by cases e) ∎ ⟨0,⋯,rfl⟩ (λ_ _ e=>by cases e) ⟨1,λ_=>0,∎,λ_=>Int.le_refl _,λj H=>by
  unfold J8.loa;rw[M9 λl _=>by split<;>rfl];have :=ag8 N.wt H;show(0:Int)<=1*rmW w j;omega,λk C=>by
  unfold J8.bro;rw[M9 λl _=>by split<;>rfl];exact Rat.zero_mul _⟩ λ_ _ e=>by cases e
 refine⟨s,_,h,?_⟩;show al4 (al6 [some (k7 p w v)])=_;unfold al6;rw[as5 (x:=[k7 p w v]) rfl (aD3 (aD5 N))];unfold U6;rw[y4,m7 (k8 (x:=k7 p w v) rfl (k8 (w9 (n:=v.length) (f:=u7 v) (λ_=>.non) (by rw[<-D9];rfl) (by show _<=1000000;omega) λ_ _=>⟨_,rfl,rfl⟩) rfl)) h];rfl
end
theorem sIx_nat(n d k:Nat):aQ9 n d (some (k:Int))=min k n:=by
 show(if(k:Int)<0 then((k:Int)+(n:Int)).toNat else min (k:Int).toNat n)=_;rw[cW6 ⋯,cN7]
theorem ck3(t:List T)(a:Nat):t.take (min a t.length)=t.take a:=by
 by_cases h:a<=t.length
 .rw[cU6 h]
 .rw[Nat.min_eq_right ⋯,List.take_length,cT6 ⋯]
theorem bN5(t:List T)(a:Nat):t.drop (min a t.length)=t.drop a:=by
 by_cases h:a<=t.length
 .rw[cU6 h]
 .rw[Nat.min_eq_right ⋯,cO8,List.drop_eq_nil_of_le ⋯]
theorem cb8(t:List T)(a:Nat):al5 t none (some (a:Int))=t.take a:=by
 unfold al5;rw[sIx_nat];show List.take (_-0) (List.drop 0 t)=_;rw[Nat.sub_zero,cP0,ck3]
theorem cz7(t:List T)(a:Nat):al5 t (some (a:Int)) (some ((a+1:Nat):Int))=(t.drop a).take 1:=by
 unfold al5;rw[sIx_nat,sIx_nat,bN5];by_cases h:a<t.length
 .rw[show min (a+1) t.length-min a t.length=1 by omega]
 .rw[List.drop_eq_nil_of_le ⋯,List.take_nil,List.take_nil]
theorem cb7(t:List T)(b:Nat):al5 t (some (b:Int)) none=t.drop b:=by
 unfold al5;rw[sIx_nat];show List.take (t.length-_) _=_;rw[cT6 (by rw[List.length_drop];exact cT8 _),bN5]
theorem bz9(H:h Q=↥y):gPt (some h) Q=some (some y):=by
 show(h Q).bind _=_;rw[H];rfl
theorem cE9(B:0<d)(g:Int.gcd n d=1)(h:n.natAbs<2^k)(H:d.natAbs<2^k):Fz k (fr n d):=⟨n,d,rfl,B,g,h,H⟩
theorem cy0(d:Int):∃t,M8 (.lst [a,b]) (.int (d%2))=some t/\(t=a\/t=b):=by
 obtain⟨a0,a1⟩:=aa5 d (b:=2) ∎;obtain⟨t,h,H⟩:=bb5 (x:=[a,b]) a0 (by simpa using a1);exact⟨t,h,by simpa using H⟩
theorem cx9(c:Bool):∃t,M8 (.lst [a,b]) (.int (if c then 1 else 0))=some t/\(t=a\/t=b):=by
 cases c
 .exact⟨a,rfl,.inl rfl⟩
 .exact⟨b,rfl,.inr rfl⟩
theorem bx5(n:Nat)(h:n<=60):J7 (.int i) (.int (2^n))=↥(i/2^n):=by
 have e:(2:Int)^n=((2^n:Nat):Int):=∅
 have H:2^n<2^61:=Nat.pow_lt_pow_right ∎ ⋯;have B:0<2^n:=Nat.pow_pos ∎;refine aq7 (by rw[e];omega) (P5 (k:=61) ?_ ∎);rw[e];exact H
theorem bl2{f:Nat->T}{y:T}(H:a<n):(mr n f).take a++[y]++(mr n f).drop (a+1)=mr n λi=>if i=a then y else f i:=by
 obtain⟨b,rfl⟩:∃b,n=a+(1+b):=⟨n-a-1,⋯⟩
 rw[ak2,ak2,List.take_left' z0,<-List.append_assoc,List.drop_left' (by rw[cQ7,z0,z0]),ak2,ak2,<-List.append_assoc,N3 (n:=a) (g:=λi=>if i=a then y else f i) λi h=>by rw[cW6 ⋯]];congr 1
 .congr 1;show[y]=[if a=a then y else f a];rw[cW7 rfl]
 .exact N3 λi h=>by rw[cW6 ⋯]
theorem bs5{f:Nat->T}{k:Nat->Nat}(O:n<=8)(H:∀i,i<n->Fz (k i) (f i))(E:∀i,i<n->k i<=3000)(m:Int):∃F,U2 [.lst (mr n f),.int m]=⇑(mr n F)/\∀i,i<n->Fz (k i+5) (F i):=by
 have l:lim=1000000:=rfl;have M:0<(if(n:Int)>1 then(n:Int)else 1):=by split<;>omega
 obtain⟨a0,a1⟩:=aa5 m M;obtain⟨b0,b1⟩:=aa5 (m/64) (b:=4) ∎;obtain⟨c,c1,c2⟩:=bb5 (x:=[fr 1 7,fr (-1) 7,fr (-9) 1,fr 5 1]) b0 (by simpa using b1);have C:Fz 4 c:=by
  erw[cS0,cS3,or_false]at c2;rcases c2 with rfl|rfl|rfl|rfl<;>exact cE9 ∎ ∎ ∎ ∎
 obtain⟨a,B⟩:∃a:Nat,m%(if(n:Int)>1 then(n:Int)else 1)=(a:Int):=⟨_,(cN8 a0).symm⟩
 rw[B]at a1;have P:∀i,i<n->W3 [f i,c]=some (ah2 (f i) c)/\Fz (k i+4+1) (ah2 (f i) c):=λi h=>⟨aY9 (H i h) C (by have :=E i h;omega),(aU3 (H i h) C (by have :=E i h;omega)).2⟩
 let L:=T.lst (mr n f)
 have I:(g2 F8 d9 (gN aH8 [j4,gN A7 [d8]])) [some L,↥m,none,none]=↥(a:Int):=by
  rw[<-B];exact j8 (x:=.int m) rfl (m7 (k8 (x:=.int 1) rfl (k8 (M5 rfl) rfl)) rfl) (K7 M)
 let Q:A3:=[some L,↥m,↥(a:Int),some c]
 have p:(g2 y9 l7 j4) Q=↥((a+1:Nat):Int):=j8 (x:=.int (a:Int)) rfl rfl Q8;have g:∀F,(mr n f).take a++(((mr n f).drop a).take 1).map (λt=>ah2 t c)++(mr n f).drop (a+1)=mr n F->U2 [L,.int m]=⇑(mr n F):=λF e=>by
  rw[U2,o7 2 _ _ _ rfl,br5];refine(congrArg al3 (O1 (Q:=[some L,↥m,none,none]) I (O1 (t:=c) (j8 (x:=.lst [fr 1 7,fr (-1) 7,fr (-9) 1,fr 5 1]) rfl (j8 (j8 (x:=.int m) rfl rfl (aj5 ∎ ∎)) rfl (K7 ∎)) c1) rfl))).trans ?_;refine ap2 (Q:=Q) (j8 (j8 (aF6 (a:=d8) (t:=mr n f) rfl rfl rfl (cb8 ..)) (at4 (l:=((mr n f).drop a).take 1) (g:=id) (λt=>ah2 t c) (by rw[List.map_id,Y7,aF6 (a:=d8) (t:=mr n f) (l:=some (a:Int)) (r:=some ((a+1:Nat):Int)) rfl rfl (bz9 p) (cz7 ..)];rfl) (cU0 (List.length_take_le _ _) ∎) λt J=>⟨[some t,some c],rfl,m7 (x:=[t,c]) rfl ?_⟩) (Y2 ?_)) (aF6 (a:=d8) (t:=mr n f) (l:=some ((a+1:Nat):Int)) rfl (bz9 p) rfl (cb7 ..)) ((Y2 ?_).trans (by rw[e])))
  .obtain⟨i,h,rfl⟩:=cI3 (cS5 (cS6 J));exact(P i (cI5 h)).1
  .rw[cQ8,cR3,cR3,z0];omega
  .have :=List.length_take_le a (mr n f);have :=List.length_take_le 1 ((mr n f).drop a);have :=List.length_drop (i:=a+1) (l:=mr n f);have :(mr n f).length=n:=z0;rw[cQ7,cQ8];have :(List.take a (mr n f)).length<=(mr n f).length:=List.length_take_le' ..;omega
 by_cases z:a<n
 .refine⟨λi=>if i=a then ah2 (f a) c else f i,g _ ?_,λi h=> ?_⟩
  .rw[<-bl2 z];congr 2;have q:a<(mr n f).length:=by rw[z0];exact z
   rw[cO7 q];show[ah2 ((mr n f)[a]'q) c]=_;rw[show(mr n f)[a]'q=f a from cV9 ((cP8 q).symm.trans (ax6 z))]
  .dsimp only;split
   .rename_i q;rw[q]at h⊢;exact(P a h).2
   .exact(H i h).mono ⋯
 .have N:n=0:=by split at a1<;>omega
  subst N;exact⟨f,g f (by show(List.take a []++List.map _ (List.take 1 (List.drop a []))++List.drop (a+1) []:List T)=[];simp),λi h=>absurd h (cV1 _)⟩
theorem aw4(h:a Q=↑false):E8 a b Q=↑false:=by
 rw[Y1,A4 h];rfl
theorem ce4{t:List T}(h:t.length≠n):N6 [.lst t,.int (n:Int)]=↑false:=by
 rw[N6,o7 2 _ _ _ rfl,aU1];refine(ap2 (Q:=[⇑t,↥(n:Int)]) (L5 (x:=true) rfl (aw4 (j8 (m7 (x:=[.lst t]) rfl rfl) rfl (z:=.bl false) ?_)))).trans rfl;rw[L9,beq_false_of_ne ⋯]
theorem ct1(x:List T):(bc3 1 none x).length=x.length-1:=by
 unfold bc3;cases x with
 |nil=>rfl
 |cons a r=>simp
theorem cE3:M6 [.tup [.int 2,.lst [.tup [.int 0,.int 1,.int 1]],.lst []]]=some (.exc "BadNet"):=by
 show al4 (af3 [some (.tup [.int 2,.lst [.tup [.int 0,.int 1,.int 1]],.lst []]),none,none,none,none,none])=_;unfold af3;rw[bH2 (x:=[.tup [.int 2,.lst [.tup [.int 0,.int 1,.int 1]],.lst []]]) rfl (ca5 ?_)]
 .rfl
 .have a:=bs9 (p:=2) (W:=[(0,1,1)]) ∎ (λw h=>by rw[List.mem_singleton.mp h];decide) ∎;have b:=cu8 (B:=[]) (p:=2) (λ_=>true) ∅ ∎;rw[bD6,cW7 ∎];have a:ab3 [.lst [.tup [.int 0,.int 1,.int 1]],.int 2]=_:=a;rw[a,cI7,T4,cI7,cW7 rfl,b];rfl
theorem cE2(t:T):A8 [.tup [.int 9,.lst [],.lst [.tup [.int 0,.int 1,.int 1]]],t]=some (.exc "BadNet"):=by
 show al4 (Z0 [some (.tup [.int 9,.lst [],.lst [.tup [.int 0,.int 1,.int 1]]]),some t])=_;unfold Z0;rw[bH2 (x:=[.tup [.int 9,.lst [],.lst [.tup [.int 0,.int 1,.int 1]]]]) rfl (ca5 (by rw[bD6,cW6 ∎]))];rfl
section
variable {p:Int}{w v:List Way}{S:Nat->T}{g:T}{P H:Nat->Nat->T}{k:Nat}(N:K0 p w v)
include N
theorem bA4:M8 (k7 p w v) (.int 2)=⇑(mr v.length (u7 v)):=by rw[<-D9];exact ix2 ..
theorem bl3(h:∀Q,Q=[some (k7 p w v),some t]->(E8 (gN ac4 [d9]) (E8 (gN N6 [e8 d9 l8,gN A7 [e8 d8 r9]]) (E8 (gN W4 [d8,e8 d9 j4,e8 d9 l8]) (E8 (g1 (af8 .list) (e8 d9 r9)) (E8 (g2 fEq (gN A7 [e8 d9 r9]) (gN A7 [e8 d8 r9])) (gN af9 [o0 (itE (e8 d9 r9)) 2 [0,1] (st2 0 1) u5 (gN az3 [l7,e8 n9 l8,d9,d8])])))))) Q=↑false):A8 [k7 p w v,t]=some (.val (.bl false)):=by
 show al4 (Z0 [some (k7 p w v),some t])=_;unfold Z0;rw[as5 (x:=[k7 p w v]) rfl (aD3 (aD5 N))];unfold U6;rw[y4,h _ rfl];rfl
theorem no1(h:N6 [s,.int (v.length:Int)]=↑false):A8 [k7 p w v,.tup [s,f,B]]=some (.val (.bl false)):=bl3 N λQ e=>by
 rw[e];exact L5 (x:=true) (m7 (x:=[.tup [s,f,B]]) rfl rfl) (aw4 (m7 (k8 (B6 (x:=.tup [s,f,B]) rfl rfl (ix0 ..)) (k8 (M5 (B6 (x:=k7 p w v) rfl rfl (bA4 N))) rfl)) h))
theorem no2(h:N6 [s,.int (v.length:Int)]=↑true)(C:W4 [k7 p w v,f,s]=↑false):A8 [k7 p w v,.tup [s,f,B]]=some (.val (.bl false)):=bl3 N λQ e=>by
 rw[e];exact L5 (x:=true) (m7 (x:=[.tup [s,f,B]]) rfl rfl) (L5 (x:=true) (m7 (k8 (B6 (x:=.tup [s,f,B]) rfl rfl (ix0 ..)) (k8 (M5 (B6 (x:=k7 p w v) rfl rfl (bA4 N))) rfl)) h) (aw4 (m7 (k8 (x:=k7 p w v) rfl (k8 (B6 (x:=.tup [s,f,B]) rfl rfl (ix1 ..)) (k8 (B6 (x:=.tup [s,f,B]) rfl rfl (ix0 ..)) rfl))) C)))
theorem no3(h:N6 [s,.int (v.length:Int)]=↑true)(C:W4 [k7 p w v,f,s]=↑true)(E:∀Q,Q=[some (k7 p w v),some (.tup [s,f,B])]->e8 d9 r9 Q=some B->gN A7 [e8 d8 r9] Q=↥(v.length:Int)->(E8 (g1 (af8 .list) (e8 d9 r9)) (E8 (g2 fEq (gN A7 [e8 d9 r9]) (gN A7 [e8 d8 r9])) (gN af9 [o0 (itE (e8 d9 r9)) 2 [0,1] (st2 0 1) u5 (gN az3 [l7,e8 n9 l8,d9,d8])]))) Q=↑false):A8 [k7 p w v,.tup [s,f,B]]=some (.val (.bl false)):=bl3 N λQ e=>by
 subst e;exact L5 (x:=true) (m7 (x:=[.tup [s,f,B]]) rfl rfl) (L5 (x:=true) (m7 (k8 (B6 (x:=.tup [s,f,B]) rfl rfl (ix0 ..)) (k8 (M5 (B6 (x:=k7 p w v) rfl rfl (bA4 N))) rfl)) h) (L5 (x:=true) (m7 (k8 (x:=k7 p w v) rfl (k8 (B6 (x:=.tup [s,f,B]) rfl rfl (ix1 ..)) (k8 (B6 (x:=.tup [s,f,B]) rfl rfl (ix0 ..)) rfl))) C) (E _ rfl (B6 (x:=.tup [s,f,B]) rfl rfl (ix2 ..)) (M5 (B6 (x:=k7 p w v) rfl rfl (bA4 N))))))
theorem bK3{t:List T}(h:N6 [s,.int (v.length:Int)]=↑true)(B:W4 [k7 p w v,f,s]=↑true)(C:t.length≠v.length):A8 [k7 p w v,.tup [s,f,.lst t]]=some (.val (.bl false)):=no3 N h B λQ _ e E=>L5 (x:=true) (ar9 e rfl) (aw4 (j8 (m7 (k8 e rfl) rfl) E (z:=.bl false) (by rw[L9,beq_false_of_ne ⋯])))
theorem bv4(h:R7 [k7 p w v,f]=↑false):W4 [k7 p w v,f,s]=↑false:=by
 rw[W4,o7 3 _ _ _ rfl,aU2];exact(ap2 (Q:=[some (k7 p w v),some f,some s]) (aw4 (m7 (x:=[k7 p w v,f]) rfl h))).trans rfl
noncomputable def bW2(s l:List T)(g:T)(n:Nat):List T:=[.tup [.lst s,.lst [],.lst l],.tup [.lst s,.non,.lst l],.tup [.lst s,g,.lst (bc3 1 none l)],.tup [.lst s,g,.non],.tup [.lst (bc3 1 none s),g,.lst l],.tup [.lst s,g,.lst (List.replicate n [T.non]).flatten],.tup [.non,g,.lst l],.tup [.lst s,g,.lst (List.replicate (n+1) [T.tup [.lst [],.lst []]]).flatten]]
theorem bY6(h:Tol p w v S g P H k)(l:List T)(J:l.length=v.length):∀t∈bW2 (mr v.length S) l g v.length,A8 [k7 p w v,t]=some (.val (.bl false)):=by
 have M:=N.v1;have O:=N.v3;have L:lim=1000000:=rfl;have r:N6 [.lst (mr v.length S),.int (v.length:Int)]=↑true:=(bG7 ⋯ h.sz).trans (by rw[h.pa]);intro t C;erw[bW2,cS0,cS3,or_false]at C;rcases C with rfl|rfl|rfl|rfl|rfl|rfl|rfl|rfl
 .exact no2 N r (bv4 N (bs4 (by rw[cQ8];show 0≠v.length;omega)))
 .exact no2 N r (bv4 N bs3)
 .exact bK3 N r h.br (by rw[ct1];omega)
 .exact no3 N r h.br λQ _ E B=>aw4 (ar9 E rfl)
 .exact no1 N (ce4 (by rw[ct1,z0];omega))
 .refine no3 N r h.br λQ e E B=> ?_
  have f:(List.replicate v.length [T.non]).flatten=mr v.length λ_=>.non:=by
   have :∀n,(List.replicate n [T.non]).flatten=mr n λ_=>.non:=λn=>by
    induction n with
    |zero=>rfl
    |succ n i=>rw[aD6,<-i,List.replicate_succ',List.flatten_append];rfl
   exact this _
  rw[f]at E;subst e;refine Eq.trans (L5 (x:=true) (ar9 E rfl) (L5 (j8 (M5 E) B L9) (m7 (k8 (w9 (n:=v.length) (f:=λn=>.tup [.int (n:Int),.non]) (λn=>.bl false) (by unfold itE;rw[Y7,E];exact congrArg some (am9 ..)) ⋯ λn I=>⟨_,rfl,m7 (k8 (x:=k7 p w v) rfl (k8 (B6 (x:=.tup [.lst (mr v.length S),g,.lst (List.replicate v.length [T.non]).flatten]) rfl rfl (ix0 ..)) (k8 (x:=.non) rfl (k8 (x:=.int (n:Int)) rfl rfl)))) rfl⟩) rfl) (bD0 (λ_=>false) _)))) ?_;obtain⟨m,F⟩:∃m,v.length=m+1:=⟨v.length-1,⋯⟩
  rw[F,cW2,cT1];rfl
 .exact no1 N rfl
 .exact bK3 N r h.br (by rw[List.length_flatten];simp)
end
noncomputable def lB:GS:=m8 (o6 9 (gN U3 [l7,g2 y9 (gI 90) an9])) (m8 (o6 10 (g2 F8 (g2 J7 S6 Z4) (gN A7 [L6]))) (m8 (sSt (st2 11 12) (e8 L6 at3)) (m8 (o6 13 (e8 (A1 [y8 [gN U2 [D3 11,g2 J7 S6 (g2 ab8 r9 (gI 12))],D3 12],e8 L6 (g1 O5 j4)]) (g2 F8 S6 r9))) (m8 (sIf (bOf (g2 fEq (g2 F8 S6 ac8) l8)) (o6 13 (y8 [D3 11,gN U2 [D3 12,g2 J7 S6 (g2 ab8 r9 (gI 12))]])) z9) (m8 (o6 14 (e8 (A1 [u0,gN U2 [u0,g2 J7 S6 (g2 ab8 r9 (gI 30))]]) (gN aj9 [g2 fEq (g2 F8 (g2 J7 S6 (g2 ab8 r9 (gI 40))) (gI 4)) l8]))) (m8 (o6 15 (y8 [D3 14,C7,g2 y9 (g2 y9 (gSl L6 none (some at3)) (A1 [D3 13])) (gSl L6 (some (g2 y9 at3 j4)) none)])) (m8 (o6 16 (gN (X0 A8) [n9,D3 15])) (sIf (bOr (ac1 (bOf (g1 (af8 .bool) (D3 16)))) (bOf (g2 fNe (D3 16) (gN aa9 [n9,D3 15])))) (t5 (gC (.bl false))) z9))))))))
noncomputable def lA:GS:=m8 (o6 2 (gN U3 [gN az2 [d8,d9],d9])) (m8 (o6 3 (gN aE9 [l7])) (m8 (o6 4 (gN (au6 M6 [d8]) [n9])) (m8 (sIf (bOr (ac1 (bOf (g1 (af8 .tuple) v8))) (bOr (bOf (g2 fNe (gN A7 [v8]) ac8)) (ac1 (bOf (gN aa9 [n9,v8]))))) (t5 (gC (.bl false))) z9) (m8 (sIf (bOr (bOf (g1 (av0 true) (gN (X0 A8) [n9,v8]))) (bOf (g2 fNe (gN (X0 M6) [n9]) v8))) (t5 (gC (.bl false))) z9) (m8 (sSt (st3 5 6 7) v8) (m8 (sIf (bOf (g2 fNe (gN at5 [u0]) (e8 (gN (X0 W9) [n9]) l8))) (t5 (gC (.bl false))) z9) (m8 (P1 (itR (gI 5)) (stN 8) lB) (m8 (o6 17 (A1 [y8 [u0,A1 [],L6],y8 [u0,gC .non,L6],y8 [u0,C7,g1 (ai1 1 none) L6]])) (m8 (o6 17 (g2 y9 (D3 17) (A1 [y8 [u0,C7,gC .non],y8 [g1 (ai1 1 none) u0,C7,L6]]))) (m8 (o6 17 (g2 y9 (D3 17) (A1 [y8 [u0,C7,g2 J9 (A1 [gC .non]) (gN A7 [L6])],y8 [gC .non,C7,L6]]))) (m8 (o6 17 (g2 y9 (D3 17) (A1 [y8 [u0,C7,g2 J9 (A1 [y8 [A1 [],A1 []]]) (g2 y9 (gN A7 [L6]) j4)]]))) (m8 (sIf (bOf (g1 (av0 false) (gN (X0 A8) [n9,e8 (D3 17) (g2 F8 (g2 J7 l7 (g2 ab8 r9 ak3)) Z4)]))) (t5 (gC (.bl false))) z9) (m8 (sIf (bOf (g2 fNe (gN (au6 M6 [y8 [r9,A1 [y8 [l8,j4,j4]],A1 []]]) []) (gC (.str "BadNet")))) (t5 (gC (.bl false))) z9) (sIf (bOf (g2 fNe (gN (au6 A8 [y8 [gI 9,A1 [],A1 [y8 [l8,j4,j4]]],d8]) [v8]) (gC (.str "BadNet")))) (t5 (gC (.bl false))) z9))))))))))))))
noncomputable def rs(a:Nat->Option T)(i:Nat):Nat->A3
 |0=>[]
 |n+1=>a i::rs a (i+1) n
def Pt(w v:List Way)(t:T):Prop:=∃P H,t=.tup [.lst (mr w.length P),.lst (mr v.length H)]/\Tri w v P H
theorem aV4(n:Nat)(h:n<=60)(H:g Q=↥d)(B:g2 ab8 r9 (gI n) Q=↥(2^n)):g2 J7 g (g2 ab8 r9 (gI n)) Q=↥(d/2^n):=j8 H B (bx5 n h)
section
variable {p:Int}{w v:List Way}{S:Nat->T}{h:T}{P g:Nat->Nat->T}{k:Nat}(N:K0 p w v)(H:Tol p w v S h P g k)
include N H
theorem bW0(ns B tr:Option T)(u j:Int)(a:Nat->Option T):let E:=λl=>ns::B::↥u::some (k7 p w v)::tr::⇑(mr v.length S)::some h::some (ppT w v P g)::↥j::l
  ∃b,lB (E (rs a 9 9))=some (.nx (E (rs b 9 9))):=by
 intro E;have v1:=N.v1;have v3:=N.v3;have h8:=N.wl;have lm:lim=1000000:=rfl;obtain⟨d,aq,_⟩:=bD8 u (90+j)
 let ae:=k7 p w v
 let o:=T.lst (mr v.length S)
 let C:Nat->T:=λn=>.tup [.lst (mr w.length (P n)),.lst (mr v.length (g n))]
 obtain⟨m0,m1⟩:=aa5 (d/8) (b:=(v.length:Int)) ⋯;obtain⟨i,hi⟩:∃i:Nat,d/8%(v.length:Int)=(i:Int):=⟨_,(cN8 m0).symm⟩
 rw[hi]at m1;have J:i<v.length:=⋯
 have f:∀n,n<v.length->Tri w v (P n) (g n):=λn Y=>⟨λj Q=>(H.tp n Y j Q).mono ∎,λB R=>(H.th n Y B R).mono ∎⟩
 obtain⟨P',b1,b2⟩:=bs5 (k:=λ_=>290) ⋯ (H.tp i J) (λ_ _=>∎) (d/2^12);obtain⟨H',c1,c2⟩:=bs5 (k:=λ_=>290) ⋯ (H.th i J) (λ_ _=>∎) (d/2^12);obtain⟨S',s1,s2⟩:=bs5 ⋯ H.sz (λB _=>by show(if B=k then 1435 else 445)<=3000;split<;>decide) (d/2^30)
 let r:=T.lst (mr w.length (P i))
 let O:=T.lst (mr v.length (g i))
 let e:=λl=>E (↥d::↥(i:Int)::some r::some O::l)
 have ag:∃t,(e8 (A1 [y8 [gN U2 [D3 11,g2 J7 S6 (g2 ab8 r9 (gI 12))],D3 12],e8 L6 (g1 O5 j4)]) (g2 F8 S6 r9)) (e (rs a 13 5))=some t/\Pt w v t:=by
  obtain⟨t,x,y⟩:=cy0 (a:=.tup [.lst (mr w.length P'),O]) (b:=C (v.length-1)) d;refine⟨t,B6 (az9 (k8 (ae4 (k8 (m7 (k8 (x:=r) rfl (k8 (aV4 12 ∎ (d:=d) rfl rfl) rfl)) b1) (k8 (x:=O) rfl rfl))) (k8 (B6 (x:=ppT w v P g) (y:=.int (-1)) rfl rfl (z:=C (v.length-1)) ?_) rfl))) (j8 (x:=.int d) rfl rfl (K7 ∎)) x,?_⟩
  .obtain⟨m,hm⟩:∃m,v.length=m+1:=⟨v.length-1,⋯⟩
   unfold ppT;show M8 (.lst (mr v.length C)) _=_;rw[hm];exact aq1 ..
  .rcases y with rfl|rfl
   .exact⟨P',g i,rfl,λj Q=>(b2 j Q).mono ∎,(f i J).hs⟩
   .exact⟨_,_,rfl,f _ ⋯⟩
 obtain⟨t,e1,e2⟩:=ag;have ah:∃z,(sIf (bOf (g2 fEq (g2 F8 S6 ac8) l8)) (o6 13 (y8 [D3 11,gN U2 [D3 12,g2 J7 S6 (g2 ab8 r9 (gI 12))]])) z9) (e (some t::rs a 14 4))=some (.nx (e (some z::rs a 14 4)))/\Pt w v z:=by
  have q:(bOf (g2 fEq (g2 F8 S6 ac8) l8)) (e (some t::rs a 14 4))=some (d%3==0):=A4 (j8 (j8 (x:=.int d) rfl rfl (K7 ∎)) rfl L9);cases af:d%3==0
  .exact⟨t,by rw[Q2 (by rw[q,af])];rfl,e2⟩
  .refine⟨.tup [r,.lst (mr v.length H')],?_,_,_,rfl,(f i J).ps,λj Q=>(c2 j Q).mono ∎⟩;rw[X8 (by rw[q,af])];exact C8 (ae4 (k8 (x:=r) rfl (k8 (m7 (k8 (x:=O) rfl (k8 (aV4 12 ∎ (d:=d) rfl rfl) rfl)) c1) rfl)))
 obtain⟨z,e3,X,W,rfl,ar⟩:=ah
 let M:=T.tup [.lst (mr w.length X),.lst (mr v.length W)]
 let U:=λl=>e (some M::l)
 have ai:∃s,(e8 (A1 [u0,gN U2 [u0,g2 J7 S6 (g2 ab8 r9 (gI 30))]]) (gN aj9 [g2 fEq (g2 F8 (g2 J7 S6 (g2 ab8 r9 (gI 40))) (gI 4)) l8])) (U (rs a 14 4))=⇑(mr v.length s)/\∀B,B<v.length->Fz (if B=k then 1440 else 450) (s B):=by
  obtain⟨t,x,y⟩:=cx9 (a:=o) (b:=.lst (mr v.length S')) (d/2^40%4==0);have aa:(e8 (A1 [u0,gN U2 [u0,g2 J7 S6 (g2 ab8 r9 (gI 30))]]) (gN aj9 [g2 fEq (g2 F8 (g2 J7 S6 (g2 ab8 r9 (gI 40))) (gI 4)) l8])) (U (rs a 14 4))=some t:=B6 (az9 (k8 (x:=o) rfl (k8 (m7 (k8 (x:=o) rfl (k8 (aV4 30 ∎ (d:=d) rfl rfl) rfl)) s1) rfl))) (m7 (k8 (j8 (j8 (aV4 40 ∎ (d:=d) rfl rfl) rfl (K7 ∎)) rfl L9) rfl) rfl) x;rcases y with rfl|rfl
  .exact⟨S,aa,λB R=>(H.sz B R).mono (by split<;>decide)⟩
  .exact⟨S',aa,λB R=>(s2 B R).mono (by show(if B=k then 1435 else 445)+5<=_;split<;>decide)⟩
 obtain⟨s,ak,ao⟩:=ai
 let c:=λn=>if n=i then X else P n
 let Z:=λn=>if n=i then W else g n
 obtain⟨F,z1,z2⟩:=H.bo s c Z ao λn Y=>by
  show Tri w v (if n=i then X else P n) (if n=i then W else g n);split
  .exact ar
  .exact f n Y
 let I:=T.tup [.lst (mr v.length s),h,ppT w v c Z]
 let L:=λl=>U (⇑(mr v.length s)::l)
 have pp:(mr v.length C).take i++[M]++(mr v.length C).drop (i+1)=mr v.length λn=>.tup [.lst (mr w.length (c n)),.lst (mr v.length (Z n))]:=(bl2 J).trans (N3 λn _=>by
  show(if n=i then M else C n)=.tup [.lst (mr w.length (if n=i then X else P n)),.lst (mr v.length (if n=i then W else g n))];split<;>rfl)
 have aj:(y8 [D3 14,C7,g2 y9 (g2 y9 (gSl L6 none (some at3)) (A1 [D3 13])) (gSl L6 (some (g2 y9 at3 j4)) none)]) (L (rs a 15 3))=some I:=by
  have l1:((mr v.length C).take i).length<=(mr v.length C).length:=List.length_take_le' ..;have l2:((mr v.length C).drop (i+1)).length=(mr v.length C).length-(i+1):=List.length_drop ..;have l3:(mr v.length C).length=v.length:=z0;exact ae4 (k8 (x:=.lst (mr v.length s)) rfl (k8 (x:=h) rfl (k8 (j8 (j8 (aF6 (t:=mr v.length C) rfl rfl rfl (cb8 _ i)) (az9 (k8 (x:=M) rfl rfl)) (Y2 (by show _+1<=_;omega))) (aF6 (t:=mr v.length C) (l:=some ((i+1:Nat):Int)) rfl (bz9 (j8 (x:=.int (i:Int)) rfl rfl Q8)) rfl (cb7 ..)) ((Y2 (by rw[cQ7];show _+1+_<=_;omega)).trans (by rw[pp];rfl))) rfl)))
 refine⟨λn=>D3 (n-9) (↥d::↥(i:Int)::some r::some O::some M::⇑(mr v.length s)::some I::↑F::rs a 17 1),?_⟩;show lB (E (rs a 9 9))=some (.nx (L (some I::↑F::rs a 17 1)));unfold lB;rw[n8 (B:=E (↥d::rs a 10 8)) (C8 (m7 (k8 (x:=.int u) rfl (k8 (j8 (x:=.int 90) (y:=.int j) rfl rfl Q8) rfl)) aq))];rw[n8 (B:=E (↥d::↥(i:Int)::rs a 11 7)) (C8 (j8 (j8 (x:=.int d) rfl rfl (aj5 ∎ ∎)) (M5 (f:=C) (n:=v.length) rfl) ((K7 ⋯).trans (by rw[hi]))))];rw[n8 (B:=e (rs a 13 5)) (by unfold sSt;rw[B6 (x:=ppT w v P g) rfl rfl (O4 J)];rfl)];rw[n8 (B:=e (some t::rs a 14 4)) (C8 e1)];rw[n8 (B:=U (rs a 14 4)) e3];rw[n8 (B:=L (rs a 15 3)) (C8 ak)];rw[n8 (B:=L (some I::rs a 16 2)) (C8 aj)];rw[n8 (B:=L (some I::↑F::rs a 17 1)) (C8 (m7 (x:=[ae,I]) rfl (by unfold X0;rw[z1];rfl)))];rw[Q2 (ai3 (x:=false) (y:=false) (aE5 (b:=true) (A4 (ar9 (x:=.bl F) rfl rfl))) (A4 (j8 (x:=.bl F) rfl (m7 (x:=[ae,I]) rfl z2) (by
  show(eqD 8 (.bl F) (.bl F)).bind _=_;rw[show eqD 8 (.bl F) (.bl F)=some (F==F)from rfl,cW2];rfl))))]
 rfl
end
theorem cG8(n:List Int)(k:Nat)(B:k<4)(l:n.length<=63):∃c:Int,az2 [.scr n,.int k]=↥c:=by
 rw[az2,o7 2 _ _ _ rfl,br4];have st:A0 2 [.scr n,.int k]=[some (.scr n),↥k]:=rfl;rw[st];have t:(bOf (g2 fEq d8 (A1 []))) [some (.scr n),↥k]=some n.isEmpty:=rfl;cases e:n.isEmpty with
 |true=>
  rw[W0 (t:=.int ((k:Int)*7919)) (by
   rw[W5,t,e];erw[cI7,if_true,y4,D6,G8,v9,cI8,cJ6,jn,aw5 (show sm 7919=true from rfl)])]
  exact⟨_,rfl⟩
 |false=>
  have C:0<n.length:=by
   cases n with
   |nil=>simp at e
   |cons=>simp
  rw[n8 (B:=[some (.scr n),↥k]) (by rw[W5,t,e];rfl)];have q:=aa5 (k:Int) (b:=(n.length:Int)) ⋯;have H:(((k:Int)%(n.length:Int)).toNat:Int)=(k:Int)%(n.length:Int):=cN8 q.1;have h:((k:Int)%(n.length:Int)).toNat<n.length:=⋯
  obtain⟨z,i⟩:∃z,M8 (.scr n) (.int ((k:Int)%(n.length:Int)))=↥z:=by
   rw[<-H];generalize((k:Int)%(n.length:Int)).toNat=j at h;refine⟨n[j],?_⟩;show(ixT n.length _).bind _=_;rw[am7 h];erw[cI7];rw[cP8 h];rfl
  erw[y4,D6,N7,D0,F7,G8,v9,cI8,cJ6,jn,cI7,A7,K7 (show(0:Int)<((n.length:Nat):Int) by omega),i,aj5 (i:=(k:Int)) (j:=((n.length:Nat):Int)) ⋯ ⋯,aw5 (show sm 104729=true from rfl),Q8,Q7];exact⟨_,rfl⟩
section
variable {p:Int}{w v:List Way}{S:Nat->T}{g:T}{P h:Nat->Nat->T}{k:Nat}(H:Tol p w v S g P h k)
include H
theorem ck0:fNe (.tup [.lst (mr v.length S),g,ppT w v P h]) (.tup [.lst (mr v.length S),g,ppT w v P h])=↑false:=by
 have :eqD 8 (.tup [.lst (mr v.length S),g,ppT w v P h]) (.tup [.lst (mr v.length S),g,ppT w v P h])=some true:=by
  refine aX0 λt B=> ?_
  erw[cS0,cS3,or_false]at B;rcases B with rfl|rfl|rfl
  .exact aO0 λi E=>aN9 (H.sz i E)
  .obtain⟨f,rfl,J⟩:=H.fe;refine aO0 λi E=>aO0 λj F=> ?_
   obtain⟨a,b,e⟩:=J i j;rw[e];refine aX0 λx C=> ?_
   rcases cI4 C with rfl|C
   .show some (a==a)=_;rw[cW2]
   .rw[List.mem_singleton.mp C];show some (b==b)=_;rw[cW2]
  .refine aO0 λn I=>aX0 λt B=> ?_
   erw[cS0,cS3,or_false]at B;rcases B with rfl|rfl
   .exact aO0 λj F=>aN9 (H.tp n I j F)
   .exact aO0 λM L=>aN9 (H.th n I M L)
 unfold fNe;rw[this];rfl
end
theorem bV9{s:List Int}(hl:s.length<=63){k:Nat}(h:k<4)(a:Nat->Option T):∃b,lA (some (.scr s)::↥k::rs a 2 16)=some (.nx (some (.scr s)::rs b 1 17)):=by
 obtain⟨u,hc⟩:=cG8 s k h hl;obtain⟨d,hd,av⟩:=bD8 u k;obtain⟨ah,w,v,hn,N⟩:=cF6 d;have v1:=N.v1;have v3:=N.v3;have lm:lim=1000000:=rfl;obtain⟨g,a0,hg,gr⟩:=cG2 N;obtain⟨r,Q,au,aw,f,X,St,L⟩:=cu6 N hg;obtain⟨Z,Y,k0,e,H⟩:=ck1 N St X;rw[e]at L;obtain⟨_,y,z,M,_,P⟩:=St.gr X;have tz:Tz r<=1430:=by
  have :=St.s4.1;rcases r with _|_|_|_|r
  .decide
  .decide
  .decide
  .decide
  .omega
 have le:=cF8 ⋯ ⋯ (λk h=>(St.sz k h rfl).mono tz) (λk h=>y k h rfl) M P
 let C:=k7 ah w v
 let S:=T.lst (mr v.length λk=>qT (Q k))
 let p:=mr v.length λn=>T.tup [.lst (mr w.length (Z n)),.lst (mr v.length (Y n))]
 let I:=T.tup [S,f,.lst p]
 have ai:p.length=v.length:=z0
 let E:A3->A3:=λl=>some (.scr s)::↥k::l
 let F:A3->A3:=λl=>E (↥d::some C::some I::some S::some f::⇑p::l)
 have aj:aF4 M6 [C]=some I:=bQ8 L;have ak:X0 M6 [C]=some I:=by unfold X0;rw[L];rfl
 have ao:X0 W9 [C]=some (.tup (qT g::a0)):=by unfold X0;rw[gr];rfl
 have ar:X0 A8 [C,I]=↑true:=by unfold X0;rw[show A8 [C,I]=_ from H.t1];rfl
 let J:=E (↥d::some C::some I::rs a 5 13)
 have ae:=am8 (st:=stN 8) (b:=lB) (λ_ W=>∃b,W=F (rs b 8 10)) (O2 0 5) 0 (F (rs a 8 10)) ⟨a,rfl⟩ (λi t ht W zz=>by
  obtain⟨b,rfl⟩:=zz;obtain⟨j,rfl⟩:∃j:Int,t=.int j:=by
   have :=cS4 ht;unfold O2 at this;obtain⟨a,_,rfl⟩:=cI3 this;exact⟨_,rfl⟩
  obtain⟨c,aa⟩:=bW0 N H (some (.scr s)) ↥k (some I) d j b;exact⟨_,_,rfl,aa,λi=>D3 (i-8) (↥j::rs c 9 9),rfl⟩)
 obtain⟨ax,l1,b,rfl⟩:=ae
 let B:=λx=>rs b 8 9++[x]
 let o:=bW2 (mr v.length λk=>qT (Q k)) p f v.length
 obtain⟨m0,m1⟩:=aa5 (d/2^20) (b:=8) ∎;obtain⟨O,af,ag⟩:=bb5 (x:=o) m0 (by show _<((8:Nat):Int);simpa using m1);have aq:X0 A8 [C,O]=↑false:=by unfold X0;rw[show A8 [C,O]=_ from bY6 N H p ai O ag];rfl
 have R:∀x,gN A7 [L6] (F (B x))=↥(v.length:Int):=λx=>M5 (n:=v.length) rfl
 have U:∀(t:T) (m:Nat),m<=4->J9 (.lst [t]) (.int (m:Int))=⇑((List.replicate m [t]).flatten):=λt m hm=>by
  show(if 0<=(m:Int)/\1*(m:Int).toNat<=lim/\(m:Int)<=lim then _ else none)=_;rw[cW7 ⋯,cN7]
 refine⟨λi=>D3 i (F (B ⇑o)),?_⟩;show(lA) (E (rs a 2 16))=some (.nx (F (B ⇑o)));unfold lA;rw[n8 (B:=E (↥d::rs a 3 15)) (C8 (m7 (k8 (m7 (x:=[.scr s,.int k]) rfl hc) (k8 (x:=.int k) rfl rfl)) hd))];rw[n8 (B:=E (↥d::some C::rs a 4 14)) (C8 (m7 (x:=[.int d]) rfl hn))];rw[n8 (B:=J) (C8 (m7 (x:=[C]) (z:=I) rfl (by exact aj)))];rw[n8 (B:=J) (by
  rw[Q2 (ai3 (x:=false) (y:=false||false) (aE5 (b:=true) (A4 (ar9 (x:=I) rfl rfl))) (ai3 (A4 (j8 (m7 (x:=[I]) (z:=.int 3) rfl rfl) (y:=.int 3) rfl rfl)) (aE5 (b:=true) (A4 (m7 (x:=[C,I]) rfl H.t2)))))];rfl)]
 rw[n8 (B:=J) (by
  rw[Q2 (ai3 (x:=false) (y:=false) (A4 (ar9 (m7 (x:=[C,I]) rfl ar) rfl)) (A4 (j8 (m7 (x:=[C]) rfl ak) (y:=I) rfl (ck0 H))))];rfl)]
 rw[n8 (B:=F (rs a 8 10)) rfl];rw[n8 (B:=F (rs a 8 10)) (by
  rw[Q2 (A4 (b:=false) (j8 (m7 (x:=[S]) rfl le) (B6 (m7 (x:=[C]) rfl ao) rfl (ix0 ..)) (z:=.bl false) (by
   show(eqD 8 (qT g) (qT g)).bind _=_;rw[show eqD 8 (qT g) (qT g)=some true by rw[<-P];exact aN9 (bd6 (St.sz z M rfl))];rfl)))];rfl)]
 rw[n8 (B:=F (rs b 8 10)) (by rw[O6];exact l1)];rw[n8 (B:=F (B ⇑(o.take 3))) rfl];rw[n8 (B:=F (B ⇑(o.take 5))) rfl];rw[n8 (B:=F (B ⇑(o.take 7))) (C8 (j8 (x:=.lst (o.take 5)) (z:=.lst (o.take 7)) rfl (az9 (k8 (ae4 (k8 (x:=S) rfl (k8 (x:=f) rfl (k8 (j8 (x:=.lst [.non]) rfl (R _) (U .non _ ⋯)) rfl)))) (k8 (x:=.tup [.non,f,.lst p]) rfl rfl))) rfl))];rw[n8 (B:=F (B ⇑o)) (C8 (j8 (x:=.lst (o.take 7)) (z:=.lst o) rfl (az9 (k8 (ae4 (k8 (x:=S) rfl (k8 (x:=f) rfl (k8 (j8 (x:=.lst [.tup [.lst [],.lst []]]) rfl (j8 (R _) rfl (Q8 (i:=(v.length:Int)) (j:=1))) (U (.tup [.lst [],.lst []]) (v.length+1) ⋯)) rfl)))) rfl)) rfl))];rw[n8 (B:=F (B ⇑o)) (by
  rw[Q2 (A4 (b:=false) (ar9 (f:=av0 false) (m7 (k8 (x:=C) rfl (k8 (B6 (x:=.lst o) rfl (j8 (j8 (a:=l7) (b:=g2 ab8 r9 ak3) (x:=.int d) (y:=.int (2^20)) rfl rfl (bx5 20 ∎)) (b:=Z4) rfl (K7 ∎)) af) rfl)) aq) rfl))];rfl)]
 rw[n8 (B:=F (B ⇑o)) (by
  rw[Q2 (A4 (b:=false) (j8 (m7 (x:=[]) (z:=.str "BadNet") rfl (by
   unfold au6;rw[k8 (X:=[]) (x:=.tup [.int 2,.lst [.tup [.int 0,.int 1,.int 1]],.lst []]) rfl rfl];exact bk6 cE3)) rfl rfl))];rfl)]
 rw[Q2 (A4 (b:=false) (j8 (m7 (x:=[I]) (z:=.str "BadNet") rfl (by
   unfold au6;rw[k8 (X:=[I]) (x:=.tup [.int 9,.lst [],.lst [.tup [.int 0,.int 1,.int 1]]]) rfl rfl];exact bk6 (cE2 I))) rfl rfl))]
 rfl
theorem bW8(N:List Int)(l:N.length<=63):bj7 [.scr N]=↑true:=by
 rw[bj7,o7 1 _ _ _ rfl]
 suffices h:aY0 (A0 18 [.scr N])=some (.ret (.bl true)) by rw[h];rfl
 let R:=some (.scr N)::rs (λ_=>none) 1 17
 show aY0 R=_;have t:∃n:Nat,n<=4/\(itR (gN aH8 [j4,gN aW9 [r9,gN A7 [d8]]])) R=some (O2 0 n):=by
  have e:(gN aH8 [j4,gN aW9 [r9,gN A7 [d8]]]) R=↥(if(if(N.length:Int)<2 then(N.length:Int)else 2)>1 then(if(N.length:Int)<2 then(N.length:Int)else 2)else 1):=rfl;have C:(1:Int)<=(if(if(N.length:Int)<2 then(N.length:Int)else 2)>1 then(if(N.length:Int)<2 then(N.length:Int)else 2)else 1)/\(if(if(N.length:Int)<2 then(N.length:Int)else 2)>1 then(if(N.length:Int)<2 then(N.length:Int)else 2)else 1)<=4:=by
   split<;>split<;>omega
  generalize(if(if(N.length:Int)<2 then(N.length:Int)else 2)>1 then(if(N.length:Int)<2 then(N.length:Int)else 2)else(1:Int))=z at e C;refine⟨z.toNat,⋯,?_⟩;unfold itR;rw[e];show(if -(lim:Int)<=z/\z<=(lim:Int)then some (O2 0 z.toNat)else none)=_;have I:(lim:Int)=1000000:=rfl;rw[cW7 ⋯]
 obtain⟨n,J,hit⟩:=t;unfold aY0;have L:=am8 (st:=stN 1) (b:=lA) (λ_ Q=>∃b,Q=some (.scr N)::rs b 1 17) (O2 0 n) 0 R ⟨_,rfl⟩ (λi x F Q Z=>by
  obtain⟨b,rfl⟩:=Z;obtain⟨j,E,rfl⟩:∃j:Nat,j<4/\x=.int j:=by
   have :=cS4 F;unfold O2 at this;obtain⟨a,B,rfl⟩:=cI3 this;exact⟨a,by have :=cI5 B;omega,∅⟩
  obtain⟨c,h⟩:=bV9 l E b;exact⟨_,_,rfl,h,c,rfl⟩)
 obtain⟨M,H,b,rfl⟩:=L;rw[n8 (B:=some (.scr N)::rs b 1 17) (by rw[O6,hit];exact H)];rfl
end L3
end
open PySem PySem.Spec PyProof.Rows L2 L3
namespace Sw
abbrev fnI(x:Str)(i:Nat)(kV d p:Value)(a:Option Addr)(c C:Value):=W.fnOf x x (aE4 (top i)) (O9 (top i)) (t7 (top i)) .none kV d p a c C
def t6(K:cW0)(x:Str)(i:Nat):Prop:=∃f o O kV d p a c C l,W.nsIn K mainGlobals x=some (some (.ref f))/\
 K.lookup f=some ⟨o,O,.func (fnI x i kV d p a c C),l⟩/\W.codeIn K c x=true
def aO6(K:cW0)(x:Str)(i:Nat)(P:Addr):Prop:=∃f o O kV d p a c C l,W.nsIn K mainGlobals x=some (some (.ref f))/\
 K.lookup f=some ⟨o,O,.func (fnI x i kV d p a (.ref c) C),l⟩/\W.codeIn K (.ref c) x=true/\W.codeHdIn K c P=true
section
variable {K:cW0}{x:Str}{i:Nat}
theorem mkF(a:W.nsIn K mainGlobals x=some (some (.ref f)))(b:K.lookup f=some ⟨o,O,.func (fnI x i k d p n C t),l⟩)(c:W.codeIn K C x=true):t6 K x i:=⟨f,o,O,k,d,p,n,C,t,l,a,b,c⟩
theorem cq3(a:W.nsIn K mainGlobals x=some (some (.ref f)))(b:K.lookup f=some ⟨o,O,.func (fnI x i k B p n (.ref c) C),l⟩)(d:W.codeIn K (.ref c) x=true)(e:W.codeHdIn K c P=true):aO6 K x i P:=⟨f,o,O,k,B,p,n,c,C,l,a,b,d,e⟩
theorem bb1(b:K.lookup f=some ⟨o,O,.func F,l⟩):W.keepIn K (.ref f)=true:=by
 unfold W.keepIn;dsimp only;rw[b]
variable {h:Heap}{g:Str->Option Value}(X:K.In h)(G:h.Ns mainGlobals g)
include X G
theorem ak4(F:t6 K x i):∃f B,Fun K x x (top i) f B/\g x=some (.ref f):=by
 obtain⟨f,o,O,kV,d,p,n,C,t,l,a,b,c⟩:=F;exact⟨f,_,⟨⟨o,O,kV,d,p,n,C,t,l,rfl,b,c⟩,bb1 b⟩,W.mg_of X G a⟩
theorem bx1{P:Addr}(F:aO6 K x i P):∃f E c,bD4 K x x (top i) f E c/\g x=some (.ref f)/\W.codeHdIn K c P=true:=by
 obtain⟨f,o,O,kV,B,p,n,c,C,l,a,b,d,e⟩:=F;exact⟨f,_,c,⟨⟨o,O,kV,B,p,n,C,l,rfl,b,d⟩,bb1 b⟩,W.mg_of X G a,e⟩
end
def an0(K:cW0)(x:Str)(i:Int):Prop:=∃t,W.nsIn K mainGlobals x=some (some (.int i t))
theorem mkN{K:cW0}{x:Str}{i:Int}{t:Tok}(a:W.nsIn K mainGlobals x=some (some (.int i t))):an0 K x i:=⟨t,a⟩
def aT7(K:cW0)(x:Str)(i j:Int):Prop:=∃a o t u n,W.nsIn K mainGlobals x=some (some (.ref a))/\K.lookup a=some o/\o.cls=.type "tuple"/\o.data=.seq #[.int i t,.int j u] n
theorem mkP{K:cW0}{x:Str}{i j:Int}{a:Addr}{o:Option Addr}{t u:Tok}{n:Nat}{s:Array (Option Value)}(e:W.nsIn K mainGlobals x=some (some (.ref a)))(b:K.lookup a=some ⟨.type "tuple",o,.seq #[.int i t,.int j u] n,s⟩):aT7 K x i j:=⟨a,_,t,u,n,e,b,rfl,rfl⟩
theorem cg8{K:cW0}{h:Heap}{M:Str->Option Value}{x:Str}{i j:Int}(X:K.In h)(G:h.Ns mainGlobals M)(F:aT7 K x i j):∃a,M x=some (.ref a)/\∀G,Rep K G (.tup [.int i,.int j]) (.ref a):=by
 obtain⟨a,o,t,u,n,e,E,B,C⟩:=F;refine⟨a,W.mg_of X G e,λG=> ?_⟩;erw[Rep];refine⟨a,[.int i,.int j],rfl,.inr ⟨o,_,n,E,B,C,by show 2<=sizeLine;decide,.cons ⟨t,rfl⟩ (.cons ⟨u,rfl⟩ .nil)⟩,?_⟩;exact j9.cons (by simp[Rep]) (j9.cons (by simp[Rep]) j9.nil)
def bd9(K:cW0)(x:Str)(b1 b2 b3:Bool):Prop:=∃D C c B W,PySem.W.nsIn K mainGlobals x=some (some (.ref D))/\PySem.W.nsIn K mainGlobals "BadNet"=some (some (.ref C))/\PySem.W.nsIn K mainGlobals "BadFlow"=some (some (.ref c))/\PySem.W.nsIn K mainGlobals "BadFloor"=some (some (.ref B))/\PySem.W.nsIn K mainGlobals "WareError"=some (some (.ref W))/\
 PySem.W.excIn K D [.type "ValueError",.type "Exception",.type "BaseException",.type "object"] "ValueError.__new__"=true/\aO9 K D/\PySem.W.kitOne K (.ref D) (.ref C)=some b1/\PySem.W.kitOne K (.ref D) (.ref c)=some b2/\PySem.W.kitOne K (.ref D) (.ref B)=some b3/\PySem.W.kitOne K (.ref D) (.type "ValueError")=some true/\PySem.W.exmOne K (.ref D) (.ref W)=some true
theorem mkE{K:cW0}{x:Str}{b1 b2 b3:Bool}{D C c B W:Addr}(a1:PySem.W.nsIn K mainGlobals x=some (some (.ref D)))(a2:PySem.W.nsIn K mainGlobals "BadNet"=some (some (.ref C)))(a3:PySem.W.nsIn K mainGlobals "BadFlow"=some (some (.ref c)))(a4:PySem.W.nsIn K mainGlobals "BadFloor"=some (some (.ref B)))(a5:PySem.W.nsIn K mainGlobals "WareError"=some (some (.ref W)))
  (a6:PySem.W.excIn K D [.type "ValueError",.type "Exception",.type "BaseException",.type "object"] "ValueError.__new__"=true) (l1:PySem.W.findIn K (.ref D) "__getattribute__"=some (some (.builtin "BaseException.__getattribute__"))) (l2:PySem.W.findIn K (.ref D) "__getattr__"=some none)
  (l3:PySem.W.findObj K D none "__class__"=some (.bind (.builtin "getset_descriptor.__get__") (.builtin "object.__class__"))) (l4:PySem.W.mroIn K D (.type "object")=some true) (l5:PySem.W.mroIn K D (.type "BaseException")=some true) (l6:(PySem.W.clsIn K D).isSome=true)
  (a7:PySem.W.kitOne K (.ref D) (.ref C)=some b1) (a8:PySem.W.kitOne K (.ref D) (.ref c)=some b2) (a9:PySem.W.kitOne K (.ref D) (.ref B)=some b3) (a10:PySem.W.kitOne K (.ref D) (.type "ValueError")=some true) (a11:PySem.W.exmOne K (.ref D) (.ref W)=some true):bd9 K x b1 b2 b3:=
 ⟨D,C,c,B,W,a1,a2,a3,a4,a5,a6,⟨l1,l2,l3,l4,l5,l6⟩,a7,a8,a9,a10,a11⟩
def bZ5(K:cW0)(x:Str):Prop:=∃D,W.nsIn K mainGlobals x=some (some (.ref D))/\W.excIn K D [.type "ValueError",.type "Exception",.type "BaseException",.type "object"] "ValueError.__new__"=true
theorem mkX{K:cW0}{x:Str}{D:Addr}(a:W.nsIn K mainGlobals x=some (some (.ref D)))(b:W.excIn K D [.type "ValueError",.type "Exception",.type "BaseException",.type "object"] "ValueError.__new__"=true):bZ5 K x:=⟨D,a,b⟩
def aM8(K:cW0):Prop:=∃C F t,W.nsIn K mainGlobals "Board"=some (some (.ref C))/\Cls K C/\(∀f∈fsB,Q4 K C f)/\Mk K C F/\bd2 K C "turn" t/\(∃d,Fun K "__init__" "Board.__init__" (mth 0) F d)/\∃d,Fun K "turn" "Board.turn" (mth 1) t d
theorem mkM{K:cW0}{x q:Str}{j:Nat}{f:Addr}{o:Value}{O:Option Addr}{kV B p:Value}{a:Option Addr}{C t:Value}{l:Array (Option Value)}
  (b:K.lookup f=some ⟨o,O,.func (W.fnOf x q (aE4 (mth j)) (O9 (mth j)) (t7 (mth j)) .none kV B p a C t),l⟩) (c:W.codeIn K C q=true):∃d,Fun K x q (mth j) f d:=⟨_,⟨⟨o,O,kV,B,p,a,C,t,l,rfl,b,c⟩,bb1 b⟩⟩
theorem mkB{K:cW0}{C I F:Addr}(a:W.nsIn K mainGlobals "Board"=some (some (.ref C)))(c1:W.plainGet K C Str.empty=true)(c2:W.hasDictIn K C=true)(c3:W.plainOver K C=true)(c4:W.findIn K (.ref C) "__setattr__"=some (some (.builtin "object.__setattr__")))
  (n1:W.findIn K (.ref C) "sought"=some none) (n2:W.findIn K (.ref C) "rows"=some none) (n3:W.findIn K (.ref C) "owners"=some none) (n4:W.findIn K (.ref C) "under"=some none)
  (m1:W.makesIn K C=true) (m2:W.findIn K (.ref C) "__init__"=some (some (.ref I))) (m3:W.isFn K (.ref I)=true) (m4:W.keepIn K (.ref C)=true)
  (t1:W.findIn K (.ref C) "turn"=some (some (.ref F))) (t2:W.isFn K (.ref F)=true) (t3:W.keepIn K (.ref F)=true)
  (fi:∃d,Fun K "__init__" "Board.__init__" (mth 0) I d) (tt:∃d,Fun K "turn" "Board.turn" (mth 1) F d):aM8 K:=
 ⟨C,I,F,a,⟨c1,c2,c3,c4⟩,λf h=>by
  erw[fsB,cS0,cS3,or_false]at h;rcases h with rfl|rfl|rfl|rfl
  .exact n1
  .exact n2
  .exact n3
  .exact n4,⟨m1,m2,m3,m4⟩,⟨t1,t2,t3⟩,fi,tt⟩
structure cv4(K:cW0):Prop where
 b0:W.nsIn K mainGlobals "ValueError"=some none
 b1:W.nsIn K mainGlobals "abs"=some none
 b2:W.nsIn K mainGlobals "all"=some none
 b3:W.nsIn K mainGlobals "any"=some none
 b4:W.nsIn K mainGlobals "bool"=some none
 b5:W.nsIn K mainGlobals "enumerate"=some none
 b6:W.nsIn K mainGlobals "int"=some none
 b7:W.nsIn K mainGlobals "isinstance"=some none
 b8:W.nsIn K mainGlobals "len"=some none
 b9:W.nsIn K mainGlobals "list"=some none
 b10:W.nsIn K mainGlobals "max"=some none
 b11:W.nsIn K mainGlobals "min"=some none
 b12:W.nsIn K mainGlobals "range"=some none
 b13:W.nsIn K mainGlobals "sum"=some none
 b14:W.nsIn K mainGlobals "tuple"=some none
 b15:W.nsIn K mainGlobals "zip"=some none
structure cv1(K:cW0):Prop where
 c0:an0 K "LEAST_AMOUNT" 1
 c1:an0 K "LEAST_PLACES" 2
 c2:an0 K "LEAST_WARES" 1
 c3:an0 K "MOST_AMOUNT" 20
 c4:an0 K "MOST_PLACES" 6
 c5:an0 K "MOST_WARES" 3
 c6:an0 K "MOST_WAYS" 10
 c7:aT7 K "NOUGHT" 0 1
structure FnK(K:cW0):Prop where
 f0:t6 K "is_whole" 2
 f1:t6 K "common_divisor" 3
 f2:t6 K "is_fraction" 4
 f3:t6 K "reduced" 5
 f4:t6 K "plus" 6
 f5:t6 K "minus" 7
 f6:t6 K "times" 8
 f7:t6 K "total" 9
 f8:t6 K "is_more" 10
 f9:t6 K "turned_row" 46
 f12:t6 K "common_under" 48
 f14:t6 K "first_below_nought" 51
 f15:t6 K "keep_bounds" 49
 f16:t6 K "is_tighter" 54
 f17:t6 K "tightest_row" 53
 f18:t6 K "climb" 52
 f19:t6 K "amounts_of" 55
 f20:t6 K "prices_of" 56
 f21:t6 K "best" 47
 f22:t6 K "is_pair" 29
 f23:t6 K "is_triple" 30
 f24:t6 K "is_within" 31
 f25:t6 K "is_trip" 34
 f26:t6 K "are_rising" 35
 f27:t6 K "are_ways" 32
 f28:t6 K "are_wares" 33
 f29:t6 K "is_net" 28
 f30:t6 K "is_amount" 38
 f31:t6 K "is_row" 37
 f32:t6 K "is_flow" 36
 f33:t6 K "gain" 41
 f34:t6 K "keeps_all" 40
 f35:t6 K "loses_nothing" 39
 f36:t6 K "load" 43
 f37:t6 K "has_room" 42
 f38:t6 K "need_net" 24
 f39:t6 K "need_flow" 25
 f40:t6 K "goes" 26
 f41:t6 K "brought" 27
 f42:t6 K "trails_of" 61
 f43:t6 K "lanes_of" 60
 f44:t6 K "ware_row" 62
 f45:t6 K "way_row" 63
 f46:t6 K "by_wants" 66
 f47:t6 K "bounds_of" 64
 f48:t6 K "flow_row" 65
 f49:t6 K "raised" 59
 f50:t6 K "cost" 69
 f51:t6 K "worth" 70
 f52:t6 K "greatest_share" 58
 f53:t6 K "brings" 67
 f54:t6 K "is_paper" 68
 f55:t6 K "brought_worth" 76
 f56:t6 K "bars" 75
 f57:t6 K "barring_paper" 73
 f58:t6 K "fair_shares" 72
 f59:t6 K "shows_fair" 74
 f60:t6 K "_law_cell" 78
 f61:t6 K "_law_drawn" 79
 f62:t6 K "_law_made" 82
 f63:t6 K "_law_plus" 83
 f64:t6 K "_law_times" 84
 f65:t6 K "_law_all" 85
 f66:t6 K "_law_under" 86
 f67:t6 K "_law_net" 88
 f68:t6 K "_law_net_at" 89
 f69:t6 K "_law_goes" 90
 f70:t6 K "_law_brought" 91
 f71:t6 K "_law_rows" 92
 f72:t6 K "_law_heights_right" 93
 f73:t6 K "_law_cost" 94
 f74:t6 K "_law_bent" 95
 f75:t6 K "_law_paper_right" 96
 f76:t6 K "_law_is_so" 97
 f77:t6 K "_law_least" 98
 wo:t6 K "_law_word" 80
 tl:t6 K "_law_told" 81
 f13:aO6 K "broken_row" 50 297
 f78:aO6 K "law" 99 563
abbrev BA(x:Str)(i:Nat)(p:List Str):Prop:=∀kV d P a c C (u:List Value),u.length=p.length->bindArgs (fnI x i kV d P a c C) ⟨u,[]⟩=pure (p.zip u)
structure Ct(P:Program)(w:World)(aD:Heap)(K:cW0)(h:Heap)(mg:Str->Option Value):Prop extends FnK K where
 X:K.In h
 G:h.Ns mainGlobals mg
 B:Blt mg
 C:Cst K mg
 Z:cu9 K mg
section
variable {P:Program}{w:World}{aD:Heap}{K:cW0}{mg:Str->Option Value}(q:Ct P w aD K h mg)(F:t6 K x i)(n:Nat)(N:List Str)
abbrev Ct.c(_:Ct P w aD K h mg):=Cal P w K mg aD
abbrev Ct.r(_:Ct P w aD K h mg):=bE6 P w K mg aD
include q F
theorem mkT{g:GS}(b:∀{f c A o s H E},G9 k (A.deeper (envOfC x (t7 (top i)) s.sz f c))->Wd (aq9 (F9 CX0 P w K mg aD N x (t7 (top i)) f c A o s H E).nox (O9 (top i)) g))(S:Q1 N (N.take n) (t7 (top i)):=by constructor<;>first |rfl|decide +kernel)(B:BA x i (N.take n):=by rintro _ _ _ _ _ _ (_|⟨_,_|⟨_,_|⟨_,_|⟨_,_|⟨_,_|_⟩⟩⟩⟩⟩) h<;>first |rfl|cases h)(p:(N.take n).length<=N.length:=by decide):q.c x (k+1) (N.take n).length (A6 (N.take n).length N.length g):=by
 obtain⟨f,d,F,m⟩:=ak4 q.X q.G F;exact⟨f,d,_,m,F.kp,F.binds B,fnT F S p λ_ _ _ _ _ _ r=>(b r).run⟩
theorem mkO{g:GS}(b:∀{f c A o s H E},G9 k (A.deeper (envOfC x (t7 (top i)) s.sz f c))->aB7 (F9 CX0 P w K mg aD N x (t7 (top i)) f c A o s H E).nox [] [] (O9 (top i)) g)(S:Q1 N (N.take n) (t7 (top i)):=by constructor<;>first |rfl|decide +kernel)(B:BA x i (N.take n):=by rintro _ _ _ _ _ _ (_|⟨_,_|⟨_,_|⟨_,_|⟨_,_|⟨_,_|_⟩⟩⟩⟩⟩) h<;>first |rfl|cases h)(p:(N.take n).length<=N.length:=by decide):q.c x (k+1) (N.take n).length (A6 (N.take n).length N.length g):=by
 obtain⟨f,d,F,m⟩:=ak4 q.X q.G F;exact⟨f,d,_,m,F.kp,F.binds B,fnO F S p λ_ _ _ _ _ _=>b⟩
theorem mkR{g:GR}(b:∀{f c A o s H E},G9 k (A.deeper (envOfC x (t7 (top i)) s.sz f c))->aL6 (F9 (CX1 P w) P w K mg aD N x (t7 (top i)) f c A o s H E) E (O9 (top i)) g)(S:Q1 N (N.take n) (t7 (top i)):=by constructor<;>first |rfl|decide +kernel)(B:BA x i (N.take n):=by rintro _ _ _ _ _ _ (_|⟨_,_|⟨_,_|⟨_,_|⟨_,_|⟨_,_|_⟩⟩⟩⟩⟩) h<;>first |rfl|cases h)(p:(N.take n).length<=N.length:=by decide):q.r x (k+1) (N.take n).length (aA9 (N.take n).length N.length g):=by
 obtain⟨f,d,F,m⟩:=ak4 q.X q.G F;exact⟨f,d,_,m,F.kp,F.binds B,fnR F S p λ_ _ _ _ _ _=>b⟩
end
section
variable {P:Program}{w:World}{g:Heap}{K:cW0}{i:Str->Option Value}(q:Ct P w g K h i)
include q
theorem g0:q.c "is_whole" 2 1 aj7:=mkT q q.f0 1 ["thing"] λH=>
 j7 (m6 (C0 (Z8 .int q.B.isinstance q.B.int boot_int d7) (O7 (aN1 (Z8 .bool q.B.isinstance q.B.bool boot_bool d7)))))
theorem g1:q.c "common_divisor" 2 2 Z1:=mkT q q.f1 2 ["top","under","rest"] λH=>
 k9 (aG1 ap0 (W6 H e7 j5) (k9 (u8 2 (N0 d7 e7)) (k9 (u8 0 e7) (j7 (u8 1 m9))))) (j7 (m6 d7))
theorem g2:q.c "is_fraction" 3 1 ak9:=mkT q q.f2 1 ["thing"] λH=>
 j7 (m6 (C0 (Z8 .tuple q.B.isinstance q.B.tuple boot_tuple d7) (C0 (Y5 H (A5 q.B.len (c9 d7)) j5) (C0 (j6 (g0 q) H (c9 (e9 d7))) (C0 (j6 (g0 q) H (c9 (e9 d7))) (C0 (bH6 (e9 d7) j5) (O7 (Y5 H (j6 (g1 q) H (c8 (e9 d7) (c9 (e9 d7)))) j5))))))))
theorem g3:q.c "reduced" 3 2 ae0:=mkT q q.f3 2 ["top","under","divisor"] λH=>
 k9 (u8 2 (j6 (g1 q) H (c8 d7 (c9 e7)))) (j7 (m6 (A2 (c8 (M4 d7 m9) (c9 (M4 e7 m9))))))
theorem g4:q.c "plus" 4 2 ab0:=mkT q q.f4 2 ["one","other"] λH=>
 j7 (m6 (j6 (g3 q) H (c8 (C4 (G7 (e9 d7) (e9 e7)) (G7 (e9 e7) (e9 d7))) (c9 (G7 (e9 d7) (e9 e7))))))
theorem g5:q.c "minus" 5 2 an1:=mkT q q.f5 2 ["one","other"] λH=>
 j7 (m6 (j6 (g4 q) H (c8 d7 (by exact(c8 (by exact(A2 (c8 (N8 (e9 e7)) (c9 (e9 e7))))) t9)))))
theorem g6:q.c "times" 4 2 af6:=mkT q q.f6 2 ["one","other"] λH=>
 j7 (m6 (j6 (g3 q) H (c8 (G7 (e9 d7) (e9 e7)) (c9 (G7 (e9 d7) (e9 e7))))))
theorem g7:q.c "total" 5 1 Y3:=mkT q q.f7 1 ["parts","found","part"] λH=>
 k9 (u8 1 (ah1 q.C.NOUGHT)) (k9 (N1 (z8 d7) (o9 2) (j7 (u8 1 (j6 (g4 q) H (c8 e7 (c9 m9)))))) (j7 (m6 e7)))
theorem g8:q.c "is_more" 2 2 R6:=mkT q q.f8 2 ["one","other"] λH=>
 j7 (m6 (bH6 (G7 (e9 d7) (e9 e7)) (G7 (e9 e7) (e9 d7))))
theorem g9:q.c "turned_row" 2 4 ad4:=mkT q q.f9 4 ["row","kept","column","under"] λH=>
 j7 (m6 (A9 (P3 q.B.zip (c8 d7 (c9 e7))) (D4 0 1) o8 (M4 (av6 (G7 d7 (y6 r8 B8)) (G7 e7 (y6 B7 B8))) m9)))
theorem g12:q.c "common_under" 2 1 ad7:=mkT q q.f12 1 ["fractions","found","fraction"] λH=>
 k9 (u8 1 j5) (k9 (N1 (z8 d7) (o9 2) (j7 (u8 1 (G7 e7 (e9 m9))))) (j7 (m6 e7)))
theorem g13(b:BM i g):q.c "broken_row" 2 1 Z2:=by
 obtain⟨_,_,_,V,n,H⟩:=bx1 q.X q.G q.f13;have p:((297:Addr),("broken_row.<locals>.<lambda>":Str))∈ag4:=by decide +kernel
 have B:(("broken_row":Str)++".<locals>.")++"<lambda>"="broken_row.<locals>.<lambda>":=by decide +kernel
 exact⟨_,_,["board"],n,V.kp,V.toFun.binds λ_ _ _ _ _ _=>bo4 λ_=>rfl,cs5 (k:=1) (N:=["board","broken"]) (p:=["board"]) (g:=ay9) V (by constructor<;>first |rfl|decide +kernel) ∎ λ_ _ _ _ _ r=>
 (Wd.run (k9 (aC5 1 (J5 q.B.range (c9 (A5 q.B.len (c9 (M3 d7))))) (o9 0) (be6 (an5 (y6 (y6 (M3 e7) d7) (N8 j5)) j5)) d7) (j7 (m6 (bU0 (x0:="number") (bn:="board") b rfl r.d0 rfl q.B.min p B rfl H rfl rfl rfl (λ_ _ _ _ _ _=>rfl) (λ_ _ _ _ _=>(y6 (M3 e7) d7)) e7 M2)))))⟩
theorem g14:q.c "first_below_nought" 2 1 E9:=mkT q q.f14 1 ["numbers","column","number"] λH=>
 k9 (N1 (V6 q.B.enumerate (c9 d7)) (D4 1 2) (j7 (K3 (an5 m9 j5) (j7 (m6 e7)) F0))) (j7 (m6 M2))
theorem g16:q.c "is_tighter" 2 4 ad6:=mkT q q.f16 4 ["board","column","one","other","row","rival","gap"] λH=>
 k9 (u8 4 (y6 (M3 d7) m9)) (k9 (u8 5 (y6 (M3 d7) r8)) (k9 (u8 6 (av6 (G7 (y6 B8 (N8 j5)) (y6 B7 e7)) (G7 (y6 B7 (N8 j5)) (y6 B8 e7)))) (j7 (m6 (cm2 (bl9 K2 j5) (O7 (C0 (Y5 H K2 j5) (O7 (bl9 (y6 (M3 d7) m9) (y6 (M3 d7) r8))))))))))
theorem g17:q.c "tightest_row" 3 2 ad5:=mkT q q.f17 2 ["board","column","chosen","number"] λH=>
 k9 (u8 2 M2) (k9 (N1 (J5 q.B.range (c9 (A5 q.B.len (c9 (M3 d7))))) (o9 3) (j7 (K3 (ac7 (al2 (bH9 (y6 (y6 (M3 d7) r8) e7) j5) (am1 (ac7 (X9 (ap4 m9 M2) (ab5 (Y0 (j6 (g16 q) H (c8 d7 (c8 e7 (c8 r8 (c9 m9)))))))))))) (j7 (u8 2 r8)) F0))) (j7 (m6 m9)))
theorem g19:q.c "amounts_of" 4 2 ai7:=mkO q q.f19 2 ["board","scale","found","number","column"] λH=>
 D8 (be8 2 (J5 q.B.range (c9 (M3 d7))) (o9 0) o8 (ah1 q.C.NOUGHT)) (D8 (ap6 (V6 q.B.enumerate (c9 (M3 d7))) (D4 3 4) (S9 (aN3 (an5 B8 (M3 d7)) (S9 (bU1 2 (j6 (g3 q) H (c8 (y6 (y6 (M3 d7) r8) (N8 j5)) (c9 (G7 (M3 d7) e7)))) B8)) aG3))) (S9 (ap5 m9)))
theorem g20:q.c "prices_of" 4 1 ak7:=mkT q q.f20 1 ["board"] λH=>
 j7 (m6 (A9 (z8 (bu5 (y6 (M3 d7) (N8 j5)) (M3 d7) (N8 j5))) (o9 0) o8 (j6 (g3 q) H (c8 d7 (c9 (M3 e7))))))
theorem g22:q.c "is_pair" 2 1 bh8:=mkT q q.f22 1 ["thing"] λH=>
 j7 (m6 (C0 (Z8 .tuple q.B.isinstance q.B.tuple boot_tuple d7) (O7 (Y5 H (A5 q.B.len (c9 d7)) j5))))
theorem g23:q.c "is_triple" 2 1 ac4:=mkT q q.f23 1 ["thing"] λH=>
 j7 (m6 (C0 (Z8 .tuple q.B.isinstance q.B.tuple boot_tuple d7) (O7 (Y5 H (A5 q.B.len (c9 d7)) j5))))
theorem g24:q.c "is_within" 3 3 ac3:=mkT q q.f24 3 ["thing","least","most"] λH=>
 j7 (m6 (C0 (j6 (g0 q) H (c9 d7)) (O7 (bm0 e7 d7 m9))))
theorem g25:q.c "is_trip" 4 4 X5:=mkT q q.f25 4 ["thing","places","least","most"] λH=>
 j7 (m6 (C0 (j6 (g23 q) H (c9 d7)) (C0 (j6 (g24 q) H (c8 (e9 d7) (c8 j5 (c9 (av6 e7 j5))))) (C0 (j6 (g24 q) H (c8 (e9 d7) (c8 j5 (c9 (av6 e7 j5))))) (C0 (cm3 H (e9 d7) (e9 d7)) (O7 (j6 (g24 q) H (c8 (e9 d7) (c8 m9 (c9 r8))))))))))
theorem g26:q.c "are_rising" 2 1 ad8:=mkT q q.f26 1 ["ways"] λH=>
 j7 (m6 (aj2 q.B.all (c9 (A9 (P3 q.B.zip (c8 d7 (c9 (am0 1 none d7 (.inl am5) ah6)))) (D4 0 1) o8 (cf0 H.units0 (am0 0 (some 2) d7 (.inr ⟨rfl,ah6⟩) am5) (am0 0 (some 2) e7 (.inr ⟨rfl,ah6⟩) am5))))))
theorem g27:q.c "are_ways" 5 2 ab3:=mkT q q.f27 2 ["things","places"] λH=>
 j7 (m6 (C0 (Z8 .list q.B.isinstance q.B.list boot_list d7) (C0 (cm4 (A5 q.B.len (c9 d7)) (ae2 q.C.MOST_WAYS)) (C0 (aj2 q.B.all (c9 (A9 (z8 d7) (o9 0) o8 (j6 (g25 q) H (c8 d7 (c8 e7 (c8 (ae2 q.C.LEAST_AMOUNT) (c9 (ae2 q.C.MOST_AMOUNT))))))))) (O7 (j6 (g26 q) H (c9 d7)))))))
theorem g28:q.c "are_wares" 5 2 ac5:=mkT q q.f28 2 ["things","places"] λH=>
 j7 (m6 (C0 (Z8 .list q.B.isinstance q.B.list boot_list d7) (C0 (bm0 (ae2 q.C.LEAST_WARES) (A5 q.B.len (c9 d7)) (ae2 q.C.MOST_WARES)) (O7 (aj2 q.B.all (c9 (A9 (z8 d7) (o9 0) o8 (j6 (g25 q) H (c8 d7 (c8 e7 (c8 (ae2 q.C.LEAST_AMOUNT) (c9 (ae2 q.C.MOST_AMOUNT)))))))))))))
theorem g29:q.c "is_net" 6 1 ae9:=mkT q q.f29 1 ["net"] λH=>
 j7 (m6 (C0 (j6 (g23 q) H (c9 d7)) (C0 (j6 (g24 q) H (c8 (e9 d7) (c8 (ae2 q.C.LEAST_PLACES) (c9 (ae2 q.C.MOST_PLACES))))) (C0 (j6 (g27 q) H (c8 (e9 d7) (c9 (e9 d7)))) (O7 (j6 (g28 q) H (c8 (e9 d7) (c9 (e9 d7)))))))))
theorem g30:q.c "is_amount" 4 1 X6:=mkT q q.f30 1 ["thing"] λH=>
 j7 (m6 (C0 (j6 (g2 q) H (c9 d7)) (O7 (cm5 (e9 d7) j5))))
theorem g31:q.c "is_row" 5 2 N6:=mkT q q.f31 2 ["row","length"] λH=>
 j7 (m6 (C0 (Z8 .list q.B.isinstance q.B.list boot_list d7) (C0 (Y5 H (A5 q.B.len (c9 d7)) e7) (O7 (aj2 q.B.all (c9 (A9 (z8 d7) (o9 0) o8 (j6 (g30 q) H (c9 d7)))))))))
theorem g32:q.c "is_flow" 6 2 R7:=mkT q q.f32 2 ["net","flow"] λH=>
 j7 (m6 (C0 (Z8 .list q.B.isinstance q.B.list boot_list e7) (C0 (Y5 H (A5 q.B.len (c9 e7)) (A5 q.B.len (c9 (e9 d7)))) (O7 (aj2 q.B.all (c9 (A9 (z8 e7) (o9 0) o8 (j6 (g31 q) H (c8 d7 (c9 (A5 q.B.len (c9 (e9 e7)))))))))))))
theorem g33:q.c "gain" 6 3 at6:=mkT q q.f33 3 ["ways","row","place","found","way","amount"] λH=>
 k9 (u8 3 (ah1 q.C.NOUGHT)) (k9 (N1 (P3 q.B.zip (c8 d7 (c9 e7))) (D4 4 5) (k9 (K3 (aa1 H (e9 B8) m9) (j7 (u8 3 (j6 (g4 q) H (c8 r8 (c9 B7))))) F0) (j7 (K3 (aa1 H (e9 B8) m9) (j7 (u8 3 (j6 (g5 q) H (c8 r8 (c9 B7))))) F0)))) (j7 (m6 r8)))
theorem g34:q.c "keeps_all" 7 3 as2:=mkT q q.f34 3 ["net","ware","row","between"] λH=>
 k9 (aC5 3 (J5 q.B.range (c9 (e9 d7))) (o9 0) (be6 (az4 d7 (am0 0 (some 2) e7 (.inr ⟨rfl,ah6⟩) am5))) d7) (j7 (m6 (aj2 q.B.all (c9 (A9 (z8 r8) (o9 0) o8 (Y5 H (j6 (g33 q) H (c8 (e9 m9) (c8 e7 (c9 d7)))) (ah1 q.C.NOUGHT)))))))
theorem g35:q.c "loses_nothing" 8 2 ab1:=mkT q q.f35 2 ["net","flow"] λH=>
 j7 (m6 (aj2 q.B.all (c9 (A9 (P3 q.B.zip (c8 (e9 d7) (c9 e7))) (D4 0 1) o8 (j6 (g34 q) H (c8 m9 (c8 d7 (c9 e7))))))))
theorem g36:q.c "load" 6 2 bs2:=mkT q q.f36 2 ["flow","number"] λH=>
 j7 (m6 (j6 (g7 q) H (c9 (A9 (z8 d7) (o9 0) o8 (y6 d7 e7)))))
theorem g37:q.c "has_room" 7 2 ao7:=mkT q q.f37 2 ["net","flow"] λH=>
 j7 (m6 (aN1 (ba3 q.B.any (c9 (A9 (V6 q.B.enumerate (c9 (e9 d7))) (D4 0 1) o8 (j6 (g8 q) H (c8 (by exact(j6 (g36 q) H (c8 m9 (c9 d7)))) (by exact(c8 (by exact(A2 (c8 (e9 e7) (c9 j5)))) t9)))))))))
theorem g38:q.r "need_net" 7 1 X7:=mkR q q.f38 1 ["net"] λH=>
 ai9 (bG5 (Wd.run (am2 (Y0 (j6 (g29 q) H (c9 d7))))) (ai9 (be4 q.Z.BadNet PySem.F.excBase_ValueError rfl)) bt7)
theorem g39:q.r "need_flow" 7 2 ao8:=mkR q q.f39 2 ["net","flow"] λH=>
 ai9 (bG5 (Wd.run (am2 (Y0 (j6 (g32 q) H (c8 d7 (c9 e7)))))) (ai9 (be4 q.Z.BadFlow PySem.F.excBase_ValueError rfl)) bt7)
theorem g40:q.r "goes" 9 2 aO8:=mkR q q.f40 2 ["net","flow"] λH=>
 Y4 (al0 (aj1 (g38 q) ap8 H ∎ rfl (Wd.run (c9 d7)))) (Y4 (al0 (aj1 (g39 q) ap8 H ∎ rfl (Wd.run (c8 d7 (c9 e7))))) (ai9 (ae1 (Wd.run (m6 (C0 (j6 (g35 q) H (c8 d7 (c9 e7))) (O7 (j6 (g37 q) H (c8 d7 (c9 e7))))))))))
theorem g41:q.r "brought" 8 2 av5:=mkR q q.f41 2 ["net","flow"] λH=>
 Y4 (al0 (aj1 (g38 q) ap8 H ∎ rfl (Wd.run (c9 d7)))) (Y4 (al0 (aj1 (g39 q) ap8 H ∎ rfl (Wd.run (c8 d7 (c9 e7))))) (ai9 (ae1 (Wd.run (m6 (A9 (P3 q.B.zip (c8 (e9 d7) (c9 e7))) (D4 0 1) o8 (j6 (g33 q) H (c8 (e9 m9) (c8 e7 (c9 (e9 d7)))))))))))
theorem g42:q.c "trails_of" 9 3 ak6:=by
 obtain⟨_,_,F,m⟩:=ak4 q.X q.G q.f42;exact aK4 q.B F m 7
theorem g43:q.c "lanes_of" 10 1 ao6:=mkO q q.f43 1 ["net","lanes","number","ware"] λH=>
 D8 (aG4 1) (D8 (ap6 (V6 q.B.enumerate (c9 (e9 d7))) (D4 2 3) (S9 (aR4 1 (A9 (z8 (j6 (g42 q) H (c8 (by exact(e9 d7)) (by exact(c8 (by exact(C6 (c9 (e9 r8)))) (by exact(c8 (by exact(e9 r8)) t9))))))) (o9 0) o8 (A2 (c8 e7 (c9 d7))))))) (S9 (ap5 e7)))
theorem g44:q.c "ware_row" 2 4 av2:=mkT q q.f44 4 ["wanted","lanes","kept","number"] λH=>
 j7 (m6 (C4 (C6 (c9 (T5 (ap4 m9 M2) d7 j5))) (A9 (z8 e7) (o9 0) o8 (T5 (aa1 H (e9 d7) e7) (N8 j5) j5))))
theorem g45:q.c "way_row" 2 2 aA7:=mkT q q.f45 2 ["lanes","number"] λH=>
 j7 (m6 (C4 (C6 (c9 j5)) (A9 (z8 d7) (o9 0) o8 (T5 (bH8 e7 (e9 d7)) j5 j5))))
theorem g46:q.c "by_wants" 5 2 ab2:=mkT q q.f46 2 ["net","fractions"] λH=>
 j7 (m6 (A9 (P3 q.B.zip (c8 e7 (c9 (e9 d7)))) (D4 0 1) o8 (j6 (g6 q) H (c8 d7 (by exact(c8 (by exact(A2 (c8 (e9 e7) (c9 j5)))) t9))))))
theorem g47:q.c "bounds_of" 6 2 as3:=mkT q q.f47 2 ["net","held","brings_less"] λH=>
 k9 (u8 2 (j6 (g46 q) H (c8 d7 (by exact(c8 (by exact(A9 (z8 e7) (o9 0) o8 (T5 (ap4 d7 M2) (ah1 q.C.NOUGHT) (A2 (c8 (N8 (e9 d7)) (c9 (e9 d7))))))) t9))))) (j7 (m6 (C4 m9 (A9 (z8 (e9 d7)) (o9 0) o8 (A2 (c8 (e9 d7) (c9 j5)))))))
theorem g48:q.c "flow_row" 6 5 av4:=mkT q q.f48 5 ["ways","lanes","amounts","number","wanted","row","left","lane","amount","taken"] λH=>
 k9 (aC5 5 (J5 q.B.range (c9 d7)) (o9 0) o8 (ah1 q.C.NOUGHT)) (k9 (u8 6 B8) (k9 (N1 (P3 q.B.zip (c8 e7 (c9 m9))) (D4 7 8) (j7 (K3 (aa1 H (e9 S8) r8) (k9 (u8 9 (T5 (Y0 (j6 (g8 q) H (c8 ap3 (c9 K2)))) K2 ap3)) (k9 (u8 6 (j6 (g5 q) H (c8 K2 (c9 ah0)))) (j7 (aC5 5 (V6 q.B.enumerate (c9 B7)) (D4 0 1) o8 (T5 (bH8 d7 (e9 r8)) (j6 (g4 q) H (c8 e7 (c9 m9))) e7))))) F0))) (j7 (m6 B7))))
theorem g49(B:q.c "best" 5 3 aF1):q.c "raised" 11 2 Q9:=mkO q q.f49 2 ["net","held","lanes","wares","rows","told","share","wanted","flow"] λH=>
 D8 (ab6 2 (j6 (g43 q) H (c9 d7))) (D8 (ab6 3 (A5 q.B.len (c9 (e9 d7)))) (D8 (be8 4 (J5 q.B.range (c9 r8)) (o9 0) o8 (j6 (g44 q) H (c8 (e9 (y6 (e9 r8) d7)) (c8 e7 (c8 (y6 m9 d7) (c9 d7)))))) (D8 (bz6 4 (aR4 4 (A9 (J5 q.B.range (c9 (A5 q.B.len (c9 (e9 d7))))) (o9 0) o8 (j6 (g45 q) H (c8 e7 (c9 d7)))))) (D8 (ab6 5 (j6 B H (c8 (by exact(C4 (C6 (c9 j5)) (A9 (z8 m9) (o9 0) o8 j5))) (by exact(c8 B8 (by exact(c8 (by exact(j6 (g47 q) H (c8 d7 (c9 e7)))) t9))))))) (D8 (ab6 6 (e9 (e9 B7))) (D8 (ab6 7 (j6 (g46 q) H (c8 d7 (c9 (A9 (z8 e7) (o9 0) o8 (T5 (ap4 d7 M2) e7 d7)))))) (D8 (bI0 8 (J5 q.B.range (c9 r8)) (o9 0) o8 (j6 (g48 q) H (c8 (A5 q.B.len (c9 (e9 r8))) (c8 e7 (c8 (am0 1 none (e9 B8) (.inl am5) ah6) (c8 d7 (c9 (y6 m9 d7)))))))) (S9 (ap5 (A2 (c8 K2 (by exact(c8 ap3 (by exact(c8 (by exact(A2 (c8 (ba2 (e9 B7) r8) (c9 (av8 (e9 B7) r8))))) t9)))))))))))))))
theorem g50:q.c "cost" 6 2 aZ1:=mkT q q.f50 2 ["prices","trail"] λH=>
 j7 (m6 (j6 (g7 q) H (c9 (A9 (z8 e7) (o9 0) o8 (y6 e7 d7)))))
theorem g51:q.c "worth" 6 2 aO7:=mkT q q.f51 2 ["net","prices"] λH=>
 j7 (m6 (j6 (g7 q) H (c8 (by exact(A9 (P3 q.B.zip (c8 e7 (c9 (e9 d7)))) (D4 0 1) o8 (j6 (g6 q) H (c8 d7 (by exact(c8 (by exact(A2 (c8 (e9 e7) (c9 j5)))) t9)))))) t9)))
theorem g52(g49:q.c "raised" 11 2 Q9):q.r "greatest_share" 12 1 W9:=mkR q q.f52 1 ["net"] λH=>
 Y4 (al0 (aj1 (g38 q) ap8 H ∎ rfl (Wd.run (c9 d7)))) (ai9 (ae1 (Wd.run (m6 (j6 g49 H (c8 d7 (c9 (A9 (z8 (e9 d7)) (o9 0) o8 M2))))))))
theorem g53:q.c "brings" 10 3 W4:=mkT q q.f53 3 ["net","flow","shares"] λH=>
 j7 (m6 (C0 (j6 (g32 q) H (c8 d7 (c9 e7))) (C0 (al1 (g40 q) H (c8 d7 (c9 e7))) (O7 (Y5 H (al1 (g41 q) H (c8 d7 (c9 e7))) (j6 (g46 q) H (c8 d7 (c9 m9))))))))
theorem g54:q.c "is_paper" 11 2 av3:=mkT q q.f54 2 ["net","paper"] λH=>
 j7 (m6 (C0 (j6 (g22 q) H (c9 e7)) (C0 (j6 (g31 q) H (c8 (e9 e7) (c9 (A5 q.B.len (c9 (e9 d7)))))) (C0 (j6 (g31 q) H (c8 (e9 e7) (c9 (A5 q.B.len (c9 (e9 d7)))))) (O7 (aN1 (ba3 q.B.any (c9 (A9 (z8 (j6 (g43 q) H (c9 d7))) (o9 0) o8 (j6 (g8 q) H (c8 (y6 (e9 e7) (e9 d7)) (c9 (j6 (g50 q) H (c8 (e9 e7) (c9 (e9 d7))))))))))))))))
theorem g55:q.c "brought_worth" 6 3 ag3:=mkT q q.f55 3 ["net","shares","heights"] λH=>
 j7 (m6 (j6 (g7 q) H (c8 (by exact(A9 (P3 q.B.zip (c8 m9 (c9 (j6 (g46 q) H (c8 d7 (c9 e7)))))) (D4 0 1) o8 (j6 (g6 q) H (c8 d7 (c9 e7))))) t9)))
theorem g56:q.c "bars" 12 4 az3:=mkT q q.f56 4 ["net","shares","paper","number"] λH=>
 j7 (m6 (C0 (j6 (g54 q) H (c8 d7 (c9 m9))) (C0 (j6 (g8 q) H (c8 (y6 (e9 m9) r8) (c9 (ah1 q.C.NOUGHT)))) (C0 (aN1 (ba3 q.B.any (c9 (A9 (P3 q.B.zip (c8 e7 (c9 (e9 m9)))) (D4 0 1) o8 (C0 (j6 (g8 q) H (c8 d7 (c9 (y6 m9 r8)))) (O7 (j6 (g8 q) H (c8 e7 (c9 (ah1 q.C.NOUGHT)))))))))) (O7 (Y5 H (j6 (g51 q) H (c8 d7 (c9 (e9 m9)))) (j6 (g55 q) H (c8 d7 (c8 e7 (c9 (e9 m9)))))))))))
theorem g57(g49:q.c "raised" 11 2 Q9):q.c "barring_paper" 12 3 R8:=mkT q q.f57 3 ["net","level","number","told"] λH=>
 k9 (u8 3 (j6 g49 H (c8 d7 (by exact(c8 (by exact(A9 (V6 q.B.enumerate (c9 e7)) (D4 0 1) o8 (T5 (aa1 H d7 m9) M2 e7))) t9))))) (j7 (m6 (T5 (aa1 H (e9 r8) (y6 e7 m9)) (e9 r8) M2)))
theorem g58(g49:q.c "raised" 11 2 Q9)(g57:q.c "barring_paper" 12 3 R8):q.r "fair_shares" 13 1 M6:=mkR q q.f58 1 ["net","settled","papers","flow","told","level"] λH=>
 Y4 (al0 (aj1 (g38 q) ap8 H ∎ rfl (Wd.run (c9 d7)))) (Y4 (ae1 (Wd.run (as6 1 (A9 (z8 (e9 d7)) (o9 0) o8 M2)))) (Y4 (ae1 (Wd.run (as6 2 (A9 (z8 (e9 d7)) (o9 0) o8 M2)))) (Y4 (ae1 (Wd.run (u8 3 (C6 t9)))) (Y4 (ce3 (Wd.run (aG1 ay0 (cf4 H.u1 M2 e7) (k9 (u8 4 (j6 g49 H (c8 d7 (c9 e7)))) (k9 (u8 3 (e9 B8)) (k9 (as6 5 (A9 (z8 e7) (o9 0) o8 (T5 (ap4 d7 M2) (e9 e7) d7))) (k9 (as6 2 (A9 (J5 q.B.range (c9 (A5 q.B.len (c9 B7)))) (o9 0) o8 (T5 (ap4 (y6 B8 d7) M2) (j6 g57 H (c8 e7 (c8 m9 (c9 d7)))) (y6 r8 d7)))) (j7 (as6 1 (A9 (P3 q.B.zip (c8 m9 (c9 B7))) (D4 0 1) o8 (T5 (ap4 d7 M2) M2 e7))))))))))) (ai9 (ae1 (Wd.run (m6 (A2 (c8 e7 (c8 r8 (c9 m9))))))))))))
theorem g59:q.r "shows_fair" 13 2 A8:=mkR q q.f59 2 ["net","triple"] λH=>
 Y4 (al0 (aj1 (g38 q) ap8 H ∎ rfl (Wd.run (c9 d7)))) (ai9 (ae1 (Wd.run (m6 (C0 (j6 (g23 q) H (c9 e7)) (C0 (j6 (g31 q) H (c8 (e9 e7) (c9 (A5 q.B.len (c9 (e9 d7)))))) (C0 (j6 (g53 q) H (c8 d7 (c8 (e9 e7) (c9 (e9 e7))))) (C0 (Z8 .list q.B.isinstance q.B.list boot_list (e9 e7)) (C0 (Y5 H (A5 q.B.len (c9 (e9 e7))) (A5 q.B.len (c9 (e9 d7)))) (O7 (aj2 q.B.all (c9 (A9 (V6 q.B.enumerate (c9 (e9 e7))) (D4 0 1) o8 (j6 (g56 q) H (c8 m9 (c8 (e9 r8) (c8 e7 (c9 d7))))))))))))))))))
theorem g60:q.c "_law_cell" 2 2 az2:=mkT q q.f60 2 ["_law_script","_law_k"] λH=>
 k9 (K3 (aa1 H d7 (C6 t9)) (j7 (m6 (G7 e7 j5))) F0) (j7 (m6 (C4 (y6 d7 (N0 e7 (A5 q.B.len (c9 d7)))) (G7 (M4 e7 (A5 q.B.len (c9 d7))) j5))))
theorem g61:q.c "_law_drawn" 2 2 U3:=mkT q q.f61 2 ["_law_cell_here","_law_k","_law_more"] λH=>
 k9 (u8 2 (N0 (C4 (G7 d7 j5) (G7 (C4 e7 j5) j5)) j5)) (j7 (m6 (N0 (G7 m9 m9) j5)))
theorem g62:q.c "_law_made" 2 2 az0:=mkT q q.f62 2 ["_law_top","_law_under_here","_law_one","_law_other"] λH=>
 k9 (bl8 2 3 (c8 (cf2 q.B.abs (c9 d7)) (c9 e7))) (k9 (aG1 aP4 (bH9 r8 j5) (j7 (bl8 2 3 (c8 r8 (c9 (N0 m9 r8)))))) (j7 (m6 (A2 (c8 (M4 d7 m9) (c9 (M4 e7 m9)))))))
theorem g63:q.c "_law_plus" 3 2 W3:=mkT q q.f63 2 ["_law_one","_law_other"] λH=>
 j7 (m6 (j6 (g62 q) H (c8 (C4 (G7 (e9 d7) (e9 e7)) (G7 (e9 e7) (e9 d7))) (c9 (G7 (e9 d7) (e9 e7))))))
theorem g64:q.c "_law_times" 3 2 P7:=mkT q q.f64 2 ["_law_one","_law_other"] λH=>
 j7 (m6 (j6 (g62 q) H (c8 (G7 (e9 d7) (e9 e7)) (c9 (G7 (e9 d7) (e9 e7))))))
theorem g65:q.c "_law_all" 4 1 V2:=mkT q q.f65 1 ["_law_some","_law_found","_law_one"] λH=>
 k9 (u8 1 (A2 (c8 j5 (c9 j5)))) (k9 (N1 (z8 d7) (o9 2) (j7 (u8 1 (j6 (g63 q) H (c8 e7 (c9 m9)))))) (j7 (m6 e7)))
theorem g66:q.c "_law_under" 2 2 L8:=mkT q q.f66 2 ["_law_one","_law_other"] λH=>
 j7 (m6 (bl9 (G7 (e9 d7) (e9 e7)) (G7 (e9 e7) (e9 d7))))
theorem g67:q.c "_law_net" 3 1 aE9:=mkO q q.f67 1 ["_law_more","_law_places","_law_ways","_law_one","_law_other","_law_here","_law_wares","_law_j","_law_first"] λH=>
 D8 (ab6 1 (C4 j5 (N0 d7 j5))) (D8 (aG4 2) (D8 (ap6 (J5 q.B.range (c9 e7)) (o9 3) (S9 (ap6 (J5 q.B.range (c9 e7)) (o9 4) (D8 (ab6 5 (j6 (g61 q) H (c8 d7 (c9 (C4 (G7 j5 r8) B8))))) (S9 (aN3 (ac7 (al2 (W6 H r8 B8) (al2 (an5 (N0 B7 j5) (C4 j5 (N0 (M4 d7 j5) j5))) (am1 (an5 (A5 q.B.len (c9 m9)) j5))))) (S9 (bm3 2 (A2 (c8 r8 (by exact(c8 B8 (by exact(c8 (by exact(C4 j5 (N0 (M4 B7 j5) (y6 (C6 (c8 j5 (c9 j5))) (N0 (M4 d7 j5) j5))))) t9)))))))) aG3)))))) (D8 (aG4 6) (D8 (ap6 (J5 q.B.range (c9 (C4 j5 (N0 (M4 d7 j5) j5)))) (o9 7) (D8 (ab6 5 (j6 (g61 q) H (c8 d7 (c9 (C4 j5 S8))))) (D8 (ab6 8 (N0 B7 e7)) (S9 (bm3 6 (A2 (c8 ap3 (c8 (N0 (C4 (C4 ap3 j5) (N0 (M4 B7 j5) (av6 e7 j5))) e7) (c9 (C4 j5 (N0 (M4 B7 j5) j5))))))))))) (S9 (ap5 (A2 (c8 e7 (c8 m9 (c9 K2))))))))))
theorem g68:q.c "_law_net_at" 4 3 X2:=mkT q q.f68 3 ["_law_net_here","_law_row","_law_place","_law_found","_law_much","_law_way"] λH=>
 k9 (u8 3 (A2 (c8 j5 (c9 j5)))) (k9 (N1 (P3 q.B.zip (c8 e7 (c9 (e9 d7)))) (D4 4 5) (j7 (u8 3 (j6 (g63 q) H (c8 r8 (by exact(c8 (by exact(j6 (g64 q) H (c8 B8 (by exact(c8 (by exact(A2 (c8 (av6 (as7 q.B.int (c9 (Y5 H (e9 B7) m9))) (as7 q.B.int (c9 (Y5 H (e9 B7) m9)))) (c9 j5)))) t9))))) t9))))))) (j7 (m6 r8)))
theorem g69:q.c "_law_goes" 5 2 az1:=mkT q q.f69 2 ["_law_net_here","_law_flow","_law_ware","_law_row","_law_place","_law_at","_law_way"] λH=>
 k9 (N1 (P3 q.B.zip (c8 (e9 d7) (c9 e7))) (D4 2 3) (j7 (N1 (J5 q.B.range (c9 (e9 d7))) (o9 4) (j7 (K3 (ac7 (al2 (az4 B8 (am0 0 (some 2) m9 (.inr ⟨rfl,ah6⟩) am5)) (am1 (W6 H (j6 (g68 q) H (c8 d7 (c8 r8 (c9 B8)))) (A2 (c8 j5 (c9 j5))))))) (j7 (m6 U0)) F0))))) (k9 (N1 (V6 q.B.enumerate (c9 (e9 d7))) (D4 5 6) (j7 (K3 (Y0 (j6 (g66 q) H (c8 (by exact(A2 (c8 (e9 K2) (c9 j5)))) (by exact(c8 (by exact(j6 (g65 q) H (c9 (A9 (z8 e7) (o9 0) o8 (y6 d7 e7))))) t9))))) (j7 (m6 U0)) F0))) (j7 (m6 U0)))
theorem g70:q.c "_law_brought" 5 2 ak5:=mkT q q.f70 2 ["_law_net_here","_law_flow"] λH=>
 j7 (m6 (A9 (P3 q.B.zip (c8 (e9 d7) (c9 e7))) (D4 0 1) o8 (j6 (g68 q) H (c8 m9 (c8 e7 (c9 (e9 d7)))))))
theorem g71:q.c "_law_rows" 9 4 ar1:=by
 obtain⟨_,_,F,m⟩:=ak4 q.X q.G q.f71;exact bf0 q.B F m 7
theorem g72:q.c "_law_heights_right" 10 2 W8:=mkT q q.f72 2 ["_law_net_here","_law_paper","_law_prices","_law_heights","_law_ware","_law_height","_law_row"] λH=>
 k9 (aG2 e7 (D4 2 3)) (k9 (K3 (ac7 (X9 (an5 (aR3 q.B.min (c9 (A9 (z8 (C4 m9 r8)) (o9 0) o8 (e9 d7)))) j5) (X9 (W6 H (A5 q.B.len (c9 m9)) (A5 q.B.len (c9 (e9 d7)))) (ab5 (W6 H (A5 q.B.len (c9 r8)) (A5 q.B.len (c9 (e9 d7)))))))) (j7 (m6 U0)) F0) (k9 (N1 (P3 q.B.zip (c8 (e9 d7) (c9 r8))) (D4 4 5) (j7 (N1 (z8 (j6 (g71 q) H (c8 d7 (by exact(c8 (by exact(e9 B8)) (by exact(c8 (by exact(e9 B8)) (by exact(c8 (by exact(C6 (c9 (e9 B8)))) t9))))))))) (o9 6) (j7 (K3 (Y0 (j6 (g66 q) H (c8 (j6 (g65 q) H (c9 (A9 (z8 K2) (o9 0) o8 (y6 e7 d7)))) (c9 B7)))) (j7 (m6 U0)) F0))))) (j7 (m6 U0))))
theorem g73:q.c "_law_cost" 5 2 aJ0:=mkT q q.f73 2 ["_law_net_here","_law_prices"] λH=>
 j7 (m6 (j6 (g65 q) H (c8 (by exact(A9 (P3 q.B.zip (c8 e7 (c9 (e9 d7)))) (D4 0 1) o8 (j6 (g64 q) H (c8 d7 (by exact(c8 (by exact(A2 (c8 (e9 e7) (c9 j5)))) t9)))))) t9)))
theorem g74:q.c "_law_bent" 4 2 U2:=mkT q q.f74 2 ["_law_row","_law_more","_law_at","_law_change"] λH=>
 k9 (u8 2 (N0 e7 (bu6 q.B.max (c8 j5 (c9 (A5 q.B.len (c9 d7))))))) (k9 (u8 3 (y6 (C6 (c8 (by exact(A2 (c8 j5 (c9 j5)))) (by exact(c8 (by exact(A2 (c8 (N8 j5) (c9 j5)))) (by exact(c8 (by exact(A2 (c8 (N8 j5) (c9 j5)))) (by exact(c8 (by exact(A2 (c8 j5 (c9 j5)))) t9)))))))) (N0 (M4 e7 j5) j5))) (j7 (m6 (C4 (C4 (av8 d7 m9) (A9 (z8 (bu5 d7 m9 (C4 m9 j5))) (o9 0) o8 (j6 (g63 q) H (c8 d7 (c9 e7))))) (ba2 d7 (C4 m9 j5))))))
theorem g75:q.c "_law_paper_right" 11 4 ag2:=mkT q q.f75 4 ["_law_net_here","_law_shares","_law_number","_law_paper","_law_due","_law_height","_law_share","_law_ware"] λH=>
 k9 (K3 (ac7 (X9 (am2 (Y0 (j6 (g72 q) H (c8 d7 (c9 r8))))) (ab5 (aa1 H (y6 (e9 r8) m9) (A2 (c8 j5 (c9 j5))))))) (j7 (m6 U0)) F0) (k9 (u8 4 (A2 (c8 j5 (c9 j5)))) (k9 (N1 (be7 q.B.zip (c8 (e9 r8) (c8 e7 (c9 (e9 d7))))) (au9 5 6 7) (k9 (K3 (ac7 (al2 (W6 H B7 (A2 (c8 j5 (c9 j5)))) (am1 (Y0 (j6 (g66 q) H (c8 (y6 e7 m9) (c9 K2))))))) (j7 (m6 U0)) F0) (j7 (u8 4 (j6 (g63 q) H (c8 B8 (by exact(c8 (by exact(j6 (g64 q) H (c8 B7 (by exact(c8 (by exact(j6 (g64 q) H (c8 K2 (by exact(c8 (by exact(A2 (c8 (e9 S8) (c9 j5)))) t9))))) t9))))) t9)))))))) (j7 (m6 (Y5 H (j6 (g73 q) H (c8 d7 (c9 (e9 r8)))) B8)))))
theorem g76:q.c "_law_is_so" 12 2 aa9:=mkT q q.f76 2 ["_law_net_here","_law_triple","_law_shares","_law_flow","_law_papers","_law_row","_law_due"] λH=>
 k9 (aG2 e7 (au9 2 3 4)) (k9 (K3 (ac7 (X9 (W6 H (A5 q.B.len (c9 m9)) (A5 q.B.len (c9 (e9 d7)))) (X9 (W6 H (A5 q.B.len (c9 B8)) (A5 q.B.len (c9 (e9 d7)))) (ab5 (an5 (aR3 q.B.min (c9 (A9 (z8 m9) (o9 0) o8 (e9 d7)))) j5))))) (j7 (m6 U0)) F0) (k9 (N1 (z8 r8) (o9 5) (j7 (K3 (ac7 (X9 (W6 H (A5 q.B.len (c9 B7)) (A5 q.B.len (c9 (e9 d7)))) (ab5 (an5 (aR3 q.B.min (c9 (C4 (C6 (c9 j5)) (A9 (z8 B7) (o9 0) o8 (e9 d7))))) j5)))) (j7 (m6 U0)) F0))) (k9 (aC5 6 (P3 q.B.zip (c8 m9 (c9 (e9 d7)))) (D4 0 1) o8 (j6 (g64 q) H (c8 d7 (by exact(c8 (by exact(A2 (c8 (e9 e7) (c9 j5)))) t9))))) (k9 (K3 (ac7 (X9 (am2 (Y0 (j6 (g69 q) H (c8 d7 (c9 r8))))) (ab5 (W6 H (j6 (g70 q) H (c8 d7 (c9 r8))) K2)))) (j7 (m6 U0)) F0) (j7 (m6 (aj2 q.B.all (c9 (A9 (V6 q.B.enumerate (c9 B8)) (D4 0 1) o8 (j6 (g75 q) H (c8 m9 (c8 r8 (c8 d7 (c9 e7))))))))))))))
theorem g77:q.c "_law_least" 3 1 at5:=mkT q q.f77 1 ["_law_some","_law_found","_law_one"] λH=>
 k9 (u8 1 (e9 d7)) (k9 (N1 (z8 d7) (o9 2) (j7 (u8 1 (y6 (C6 (c8 e7 (c9 m9))) (as7 q.B.int (c9 (j6 (g66 q) H (c8 m9 (c9 e7))))))))) (j7 (m6 e7)))
end
theorem fin{P:Program}{w:World}{K:cW0}{h:Heap}{M:Str->Option Value}{f:Addr}(X:K.In h)(G:h.Ns mainGlobals M)(j:M "law"=some (.ref f))(E:cv4 K)(F:cv1 K)(z:bd9 K "BadNet" true false false)(E2:bZ5 K "BadFlow")(ay:aM8 K)(I:FnK K):
  ∃g:FuncData,(∀(s:Shared) (u:Value),BindsTo s g ⟨[u],[]⟩ [("_law_script",u)])/\∀a:Heap,K.In a->a.Ns mainGlobals M->BM M a->S4 P w K M a CX0 16 f g ["_law_script"] (spT K 1 bj7):=by
 have B:Blt M:=⟨W.mg_none_of X G E.b0,W.mg_none_of X G E.b1,W.mg_none_of X G E.b2,W.mg_none_of X G E.b3,W.mg_none_of X G E.b4,W.mg_none_of X G E.b5,W.mg_none_of X G E.b6,W.mg_none_of X G E.b7,W.mg_none_of X G E.b8,W.mg_none_of X G E.b9,W.mg_none_of X G E.b10,W.mg_none_of X G E.b11,W.mg_none_of X G E.b12,W.mg_none_of X G E.b13,W.mg_none_of X G E.b14,W.mg_none_of X G E.b15⟩
 have C:Cst K M:=⟨(let⟨t,e⟩:=F.c0;⟨t,W.mg_of X G e⟩),(let⟨t,e⟩:=F.c1;⟨t,W.mg_of X G e⟩),(let⟨t,e⟩:=F.c2;⟨t,W.mg_of X G e⟩),(let⟨t,e⟩:=F.c3;⟨t,W.mg_of X G e⟩),(let⟨t,e⟩:=F.c4;⟨t,W.mg_of X G e⟩),(let⟨t,e⟩:=F.c5;⟨t,W.mg_of X G e⟩),(let⟨t,e⟩:=F.c6;⟨t,W.mg_of X G e⟩),cg8 X G F.c7⟩
 obtain⟨d,o,r,x,S,x1,x2,x3,x4,x5,x6,x7,x8,x9,aB,aC,aE⟩:=z;have m1:=W.mg_of X G x1;obtain⟨y,y1,y2⟩:=E2;have Z:cu9 K M:=⟨⟨y,W.mg_of X G y1,y2⟩,⟨d,m1,x6⟩⟩
 obtain⟨Cb,fI,ft,v1,v,Q,v4,k,⟨dI,l⟩,⟨dt,n⟩⟩:=ay;have mB:=W.mg_of X G v1;have K1:bD3 K M d true false false true:=⟨x7,⟨o,W.mg_of X G x2,x8⟩,⟨r,W.mg_of X G x3,x9⟩,⟨x,W.mg_of X G x4,aB⟩,aC⟩
 have az:∀c∈aH9,∃D,M c=some (.ref D)/\wdK K M S D c:=λc hc=>by
  rcases cI4 hc with rfl|hd
  .exact⟨d,m1,⟨rfl,K1⟩,aE⟩
  .exact absurd hd ∅
 obtain⟨_,_,ak,ah⟩:=ak4 X G I.wo;obtain⟨_,_,aj,ag⟩:=ak4 X G I.tl;obtain⟨_,_,L,ae⟩:=ak4 X G I.f18;obtain⟨_,_,U,aa⟩:=ak4 X G I.f15;obtain⟨_,_,ai,af⟩:=ak4 X G I.f21;obtain⟨_,aq,aG,R,aA,ax⟩:=bx1 X G I.f78;rw[aA]at j;cases j;refine⟨aq,λs u=> ?_,λa kb nb Y=> ?_⟩
 .obtain⟨oc,od,kV,aF,pm,an,ct,aH,rfl,_⟩:=R.ex;exact .of_eq rfl
 .have J:bq9 P w K M a "_law_told" (wdK K M S):=bF8 B aj ag ak ah (W.mg_of X G x5) az Y;have q:Ct P w a K h M:=⟨I,X,G,B,C,Z⟩
  have ar:=ch2 (P:=P) (w:=w) (g:=M) (h:=a) B v Q l;have bI:L2.R9 K dI ["self","goal","rows","bounds"] []:=l.binds λ_ _ _ _ _ _=>bW7 λ_ _ _ _=>rfl
  have i:=ch1 (P:=P) (w:=w) (g:=M) (h:=a) v Q (g9 q) n;have b:L2.R9 K dt ["self","chosen","column"] []:=n.binds λ_ _ _ _ _ _=>bB0 λ_ _ _=>rfl
  have au:=ba5 v k i b (g13 q Y) (g14 q) U;have b15:L2.R9 K _ ["board"] []:=U.binds λ_ _ _ _ _ _=>bo4 λ_=>rfl
  have av:=bW1 v k i b (g14 q) (g17 q) L;have ao:L2.R9 K _ ["board"] []:=L.binds λ_ _ _ _ _ _=>bo4 λ_=>rfl
  have aw:=ch3 v Q v4 ar bI au b15 av ao mB aa U.kp ae L.kp (g12 q) (g19 q) (g20 q) ai af;have g49:=g49 q aw;have g52:=g52 q g49;have g57:=g57 q g49;have g58:=g58 q g49 g57;have p:((563:Addr),("law.<locals>.<lambda>":Str))∈ag4:=by decide +kernel
  have O:(("law":Str)++".<locals>.")++"<lambda>"="law.<locals>.<lambda>":=by decide +kernel
  have N:=ax;exact cs5 (k:=15) (N:=["_law_script","_law_k","_law_more","_law_net_here","_law_triple","_law_shares","_law_flow","_law_papers","_law_j","_law_here","_law_at","_law_prices","_law_heights","_law_bent_here","_law_other","_law_whole","_law_told_here","_law_odd"]) (p:=["_law_script"]) (g:=aY0) R (by constructor<;>first |rfl|decide +kernel) ∎ λ_ _ _ _ _ H=>
   (Wd.run (k9 (N1 (J5 B.range (c9 (bu6 B.max (c8 j5 (c9 (ce9 B.min (c8 j5 (c9 (A5 B.len (c9 d7)))))))))) (o9 1) (k9 (u8 2 (j6 (g61 q) H (c8 (j6 (g60 q) H (c8 d7 (c9 e7))) (c9 e7)))) (k9 (u8 3 (j6 (g67 q) H (c9 m9))) (k9 (u8 4 (aR2 ["_law_net_here"] [3] J H ∎ rfl p O rfl N rfl rfl (λ_ _ _ _ _=>rfl) g58 rfl (λ_ _ _ _ _ _ _=>(c9 d7)))) (k9 (K3 (ac7 (X9 (am2 (Y0 (Z8 .tuple B.isinstance B.tuple boot_tuple B8))) (X9 (W6 H (A5 B.len (c9 B8)) j5) (ab5 (am2 (Y0 (j6 (g76 q) H (c8 r8 (c9 B8))))))))) (j7 (m6 U0)) F0) (k9 (K3 (ac7 (X9 (bm2 (al1 (g59 q) H (c8 r8 (c9 B8)))) (ab5 (W6 H (al1 g58 H (c9 r8)) B8)))) (j7 (m6 U0)) F0) (k9 (aG2 B8 (au9 5 6 7)) (k9 (K3 (W6 H (j6 (g77 q) H (c9 B7)) (e9 (al1 g52 H (c9 r8)))) (j7 (m6 U0)) F0) (k9 (N1 (J5 B.range (c9 j5)) (o9 8) (k9 (u8 9 (j6 (g61 q) H (c8 m9 (c9 (C4 j5 ap3))))) (k9 (u8 10 (N0 (M4 ah0 j5) (A5 B.len (c9 S8)))) (k9 (aG2 (y6 S8 aK1) (D4 11 12)) (k9 (u8 13 (y6 (C6 (c8 (by exact(A2 (c8 (j6 (g74 q) H (c8 (K9 11) (c9 (M4 ah0 (aC6 j5 j5))))) (c9 (K9 12))))) (by exact(c8 (by exact(y6 S8 (N8 j5))) t9)))) (N0 ah0 j5))) (k9 (K3 (aa1 H (N0 ah0 j5) j5) (j7 (u8 13 (A2 (c8 (K9 11) (c9 (j6 (g74 q) H (c8 (K9 12) (c9 (M4 ah0 (aC6 j5 j5)))))))))) F0) (k9 (u8 14 (y6 (C6 (c8 B7 (c9 (j6 (g74 q) H (c8 B7 (c9 (M4 ah0 (aC6 j5 j5)))))))) (as7 B.int (c9 (Y5 H (N0 (M4 ah0 (aC6 j5 j5)) j5) j5))))) (k9 (u8 15 (A2 (c8 (by exact(K9 14)) (by exact(c8 K2 (by exact(c8 (by exact(C4 (C4 (av8 S8 aK1) (C6 (c9 (K9 13)))) (ba2 S8 (C4 aK1 j5)))) t9))))))) (k9 (u8 16 (al1 (g59 q) H (c8 r8 (c9 (K9 15))))) (j7 (K3 (ac7 (X9 (am2 (Y0 (Z8 .bool B.isinstance B.bool boot_bool (K9 16)))) (ab5 (W6 H (K9 16) (j6 (g76 q) H (c8 r8 (c9 (K9 15)))))))) (j7 (m6 U0)) F0))))))))))) (k9 (u8 17 (C6 (c8 (by exact(A2 (c8 B7 (by exact(c8 (by exact(C6 t9)) (by exact(c8 S8 t9))))))) (by exact(c8 (by exact(A2 (c8 B7 (c8 M2 (c9 S8))))) (by exact(c8 (by exact(A2 (c8 B7 (c8 K2 (c9 (am0 1 none S8 (.inl am5) ah6)))))) t9))))))) (k9 (u8 17 (C4 (K9 17) (C6 (c8 (by exact(A2 (c8 B7 (c8 K2 (c9 M2))))) (by exact(c8 (by exact(A2 (c8 (am0 1 none B7 (.inl am5) ah6) (c8 K2 (c9 S8))))) t9)))))) (k9 (u8 17 (C4 (K9 17) (C6 (c8 (by exact(A2 (c8 B7 (by exact(c8 K2 (by exact(c8 (by exact(G7 (C6 (c9 M2)) (A5 B.len (c9 S8)))) t9))))))) (by exact(c8 (by exact(A2 (c8 M2 (c8 K2 (c9 S8))))) t9)))))) (k9 (u8 17 (C4 (K9 17) (C6 (c8 (by exact(A2 (c8 B7 (by exact(c8 K2 (by exact(c8 (by exact(G7 (C6 (c8 (by exact(A2 (c8 (by exact(C6 t9)) (by exact(c8 (by exact(C6 t9)) t9))))) t9)) (C4 (A5 B.len (c9 S8)) j5))) t9))))))) t9)))) (k9 (K3 (bm2 (al1 (g59 q) H (c8 r8 (c9 (y6 (K9 17) (N0 (M4 m9 (aC6 j5 j5)) j5)))))) (j7 (m6 U0)) F0) (k9 (K3 (W6 H (aR2 [] [] J H ∎ rfl p O rfl N rfl rfl (λ_ _ _ _ _=>rfl) g58 rfl (λ_ _ _ _ _ _ _=>(c8 (by exact(A2 (c8 j5 (by exact(c8 (by exact(C6 (c8 (by exact(A2 (c8 j5 (c8 j5 (c9 j5))))) t9))) (by exact(c8 (by exact(C6 t9)) t9))))))) t9))) av7) (j7 (m6 U0)) F0) (j7 (K3 (W6 H (aR2 ["_law_triple"] [4] J H ∎ rfl p O rfl N rfl rfl (λ_ _ _ _ _=>rfl) (g59 q) rfl (λ_ _ _ _ _ _ _=>(c8 (by exact(A2 (c8 j5 (by exact(c8 (by exact(C6 t9)) (by exact(c8 (by exact(C6 (c8 (by exact(A2 (c8 j5 (c8 j5 (c9 j5))))) t9))) t9))))))) (by exact(c8 d7 t9))))) av7) (j7 (m6 U0)) F0))))))))))))))))) (j7 (m6 U0))))
end Sw
local macro_rules|`(#where)=>do
 let l:=[("tree_",[47,114,141,156,197,283,336,413,489,576,624]),("sts_",[49,115,142,157,198,284,337,414,490,577]),("heap_",[39,46,625]),("view_",[39]),("o_",List.range 625)]
 return Lean.mkNullNode (←((l.flatMap λp=>p.2.map λi=>.str `PySem.Challenge.cw_sharedways_k30_whole_fair_holds s!"{p.1}{i}").toArray.push `PySem.Challenge.pw_sharedways_k30_whole_fair).mapM λx=>`(theorem $(Lean.mkIdent (.str `PySem.W.Fast s!"tw{x.hash}")) :True:=trivial))
#where
open PySem PySem.W PyProof.Rows
set_option maxRecDepth 100000 in
set_option maxHeartbeats 0 in
theorem PySem.Challenge.cw_sharedways_k30_whole_fair_holds : PySem.Challenge.rw_sharedways_k30_whole_fair.Holds := by
 w_on;o_law;k_head;(case hw=>w_witness2)
 k_fill
 refine L3.cv6 (l:=PySem.Challenge.rw_sharedways_k30_whole_fair) (n:=63) (k:=16) (x:="_law_script") (FL:=L3.bj7) rfl (by decide) rfl ⟨rfl,by decide,by decide⟩ (λw h Y=>W.km_in_of Y) ?F λn l=>L3.bW8 n l
 case F=>
  intro w P f h k G g Y;have hT:=W.km_tabs_of Y;have t:W.noTabs (L2.KOf k)=true:=by dsimp only[L2.KOf];kernel_rfl
  have J:Sw.cv4 (L2.KOf k):=by
   dsimp only[L2.KOf];refine' ⟨?b0,?b1,?b2,?b3,?b4,?b5,?b6,?b7,?b8,?b9,?b10,?b11,?b12,?b13,?b14,?b15⟩
   iterate 16 k_is
  have M:Sw.cv1 (L2.KOf k):=by
   dsimp only[L2.KOf];refine' ⟨?c0,?c1,?c2,?c3,?c4,?c5,?c6,?c7⟩
   (case c0=>refine' Sw.mkN ?a;(case a=>k_is))
   (case c1=>refine' Sw.mkN ?a;(case a=>k_is))
   (case c2=>refine' Sw.mkN ?a;(case a=>k_is))
   (case c3=>refine' Sw.mkN ?a;(case a=>k_is))
   (case c4=>refine' Sw.mkN ?a;(case a=>k_is))
   (case c5=>refine' Sw.mkN ?a;(case a=>k_is))
   (case c6=>refine' Sw.mkN ?a;(case a=>k_is))
   (case c7=>refine' Sw.mkP ?a ?b;(case a=>k_is);(case b=>k_is))
  have E:Sw.bd9 (L2.KOf k) "BadNet" true false false:=by dsimp only[L2.KOf];(refine' Sw.mkE ?a1 ?a2 ?a3 ?a4 ?a5 ?a6 ?l1 ?l2 ?l3 ?l4 ?l5 ?l6 ?a7 ?a8 ?a9 ?a10 ?a11;(case a1=>k_is);(case a2=>k_is);(case a3=>k_is);(case a4=>k_is);(case a5=>k_is);(case a6=>kernel_rfl);(case l1=>k_is);(case l2=>k_is);(case l3=>kernel_rfl);(case l4=>k_is);(case l5=>k_is);(case l6=>kernel_rfl);(case a7=>kernel_rfl);(case a8=>kernel_rfl);(case a9=>kernel_rfl);(case a10=>kernel_rfl);(case a11=>kernel_rfl))
  have I:Sw.bZ5 (L2.KOf k) "BadFlow":=by dsimp only[L2.KOf];(refine' Sw.mkX ?a ?b;(case a=>k_is);(case b=>kernel_rfl))
  have L:Sw.aM8 (L2.KOf k):=by
   dsimp only[L2.KOf];refine' Sw.mkB ?a ?c1 ?c2 ?c3 ?c4 ?n1 ?n2 ?n3 ?n4 ?m1 ?m2 ?m3 ?m4 ?t1 ?t2 ?t3 ?fi ?tt
   (case a=>k_is)
   (case c1=>kernel_rfl)
   (case c2=>kernel_rfl)
   (case c3=>kernel_rfl)
   (case c4=>k_is)
   (case n1=>k_is)
   (case n2=>k_is)
   (case n3=>k_is)
   (case n4=>k_is)
   (case m1=>kernel_rfl)
   (case m2=>k_is)
   (case m3=>kernel_rfl)
   (case m4=>kernel_rfl)
   (case t1=>k_is)
   (case t2=>kernel_rfl)
   (case t3=>kernel_rfl)
   (case fi=>refine' Sw.mkM ?b ?c;(case b=>k_is);(case c=>k_is))
   (case tt=>refine' Sw.mkM ?b ?c;(case b=>k_is);(case c=>k_is))
  have B:Sw.FnK (L2.KOf k):=by
   dsimp only[L2.KOf];refine' ⟨?f0,?f1,?f2,?f3,?f4,?f5,?f6,?f7,?f8,?f9,?f10,?f11,?f12,?f13,?f14,?f15,?f16,?f17,?f18,?f19,?f20,?f21,?f22,?f23,?f24,?f25,?f26,?f27,?f28,?f29,?f30,?f31,?f32,?f33,?f34,?f35,?f36,?f37,?f38,?f39,?f40,?f41,?f42,?f43,?f44,?f45,?f46,?f47,?f48,?f49,?f50,?f51,?f52,?f53,?f54,?f55,?f56,?f57,?f58,?f59,?f60,?f61,?f62,?f63,?f64,?f65,?f66,?f67,?f68,?f69,?f70,?f71,?f72,?f73,?f74,?f75,?f76,?t0,?t1⟩
   iterate 77 (refine' Sw.mkF ?a ?b ?c;(case a=>k_is);(case b=>k_is);(case c=>k_is))
   (case t0=>(refine' Sw.cq3 ?a ?b ?d ?e;(case a=>k_is);(case b=>k_is);(case d=>k_is);(case e=>kernel_rfl)))
   (case t1=>(refine' Sw.cq3 ?a ?b ?d ?e;(case a=>k_is);(case b=>k_is);(case d=>k_is);(case e=>kernel_rfl)))
  have N:∀p∈L3.ag4,h.get? p.1=some (W.tabObj #[]):=λp C=>hT p.1 (by
   rcases cI4 C with rfl|H
   .exact cS2
   .rcases cI4 H with rfl|H
    .exact cS1 _ cS2
    .exact absurd H (by simp))
  have O:∀p∈L3.ag4,∃c,W.CodeHd h c p.1:=λp C=>by
   rcases cI4 C with rfl|H
   .obtain⟨_,_,_,_,_,_,_,c,_,_,_,_,_,e⟩:=B.f13;exact⟨c,W.codeHd_of_K k e⟩
   .rcases cI4 H with rfl|H
    .obtain⟨_,_,_,_,_,_,_,c,_,_,_,_,_,e⟩:=B.f78;exact⟨c,W.codeHd_of_K k e⟩
    .exact absurd H (by simp)
  exact⟨t,N,O,Sw.fin k G g J M E I L B⟩
