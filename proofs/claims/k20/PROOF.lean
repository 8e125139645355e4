import PyProof.Rows.All
import Wide.All
import OpenK.AllK
import Wide.FinOn
import Lean
import PyProof.EqAt
import PyProof.EqKinds
import PyProof.TupleCall
import PySem.Str
import PyProof.CompFree
import PySem.Challenge.RW_sharedways_k20_whole_share
set_option Elab.async false
set_option linter.all false
set_option maxRecDepth 100000
set_option maxHeartbeats 5000000
abbrev cC6:=@Array.length_toList
abbrev cC7:=@Bool.and_eq_true
abbrev cC8:=@Bool.eq_iff_iff
abbrev cC9:=@Bool.false_and
abbrev cD0:=@Bool.false_eq_true
abbrev cD1:=@Bool.false_ne_true
abbrev cD2:=@Bool.not_eq_true'
abbrev cD3:=@Bool.or_eq_true
abbrev cD4:=@Bool.true_and
abbrev cD5:=@PySem.Heap.get?_push_of_some
abbrev cD6:=@PySem.Heap.get?_push_size
abbrev cD7:=@PySem.Heap.get?_update_other
abbrev cD8:=@PySem.Heap.get?_update_self
abbrev cD9:=@PySem.Heap.lt_size
abbrev cE0:=@PySem.Heap.size_push
abbrev cE1:=@Int.add_mul
abbrev cE2:=@Int.add_zero
abbrev cE3:=@Int.emod_lt_of_pos
abbrev cE4:=@Int.emod_nonneg
abbrev cE5:=@Int.eq_of_mul_eq_mul_right
abbrev cE6:=@Int.gcd_dvd_right
abbrev cE7:=@Int.lt_of_mul_lt_mul_right
abbrev cE8:=@Int.lt_or_le
abbrev cE9:=@Int.mul_assoc
abbrev cF0:=@Int.mul_comm
abbrev cF1:=@Int.mul_le_mul_of_nonneg_left
abbrev cF2:=@Int.mul_left_comm
abbrev cF3:=@Int.mul_lt_mul_of_pos_right
abbrev cF4:=@Int.mul_nonneg
abbrev cF5:=@Int.mul_one
abbrev cF6:=@Int.mul_pos
abbrev cF7:=@Int.mul_right_comm
abbrev cF8:=@Int.mul_zero
abbrev cF9:=@Int.natAbs_mul
abbrev cG0:=@Int.natAbs_of_nonneg
abbrev cG1:=@Int.neg_mul
abbrev cG2:=@Int.toNat_natCast
abbrev cG3:=@Int.toNat_of_nonneg
abbrev cG4:=@Int.zero_add
abbrev cG5:=@Int.zero_mul
abbrev cG6:=@List.all_cons
abbrev cG7:=@List.all_eq_true
abbrev cG8:=@List.all_map
abbrev cG9:=@List.any_cons
abbrev cH0:=@List.append_nil
abbrev cH1:=@List.contains_eq_mem
abbrev cH2:=@List.drop_eq_getElem_cons
abbrev cH3:=@List.drop_length
abbrev cH4:=@List.drop_of_length_le
abbrev cH5:=@List.drop_zero
abbrev cH6:=@List.filterMap_cons
abbrev cH7:=@List.filter_cons
abbrev cH8:=@List.flatMap_append
abbrev cH9:=@List.flatten_cons
abbrev cI0:=@List.forIn_cons
abbrev cI1:=@List.getElem?_append_left
abbrev cI2:=@List.getElem?_append_right
abbrev cI3:=@List.getElem?_eq_getElem
abbrev cI4:=@List.getElem?_eq_none
abbrev cI5:=@List.getElem?_map
abbrev cI6:=@List.getElem?_range
abbrev cI7:=@List.getElem?_replicate
abbrev cI8:=@List.getElem?_set_ne
abbrev cI9:=@List.getElem?_set_self
abbrev cJ0:=@List.getElem?_zip_eq_some
abbrev cJ1:=@List.getElem_mem
abbrev cJ2:=@List.length_append
abbrev cJ3:=@List.length_map
abbrev cJ4:=@List.length_range
abbrev cJ5:=@List.length_replicate
abbrev cJ6:=@List.length_set
abbrev cJ7:=@List.length_singleton
abbrev cJ8:=@List.length_take
abbrev cJ9:=@List.lookup_cons
abbrev cK0:=@List.map_append
abbrev cK1:=@List.map_congr_left
abbrev cK2:=@List.map_map
abbrev cK3:=@List.mem_append_left
abbrev cK4:=@List.mem_append_right
abbrev cK5:=@List.mem_cons
abbrev cK6:=@List.mem_cons_of_mem
abbrev cK7:=@List.mem_cons_self
abbrev cK8:=@List.mem_nil_iff
abbrev cK9:=@List.mem_of_getElem?
abbrev cL0:=@List.mem_of_mem_drop
abbrev cL1:=@List.mem_of_mem_take
abbrev cL2:=@List.mem_singleton
abbrev cL3:=@List.of_mem_zip
abbrev cL4:=@List.range_add
abbrev cL5:=@List.range_succ
abbrev cL6:=@List.range_succ_eq_map
abbrev cL7:=@List.replicate_succ
abbrev cL8:=@List.set_set
abbrev cL9:=@List.size_toArray
abbrev cM0:=@List.take_append_of_le_length
abbrev cM1:=@List.take_of_length_le
abbrev cM2:=@Nat.add_assoc
abbrev cM3:=@Nat.le_refl
abbrev cM4:=@Nat.le_succ
abbrev cM5:=@Nat.le_trans
abbrev cM6:=@Nat.lt_irrefl
abbrev cM7:=@Nat.lt_of_lt_of_le
abbrev cM8:=@Nat.lt_or_ge
abbrev cM9:=@Nat.lt_succ_of_lt
abbrev cN0:=@Nat.lt_succ_self
abbrev cN1:=@Nat.min_eq_left
abbrev cN2:=@Nat.mul_comm
abbrev cN3:=@Nat.mul_le_mul_right
abbrev cN4:=@Nat.ne_of_gt
abbrev cN5:=@Nat.ne_of_lt
abbrev cN6:=@Nat.not_lt_zero
abbrev cN7:=@Nat.pow_le_pow_right
abbrev cN8:=@Nat.pow_succ
abbrev cN9:=@Nat.succ_le_of_lt
abbrev cO0:=@Nat.succ_mul
abbrev cO1:=@Nat.zero_add
abbrev cO2:=@Nat.zero_le
abbrev cO3:=@Option.none
abbrev cO4:=@Option.some.inj
abbrev cO5:=@PySem.W.Frag
abbrev cO6:=@PySem.mem_of_lookup
abbrev cO7:=@beq_self_eq_true
abbrev cO8:=@decide_eq_false
abbrev cO9:=@decide_eq_true
abbrev cP0:=@decide_eq_true_eq
abbrev cP1:=@if_neg
abbrev cP2:=@if_pos
abbrev cP3:=@PySem.wpAny_bind
abbrev cP4:=@PySem.wpAny_call_entry
abbrev cP5:=@PySem.wpAny_field
abbrev cP6:=@PySem.wpAny_mono
abbrev cP7:=@PySem.wpAny_newObj_type
abbrev cP8:=@PySem.wpAny_pure
abbrev cP9:=@PySem.wpAny_pyIter_list
abbrev cQ0:=@PySem.wpAny_seqItems
abbrev cQ1:=@PySem.wpAny_setField_rec
abbrev cQ2:=@PySem.wpAny_truthy_bool
theorem cA8 {f:α->β}(h:b∈List.map f l):∃a,a∈l/\f a=b:=List.mem_map.mp h
theorem cA9 (h:a∈b::l):a=b\/a∈l:=List.mem_cons.mp h
theorem cB0 (h:a∈List.range n):a<n:=List.mem_range.mp h
theorem cB1 [BEq α][LawfulBEq α]{a b:α}(h:a≠b):(a==b)=false:=beq_eq_false_iff_ne.mpr h
theorem cB2 {f:α->Option β}:(some a).bind f=f a:=rfl
theorem cB3 {a:α}{l:List α}:(a::l)[n+1]?=l[n]?:=rfl
theorem cB4 {f:α->β}:List.map f (a::l)=f a::List.map f l:=rfl
theorem cB5 {f:α->β}:List.map f []=[]:=rfl
theorem cB6 {f:β->α->β}:List.foldl f b (a::l)=List.foldl f (f b a) l:=rfl
theorem cB7 {f:β->α->β}:List.foldl f b []=b:=rfl
theorem cB8 {a:α}:(a::l).length=l.length+1:=rfl
theorem cB9 :([]:List α).length=0:=rfl
theorem cC0 {l:List α}:[]++l=l:=rfl
theorem cC1 {a:α}{l:List α}:(a::l)[0]?=some a:=rfl
theorem cC2 {a b:α}{l:List α}:(a::l).set 0 b=b::l:=rfl
theorem cC3 {a b:α}{l:List α}:(a::l).set (n+1) b=a::l.set n b:=rfl
theorem cC4 {a:α}{l m:List α}:(a::l)++m=a::(l++m):=rfl
theorem cC5 {l m:List α}(h:a∈l++m):a∈l\/a∈m:=List.mem_append.mp h
noncomputable section
open PySem PySem.Spec PyProof.Rows
abbrev PySem.Shared.sz(s:PySem.Shared):=s.heap.objs.size
namespace L2
abbrev Key:=Sum Int Str
def bW8:Key->Value->Bool
 |.inl k,v=>Value.isInt k v
 |.inr x,v=>Value.isStrOf x v
def cw9(w:World):Key->Int
 |.inl k=>hashInt k
 |.inr x=>hashStr w x
theorem T7:∀{k:Key}{v:Value},bW8 k v=true->(∃i t,k=Sum.inl i/\v=Value.int i t)\/(∃x t,k=Sum.inr x/\v=Value.str x t)
 |.inl i,v,h=>by
  obtain⟨t,e⟩:=Value.isInt_shape (k:=i) (v:=v) h;exact .inl ⟨i,t,rfl,e⟩
 |.inr x,v,h=>by
  obtain⟨t,e⟩:=Value.isStrOf_shape (x:=x) (v:=v) h;exact .inr ⟨x,t,rfl,e⟩
theorem cm1(a b:Int):decide ((Sum.inl a:Key)=Sum.inl b)=(a==b):=by
 by_cases e:a=b
 .subst e;simp
 .have h:¬(Sum.inl a:Key)=Sum.inl b:=λq=>e (Sum.inl.inj q)
  rw[cO8 h];exact(cB1 e).symm
theorem cl8(a b:Str):decide ((Sum.inr a:Key)=Sum.inr b)=decide (a=b):=by
 by_cases e:a=b
 .subst e;simp
 .have h:¬(Sum.inr a:Key)=Sum.inr b:=λq=>e (Sum.inr.inj q)
  rw[cO8 h,cO8 e]
theorem cm0(a:Int)(b:Str):decide ((Sum.inl a:Key)=Sum.inr b)=false:=cO8 (λq=>nomatch q)
theorem cl9(a:Str)(b:Int):decide ((Sum.inr a:Key)=Sum.inl b)=false:=cO8 (λq=>nomatch q)
def bt0(prog:Program)(w:World):PySem.KeyKind prog w Key where
 is:=bW8
 hash:=cw9 w
 inj:=λv a b ha hb=>by
  rcases T7 ha with⟨i,t,rfl,rfl⟩|⟨x,t,rfl,rfl⟩
  .rcases T7 hb with⟨j,u,rfl,e⟩|⟨y,u,rfl,e⟩
   .injection e with e1 _;rw[e1]
   .exact nomatch e
  .rcases T7 hb with⟨j,u,rfl,e⟩|⟨y,u,rfl,e⟩
   .exact nomatch e
   .injection e with e1 _;rw[e1]
 byValue:=λk v h=>by
  rcases T7 h with⟨i,t,rfl,rfl⟩|⟨x,t,rfl,rfl⟩<;>rfl
 pyHash:=λhv h=>by
  rcases T7 hv with⟨i,t,rfl,rfl⟩|⟨x,t,rfl,rfl⟩
  .exact wpAny_pyHash_int h
  .exact wpAny_pyHash_str h
 eqBool:=λhu hv h=>by
  rcases T7 hu with⟨i,t,rfl,rfl⟩|⟨x,t,rfl,rfl⟩
  .rcases T7 hv with⟨j,u,rfl,rfl⟩|⟨y,u,rfl,rfl⟩
   .rw[cm1]at h;exact wpAny_eqBool_int h
   .rw[cm0]at h;exact SeqAt.EqAt.int_str i t y u _ _ _ _ h
  .rcases T7 hv with⟨j,u,rfl,rfl⟩|⟨y,u,rfl,rfl⟩
   .rw[cl9]at h;exact SeqAt.EqAt.str_int x t j u _ _ _ _ h
   .rw[cl8]at h;exact wpAny_eqBool_str h
 «strs»:=λk x t v h=>by
  rcases T7 h with⟨i,u,rfl,e⟩|⟨y,u,rfl,e⟩
  .exact nomatch e
  .injection e with e1 _
   subst e1;cases v<;>rfl
inductive V where
 |non|bl (b:Bool)|int (i:Int)|str (x:Str)|byt (b:Array UInt8)|flt (b:UInt64)|ref (a:Addr)|ty (n:String)
 deriving DecidableEq
def D0:V->Value->Prop
 |.non,u=>u=Value.none
 |.bl b,u=>u=Value.bool b
 |.int i,u=>∃t,u=Value.int i t
 |.str x,u=>∃t,u=Value.str x t
 |.byt b,u=>∃t,u=Value.bytes b t
 |.flt b,u=>∃t,u=Value.float b t
 |.ref a,u=>u=Value.ref a
 |.ty n,u=>u=Value.type n
abbrev B6:List V->List Value->Prop:=Paired D0
theorem B6.length(r:B6 xs us):xs.length=us.length:=Paired.length r
theorem B6.get:∀{xs:List V}{us:List Value}{i:Nat}{x:V},B6 xs us->xs[i]?=some x->∃u,us[i]?=some u/\D0 x u
 |_,_,_,_,.nil,e=>by simp at e
 |_,_,0,_,.cons r _,e=>by simp at e;subst e;exact⟨_,rfl,r⟩
 |_,_,i+1,x,.cons _ t,e=>by
  obtain⟨u,h1,h2⟩:=B6.get (i:=i) (x:=x) t (by simpa using e);exact⟨u,by simpa using h1,h2⟩
theorem B6.set(r:D0 x u):∀{xs:List V}{us:List Value}(i:Nat),B6 xs us->B6 (xs.set i x) (us.set i u)
 |_,_,_,.nil=>.nil
 |_,_,0,.cons _ t=>.cons r t
 |_,_,i+1,.cons q t=>.cons q (B6.set r i t)
theorem B6.append:∀{xs ys:List V}{us ws:List Value},B6 xs us->B6 ys ws->B6 (xs++ys) (us++ws)
 |_,_,_,_,.nil,s=>s
 |_,_,_,_,.cons r t,s=>.cons r (B6.append t s)
theorem B6.take:∀{xs:List V}{us:List Value}(n:Nat),B6 xs us->B6 (xs.take n) (us.take n)
 |_,_,0,_=>.nil
 |_,_,_+1,.nil=>.nil
 |_,_,n+1,.cons r t=>.cons r (B6.take n t)
theorem B6.drop:∀{xs:List V}{us:List Value}(n:Nat),B6 xs us->B6 (xs.drop n) (us.drop n)
 |_,_,0,r=>r
 |_,_,_+1,.nil=>.nil
 |_,_,n+1,.cons _ t=>B6.drop n t
def az8:Option V->Option Value->Prop
 |some v,some u=>D0 v u
 |none,none=>True
 |_,_=>False
def KV{κ:Type}:List (κ×V)->List (κ×Value)->Prop:=Paired λ(p:κ×V) (q:κ×Value)=>p.1=q.1/\D0 p.2 q.2
def kV:Key->V
 |.inl i=>.int i
 |.inr x=>.str x
inductive HO where
 /--a list -/
 |lst (xs:List V)
 /--a tuple (never changes) -/
 |tup (xs:List V)
 /--a dict whose keys are ints and texts;one whose keys are tuples of ints and texts (the empty one is both) -/
 |dK (kvs:List (Key×V))|dT (kvs:List (List Key×V))
 /--a set of ints:its members,its size -/
 |set (S:Int->Bool) (n:Nat)
 /--an instance of the class at C,its dict at dx,its attributes -/
 |ins (C dx:Addr) (fs:List (Str×V))
 /--the dict of the instance at x -/
 |aB (x:Addr)
 /--the dict of an exception -/
 |xd (fs:List (Str×V))
 /--a bound method,f of x -/
 |met (f x:Addr)
 /--a range object lo,lo+1,.. below hi -/
 |rng (lo hi:Int)
 /--a thing that is known to the object (the script;a dict while a loop walks it):read,never written while it is so -/
 |frz (o:Obj) (u:HO)
 /--a code object's table -/
 |tbl (ps:Array Value)
 /--any other thing,by what is true of its one object (a def of one's aB:SetO a S n:=HO.ext λh=>..) -/
 |ext (φ:Heap->Prop)
abbrev Hp:=Addr->Option HO
def upd(H:Hp)(a:Addr)(o:HO):Hp:=λb=>if b=a then some o else H b
theorem t6:upd H a o a=some o:=by unfold upd;rw[cP2 rfl]
theorem l8(h:b≠a):upd H a o b=H b:=by unfold upd;rw[cP1 h]
theorem A9{H:Hp}{a b:Addr}{o:HO}(h:H a=some o)(h':H b=none):a≠b:=by
 intro e;subst e;rw[h]at h';cases h'
section
variable (P:Program)(w:World)
def ad3(H:Hp)(h:Heap)(a:Addr):HO->Prop
 |.lst xs=>xs.length<=sizeLine/\∃(its:List Value) (n:Nat),B6 xs its/\h.get? a=some {cls:=.type "list",data:=.seq its.toArray n}
 |.tup xs=>xs.length<=sizeLine/\∃its:List Value,B6 xs its/\IsTup h a its.toArray
 |.dK kvs=>kvs.length<=sizeLine/\(a==sysModules)=false/\∃vs,KV kvs vs/\h.DictOf (bt0 P w) a vs
 |.dT kvs=>kvs.length<=sizeLine/\(a==sysModules)=false/\∃xs:List (List Key×Addr×Value),
   Paired (λ(p:List Key×V) (q:List Key×Addr×Value)=>p.1=q.1/\H q.2.1=some (.tup (p.1.map kV))/\D0 p.2 q.2.2) kvs xs/\
   ∃o es ep,h.get? a=some o/\o.ExactDict/\o.data=.dict es ep/\es.toList=xs.map (entryOfKey (tupleKind (bt0 P w)))/\(xs.map (·.1)).Nodup
 |.set S n=>h.SetOf (intKind P w) a S n
 |.ins C dx fs=>H dx=some (.aB a)/\fs.length<=1000/\dx≠a/\h.get? a=some (W.instObj C dx)/\
   ∃mA,h.Ns1 dx mA/\(∀f,az8 (fs.lookup f) (mA f))/\PySem.Within mA (fs.map (·.1))
 |.aB _=>∃o,h.get? a=some o
 |.xd fs=>∃mA,h.Ns1 a mA/\∀f,az8 (fs.lookup f) (mA f)
 |.rng lo hi=>∃t u v,h.get? a=some {cls:=.type "range",data:=.fields #[.int lo t,.int hi u,.int 1 v]}
 |.frz o u=>h.get? a=some o/\ad3 H h a u
 |.tbl ps=>h.get? a=some {cls:=.none,data:=.fields ps}
 |.met f x=>h.get? a=some (W.methodObj (.ref f) (.ref x))
 |.ext φ=>φ h/\(∃o,h.get? a=some o)/\∀h1 h2:Heap,φ h1->(∀o,h1.get? a=some o->h2.get? a=some o)->φ h2
def HOk(H:Hp)(h:Heap):Prop:=∀a o,H a=some o->ad3 P w H h a o
end
section
variable {P:Program}{w:World}{H H':Hp}{h h':Heap}{a:Addr}{o:HO}
theorem ad3.lt(x:ad3 P w H h a o):a<h.objs.size:=by
 cases o with
 |lst xs=>obtain⟨_,_,_,_,e⟩:=x;exact cD9 e
 |tup xs=>obtain⟨_,_,_,p⟩:=x;exact p.lt
 |dK kvs=>obtain⟨_,_,_,_,o,_,_,e,_⟩:=x;exact cD9 e
 |dT kvs=>obtain⟨_,_,_,_,o,_,_,e,_⟩:=x;exact cD9 e
 |set S n=>obtain⟨o,_,_,_,e,_⟩:=x;exact cD9 e
 |ins C dx fs=>obtain⟨_,_,_,e,_⟩:=x;exact cD9 e
 |aB y=>obtain⟨_,e⟩:=x;exact cD9 e
 |xd fs=>obtain⟨_,⟨_,_,_,e,_⟩,_⟩:=x;exact cD9 e
 |rng lo hi=>obtain⟨_,_,_,e⟩:=x;exact cD9 e
 |frz ob u=>obtain⟨e,_⟩:=x;exact cD9 e
 |tbl ps=>exact cD9 (show h.get? a=some _ from x)
 |met f y=>exact cD9 (show h.get? a=some _ from x)
 |ext φ=>obtain⟨_,⟨_,e⟩,_⟩:=x;exact cD9 e
theorem Paired.mapP:∀{lb:List α}{lc:List β},Paired F lb lc->(∀a b,F a b->G a b)->Paired G lb lc
 |_,_,.nil,_=>.nil
 |_,_,.cons r t,f=>.cons (f _ _ r) (Paired.mapP t f)
theorem ad3.stay(x:ad3 P w H h a o)(k:∀b u,(b=a\/H b=some (.aB a))->h.get? b=some u->h'.get? b=some u)
  (ho:∀b,H b=some (.aB a)->H' b=some (.aB a)) (ht:∀b xs,H b=some (.tup xs)->H' b=some (.tup xs)):ad3 P w H' h' a o:=by
 induction o with
 |lst xs=>obtain⟨z,its,n,r,e⟩:=x;exact⟨z,its,n,r,k _ _ (.inl rfl) e⟩
 |tup xs=>obtain⟨z,its,r,ob,e,c⟩:=x;exact⟨z,its,r,ob,k _ _ (.inl rfl) e,c⟩
 |dK kvs=>obtain⟨z,y,vs,r,ob,es,ep,e,c⟩:=x;exact⟨z,y,vs,r,ob,es,ep,k _ _ (.inl rfl) e,c⟩
 |dT kvs=>
  obtain⟨z,y,xs,r,ob,es,ep,e,c⟩:=x;exact⟨z,y,xs,Paired.mapP r λp q z=>⟨z.1,ht _ _ z.2.1,z.2.2⟩,ob,es,ep,k _ _ (.inl rfl) e,c⟩
 |set S n=>obtain⟨ob,es,ep,t,e,c⟩:=x;exact⟨ob,es,ep,t,k _ _ (.inl rfl) e,c⟩
 |ins C dx fs=>
  obtain⟨d,z,ne,e,mA,⟨od,es,ep,e2,c⟩,r⟩:=x;exact⟨ho _ d,z,ne,k _ _ (.inl rfl) e,mA,⟨od,es,ep,k _ _ (.inr d) e2,c⟩,r⟩
 |aB y=>obtain⟨ob,e⟩:=x;exact⟨ob,k _ _ (.inl rfl) e⟩
 |xd fs=>obtain⟨mA,⟨od,es,ep,e,c⟩,r⟩:=x;exact⟨mA,⟨od,es,ep,k _ _ (.inl rfl) e,c⟩,r⟩
 |rng lo hi=>obtain⟨t,u,v,e⟩:=x;exact⟨t,u,v,k _ _ (.inl rfl) e⟩
 |frz ob u ih=>obtain⟨e,q⟩:=x;exact⟨k _ _ (.inl rfl) e,ih q⟩
 |tbl ps=>
  have e:h.get? a=some {cls:=.none,data:=.fields ps}:=x;show h'.get? a=some {cls:=.none,data:=.fields ps};exact k a _ (.inl rfl) e
 |met f y=>
  have e:h.get? a=some (W.methodObj (.ref f) (.ref y)):=x;show h'.get? a=some (W.methodObj (.ref f) (.ref y));exact k a _ (.inl rfl) e
 |ext φ=>obtain⟨p,⟨o,e⟩,st⟩:=x;exact⟨st _ _ p λo q=>k _ _ (.inl rfl) q,⟨o,k _ _ (.inl rfl) e⟩,st⟩
theorem HOk.lt(x:HOk P w H h)(e:H a=some o):a<h.objs.size:=(x a o e).lt
theorem HOk.fresh(x:HOk P w H h)(e:h.objs.size<=a):H a=none:=by
 cases q:H a with
 |none=>rfl
 |some u=>exact absurd (cM7 (x.lt q) e) (cM6 _)
theorem HOk.kept(x:HOk P w H h)(k:∀b u,h.get? b=some u->h'.get? b=some u):HOk P w H h':=λa o e=>
 (x a o e).stay (λb u _ q=>k b u q) (λ_ q=>q) λ_ _ q=>q
theorem HOk.laid(x:HOk P w H h)(k:∀b u,h.get? b=some u->h'.get? b=some u)(hp:h.objs.size<=a)(new:ad3 P w (upd H a o) h' a o):HOk P w (upd H a o) h':=λb u e=>by
 have hn:=x.fresh hp;by_cases hb:b=a
 .subst hb;rw[t6]at e;cases e;exact new
 .rw[l8 hb]at e;exact(x b u e).stay (λc v _ q=>k c v q) (λc q=>by rw[l8 (A9 q hn)];exact q) λc xs q=>by rw[l8 (A9 q hn)];exact q
end
def Rd(H:Hp)(a:Addr)(u:HO):Prop:=H a=some u\/∃o,H a=some (.frz o u)
theorem Rd.ok(r:Rd H a u)(x:HOk P w H h):ad3 P w H h a u:=by
 rcases r with r|⟨o,r⟩
 .exact x a u r
 .obtain⟨_,q⟩:=x a _ r;exact q
def Mut:Option HO->Prop
 |some (.lst _)=>True
 |some (.dK _)=>True
 |some (.dT _)=>True
 |some (.set _ _)=>True
 |some (.ins _ _ _)=>True
 |some (.ext _)=>True
 |_=>False
section
variable {P:Program}{w:World}{H:Hp}{h h':Heap}{x e:Addr}{o':HO}
theorem HOk.write(ok:HOk P w H h)(mu:Mut (H x))(he:e=x\/H e=some (.aB x))(k:∀b u,b≠e->h.get? b=some u->h'.get? b=some u)(heo:∃u,h'.get? e=some u)
  (new:ad3 P w (upd H x o') h' x o'):HOk P w (upd H x o') h':=λb u q=>by
 have nown:∀c y,H c=some (.aB y)->c≠x:=λc y r z=>by subst z;rw[r]at mu;exact mu
 have ntup:∀c xs,H c=some (.tup xs)->c≠x:=λc xs r z=>by subst z;rw[r]at mu;exact mu
 by_cases hb:b=x
 .subst hb;rw[t6]at q;cases q;exact new
 .rw[l8 hb]at q;by_cases hbe:b=e
  .have q':H b=some (.aB x):=by
    rcases he with z|z
    .exact absurd (hbe.trans z) hb
    .rw[hbe];exact z
   rw[q]at q';cases q';obtain⟨v,hv⟩:=heo;exact⟨v,by rw[hbe];exact hv⟩
  .refine(ok b u q).stay (λc v hc r=>k c v ?_ r) (λc r=>by rw[l8 (nown c b r)];exact r) λc xs r=>by rw[l8 (ntup c xs r)];exact r
   rcases hc with rfl|hc
   .exact hbe
   .rintro rfl;rcases he with z|z
    .exact nown c b hc z
    .rw[hc]at z;cases z;exact hb rfl
end
structure Un(fs ex:List Addr)(H H':Hp)(h h':Heap):Prop where
 keep:∀b o,h.get? b=some o->H b=none->b∉fs->b∉ex->h'.get? b=some o
 slot:∀b o,h.get? b=some o->H b=none->b∈fs->b∉ex->∃sl,h'.get? b=some {o with slots:=sl}
 free:∀b o,h.get? b=some o->H b=none->b∉ex->H' b=none
 there:∀b o,h.get? b=some o->b∉ex->∃o',h'.get? b=some o'
 tups:∀b xs,H b=some (.tup xs)->H' b=some (.tup xs)
 frzs:∀b o u,H b=some (.frz o u)->H' b=some (.frz o u)
 tbls:∀b ps,H b=some (.tbl ps)->∃more,H' b=some (.tbl (ps++more))
section
variable {fs fs' ex ex':List Addr}{H H1 H2:Hp}{h h1 h2 h':Heap}{a x e:Addr}{o:HO}
theorem Un.any(u:Un fs ex H H1 h h1)(q:h.get? b=some ob)(n:H b=none)(hx:b∉ex):∃sl,h1.get? b=some {ob with slots:=sl}:=by
 by_cases hb:b∈fs
 .exact u.slot b ob q n hb hx
 .exact⟨ob.slots,u.keep b ob q n hb hx⟩
theorem Un.kept(k:∀b u,h.get? b=some u->h'.get? b=some u):Un fs ex H H h h':=
 ⟨λb ob q _ _ _=>k b ob q,λb ob q _ _ _=>⟨ob.slots,k b ob q⟩,λ_ _ _ n _=>n,λb ob q _=>⟨ob,k b ob q⟩,λ_ _ q=>q,λ_ _ _ q=>q,λ_ ps q=>⟨#[],by rw[q];simp⟩⟩
theorem Un.refl:Un fs ex H H h h:=Un.kept λ_ _ q=>q
theorem Un.laid(k:∀b u,h.get? b=some u->h'.get? b=some u)(hp:h.objs.size<=a)(hn:H a=none):Un fs ex H (upd H a o) h h' where
 keep:=λb u q _ _ _=>k b u q
 slot:=λb u q _ _ _=>⟨u.slots,k b u q⟩
 free:=λb u q n _=>by rw[l8 (cN5 (cM7 (cD9 q) hp))];exact n
 there:=λb u q _=>⟨u,k b u q⟩
 tups:=λb xs q=>by rw[l8 (A9 q hn)];exact q
 frzs:=λb u xs q=>by rw[l8 (A9 q hn)];exact q
 tbls:=λb ps q=>⟨#[],by rw[l8 (A9 q hn),q];simp⟩
theorem Un.write(mu:Mut (H x))(he:e=x\/H e=some (.aB x))(k:∀b u,b≠e->h.get? b=some u->h'.get? b=some u)(heo:∃u,h'.get? e=some u):Un fs ex H (upd H x o) h h':=by
 have hx:∀b,H b=none->b≠x:=λb n z=>by subst z;rw[n]at mu;exact mu
 have hb:∀b,H b=none->b≠e:=λb n z=>by
  subst z;rcases he with r|r
  .exact hx b n r
  .rw[n]at r;cases r
 have hm:∀b u,H b=some u->¬Mut (some u)->b≠x:=λb u q nm z=>by subst z;rw[q]at mu;exact nm mu
 refine⟨λb u q n _ _=>k b u (hb b n) q,λb u q n _ _=>⟨u.slots,k b u (hb b n) q⟩,λb u q n _=>by rw[l8 (hx b n)];exact n,λb u q _=> ?_,
  λb xs q=>by rw[l8 (hm b _ q λz=>z)];exact q,λb u xs q=>by rw[l8 (hm b _ q λz=>z)];exact q,λb ps q=>⟨#[],by rw[l8 (hm b _ q λz=>z),q];simp⟩⟩
 by_cases hbe:b=e
 .subst hbe;exact heo
 .exact⟨u,k b u hbe q⟩
end
def trk(h:Heap)(H:Hp):List Addr:=(List.range h.objs.size).filter λa=>(H a).isSome
def aE4(h:Heap)(H:Hp):Heap:=W.hideAll h (trk h H)
theorem bI3(h:Heap)(H:Hp):(aE4 h H).objs.size=h.objs.size:=W.hideAll_size _ _
theorem aR1(e:h.get? b=some o)(n:H b=none):(aE4 h H).get? b=some o:=
 W.hideAll_get _ e λhm=>by
  have q:(H b).isSome=true:=(List.mem_filter.mp hm).2;rw[n]at q;simp at q
theorem cc2(e:(aE4 h H).get? b=some o):h.get? b=some o/\H b=none:=by
 have e':h.get? b=some o:=W.of_hideAll (trk h H) e;refine⟨e',?_⟩;cases q:H b with
 |none=>rfl
 |some x=>
  have hm:b∈trk h H:=List.mem_filter.mpr ⟨List.mem_range.mpr (cD9 e'),by simp[q]⟩;have z:(aE4 h H).get? b=none:=W.hideAll_none (trk h H) hm;rw[z]at e;cases e
structure Mod(K:cO5)(mg:Str->Option Value)(aD:Heap):Prop where
 kin:K.In aD
 glob:aD.Ns mainGlobals mg
 blt:∃mb,aD.Ns builtinsNs mb/\∀x:Str,x≠"__name__"->mb x=bootBuiltins x
 nolimit:aD.NoLimit
structure Cx where
 prog:Program
 w:World
 K:cO5
 mg:Str->Option Value
 aD:Heap
 A:Around
 N:List Str
 sd:Shared
 Ho:Hp
 env:Env
 aE:List Env
 stack:List Env
 ex:List Addr
 fn:Str->Bool
 calm:Bool
 pn:List (Addr×Obj)
 xe:Value->Shared->Prop
abbrev NoD(x:Str):Prop:=(x==("__debug__":Str))=false
abbrev StE(X:Cx)(e:Expr)(es:List Expr):Prop:=starEach (e::es) X.env=(false,eval e X.env)::starEach es X.env
abbrev Bks(X:Cx)(p:Pos)(es:List Expr):Prop:=(backTo p (starEach es X.env)).any (·.1)=false
abbrev NFo(X:Cx)(i:Expr):Prop:=∀x,foldedSetIterable i X.env x=pure x
abbrev LcF(X:Cx)(x:Str):Prop:=X.fn x=true\/X.env.scope.names.lookup x=some .local
def frs(l:List Env):List Addr:=l.filterMap (·.frame)
abbrev Cx.fs(X:Cx):List Addr:=frs X.aE
def Vis(sc:Scope)(x:Str):Prop:=sc.names.lookup x=some .local\/sc.names.lookup x=some .cell\/sc.names.lookup x=some .free
def Loc(sc:Scope)(x:Str):Prop:=sc.names.lookup x=some .local\/sc.names.lookup x=some .cell
def cy1(env:Env)(h:Heap)(m:Str->Option Value)(x:Str)(u:Value):Prop:=
 (env.kindOf x=some .local/\m x=some u)\/((env.kindOf x=some .cell\/env.kindOf x=some .free)/\∃c,env.cells.lookup x=some c/\h.IsCell c (some u))
structure Cx.Ok(X:Cx):Prop where
 mod:Mod X.K X.mg X.aD
 kind:X.env.scope.kind=.function
 glob:X.env.globals=mainGlobals
 blt:X.env.builtins=builtinsNs
 above:X.sd.sz<=X.env.locals
 inj:∀x y c,X.env.cells.lookup x=some c->X.env.cells.lookup y=some c->x=y
 has:∀x,(X.env.kindOf x=some .cell\/X.env.kindOf x=some .free)->∃c,X.env.cells.lookup x=some c
 cab:∀x c,X.fn x=true->X.env.cells.lookup x=some c->X.sd.sz<=c
 hd:X.calm=true->X.A.handled=none
 frames:X.A.frames=some X.stack
 stk:X.stack=X.aE\/(X.stack=X.env::X.aE/\X.env.frame=some X.env.locals)
 exf:∀b∈X.ex,b≠X.env.locals/\∀x c,X.env.cells.lookup x=some c->c≠b
 bs:∀b o,X.aD.get? b=some o->X.sd.heap.get? b=some o/\X.Ho b=none
 bsz:X.aD.objs.size<=X.sd.sz
 noex:∀b o,X.aD.get? b=some o->b∉X.ex
 exfs:∀b∈X.ex,b∉X.fs
 funs:X.sd.heap.FunFrames X.aD X.aE
 frf:∀b∈X.fs,X.Ho b=none
structure Inv(X:Cx)(aA:List (Addr×Obj))(Z:List (Option V))(H:Hp)(s:Shared):Prop where
 ok:X.Ok
 os:s.os=X.sd.os
 bare:AllBare s.gens
 aD:Un X.fs X.ex X.Ho H X.sd.heap s.heap
 loc:∃m,s.heap.Ns X.env.locals m/\∀(i:Nat) (x:Str) (v:V),X.N[i]?=some x->Z[i]?=some (some v)->Vis X.env.scope x->∃u,D0 v u/\cy1 X.env s.heap m x u
 cell:∀x c,X.env.cells.lookup x=some c->∃v,s.heap.IsCell c v
 free:H X.env.locals=none
 freeC:∀x c,X.env.cells.lookup x=some c->H c=none
 pin:∀p∈X.pn++aA,s.heap.get? p.1=some p.2/\H p.1=none/\p.1≠X.env.locals/\p.1∉X.fs/\∀v,p.2.data≠.cell v
 hok:HOk X.prog X.w H s.heap
 len:Z.length=X.N.length
section
variable {X:Cx}{aA:List (Addr×Obj)}{Z:List (Option V)}{H H':Hp}{s:Shared}{h':Heap}
theorem Cx.Ok.nofr(ok:X.Ok)(e:X.aD.get? b=some o):b∉X.fs:=λhb=>by
 have :=(ok.funs.mem hb).1;rw[e]at this;cases this
theorem Inv.bs(I:Inv X aA Z H s):∀b o,X.aD.get? b=some o->s.heap.get? b=some o/\H b=none:=λb o e=>
 ⟨I.aD.keep b o (I.ok.bs b o e).1 (I.ok.bs b o e).2 (I.ok.nofr e) (I.ok.noex b o e),I.aD.free b o (I.ok.bs b o e).1 (I.ok.bs b o e).2 (I.ok.noex b o e)⟩
theorem Inv.bk(I:Inv X aA Z H s):∀b o,X.aD.get? b=some o->s.heap.get? b=some o:=λb o e=>(I.bs b o e).1
theorem Inv.mod(I:Inv X aA Z H s):Mod X.K X.mg X.aD:=I.ok.mod
theorem Inv.kIn(I:Inv X aA Z H s):X.K.In s.heap:=I.ok.mod.kin.keeps I.bk
theorem Inv.lt(I:Inv X aA Z H s):X.env.locals<s.sz:=let⟨_,hn,_⟩:=I.loc;hn.lt
theorem Inv.sz(I:Inv X aA Z H s):X.sd.sz<=s.sz:=cM5 I.ok.above (Nat.le_of_lt I.lt)
theorem Inv.nofs(I:Inv X aA Z H s)(h:s.sz<=a):a∉X.fs:=λhb=>by
 obtain⟨_,o,ho,_⟩:=I.ok.funs.mem hb;exact absurd (cM7 (cD9 ho) (cM5 I.sz h)) (cM6 _)
theorem Inv.cne(I:Inv X aA Z H s):∀x c,X.env.cells.lookup x=some c->c≠X.env.locals:=λx c e z=>by
 obtain⟨v,o,ho,hd⟩:=I.cell x c e;obtain⟨m,⟨o',es,ep,ho',hd',_⟩,_⟩:=I.loc;rw[z,ho']at ho;cases ho;rw[hd']at hd;cases hd
theorem Inv.funs(I:Inv X aA Z H s):s.heap.FunFrames X.aD X.aE:=by
 have all:∀(l:List Env),(∀b∈frs l,b∈X.fs)->X.sd.heap.FunFrames X.aD l->s.heap.FunFrames X.aD l:=by
  intro l;induction l with
  |nil=>intro _ _;trivial
  |cons env r ih=>
   intro hs hl;obtain⟨hk,⟨L,o,hf,hn,ho,hd⟩,hr⟩:=hl;have hL:L∈X.fs:=hs L (by unfold frs;rw[cH6,hf];exact cK7);obtain⟨sl,e⟩:=I.aD.slot L o ho (I.ok.frf L hL) hL λz=>I.ok.exfs L z hL
   exact⟨hk,⟨L,_,hf,hn,e,hd⟩,ih (λb hb=>hs b (by unfold frs;rw[cH6,hf];exact cK6 _ hb)) hr⟩
 exact all X.aE (λ_ hb=>hb) I.ok.funs
theorem Inv.stack(I:Inv X aA Z H s):s.heap.FunFrames X.aD X.stack:=by
 rcases I.ok.stk with e|⟨e,hf⟩
 .rw[e];exact I.funs
 .rw[e];obtain⟨m,hn,_⟩:=I.loc;refine .cons (by rw[I.ok.kind];decide) hf hn ?_ I.funs;exact Heap.get?_none_of_le (cM5 I.ok.bsz I.ok.above)
theorem Inv.stkSub(I:Inv X aA Z H s):∀b∈frs X.stack,b∈X.env.locals::X.fs:=λb hb=>by
 rcases I.ok.stk with e|⟨e,hf⟩
 .rw[e]at hb;exact cK6 _ hb
 .rw[e]at hb;unfold frs at hb;rw[cH6,hf]at hb;exact hb
theorem Inv.stkFree(I:Inv X aA Z H s):∀b∈frs X.stack,H b=none:=λb hb=>by
 rcases cA9 (I.stkSub b hb)with e|hb
 .rw[e];exact I.free
 .obtain⟨_,o,ho,_⟩:=I.ok.funs.mem hb;exact I.aD.free b o ho (I.ok.frf b hb) λz=>I.ok.exfs b z hb
theorem Inv.step{g':Array GenState}{t':Nat}{d':Drawn}{ch:List Addr}(I:Inv X aA Z H s)
  (hch:∀b∈ch,(b∈X.ex\/X.sd.sz<=b)/\b≠X.env.locals/\(∀x c,X.env.cells.lookup x=some c->c≠b)/\∀p∈X.pn++aA,p.1≠b)
  (keep:∀b o,b≠X.env.locals->b∉X.fs->b∉ch->s.heap.get? b=some o->H b=none->h'.get? b=some o)
  (slot:∀b o,b≠X.env.locals->b∈X.fs->b∉ch->s.heap.get? b=some o->H b=none->∃sl,h'.get? b=some {o with slots:=sl}) (free:∀b o,b∉ch->s.heap.get? b=some o->H b=none->H' b=none)
  (there:∀b o,b∉ch->s.heap.get? b=some o->∃o',h'.get? b=some o')
  (tups:∀b xs,H b=some (.tup xs)->H' b=some (.tup xs)) (frzs:∀b o u,H b=some (.frz o u)->H' b=some (.frz o u)) (tbls:∀b ps,H b=some (.tbl ps)->∃more,H' b=some (.tbl (ps++more)))
  (ns:∀m,s.heap.Ns X.env.locals m->h'.Ns X.env.locals m) (hok:HOk X.prog X.w H' h') (hg:AllBare g'):
  Inv X aA Z H' {s with heap:=h',gens:=g',drawn:=d',toks:=t'}:=by
 have neL:∀b o,X.sd.heap.get? b=some o->b≠X.env.locals:=λb o e=>cN5 (cM7 (cD9 e) I.ok.above)
 have neC:∀b o,X.sd.heap.get? b=some o->b∉X.ex->b∉ch:=λb o e hx hb=>by
  rcases(hch b hb).1 with z|z
  .exact hx z
  .exact absurd (cM7 (cD9 e) z) (cM6 _)
 have cellK:∀x c,X.env.cells.lookup x=some c->∀v,s.heap.IsCell c v->h'.IsCell c v:=λx c e v ⟨o,ho,hd⟩=>by
  have nch:c∉ch:=λz=>(hch c z).2.2.1 x c e rfl
  by_cases hc:c∈X.fs
  .obtain⟨sl,q⟩:=slot c o (I.cne x c e) hc nch ho (I.freeC x c e);exact⟨_,q,hd⟩
  .exact⟨o,keep c o (I.cne x c e) hc nch ho (I.freeC x c e),hd⟩
 refine⟨I.ok,I.os,hg,⟨λb o e n hb hx=> ?_,λb o e n hb hx=> ?_,λb o e n hx=> ?_,λb o e hx=> ?_,λb xs e=>tups b xs (I.aD.tups b xs e),λb o xs e=>frzs b o xs (I.aD.frzs b o xs e),λb ps e=> ?_⟩,?_,λx c e=> ?_,?_,λx c e=> ?_,λp hp=> ?_,hok,I.len⟩
 .exact keep b o (neL b o e) hb (neC b o e hx) (I.aD.keep b o e n hb hx) (I.aD.free b o e n hx)
 .obtain⟨sl,e1⟩:=I.aD.slot b o e n hb hx;obtain⟨sl',e2⟩:=slot b _ (neL b o e) hb (neC b o e hx) e1 (I.aD.free b o e n hx);exact⟨sl',e2⟩
 .obtain⟨o',e1⟩:=I.aD.there b o e hx;exact free b o' (neC b o e hx) e1 (I.aD.free b o e n hx)
 .obtain⟨o',e1⟩:=I.aD.there b o e hx;exact there b o' (neC b o e hx) e1
 .obtain⟨m1,e1⟩:=I.aD.tbls b ps e;obtain⟨m2,e2⟩:=tbls b _ e1;exact⟨m1++m2,by rw[e2,Array.append_assoc]⟩
 .obtain⟨m,hn,hl⟩:=I.loc;refine⟨m,ns m hn,λi x v e1 e2 e3=> ?_⟩;obtain⟨u,r,l⟩:=hl i x v e1 e2 e3;refine⟨u,r,?_⟩;rcases l with l|⟨k,c,e,z⟩
  .exact .inl l
  .exact .inr ⟨k,c,e,cellK x c e _ z⟩
 .obtain⟨v,z⟩:=I.cell x c e;exact⟨v,cellK x c e v z⟩
 .obtain⟨m,⟨o,_,_,ho,_⟩,_⟩:=I.loc;exact free _ o (λz=>(hch _ z).2.1 rfl) ho I.free
 .obtain⟨v,o,ho,hd⟩:=I.cell x c e;exact free c o (λz=>(hch c z).2.2.1 x c e rfl) ho (I.freeC x c e)
 .obtain⟨e,n,ne,nf,d⟩:=I.pin p hp;have nch:p.1∉ch:=λz=>(hch p.1 z).2.2.2 p hp rfl
  exact⟨keep p.1 p.2 ne nf nch e n,free p.1 p.2 nch e n,ne,nf,d⟩
theorem Inv.un{t':Nat}(I:Inv X aA Z H s)(u:Un X.fs [] H H' s.heap h')(hok:HOk X.prog X.w H' h'):Inv X aA Z H' {s with heap:=h',toks:=t'}:=by
 obtain⟨m,⟨o,es,ep,ho,r⟩,_⟩:=id I.loc;obtain⟨sl,hL⟩:=u.any ho I.free (by simp);exact I.step (g':=s.gens) (d':=s.drawn) (ch:=[]) (λ_ z=>nomatch z) (λb o _ hb _ e n=>u.keep b o e n hb (by simp)) (λb o _ hb _ e n=>u.slot b o e n hb (by simp)) (λb o _ e n=>u.free b o e n (by simp)) (λb o _ e=>u.there b o e (by simp)) u.tups u.frzs u.tbls (λm' hm=>by
  obtain⟨o',es',ep',ho',r'⟩:=hm;rw[ho]at ho';cases ho';exact⟨_,es',ep',hL,r'⟩) hok I.bare
theorem Inv.call{g':Array GenState}{t':Nat}{d':Drawn}{ch:List Addr}(I:Inv X aA Z H s)(u:Un (frs X.stack) ch H H' s.heap h')(hok:HOk X.prog X.w H' h')(hg:AllBare g')
  (hch:∀b∈ch,(b∈X.ex\/X.sd.sz<=b)/\b≠X.env.locals/\(∀x c,X.env.cells.lookup x=some c->c≠b)/\∀p∈X.pn++aA,p.1≠b):
  Inv X aA Z H' {s with heap:=h',gens:=g',drawn:=d',toks:=t'}:=by
 obtain⟨m,⟨o,es,ep,ho,r⟩,_⟩:=id I.loc;obtain⟨sl,hL⟩:=u.any ho I.free λz=>(hch _ z).2.1 rfl
 exact I.step (ch:=ch) hch (λb o hL hb hc e n=>u.keep b o e n (λz=>(cA9 (I.stkSub b z)).elim hL hb) hc) (λb o _ _ hc e n=>u.any e n hc) (λb o hc e n=>u.free b o e n hc) (λb o hc e=>u.there b o e hc) u.tups u.frzs u.tbls (λm' hm=>by
  obtain⟨o',es',ep',ho',r'⟩:=hm;rw[ho]at ho';cases ho';exact⟨_,es',ep',hL,r'⟩) hok hg
theorem Inv.turned{t':Nat}{it:Addr}(I:Inv X aA Z H s)(k:∀b o,b≠it->s.heap.get? b=some o->h'.get? b=some o)(hn:H it=none)(hL:it≠X.env.locals)
  (h1:it∈X.ex\/X.sd.sz<=it) (h2:∀x c,X.env.cells.lookup x=some c->c≠it) (h3:∀p∈X.pn++aA,p.1≠it):Inv X aA Z H {s with heap:=h',toks:=t'}:=by
 have nit:∀b u,H b=some u->b≠it:=λb u e z=>by rw[z,hn]at e;cases e
 refine I.step (g':=s.gens) (d':=s.drawn) (ch:=[it]) (λb hb=> ?_) (λb o _ _ hc e _=>k b o (λz=>hc (by simp[z])) e) (λb o _ _ hc e _=>⟨o.slots,k b o (λz=>hc (by simp[z])) e⟩) (λ_ _ _ _ n=>n)
  (λb o hc e=>⟨o,k b o (λz=>hc (by simp[z])) e⟩) (λ_ _ e=>e) (λ_ _ _ e=>e) (λb ps e=>⟨#[],by rw[e];simp⟩) (λm hm=> ?_) (λb u e=> ?_) I.bare
 .have e:b=it:=by simpa using hb
  subst e;exact⟨h1,hL,h2,h3⟩
 .obtain⟨o,es,ep,ho,r⟩:=hm;exact⟨o,es,ep,k _ o (Ne.symm hL) ho,r⟩
 .refine(I.hok b u e).stay (λc v hc q=>k c v ?_ q) (λ_ q=>q) λ_ _ q=>q
  rcases hc with z|z
  .rw[z];exact nit b u e
  .exact nit c _ z
theorem Inv.tok(I:Inv X aA Z H s)(t:Nat):Inv X aA Z H {s with toks:=t}:=I.un (h':=s.heap) (t':=t) Un.refl I.hok
theorem Inv.kept(I:Inv X aA Z H s)(k:∀b u,s.heap.get? b=some u->h'.get? b=some u):Inv X aA Z H {s with heap:=h',toks:=t'}:=I.un (Un.kept k) (I.hok.kept k)
theorem Inv.laid(I:Inv X aA Z H s)(k:∀b u,s.heap.get? b=some u->h'.get? b=some u)(hp:s.sz<=a)(new:ad3 X.prog X.w (upd H a o) h' a o):
  Inv X aA Z (upd H a o) {s with heap:=h',toks:=t'}:=I.un (Un.laid k hp (I.hok.fresh hp)) (I.hok.laid k hp new)
theorem Inv.write(I:Inv X aA Z H s)(mu:Mut (H x))(he:e=x\/H e=some (.aB x))(k:∀b u,b≠e->s.heap.get? b=some u->h'.get? b=some u)(heo:∃u,h'.get? e=some u)
  (new:ad3 X.prog X.w (upd H x o) h' x o):Inv X aA Z (upd H x o) {s with heap:=h',toks:=t'}:=I.un (Un.write mu he k heo) (I.hok.write mu he k heo new)
theorem Inv.weak(I:Inv X aA Z H s)(hl:Z'.length=Z.length)(w:∀(i:Nat) v,Z'[i]?=some (some v)->Z[i]?=some (some v)):Inv X aA Z' H s:=
 ⟨I.ok,I.os,I.bare,I.aD,let⟨m,hn,hl'⟩:=I.loc;⟨m,hn,λi x v e1 e2 e3=>hl' i x v e1 (w i v e2) e3⟩,I.cell,I.free,I.freeC,I.pin,I.hok,hl.trans I.len⟩
theorem Inv.pins_of(I:Inv X aA Z H s)(h:∀p∈aA',s.heap.get? p.1=some p.2/\H p.1=none/\p.1≠X.env.locals/\p.1∉X.fs/\∀v,p.2.data≠.cell v):Inv X aA' Z H s:=
 ⟨I.ok,I.os,I.bare,I.aD,I.loc,I.cell,I.free,I.freeC,λp hp=>(cC5 hp).elim (λz=>I.pin p (cK3 _ z)) (h p),I.hok,I.len⟩
theorem aQ3{N:List Str}(hN:N.Nodup){i j:Nat}{x:Str}(a:N[i]?=some x)(b:N[j]?=some x):i=j:=by
 obtain⟨h1,e1⟩:=List.getElem?_eq_some_iff.mp a;obtain⟨h2,e2⟩:=List.getElem?_eq_some_iff.mp b;exact(List.getElem_inj hN).mp (e1.trans e2.symm)
theorem aG9{M:Model}{A:Around}{E:Value->Shared->Prop}{i:Nat}{x:Str}{v:V}{u:Value}{Q:Unit->Shared->Prop}(I:Inv X aA Z H s)(hN:X.N.Nodup)(hi:X.N[i]?=some x)(hx:Loc X.env.scope x)(r:D0 v u)
  (h:∀s',Inv X aA (Z.set i (some v)) H s'->(∃a,Heap.SameBut a s.heap s'.heap/\(a=X.env.locals\/X.env.cells.lookup x=some a))->Q () s') (hf:LcF X x):wpAny M A (storeName X.env x u) Q E s:=by
 obtain⟨m,hn,hl⟩:=id I.loc;have hcls:(X.env.scope.kind==.class||(X.env.scope.kind==.module&&X.env.locals !=X.env.globals))=false:=by rw[I.ok.kind];rfl
 have hiZ:i<Z.length:=by rw[I.len];exact(List.getElem?_eq_some_iff.mp hi).1
 have cne:=I.cne;have tracked:∀{a:Addr}{h':Heap},(∃o,s.heap.get? a=some o/\H a=none)->Heap.SameBut a s.heap h'->HOk X.prog X.w H h':=λ{a h'} ha hs b ob e=>by
  obtain⟨_,_,hfree⟩:=ha;refine(I.hok b ob e).stay (λc w' hc q=>(hs.2 c ?_).trans q) (λ_ q=>q) λ_ _ q=>q
  rintro rfl;rcases hc with rfl|hc
  .rw[hfree]at e;cases e
  .rw[hfree]at hc;cases hc
 rcases hx with hk|hk
 .refine wpAny_storeName_local hk hn (λh' hn' hs=> ?_) hcls;obtain⟨oL,_,_,hoL,_⟩:=id hn;refine h _ ⟨I.ok,I.os,I.bare,⟨λb o e n hb hx=> ?_,λb o e n hb hx=> ?_,I.aD.free,λb o e hx=> ?_,I.aD.tups,I.aD.frzs,I.aD.tbls⟩,⟨_,hn',λj y v' e1 e2 e3=> ?_⟩,λy c e=> ?_,I.free,I.freeC,λp hp=> ?_,tracked ⟨oL,hoL,I.free⟩ hs,by simpa using I.len⟩ ⟨_,hs,.inl rfl⟩
  .exact(hs.2 b (cN5 (cM7 (cD9 e) I.ok.above))).trans (I.aD.keep b o e n hb hx)
  .obtain⟨sl,e1⟩:=I.aD.slot b o e n hb hx;exact⟨sl,(hs.2 b (cN5 (cM7 (cD9 e) I.ok.above))).trans e1⟩
  .obtain⟨o',e1⟩:=I.aD.there b o e hx;exact⟨o',(hs.2 b (cN5 (cM7 (cD9 e) I.ok.above))).trans e1⟩
  .by_cases hj:j=i
   .subst hj;rw[hi]at e1;cases e1;rw[cI9 hiZ]at e2;cases e2;exact⟨u,r,.inl ⟨hk,by simp⟩⟩
   .rw[cI8 (Ne.symm hj)]at e2;obtain⟨u',r',q⟩:=hl j y v' e1 e2 e3;refine⟨u',r',?_⟩;rcases q with⟨k,e⟩|⟨k,c,e,z⟩
    .refine .inl ⟨k,?_⟩;have :y≠x:=λe=>hj (aQ3 hN e1 (e▸hi))
     simp[this,e]
    .exact .inr ⟨k,c,e,z.sameBut hs (cne y c e)⟩
  .obtain⟨w',z⟩:=I.cell y c e;exact⟨w',z.sameBut hs (cne y c e)⟩
  .obtain⟨e,n,ne,nf,d⟩:=I.pin p hp;exact⟨(hs.2 p.1 ne).trans e,n,ne,nf,d⟩
 .have hfn:X.fn x=true:=by
   rcases hf with z|z
   .exact z
   .rw[z]at hk;cases hk
  obtain⟨c,hc⟩:=I.ok.has x (.inl hk);obtain⟨w',z⟩:=I.cell x c hc;refine wpAny_storeName_cell I.ok.kind hk hc z (λh' hc' hs=> ?_);obtain⟨oc,hoc,hocd⟩:=id z;refine h {s with heap:=h'} ⟨I.ok,I.os,I.bare,⟨λb o e n hb hx=> ?_,λb o e n hb hx=> ?_,I.aD.free,λb o e hx=> ?_,I.aD.tups,I.aD.frzs,I.aD.tbls⟩,⟨m,hn.sameBut hs (Ne.symm (cne x c hc)),λj y v' e1 e2 e3=> ?_⟩,λy c' e=> ?_,I.free,I.freeC,λp hp=> ?_,tracked ⟨oc,hoc,I.freeC x c hc⟩ hs,by simpa using I.len⟩ ⟨c,hs,.inr hc⟩
  .exact(hs.2 b (cN5 (cM7 (cD9 e) (I.ok.cab x c hfn hc)))).trans (I.aD.keep b o e n hb hx)
  .obtain⟨sl,e1⟩:=I.aD.slot b o e n hb hx;exact⟨sl,(hs.2 b (cN5 (cM7 (cD9 e) (I.ok.cab x c hfn hc)))).trans e1⟩
  .obtain⟨o',e1⟩:=I.aD.there b o e hx;exact⟨o',(hs.2 b (cN5 (cM7 (cD9 e) (I.ok.cab x c hfn hc)))).trans e1⟩
  .by_cases hj:j=i
   .subst hj;rw[hi]at e1;cases e1;rw[cI9 hiZ]at e2;cases e2;exact⟨u,r,.inr ⟨.inl hk,c,hc,hc'⟩⟩
   .rw[cI8 (Ne.symm hj)]at e2;obtain⟨u',r',q⟩:=hl j y v' e1 e2 e3;refine⟨u',r',?_⟩;rcases q with q|⟨k,c',e,z'⟩
    .exact .inl q
    .refine .inr ⟨k,c',e,z'.sameBut hs ?_⟩;rintro rfl;exact hj (aQ3 hN e1 (I.ok.inj _ _ _ e hc▸hi))
  .by_cases hcc:c'=c
   .subst hcc;exact⟨_,hc'⟩
   .obtain⟨w2,z2⟩:=I.cell y c' e;exact⟨w2,z2.sameBut hs hcc⟩
  .obtain⟨e,n,ne,nf,d⟩:=I.pin p hp;refine⟨(hs.2 p.1 ?_).trans e,n,ne,nf,d⟩;intro q;rw[q,hoc]at e;have q':oc=p.2:=cO4 e;exact d w' (by rw[<-q'];exact hocd)
theorem aD2(I:Inv X aA Z H s)(hN:X.N.Nodup)(hi:X.N[i]?=some x)(hx:Loc X.env.scope x)(r:D0 v u)
  (h:∀s',Inv X aA (Z.set i (some v)) H s'->Q () s') (hf:LcF X x):wpAny M A (storeName X.env x u) Q E s:=
 aG9 I hN hi hx r (λs' I' _=>h s' I') hf
theorem Inv.call'(I:Inv X aA Z H s)(ho:s'.os=s.os)(u:Un (frs X.stack) ch H H' s.heap s'.heap)(hok:HOk X.prog X.w H' s'.heap)(hg:AllBare s'.gens)
  (hch:∀b∈ch,(b∈X.ex\/X.sd.sz<=b)/\b≠X.env.locals/\(∀x c,X.env.cells.lookup x=some c->c≠b)/\∀p∈X.pn++aA,p.1≠b):Inv X aA Z H' s':=by
 obtain⟨h',g',d',t',o'⟩:=s';have e:o'=s.os:=ho;subst e;exact I.call (g':=g') (t':=t') (d':=d') u hok hg hch
end
abbrev XK:=Value->Option Addr->Hp->Prop
abbrev St:=List (Option V)
abbrev VK:=V->Hp->Prop
abbrev TE:=St->Hp->VK->Prop
abbrev TT:=St->Hp->(Bool->Hp->Prop)->Prop
abbrev TA:=St->Hp->(List V->Hp->Prop)->Prop
structure an0 where
 nx:St->Hp->Prop
 rt:VK
 bk:St->Hp->Prop:=λ_ _=>False
 ct:St->Hp->Prop:=λ_ _=>False
abbrev TS:=an0->St->Hp->Prop
def EP(X:Cx)(aA:List (Addr×Obj))(Z:St)(Q:VK)(u:Value)(s':Shared):Prop:=∃v H',Inv X aA Z H' s'/\D0 v u/\Q v H'
def TP(X:Cx)(aA:List (Addr×Obj))(Z:St)(Q:Bool->Hp->Prop)(b:Bool)(s':Shared):Prop:=∃H',Inv X aA Z H' s'/\Q b H'
def AP(X:Cx)(aA:List (Addr×Obj))(Z:St)(Q:List V->Hp->Prop)(us:List Value)(s':Shared):Prop:=∃vs H',Inv X aA Z H' s'/\B6 vs us/\Q vs H'
def SP(X:Cx)(aA:List (Addr×Obj))(D:an0)(f:Flow)(s':Shared):Prop:=
 match f with
 |.next=>∃Z' H',Inv X aA Z' H' s'/\D.nx Z' H'
 |.brk=>∃Z' H',Inv X aA Z' H' s'/\D.bk Z' H'
 |.cont=>∃Z' H',Inv X aA Z' H' s'/\D.ct Z' H'
 |.ret u=>∃v Z' H',Inv X aA Z' H' s'/\D0 v u/\D.rt v H'
def PE(X:Cx)(e:Expr)(t:TE):Prop:=
 ∀(aA:List (Addr×Obj)) (s:Shared) (Z:St) (H:Hp) (Q:VK),Inv X aA Z H s->t Z H Q->wpAny (model X.prog X.w) X.A (eval e X.env) (EP X aA Z Q) X.xe s
def PT(X:Cx)(e:Expr)(t:TT):Prop:=
 ∀(aA:List (Addr×Obj)) (s:Shared) (Z:St) (H:Hp) (Q:Bool->Hp->Prop),Inv X aA Z H s->t Z H Q->wpAny (model X.prog X.w) X.A (isTrue e X.env (eval e X.env)) (TP X aA Z Q) X.xe s
def PW(X:Cx)(e:Expr)(t:TT):Prop:=
 ∀(ak4:Sem Value) (aA:List (Addr×Obj)) (s:Shared) (Z:St) (H:Hp) (Q:Bool->Hp->Prop),Inv X aA Z H s->t Z H Q->wpAny (model X.prog X.w) X.A (isTrue e X.env ak4) (TP X aA Z Q) X.xe s
theorem PW.pt(h:PW X e t):PT X e t:=h _
def PA(X:Cx)(es:List Expr)(t:TA):Prop:=
 ∀(pos:Pos) (aA:List (Addr×Obj)) (s:Shared) (Z:St) (H:Hp) (Q:List V->Hp->Prop),Inv X aA Z H s->t Z H Q->wpAny (model X.prog X.w) X.A (spliced (backTo pos (starEach es X.env))) (AP X aA Z Q) X.xe s
def PS(X:Cx)(st:Stmt)(t:TS):Prop:=
 ∀(aA:List (Addr×Obj)) (s:Shared) (Z:St) (H:Hp) (D:an0),Inv X aA Z H s->t D Z H->wpAny (model X.prog X.w) X.A (exec st X.env) (SP X aA D) X.xe s
def PSs(X:Cx)(st:List Stmt)(t:TS):Prop:=
 ∀(aA:List (Addr×Obj)) (s:Shared) (Z:St) (H:Hp) (D:an0),Inv X aA Z H s->t D Z H->wpAny (model X.prog X.w) X.A (execs st X.env) (SP X aA D) X.xe s
theorem thn(h:wpAny M A t Q E s)(hQ:∀a s,Q a s->Q' a s):wpAny M A t Q' E s:=cP6 h hQ λ_ _ x=>x
section
variable {X:Cx}
def aa8(i:Nat):TE:=λZ H Q=>∃v,Z[i]?=some (some v)/\Q v H
def tC(v:V):TE:=λ_ H Q=>Q v H
theorem aq9(hN:X.N[i]?=some x)(hv:Vis X.env.scope x)(hd:NoD x)(hcd:(x==("__classdict__":Str))=false):PE X (.Name x pos) (aa8 i):=by
 intro aA s Z H Q I h;obtain⟨v,e,h⟩:=h;obtain⟨m,hn,hl⟩:=I.loc;obtain⟨u,r,l⟩:=hl i x v hN e hv;have fin:EP X aA Z Q u s:=⟨v,H,I,r,h⟩
 rcases l with⟨hk,hm⟩|⟨hk,c,hc,hcell⟩
 .exact wpAny_Name (wpAny_loadName_local I.ok.kind hk hn hm fin) hd
 .rcases hk with hk|hk
  .exact wpAny_Name (wpAny_loadName_cell I.ok.kind hk hc hcell fin) hd
  .exact wpAny_Name (wpAny_loadName_free I.ok.kind hk hc hcell fin hcd) hd
theorem bG0:PE X (.Constant (.int i) j pos) (tC (.int i)):=λ_ _ _ H _ I h=>wpAny_Constant_int ⟨.int i,H,I.tok _,⟨_,rfl⟩,h⟩
theorem bx2:PE X (.Constant (.bool b) j pos) (tC (.bl b)):=λ_ _ _ H _ I h=>Constant_bool ⟨.bl b,H,I,rfl,h⟩
theorem ci9:PE X (.Constant .none j pos) (tC .non):=λ_ _ _ H _ I h=>Constant_none ⟨.non,H,I,rfl,h⟩
theorem bF8:PE X (.Constant (.str x) j pos) (tC (.str x)):=λ_ _ _ H _ I h=>Calls.Constant_str ⟨.str x,H,I.tok _,⟨_,rfl⟩,h⟩
def Gl(X:Cx)(x:Str):Prop:=X.env.kindOf x=some .globalImplicit
theorem ao7(I:Inv X aA Z H s)(hg:Gl X x)(hm:X.mg x=some u)(h:Q u s)
  (hd:NoD x):wpAny (model X.prog X.w) X.A (eval (.Name x pos) X.env) Q E s:=
 Calls.Name_function_global I.ok.kind hg (Calls.loadGlobal_global (by rw[I.ok.glob];exact I.mod.glob.keeps I.bk) hm h) hd
theorem ar0(I:Inv X aA Z H s)(hg:Gl X x)(hm:X.mg x=none)(hv:bootBuiltins x=some u)(h:Q u s)
  (hn:x≠"__name__":=by decide) (hd:NoD x:=by decide):wpAny (model X.prog X.w) X.A (eval (.Name x pos) X.env) Q E s:=by
 obtain⟨mb,h1,h2⟩:=I.mod.blt;exact Calls.Name_function_global I.ok.kind hg (Calls.loadGlobal_builtin (by rw[I.ok.glob];exact I.mod.glob.keeps I.bk) hm (by rw[I.ok.blt];exact h1.keeps I.bk) ((h2 x hn).trans hv) h) hd
theorem aA9(hg:Gl X x)(hm:X.mg x=some u)(r:D0 v u)(hd:NoD x):PE X (.Name x pos) (tC v):=
 λ_ _ _ H _ I h=>ao7 I hg hm ⟨v,H,I,r,h⟩ hd
theorem bs5(hg:Gl X x)(hm:X.mg x=none)(hv:bootBuiltins x=some u)(r:D0 v u)(hn:x≠"__name__")(hd:NoD x):PE X (.Name x pos) (tC v):=
 λ_ _ _ H _ I h=>ar0 I hg hm hv ⟨v,H,I,r,h⟩ hn hd
variable {a b:Expr}{ta tb:TE}{pos:Pos}
def tB(t:TE):TT:=λZ H Q=>t Z H λx H1=>∃c,x=.bl c/\Q c H1
theorem ci1(h:PE X e t)(he:∀ak4,isTrue e X.env ak4=(do let v<-ak4;standAt e.pos;holding [v] (truthy v))):PT X e (tB t):=by
 intro aA s Z H Q I hw;refine isTrue_plain (thn (h aA s Z H _ I hw) λv s1 ⟨x,H1,I1,r1,q1⟩=> ?_) (he _);obtain⟨d,rfl,q⟩:=q1;cases r1;exact cQ2 ⟨H1,I1,q⟩
variable {tA tB':TT}{rest:List Expr}
def cv8(t u:TT):TT:=λZ H Q=>t Z H λc H1=>if c=true then u Z H1 Q else Q false H1
def tOr(t u:TT):TT:=λZ H Q=>t Z H λc H1=>if c=true then Q true H1 else u Z H1 Q
def cv2(t:TT):TT:=λZ H Q=>t Z H λc H1=>Q (!c) H1
theorem ca7(ha:PT X a tA):PW X (.BoolOp .And [a] pos) tA:=by
 intro wh aA s Z H Q I h;refine isTrue_and (thn (ha aA s Z H Q I h) λc s1 e=> ?_);cases c with
 |true=>exact isTrue_and_nil e
 |false=>exact e
theorem ch8(ha:PT X a tA):PW X (.BoolOp .Or [a] pos) tA:=by
 intro wh aA s Z H Q I h;refine isTrue_or (thn (ha aA s Z H Q I h) λc s1 e=> ?_);cases c with
 |false=>exact isTrue_or_nil e
 |true=>exact e
theorem ch9(ha:PT X a tA)(hb:PW X (.BoolOp .And (b::rest) pos) tB'):PW X (.BoolOp .And (a::b::rest) pos) (cv8 tA tB'):=by
 intro wh aA s Z H Q I h;refine isTrue_and (thn (ha aA s Z H _ I h) λc s1 ⟨H1,I1,q1⟩=> ?_);cases c with
 |true=>exact hb wh aA s1 Z H1 Q I1 q1
 |false=>exact⟨H1,I1,q1⟩
theorem cq8(ha:PT X a tA)(hb:PW X (.BoolOp .Or (b::rest) pos) tB'):PW X (.BoolOp .Or (a::b::rest) pos) (tOr tA tB'):=by
 intro wh aA s Z H Q I h;refine isTrue_or (thn (ha aA s Z H _ I h) λc s1 ⟨H1,I1,q1⟩=> ?_);cases c with
 |true=>exact⟨H1,I1,q1⟩
 |false=>exact hb wh aA s1 Z H1 Q I1 q1
theorem ci2(ha:PT X a tA):PT X (.UnaryOp .Not a pos) (cv2 tA):=by
 intro aA s Z H Q I h;exact isTrue_not (ha aA s Z H (λc H1=>Q (!c) H1) I h)
def cq3(ta tb:TE):TE:=λZ H Q=>ta Z H λx H1=>∃c,x=.bl c/\if c=true then tb Z H1 Q else Q (.bl false) H1
def cv1(ta tb:TE):TE:=λZ H Q=>ta Z H λx H1=>∃c,x=.bl c/\if c=true then Q (.bl true) H1 else tb Z H1 Q
def cp6(ta:TE):TE:=λZ H Q=>ta Z H λx H1=>∃c,x=.bl c/\Q (.bl (!c)) H1
theorem ci7(h:PE X a t):PE X (.BoolOp op [a] pos) t:=λaA s Z H Q I hw=>BoolOp_one (h aA s Z H Q I hw)
theorem cj1(ha:PE X a ta)(hb:PE X (.BoolOp .And (b::rest) pos) tb):PE X (.BoolOp .And (a::b::rest) pos) (cq3 ta tb):=by
 intro aA s Z H Q I h;refine BoolOp_and (thn (ha aA s Z H _ I h) λv s1 ⟨x,H1,I1,r1,q1⟩=> ?_);obtain⟨c,rfl,q1⟩:=q1;cases r1;refine cQ2 ?_;cases c with
 |true=>exact hb aA s1 Z H1 Q I1 q1
 |false=>exact⟨.bl false,H1,I1,rfl,q1⟩
theorem cr1(ha:PE X a ta)(hb:PE X (.BoolOp .Or (b::rest) pos) tb):PE X (.BoolOp .Or (a::b::rest) pos) (cv1 ta tb):=by
 intro aA s Z H Q I h;refine BoolOp_or (thn (ha aA s Z H _ I h) λv s1 ⟨x,H1,I1,r1,q1⟩=> ?_);obtain⟨c,rfl,q1⟩:=q1;cases r1;refine cQ2 ?_;cases c with
 |false=>exact hb aA s1 Z H1 Q I1 q1
 |true=>exact⟨.bl true,H1,I1,rfl,q1⟩
theorem ci8(ha:PE X a ta):PE X (.UnaryOp .Not a pos) (cp6 ta):=by
 intro aA s Z H Q I h;refine UnaryOp_ (thn (ha aA s Z H _ I h) λv s1 ⟨x,H1,I1,r1,q1⟩=> ?_);obtain⟨c,rfl,q1⟩:=q1;cases r1;exact not_of (cQ2 ⟨.bl (!c),H1,I1,rfl,q1⟩)
def tIf(t:TT)(ta tb:TE):TE:=λZ H Q=>t Z H λc H1=>if c=true then ta Z H1 Q else tb Z H1 Q
theorem bR7(hc:PT X c tA)(ha:PE X a ta)(hb:PE X b tb):PE X (.IfExp c a b pos) (tIf tA ta tb):=by
 intro aA s Z H Q I h;refine wpAny_IfExp (thn (hc aA s Z H _ I h) λd s1 ⟨H1,I1,q1⟩=> ?_);cases d with
 |true=>exact ha aA s1 Z H1 Q I1 q1
 |false=>exact hb aA s1 Z H1 Q I1 q1
end
def SqL(K:cO5)(H:Hp)(a:Addr)(xs:List V):Prop:=
 Rd H a (.lst xs)\/
  ∃(o:Obj) (its:Array Value) (n:Nat),K.lookup a=some o/\o.cls=.type "list"/\o.dict=none/\o.data=.seq its n/\its.size<=sizeLine/\B6 xs its.toList
def SqT(K:cO5)(H:Hp)(a:Addr)(xs:List V):Prop:=
 Rd H a (.tup xs)\/
  ∃(o:Obj) (its:Array Value) (n:Nat),K.lookup a=some o/\o.cls=.type "tuple"/\o.data=.seq its n/\its.size<=sizeLine/\B6 xs its.toList
def cx7:Value->Option V
 |.none=>some .non
 |.bool b=>some (.bl b)
 |.int i _=>some (.int i)
 |.str x _=>some (.str x)
 |.bytes b _=>some (.byt b)
 |.float b _=>some (.flt b)
 |.ref a=>some (.ref a)
 |.type n=>some (.ty n)
 |_=>none
theorem D0.abs(r:D0 x u):cx7 u=some x:=by
 cases x with
 |non=>cases r;rfl
 |bl _=>cases r;rfl
 |int _=>obtain⟨t,rfl⟩:=r;rfl
 |str _=>obtain⟨t,rfl⟩:=r;rfl
 |byt _=>obtain⟨t,rfl⟩:=r;rfl
 |flt _=>obtain⟨t,rfl⟩:=r;rfl
 |ref _=>cases r;rfl
 |ty _=>cases r;rfl
theorem D0.inj(r:D0 x u)(q:D0 y u):x=y:=cO4 (r.abs.symm.trans q.abs)
theorem B6.inj:∀{xs ys:List V}{us:List Value},B6 xs us->B6 ys us->xs=ys
 |_,_,_,.nil,.nil=>rfl
 |_,_,_,.cons r t,.cons r' t'=>by rw[r.inj r',B6.inj t t']
section
variable {X:Cx}{aA:List (Addr×Obj)}{Z:St}{H:Hp}{s:Shared}{a:Addr}{xs ys:List V}
theorem SqL.of{K:cO5}(h:H a=some (.lst xs)):SqL K H a xs:=.inl (.inl h)
theorem SqT.of{K:cO5}(h:H a=some (.tup xs)):SqT K H a xs:=.inl (.inl h)
theorem Inv.list(I:Inv X aA Z H s)(h:SqL X.K H a xs):∃its:List Value,B6 xs its/\PlainL s.heap a its.toArray/\xs.length<=sizeLine:=by
 rcases h with h|⟨o,its,n,hk,hc,hd,hs,hz,r⟩
 .obtain⟨z,its,n,r,e⟩:=h.ok I.hok;exact⟨its,r,⟨_,n,e,rfl,rfl,rfl⟩,z⟩
 .refine⟨its.toList,r,⟨o,n,I.kIn a o hk,hc,hd,by simpa using hs⟩,?_⟩;have e:=r.length;simp only[cC6]at e;omega
theorem Inv.tuple(I:Inv X aA Z H s)(h:SqT X.K H a xs):∃its:List Value,B6 xs its/\IsTup s.heap a its.toArray/\xs.length<=sizeLine:=by
 rcases h with h|⟨o,its,n,hk,hc,hs,hz,r⟩
 .obtain⟨z,its,r,p⟩:=h.ok I.hok;exact⟨its,r,p,z⟩
 .refine⟨its.toList,r,⟨o,I.kIn a o hk,hc,n,by simpa using hs⟩,?_⟩;have e:=r.length;simp only[cC6]at e;omega
theorem Inv.list_inj(I:Inv X aA Z H s)(h:SqL X.K H a xs)(h':SqL X.K H a ys):xs=ys:=by
 obtain⟨its,r,⟨o,n,e,_,_,d⟩,_⟩:=I.list h;obtain⟨its',r',⟨o',n',e',_,_,d'⟩,_⟩:=I.list h';rw[e]at e';cases e';rw[d]at d';injection d' with d1 _
 have :its=its':=by simpa using congrArg Array.toList d1
 subst this;exact r.inj r'
theorem Inv.tuple_inj(I:Inv X aA Z H s)(h:SqT X.K H a xs)(h':SqT X.K H a ys):xs=ys:=by
 obtain⟨its,r,⟨o,e,_,n,d⟩,_⟩:=I.tuple h;obtain⟨its',r',⟨o',e',_,n',d'⟩,_⟩:=I.tuple h';rw[e]at e';cases e';rw[d]at d';injection d' with d1 _
 have :its=its':=by simpa using congrArg Array.toList d1
 subst this;exact r.inj r'
end
abbrev Cx.wish(X:Cx)(E:Value->Shared->Prop):Cx:={X with xe:=E}
abbrev Cx.nox(X:Cx):Cx:=X.wish λ_ _=>False
theorem Cx.Ok.wish{X:Cx}(ok:X.Ok)(E:Value->Shared->Prop):(X.wish E).Ok:=
 ⟨ok.mod,ok.kind,ok.glob,ok.blt,ok.above,ok.inj,ok.has,ok.cab,ok.hd,ok.frames,ok.stk,ok.exf,ok.bs,ok.bsz,ok.noex,ok.exfs,ok.funs,ok.frf⟩
theorem Cx.Ok.unwish{X:Cx}{E:Value->Shared->Prop}(ok:(X.wish E).Ok):X.Ok:=
 ⟨ok.mod,ok.kind,ok.glob,ok.blt,ok.above,ok.inj,ok.has,ok.cab,ok.hd,ok.frames,ok.stk,ok.exf,ok.bs,ok.bsz,ok.noex,ok.exfs,ok.funs,ok.frf⟩
section
variable {X:Cx}{aA:List (Addr×Obj)}{Z:St}{H:Hp}{s:Shared}{E:Value->Shared->Prop}
theorem Inv.wish(I:Inv X aA Z H s)(E:Value->Shared->Prop):Inv (X.wish E) aA Z H s:=⟨I.ok.wish E,I.os,I.bare,I.aD,I.loc,I.cell,I.free,I.freeC,I.pin,I.hok,I.len⟩
theorem Inv.unwish(I:Inv (X.wish E) aA Z H s):Inv X aA Z H s:=⟨I.ok.unwish,I.os,I.bare,I.aD,I.loc,I.cell,I.free,I.freeC,I.pin,I.hok,I.len⟩
theorem SP.unwish(h:SP (X.wish E) aA D f s'):SP X aA D f s':=by
 cases f with
 |next=>obtain⟨Z',H',I,q⟩:=h;exact⟨Z',H',I.unwish,q⟩
 |brk=>obtain⟨Z',H',I,q⟩:=h;exact⟨Z',H',I.unwish,q⟩
 |cont=>obtain⟨Z',H',I,q⟩:=h;exact⟨Z',H',I.unwish,q⟩
 |ret u=>obtain⟨v,Z',H',I,r,q⟩:=h;exact⟨v,Z',H',I.unwish,r,q⟩
theorem PSs.nox{st:List Stmt}{t:TS}(h:PSs X.nox st t):PSs X st t:=λaA s Z H D I hw=>
 cP6 (h aA s Z H D (I.wish _) hw) (λ_ _ q=>q.unwish) λ_ _ z=>False.elim z
end
section
variable {X:Cx}{st:Stmt}{rest:List Stmt}{t u:TS}{e:Expr}{te:TE}{pos:Pos}
def cp7:TS:=λD Z H=>D.nx Z H
def cg0(t u:TS):TS:=λD Z H=>t {D with nx:=u D} Z H
theorem aL8:PSs X [] cp7:=λ_ _ Z H _ I h=>wpAny_execs_nil ⟨Z,H,I,h⟩
theorem P2(h1:PS X st t)(h2:PSs X rest u):PSs X (st::rest) (cg0 t u):=by
 intro aA s Z H D I h;refine wpAny_execs_cons (thn (h1 aA s Z H {D with nx:=u D} I h) λf s1 q=> ?_);cases f with
 |next=>
  obtain⟨Z',H',I',q⟩:=q;exact h2 aA s1 Z' H' D I' q
 |ret v=>exact q
 |brk=>exact q
 |cont=>exact q
theorem aj9(h1:PS X st t):PSs X [st] t:=by
 intro aA s Z H D I h;refine wpAny_execs_cons (thn (h1 aA s Z H D I h) λf s1 q=> ?_);cases f with
 |next=>exact wpAny_execs_nil q
 |ret v=>exact q
 |brk=>exact q
 |cont=>exact q
theorem Inv.quiet(I:Inv X aA Z H s):interactive X.env=false:=by simp[interactive,I.ok.kind]
def cq0(te:TE):TS:=λD Z H=>te Z H λ_ H1=>D.nx Z H1
theorem ao2(he:PE X e te)(hs:swapsWith e none pos.line X.env=pure false):PS X (.Expr e pos) (cq0 te):=by
 intro aA s Z H D I h;exact wpAny_Expr_any (thn (he aA s Z H _ I h) λv s1 ⟨x,H1,I1,r1,q1⟩=>⟨Z,H1,I1,q1⟩) I.quiet hs
def cu9(te:TE):TS:=λD Z H=>te Z H D.rt
theorem aT0(he:PE X e te):PS X (.Return (some e) pos) (cu9 te):=by
 intro aA s Z H D I h;exact wpAny_Return_some (thn (he aA s Z H _ I h) λv s1 ⟨x,H1,I1,r1,q1⟩=>⟨x,Z,H1,I1,r1,q1⟩)
def cv5(c:TT)(t u:TS):TS:=λD Z H=>c Z H λb H1=>if b=true then t D Z H1 else u D Z H1
theorem bf7(hc:PT X c tc)(ha:PSs X a t)(hb:PSs X b u):PS X (.If c a b pos) (cv5 tc t u):=by
 intro aA s Z H D I h;refine wpAny_If (thn (hc aA s Z H _ I h) λd s1 ⟨H1,I1,q1⟩=> ?_);cases d with
 |true=>exact ha aA s1 Z H1 D I1 q1
 |false=>exact hb aA s1 Z H1 D I1 q1
end
abbrev TG:=V->St->Hp->(St->Hp->Prop)->Prop
abbrev TGs:=List V->St->Hp->(St->Hp->Prop)->Prop
def PG(X:Cx)(target:Expr)(t:TG):Prop:=
 ∀(aA:List (Addr×Obj)) (s:Shared) (Z:St) (H:Hp) (v:V) (u:Value) (Q:St->Hp->Prop),Inv X aA Z H s->D0 v u->t v Z H Q->
  wpAny (model X.prog X.w) X.A (assign target X.env u) (λ_ s'=>∃Z' H',Inv X aA Z' H' s'/\Q Z' H') X.xe s
def PGs(X:Cx)(ts:List Expr)(t:TGs):Prop:=
 ∀(aA:List (Addr×Obj)) (s:Shared) (Z:St) (H:Hp) (vs:List V) (us:List Value) (Q:St->Hp->Prop),Inv X aA Z H s->B6 vs us->t vs Z H Q->
  wpAny (model X.prog X.w) X.A (assignInOrder ((assignEach ts X.env).map (·.2)) us) (λ_ s'=>∃Z' H',Inv X aA Z' H' s'/\Q Z' H') X.xe s
abbrev cn8:=V->V->V->Hp->(Hp->Prop)->Prop
def cn9(X:Cx)(t:cn8):Prop:=
 ∀(aA:List (Addr×Obj)) (s:Shared) (Z:St) (H:Hp) (o i v:V) (ov iv u:Value) (Q:Hp->Prop),Inv X aA Z H s->D0 o ov->D0 i iv->D0 v u->t o i v H Q->
  wpAny (model X.prog X.w) X.A (setItem ov iv u) (λ_ s'=>∃H',Inv X aA Z H' s'/\Q H') X.xe s
section
variable {X:Cx}{pos:Pos}
def aq0(i:Nat):TG:=λv Z H Q=>Q (Z.set i (some v)) H
theorem au6(hN:X.N.Nodup)(hi:X.N[i]?=some x)(hx:Loc X.env.scope x)(hf:LcF X x:=by first |exact .inl rfl|exact .inr rfl|assumption):PG X (.Name x pos) (aq0 i):=by
 intro aA s Z H v u Q I r h;exact wpAny_assign_Name (aD2 I hN hi hx r (λs' I'=>⟨_,H,I',h⟩) hf)
def cx3:TGs:=λvs Z H Q=>vs=[]/\Q Z H
def cs0(t:TG)(u:TGs):TGs:=λvs Z H Q=>∃v r,vs=v::r/\t v Z H λZ' H'=>u r Z' H' Q
theorem bs4:PGs X [] cx3:=by
 intro aA s Z H vs us Q I r h;obtain⟨e,h⟩:=h;subst e;cases r;exact assignInOrder_nil ⟨Z,H,I,h⟩
theorem aw0(h1:PG X e t)(h2:PGs X es u)
  (hs:(assignEach (e::es) X.env).map (·.2)=assign e X.env::(assignEach es X.env).map (·.2)):PGs X (e::es) (cs0 t u):=by
 intro aA s Z H vs us Q I r h;obtain⟨v,vr,e1,h⟩:=h;subst e1;cases r with
 |cons r rr=>
  rw[hs];refine assignInOrder_cons (thn (h1 aA s Z H _ _ _ I r h) λ_ s1 ⟨Z1,H1,I1,q1⟩=> ?_);exact h2 aA s1 Z1 H1 _ _ Q I1 rr q1
def A1(K:cO5)(n:Nat)(t:TGs):TG:=λv Z H Q=>∃a xs,v=.ref a/\SqT K H a xs/\xs.length=n/\t xs Z H Q
theorem bF7(hc:X.calm=true)(h:PGs X es t)
  (hn:(assignEach es X.env).length=n) (hst:(assignEach es X.env).findIdx? (·.1)=none):PG X (.Tuple es k pos) (A1 X.K n t):=by
 intro aA s Z H v u Q I r hw;obtain⟨a,xs,e1,hq,hl,hw⟩:=hw;subst e1;cases r;obtain⟨its,rv,ht,hz⟩:=I.tuple hq;refine assign_Tuple_tuple (I.ok.hd hc) ht (by simp[hn,<-hl,rv.length]) hst λh' hx=> ?_
 have I1:Inv X aA Z H {s with heap:=h'}:=I.kept (t':=s.toks) λb o e=>hx b o (cN5 (cD9 e)) e
 exact h aA _ Z H xs _ Q I1 (by simpa using rv) hw
def cx2(to ti:TE)(t:cn8):TG:=λv Z H Q=>to Z H λo H1=>ti Z H1 λi H2=>t o i v H2 λH3=>Q Z H3
theorem bk0(ho:PE X o to)(hi:PE X i ti)(hs:cn9 X t)
  (ha:∀v,assign (.Subscript o i pos) X.env v=(do
   let ov<-holding [v] (eval o X.env)
   let iv<-holding [v,ov] (eval i X.env)
   standAt pos
   holding [v,ov,iv] (setItem ov iv v)
   release [v,ov,iv] [])):PG X (.Subscript o i pos) (cx2 to ti t):=by
 intro aA s Z H v u Q I r h;rw[ha];refine cP3 (wpAny_holding (thn (ho aA s Z H _ I h) λov s1 ⟨x,H1,I1,r1,q1⟩=> ?_));refine cP3 (wpAny_holding (thn (hi aA s1 Z H1 _ I1 q1) λiv s2 ⟨y,H2,I2,r2,q2⟩=> ?_));refine cP3 (wpAny_standAt (cP3 (wpAny_holding (thn (hs aA s2 Z H2 x y v ov iv u _ I2 r1 r2 r q2) λ_ s3 ⟨H3,I3,q3⟩=> ?_))));exact wpAny_release ⟨Z,H3,I3,q3⟩
def aX2(te:TE)(g:TG):TS:=λD Z H=>te Z H λx H1=>g x Z H1 D.nx
theorem aT1(he:PE X e te)(hg:PG X tg g)(hs:swapsWithSole [tg] e pos.line X.env=pure false)(hw:swappedStores [tg] e X.env=pure none)
  (h1:(assignEach [tg] X.env).map (·.2)=[assign tg X.env]):PS X (.Assign [tg] e pos) (aX2 te g):=by
 intro aA s Z H D I h;refine wpAny_Assign_stores (thn (he aA s Z H _ I h) λv s1 ⟨x,H1,I1,r1,q1⟩=> ?_) hs hw;rw[h1];exact thn (hg aA s1 Z H1 x v _ I1 r1 q1) λ_ s2 q=>q
theorem aA7(hN:X.N.Nodup)(hi:X.N[i]?=some x)(hx:Loc X.env.scope x)(he:PE X e te)(hs:swapsWith e (some (.Name x pos')) pos.line X.env=pure false)(hf:LcF X x):
  PS X (.Assign [.Name x pos'] e pos) (aX2 te (aq0 i)):=by
 intro aA s Z H D I h;refine wpAny_Assign_Name (thn (he aA s Z H _ I h) λv s1 ⟨y,H1,I1,r1,q1⟩=> ?_) hs;exact aD2 I1 hN hi hx r1 (λs2 I2=>⟨_,H1,I2,q1⟩) hf
def cv0(i j:Nat)(ta:TA):TS:=λD Z H=>ta Z H λvs H1=>∃v w,vs=[v,w]/\D.nx ((Z.set i (some v)).set j (some w)) H1
theorem ci3(hc:X.calm=true)(hN:X.N.Nodup)(hi:X.N[i]?=some x)(hj:X.N[j]?=some y)(hij:i≠j)
  (hx:X.env.scope.names.lookup x=some .local) (hy:X.env.scope.names.lookup y=some .local) (ha:PA X [a,b] ta)
  (hw:swappedStores [.Tuple [.Name x px,.Name y py] kt pt] (.Tuple [a,b] k2 pt2) X.env=pure (some [x,y]))
  (hs:swapsWithSole [.Tuple [.Name x px,.Name y py] kt pt] (.Tuple [a,b] k2 pt2) pos.line X.env=pure false):
  PS X (.Assign [.Tuple [.Name x px,.Name y py] kt pt] (.Tuple [a,b] k2 pt2) pos) (cv0 i j ta):=by
 intro aA s Z H D I h;rw[exec_Assign_arm];refine cP3 (wpAny_standAt ?_);rw[hs];refine cP3 (cP8 ?_);rw[cP1 (by decide)];refine cP3 (Tuple_ (thn (ha _ aA s Z H _ I h) λus s1 ⟨vs,H1,I1,r1,q1⟩=> ?_));obtain⟨v,w,e1,q1⟩:=q1;subst e1;obtain⟨u1,u2,rfl,rv,rw'⟩:∃u1 u2,us=[u1,u2]/\D0 v u1/\D0 w u2:=by
  cases r1 with
  |cons p q=>
   cases q with
   |cons p' q'=>
    cases q';exact⟨_,_,rfl,p,p'⟩
 refine cP7 ?_ (by show 2<=sizeLine;decide);have I2:Inv X aA Z H1 {s1 with heap:=s1.heap.push {cls:=.type "tuple",data:=.seq [u1,u2].toArray}}:=I1.kept (t':=s1.toks) λb o e=>cD5 _ e
 rw[hw];refine cP3 (cP8 ?_);show wpAny (model X.prog X.w) X.A (do rule "assign.swapped-stores";let items<-unpackItems (.ref s1.sz) 2 none;assignInOrder [λv=>bindName X.env y v,λv=>bindName X.env x v] items.reverse;pure Flow.next) _ _ _;refine cP3 (wpAny_rule (cP3 (unpackItems_tuple (items:=#[u1,u2]) (I.ok.hd hc) (IsTup.new s1.heap _) λh' hx'=> ?_)));have I3:=I2.kept (h':=h') (t':=s1.toks) λb o e=>hx' b o (cN5 (cD9 e)) e
 show wpAny _ _ (assignInOrder [λv=>bindName X.env y v,λv=>bindName X.env x v] [u2,u1]>>=λ_=>pure Flow.next) _ _ _;refine cP3 (assignInOrder_cons (wpAny_bindName (aD2 I3 hN hj (.inl hy) rw' (λs2 I4=> ?_) (.inr hy))));refine assignInOrder_cons (wpAny_bindName (aD2 I4 hN hi (.inl hx) rv (λs3 I5=>assignInOrder_nil (cP8 ?_)) (.inr hx)));rw[List.set_comm _ _ (Ne.symm hij)]at I5;exact⟨_,H1,I5,q1⟩
end
section
variable {X:Cx}{pos:Pos}
def cf9(c:TT)(tb:TS):TS:=λD Z H=>∃W:Nat->St->Hp->Prop,(∃m,W m Z H)/\∀m Z H,W m Z H->
 c Z H λb H1=>if b=true then∃N:St->Hp->Prop,(∀Z' H',N Z' H'->∃m',m'<m/\W m' Z' H')/\tb {D with nx:=N,ct:=N,bk:=D.nx} Z H1 else D.nx Z H1
theorem bj8(hp:PassesOwn (model X.prog X.w) X.A X.env X.xe)(hc:PT X c tc)(hb:PSs X body tb):PS X (.While c body [] pos) (cf9 tc tb):=by
 intro aA s Z H D I h;obtain⟨W,⟨m0,w0⟩,turn⟩:=h;refine wpAny_While (codeAny_whileLoop (λn s'=>∃Z' H',Inv X aA Z' H' s'/\W n Z' H') ?_ m0 ⟨Z,H,I,w0⟩);rintro n s1 ⟨Z1,H1,I1,w1⟩;refine wpAny_passesOwn hp (thn (hc aA s1 Z1 H1 _ I1 (turn n Z1 H1 w1)) λb s2 ⟨H2,I2,q2⟩=> ?_);cases b with
 |true=>
  obtain⟨N,hN,q2⟩:=q2;rw[cP2 rfl];refine wpAny_passesOwn hp (thn (hb aA s2 Z1 H2 _ I2 q2) λf s3 q3=> ?_);cases f with
  |next=>
   obtain⟨Z3,H3,I3,n3⟩:=q3;obtain⟨m',hm,w3⟩:=hN Z3 H3 n3;exact⟨m',hm,Z3,H3,I3,w3⟩
  |cont=>
   obtain⟨Z3,H3,I3,n3⟩:=q3;obtain⟨m',hm,w3⟩:=hN Z3 H3 n3;exact⟨m',hm,Z3,H3,I3,w3⟩
  |brk=>exact q3
  |ret v=>exact q3
 |false=>
  rw[cP1 cD1];exact wpAny_execs_nil ⟨Z1,H2,I2,q2⟩
end
structure It where
 go:Nat->Hp->Prop
 yld:Nat->Hp->V->Hp->Prop
 stop:Nat->Hp->Prop
def as8(X:Cx)(aA:List (Addr×Obj))(H:Hp)(b:Addr):Prop:=
 H b=none/\b≠X.env.locals/\b∉X.fs/\(b∈X.ex\/X.sd.sz<=b)/\(∀x c,X.env.cells.lookup x=some c->c≠b)/\∀p∈X.pn++aA,p.1≠b
theorem Inv.fpOk(I:Inv X aA Z H s)(hb:s.sz<=b)(hn:H' b=none):as8 X aA H' b:=by
 refine⟨hn,cN4 (cM7 I.lt hb),I.nofs hb,.inr (cM5 I.sz hb),λx c e z=> ?_,λp hp z=> ?_⟩
 .obtain⟨v,q⟩:=I.cell x c e;exact absurd (cM7 q.lt (by rw[z];exact hb)) (cM6 _)
 .exact absurd (cM7 (cD9 (I.pin p hp).1) (by rw[z];exact hb)) (cM6 _)
structure ba2(P:Program)(w:World)(K:cO5)(tg:Expr)(J:It)(fp:List Addr)(it:Addr)(tn:Nat->Heap->Prop):Prop where
 mem:it∈fp
 obj:∀i h,tn i h->∀b∈fp,∃o,h.get? b=some o/\∀v,o.data≠.cell v
 keep:∀i h h',tn i h->(∀b∈fp,∀o,h.get? b=some o->h'.get? b=some o)->tn i h'
 item:∀(X:Cx),X.prog=P->X.w=w->X.K=K->X.calm=true->∀(i:Nat) (aA:List (Addr×Obj)) (s:Shared) (Z:St) (H:Hp) (E:Value->Shared->Prop),Inv X aA Z H s->(∀b∈fp,as8 X aA H b)->tn i s.heap->J.go i H->
  wpAny (model P w) X.A (pyNext (.ref it)) (λr s1=>∃u,r=some u/\
   wpAny (model P w) X.A (letOwnedTupleGo tg (.ref it) u) (λ_ s2=>∃x H',Inv X aA Z H' s2/\D0 x u/\J.yld i H x H'/\tn (i+1) s2.heap/\∀b∈fp,H' b=none) E s1) E s
 done:∀(X:Cx),X.prog=P->X.w=w->X.K=K->X.calm=true->∀(i:Nat) (aA:List (Addr×Obj)) (s:Shared) (Z:St) (H:Hp) (E:Value->Shared->Prop),Inv X aA Z H s->(∀b∈fp,as8 X aA H b)->tn i s.heap->J.stop i H->
  wpAny (model P w) X.A (pyNext (.ref it)) (λr s1=>r=none/\Inv X aA Z H s1) E s
 self:∀(A:Around) (i:Nat) (s:Shared) (Q:Value->Shared->Prop) (E:Value->Shared->Prop),tn i s.heap->Q (.ref it) s->wpAny (model P w) A (pyIter (.ref it)) Q E s
abbrev TI:=St->Hp->(It->Hp->Prop)->Prop
def PIE(X:Cx)(aA:List (Addr×Obj))(Z:St)(tg:Expr)(R:It->Hp->Prop)(itv:Value)(s2:Shared):Prop:=
 ∃(it:Addr) (fp:List Addr) (tn:Nat->Heap->Prop) (J:It) (H':Hp),itv=.ref it/\Inv X aA Z H' s2/\ba2 X.prog X.w X.K tg J fp it tn/\tn 0 s2.heap/\(∀b∈fp,as8 X aA H' b)/\R J H'
def PI(X:Cx)(tg iter:Expr)(wi:TI):Prop:=
 ∀(aA:List (Addr×Obj)) (s:Shared) (Z:St) (H:Hp) (R:It->Hp->Prop),Inv X aA Z H s->wi Z H R->
  wpAny (model X.prog X.w) X.A (eval iter X.env) (λv s1=>wpAny (model X.prog X.w) X.A (pyIter v) (PIE X aA Z tg R) X.xe s1) X.xe s
theorem by3(ho:s.heap.get? it=some o)(hc:o.cls=.type n)(hd:o.data=.fields vs)
  (hn:["enumerate","zip","dict_itemiterator","dict_reverseitemiterator","odict_iterator","itertools.zip_longest","itertools.pairwise"].contains n=false) (hQ:Q () s):wpAny M A (letOwnedTupleGo tg (.ref it) u) Q E s:=by
 unfold letOwnedTupleGo;cases tg<;>first
  |exact cP8 hQ
  |(cases u<;>first
    |exact cP8 hQ
    |(refine cP3 (wpAny_load ho ?_);rw[hc,hd];show wpAny M A (if(["enumerate","zip","dict_itemiterator","dict_reverseitemiterator","odict_iterator","itertools.zip_longest","itertools.pairwise"].contains n&&vs[0]?==some (rawInt _))=true then _ else _) Q E s;rw[cP1 (by intro h;rw[hn,cC9]at h;cases h)];exact cP8 hQ))
def Itl(K:cO5)(a:Addr):It:=
 ⟨λi H=>∃xs x,SqL K H a xs/\xs[i]?=some x,λi H x H'=>H'=H/\∀xs,SqL K H a xs->xs[i]?=some x,λi H=>∃xs,SqL K H a xs/\xs.length<=i⟩
def Itr(lo:Int)(n:Nat):It:=⟨λi _=>i<n,λi H x H'=>H'=H/\x=.int (lo+i),λi _=>n<=i⟩
theorem aq5{P:Program}{w:World}{K:cO5}{tg:Expr}(a it:Addr):ba2 P w K tg (Itl K a) [it] it (λi h=>h.IsListIter it a i) where
 mem:=by simp
 obj:=λi h st b hb=>by
  have e:b=it:=by simpa using hb
  subst e;obtain⟨o,e,c,d⟩:=st;exact⟨o,e,λv z=>by rw[d]at z;cases z⟩
 keep:=λi h h' st k=>st.at λo e=>k it (by simp) o e
 item:=by
  intro X hP hw hK hc i aA s Z H E I hf st hg;subst hP hw hK;obtain⟨xs,x,hq,hx⟩:=hg;obtain⟨its,rv,p,hz⟩:=I.list hq;obtain⟨u,hu,ru⟩:=rv.get hx;obtain⟨f0,f1,f2,f3,f4,f5⟩:=hf it (by simp);refine wpAny_pyNext_list_item st p.isList (x:=u) (by simpa using hu) λh' st' sb=> ?_
  have I1:Inv X aA Z H {s with heap:=h'}:=I.turned (t':=s.toks) (λb o hb e=>(sb.2 b hb).trans e) f0 f1 f3 f4 f5;obtain⟨o,e,c,d⟩:=id st';exact⟨u,rfl,by3 (s:={s with heap:=h'}) e c d (by decide) ⟨x,H,I1,ru,⟨rfl,λys hy=>by rw[I.list_inj hy hq];exact hx⟩,st',λb hb=>(hf b hb).1⟩⟩
 done:=by
  intro X hP hw hK hc i aA s Z H E I hf st hg;subst hP hw hK;obtain⟨xs,hq,hx⟩:=hg;obtain⟨its,rv,p,hz⟩:=I.list hq;obtain⟨f0,f1,f2,f3,f4,f5⟩:=hf it (by simp);have hl:=rv.length;exact wpAny_pyNext_list_end (I.ok.hd hc) st p.isList (by simp;omega) λh' eb=>⟨rfl,I.turned (t':=s.toks) (λb o hb e=>eb b o hb e) f0 f1 f3 f4 f5⟩
 self:=λ_ _ _ _ _ st h=>wpAny_pyIter_listiter st h
theorem bw0{P:Program}{w:World}{K:cO5}{tg:Expr}(it:Addr)(lo:Int)(n:Nat):ba2 P w K tg (Itr lo n) [it] it (λi h=>IsRangeIter h it (lo+(i:Nat)*1) ((n:Int)-(i:Nat)) 1) where
 mem:=by simp
 obj:=λi h st b hb=>by
  have e:b=it:=by simpa using hb
  subst e;exact⟨_,st,λv z=>by
   have z':Data.fields _=Data.cell v:=z;cases z'⟩
 keep:=λi h h' st k=>k it (by simp) _ st
 item:=by
  intro X hP hw hK hc i aA s Z H E I hf st hg;subst hP hw hK;obtain⟨f0,f1,f2,f3,f4,f5⟩:=hf it (by simp);have W:=Walks.range (prog:=X.prog) (w:=X.w) (I.ok.hd hc) it lo 1 n;refine W.item i s _ _ hg st λv h' tk hv st' kk=> ?_
  obtain⟨t,rfl⟩:=hv;have I1:Inv X aA Z H {s with heap:=h',toks:=tk}:=I.turned (λb o hb e=>kk b o (by simpa using hb) e) f0 f1 f3 f4 f5;refine⟨_,rfl,by3 (s:={s with heap:=h',toks:=tk}) (n:="range_iterator") st' rfl rfl (by decide) ⟨.int (lo+i),H,I1,⟨t,?_⟩,⟨rfl,rfl⟩,st',λb hb=>(hf b hb).1⟩⟩;rw[cF5]
 done:=by
  intro X hP hw hK hc i aA s Z H E I hf st hg;subst hP hw hK;obtain⟨f0,f1,f2,f3,f4,f5⟩:=hf it (by simp);exact wpAny_pyNext_range_end (I.ok.hd hc) st (by have :n<=i:=hg;omega) λh' eb=>⟨rfl,I.turned (t':=s.toks) (λb o hb e=>eb b o hb e) f0 f1 f3 f4 f5⟩
 self:=λ_ _ _ _ _ st h=>wpAny_pyIter_rangeiter st h
section
variable {X:Cx}{tg:Expr}
def bW9(K:cO5)(tl:TE):TI:=λZ H R=>tl Z H λx H1=>∃a,x=.ref a/\(∃xs,SqL K H1 a xs)/\R (Itl K a) H1
theorem cb0{l:Expr}{tl:TE}(hl:PE X l tl):PI X tg l (bW9 X.K tl):=by
 intro aA s Z H R I h;refine thn (hl aA s Z H _ I h) λv s1 ⟨x,H1,I1,r1,q1⟩=> ?_
 obtain⟨a,e,⟨xs,hq⟩,q⟩:=q1;subst e;cases r1;obtain⟨its,rv,p,hz⟩:=I1.list hq;refine cP9 p.isList ?_;refine⟨s1.sz,[s1.sz],_,_,H1,rfl,I1.kept (t':=s1.toks) λb o e=>cD5 _ e,aq5 a _,⟨_,cD6 _ rfl,rfl,rfl⟩,λb hb=> ?_,q⟩;have e:b=s1.sz:=by simpa using hb
 subst e;exact I1.fpOk (cM3 _) (I1.hok.fresh (cM3 _))
theorem bQ2{aA:List (Addr×Obj)}{Z:St}{H:Hp}{s:Shared}{R:It->Hp->Prop}{E:Value->Shared->Prop}{lo hi:Int}{t u v:Tok}{tk:Nat}(I:Inv X aA Z H s)(h1: -(2^62)<=lo)(h2:lo<2^62)(h3: -(2^62)<=hi)(h4:hi<2^62)
  (q:R (Itr lo (hi-lo).toNat) H):wpAny (model X.prog X.w) X.A (pyIter (.ref s.sz)) (PIE X aA Z tg R) E {s with heap:=s.heap.push {cls:=.type "range",data:=.fields #[.int lo t,.int hi u,.int 1 v]},toks:=tk}:=by
 refine wpAny_pyIter_range (IsRange.new ..) (small_one h1 h2 h3 h4) ?_;have I1:Inv X aA Z H {s with heap:=s.heap.push {cls:=.type "range",data:=.fields #[.int lo t,.int hi u,.int 1 v]},toks:=tk}:=I.kept λb o e=>cD5 _ e
 refine⟨(s.heap.push {cls:=.type "range",data:=.fields #[.int lo t,.int hi u,.int 1 v]}).objs.size,[(s.heap.push {cls:=.type "range",data:=.fields #[.int lo t,.int hi u,.int 1 v]}).objs.size],_,_,H,rfl,
  I1.kept (t':=tk) λb o e=>cD5 _ e,bw0 _ lo (hi-lo).toNat,?_,λb hb=> ?_,q⟩
 .have e1:lo+((0:Nat):Int)*1=lo:=by simp
  have e2:(((hi-lo).toNat:Nat):Int)-((0:Nat):Int)=Builtin.Range.rangeSize lo hi 1:=by rw[rangeSize_one];split<;>omega
  show IsRangeIter _ _ (lo+((0:Nat):Int)*1) ((((hi-lo).toNat:Nat):Int)-((0:Nat):Int)) 1;rw[e1,e2];exact cD6 _ rfl
 .have e:b=(s.heap.push {cls:=.type "range",data:=.fields #[.int lo t,.int hi u,.int 1 v]}).objs.size:=by simpa using hb
  subst e;exact I1.fpOk (cM3 _) (I1.hok.fresh (cM3 _))
def cr7(ta:TA):TI:=λZ H R=>ta Z H λvs H1=>∃j:Int,vs=[.int j]/\ -(2^62)<=j/\j<2^62/\R (Itr 0 j.toNat) H1
theorem bF6{a:Expr}{ta:TA}{p pos:Pos}(hg:Gl X "range")(hm:X.mg "range"=none)(ha:PA X [a] ta)(hs:starEach [a] X.env=[(false,eval a X.env)]):PI X tg (.Call (.Name "range" p) [a] [] pos) (cr7 ta):=by
 intro aA s Z H R I h;refine Call_ (ar0 I hg hm boot_range (PyProof.Rows.callWith_type1 (thn (ha pos aA s Z H _ I h) λus s1 ⟨vs,H1,I1,r1,q1⟩=> ?_) hs rfl));obtain⟨j,e,q1,q2,q⟩:=q1;subst e;cases r1 with
 |cons r rr=>
  cases rr;obtain⟨t,rfl⟩:=r;exact call_range_1 (bQ2 I1 (by omega) (by omega) q1 q2 (by simpa using q))
def cv6(wi:TI)(g:TG)(tb:TS):TS:=λD Z H=>wi Z H λJ H1=>∃W:Nat->Nat->St->Hp->Prop,(∃m,W 0 m Z H1)/\∀i m Z H,W i m Z H->
 (J.stop i H/\D.nx Z H)\/(J.go i H/\∃N:St->Hp->Prop,(∀Z' H',N Z' H'->∃m',m'<m/\W (i+1) m' Z' H')/\∀x H',J.yld i H x H'->g x Z H' λZ2 H2=>tb {D with nx:=N,ct:=N,bk:=D.nx} Z2 H2)
def aH9(fp:List Addr)(h:Heap):List (Addr×Obj):=fp.filterMap λb=>(h.get? b).map λo=>(b,o)
theorem at6(hb:b∈fp)(e:h.get? b=some o):(b,o)∈aH9 fp h:=List.mem_filterMap.mpr ⟨b,hb,by rw[e];rfl⟩
theorem bG6(hp:p∈aH9 fp h):p.1∈fp/\h.get? p.1=some p.2:=by
 obtain⟨b,hb,e⟩:=List.mem_filterMap.mp hp;cases q:h.get? b with
 |none=>rw[q]at e;cases e
 |some o=>
  rw[q]at e;have e':(b,o)=p:=cO4 e;subst e';exact⟨hb,q⟩
theorem Inv.pinned(I:Inv X aA Z H s)(hf:∀b∈fp,as8 X aA H b)(ho:∀b∈fp,∃o,s.heap.get? b=some o/\∀v,o.data≠.cell v):Inv X (aA++aH9 fp s.heap) Z H s:=
 I.pins_of λp hp=>(cC5 hp).elim (λz=>I.pin p (cK4 _ z)) λz=>by
  obtain⟨hb,e⟩:=bG6 z;obtain⟨f0,f1,f2,_⟩:=hf p.1 hb;obtain⟨o,e',d⟩:=ho p.1 hb;rw[e]at e';cases e';exact⟨e,f0,f1,f2,d⟩
theorem Inv.unpinned(I:Inv X (aA++pl) Z H s):Inv X aA Z H s:=I.pins_of λp hp=>I.pin p (cK4 _ (cK3 _ hp))
theorem bF4(hp:PassesOwn (model X.prog X.w) X.A X.env X.xe)(hc:X.calm=true)(hi:PI X tg iter wi)(hg:PG X tg g)(hb:PSs X body tb)
  (hs:NFo X iter):PS X (.For tg iter body [] pos) (cv6 wi g tb):=by
 intro aA s Z H D I h;refine wpAny_For (thn (hi aA s Z H _ I h) λv s1 h1=>thn h1 λitv s2 h2=> ?_) hs;obtain⟨it,fp,tn,J,H2,e,I2,T,st2,f2,W,⟨m0,w0⟩,turn⟩:=h2;subst e;have stat:∀{H':Hp},(∀b∈fp,H' b=none)->∀b∈fp,as8 X aA H' b:=λhn b hb=>⟨hn b hb,(f2 b hb).2⟩
 refine codeAny_forLoop_any (λn s'=>∃i Z' H',Inv X aA Z' H' s'/\tn i s'.heap/\(∀b∈fp,H' b=none)/\W i n Z' H') ?_ m0 ⟨0,Z,H2,I2,st2,λb hb=>(f2 b hb).1,w0⟩;rintro n s3 ⟨i,Z3,H3,I3,st3,fr3,w3⟩;rcases turn i n Z3 H3 w3 with⟨stop,qn⟩|⟨go,N,hN,step⟩
 .refine wpAny_passesOwn hp (thn (T.done X rfl rfl rfl hc i aA s3 Z3 H3 X.xe I3 (stat fr3) st3 stop) λr s4 ⟨hr,I4⟩=> ?_);subst hr;exact wpAny_execs_nil ⟨Z3,H3,I4,qn⟩
 .refine wpAny_passesOwn hp (thn (T.item X rfl rfl rfl hc i aA s3 Z3 H3 X.xe I3 (stat fr3) st3 go) λr s4 ⟨u,hr,h4⟩=> ?_);subst hr;refine wpAny_passesOwn hp (thn h4 λ_ s5 ⟨x,H5,I5,r5,y5,st5,fr5⟩=> ?_);have I5':=I5.pinned (stat fr5) (T.obj _ _ st5);refine wpAny_passesOwn hp (thn (hg _ s5 Z3 H5 x u _ I5' r5 (step x H5 y5)) λ_ s6 ⟨Z6,H6,I6,q6⟩=> ?_);refine wpAny_passesOwn hp (thn (hb _ s6 Z6 H6 _ I6 q6) λf s7 q7=> ?_);have again:∀{Z7:St}{H7:Hp},Inv X (aA++aH9 fp s5.heap) Z7 H7 s7->N Z7 H7->∃m,m<n/\∃i Z' H',Inv X aA Z' H' s7/\tn i s7.heap/\(∀b∈fp,H' b=none)/\W i m Z' H':=λ{Z7 H7} I7 n7=>by
   obtain⟨m',hm,w7⟩:=hN Z7 H7 n7;refine⟨m',hm,i+1,Z7,H7,I7.unpinned,T.keep _ _ _ st5 λb hb o e=>(I7.pin (b,o) (cK4 _ (cK4 _ (at6 hb e)))).1,λb hb=> ?_,w7⟩;obtain⟨o,e,d⟩:=T.obj _ _ st5 b hb;exact(I7.pin (b,o) (cK4 _ (cK4 _ (at6 hb e)))).2.1
  cases f with
  |next=>obtain⟨Z7,H7,I7,n7⟩:=q7;exact again I7 n7
  |cont=>obtain⟨Z7,H7,I7,n7⟩:=q7;exact again I7 n7
  |brk=>obtain⟨Z7,H7,I7,q7⟩:=q7;exact⟨Z7,H7,I7.unpinned,q7⟩
  |ret v=>obtain⟨x7,Z7,H7,I7,r7,q7⟩:=q7;exact⟨x7,Z7,H7,I7.unpinned,r7,q7⟩
end
abbrev R2:=V->V->Hp->VK->Prop
def OpR(X:Cx)(f:Value->Value->Sem Value)(r:R2):Prop:=
 ∀(aA:List (Addr×Obj)) (s:Shared) (Z:St) (H:Hp) (x y:V) (v u:Value) (Q:VK),Inv X aA Z H s->D0 x v->D0 y u->r x y H Q->
  wpAny (model X.prog X.w) X.A (f v u) (EP X aA Z Q) X.xe s
def UnR(X:Cx)(f:Value->Sem Value)(r:V->Hp->VK->Prop):Prop:=
 ∀(aA:List (Addr×Obj)) (s:Shared) (Z:St) (H:Hp) (x:V) (v:Value) (Q:VK),Inv X aA Z H s->D0 x v->r x H Q->
  wpAny (model X.prog X.w) X.A (f v) (EP X aA Z Q) X.xe s
def ad8(X:Cx)(f:Value)(r:List V->Hp->VK->Prop):Prop:=
 ∀(aA:List (Addr×Obj)) (s:Shared) (Z:St) (H:Hp) (xs:List V) (us:List Value) (Q:VK),Inv X aA Z H s->B6 xs us->r xs H Q->
  wpAny (model X.prog X.w) X.A (call f us) (EP X aA Z Q) X.xe s
def tOp(r:R2)(ta tb:TE):TE:=λZ H Q=>ta Z H λx H1=>tb Z H1 λy H2=>r x y H2 Q
def tUn(r:V->Hp->VK->Prop)(ta:TE):TE:=λZ H Q=>ta Z H λx H1=>r x H1 Q
def rI(C:Int->Int->Prop)(g:Int->Int->V):R2:=λx y H Q=>∃i j,x=.int i/\y=.int j/\C i j/\Q (g i j) H
def rI0(g:Int->Int->V):R2:=λx y H Q=>∃i j,x=.int i/\y=.int j/\Q (g i j) H
def rU(g:Int->V):V->Hp->VK->Prop:=λx H Q=>∃i,x=.int i/\Q (g i) H
section
variable {X:Cx}{a b c:Expr}{ta tb tc:TE}{pos:Pos}
theorem bU5(ha:PE X a ta)(hb:PE X b tb){aA:List (Addr×Obj)}{s:Shared}{Z:St}{H:Hp}{R:V->V->Hp->Prop}(I:Inv X aA Z H s)
  (h:ta Z H λx H1=>tb Z H1 λy H2=>R x y H2){Q:Value->Shared->Prop}{f:Value->Value->Sem Value}
  (hf:∀v u s2 x y H2,Inv X aA Z H2 s2->D0 x v->D0 y u->R x y H2->wpAny (model X.prog X.w) X.A (f v u) Q X.xe s2):
  wpAny (model X.prog X.w) X.A (eval a X.env) (λv se=>wpAny (model X.prog X.w) X.A (eval b X.env) (λu sf=>wpAny (model X.prog X.w) X.A (f v u) Q X.xe sf) X.xe se) X.xe s:=by
 refine thn (ha aA s Z H _ I h) λv s1 ⟨x,H1,I1,r1,q1⟩=> ?_
 refine thn (hb aA s1 Z H1 _ I1 q1) λu s2 ⟨y,H2,I2,r2,q2⟩=> ?_
 exact hf v u s2 x y H2 I2 r1 r2 q2
theorem cr2{op:Operator}{r:R2}(ho:OpR X (binaryOp op) r)(ha:PE X a ta)(hb:PE X b tb):PE X (.BinOp a op b pos) (tOp r ta tb):=by
 intro aA s Z H Q I h;exact wpAny_BinOp (bU5 ha hb I h λv u s2 x y H2 I2 rx ry q=>ho aA s2 Z H2 x y v u Q I2 rx ry q)
theorem cr0(ho:UnR X (unaryOp op) r)(ha:PE X a ta):PE X (.UnaryOp op a pos) (tUn r ta):=by
 intro aA s Z H Q I h;exact UnaryOp_ (thn (ha aA s Z H _ I h) λv s1 ⟨x,H1,I1,r1,q1⟩=>ho aA s1 Z H1 x v Q I1 r1 q1)
theorem opI{f:Value->Value->Sem Value}{C:Int->Int->Prop}{g:Int->Int->Int}
  (rule:∀(i j:Int) (t u:Tok) (s:Shared) (Q:Value->Shared->Prop) (E:Value->Shared->Prop),C i j->Q (.int (g i j) s.toks) {s with toks:=s.toks+1}->wpAny (model X.prog X.w) X.A (f (.int i t) (.int j u)) Q E s):
  OpR X f (rI C λi j=>.int (g i j)):=by
 intro aA s Z H x y v u Q I rx ry h;obtain⟨i,j,rfl,rfl,hc,q⟩:=h;obtain⟨t,rfl⟩:=rx;obtain⟨t',rfl⟩:=ry;exact rule i j t t' s _ _ hc ⟨.int (g i j),H,I.tok _,⟨_,rfl⟩,q⟩
theorem ck1{f:Value->Value->Sem Value}{g:Int->Int->Int}
  (rule:∀(i j:Int) (t u:Tok) (s:Shared) (Q:Value->Shared->Prop) (E:Value->Shared->Prop),Q (.int (g i j) s.toks) {s with toks:=s.toks+1}->wpAny (model X.prog X.w) X.A (f (.int i t) (.int j u)) Q E s):
  OpR X f (rI0 λi j=>.int (g i j)):=by
 intro aA s Z H x y v u Q I rx ry h;obtain⟨i,j,rfl,rfl,q⟩:=h;obtain⟨t,rfl⟩:=rx;obtain⟨t',rfl⟩:=ry;exact rule i j t t' s _ _ ⟨.int (g i j),H,I.tok _,⟨_,rfl⟩,q⟩
theorem bx4{f:Value->Value->Sem Value}{g:Int->Int->Bool}
  (rule:∀(i j:Int) (t u:Tok) (s:Shared) (Q:Value->Shared->Prop) (E:Value->Shared->Prop),Q (.bool (g i j)) s->wpAny (model X.prog X.w) X.A (f (.int i t) (.int j u)) Q E s):
  OpR X f (rI0 λi j=>.bl (g i j)):=by
 intro aA s Z H x y v u Q I rx ry h;obtain⟨i,j,rfl,rfl,q⟩:=h;obtain⟨t,rfl⟩:=rx;obtain⟨t',rfl⟩:=ry;exact rule i j t t' s _ _ ⟨.bl (g i j),H,I,rfl,q⟩
def cp0(i j:Int):Prop:=0<=j/\j<=1000000/\i.natAbs<2^64
def bB3(i j:Int):Prop:=(-(2^64)<i/\i<2^64)\/(-(2^64)<j/\j<2^64)
theorem bB3.ok(h:bB3 i j):IntMulOk i j:=by
 rcases h with⟨h1,h2⟩|⟨h1,h2⟩
 .exact .of_left (intBits_le_64 h1 h2)
 .exact .of_right (intBits_le_64 h1 h2)
theorem ck0:OpR X (binaryOp .Add) (rI0 λi j=>.int (i+j)):=ck1 λ_ _ _ _ _ _ _ q=>add_int q
theorem cj2:OpR X (binaryOp .Sub) (rI0 λi j=>.int (i-j)):=ck1 λ_ _ _ _ _ _ _ q=>sub_int q
theorem cj5:OpR X (binaryOp .Mult) (rI bB3 λi j=>.int (i*j)):=opI λ_ _ _ _ _ _ _ hc q=>mul_int q hc.ok
theorem cj6:OpR X (binaryOp .Mod) (rI (λ_ j=>0<j) λi j=>.int (i%j)):=opI λi j _ _ _ _ _ hc q=>by
 have h1:(0:Int)<j:=hc;exact mod_int' (by omega) (by rw[Int.fmod_eq_emod_of_nonneg i (by omega)];exact q)
theorem cj4:OpR X (binaryOp .Pow) (rI cp0 λi j=>.int (i^j.toNat)):=opI λ_ _ _ _ _ _ _ hc q=>pow_int_small hc.1 hc.2.1 hc.2.2 q
theorem unI{f:Value->Sem Value}{g:Int->Int}
  (rule:∀(i:Int) (t:Tok) (s:Shared) (Q:Value->Shared->Prop) (E:Value->Shared->Prop),Q (.int (g i) s.toks) {s with toks:=s.toks+1}->wpAny (model X.prog X.w) X.A (f (.int i t)) Q E s):
  UnR X f (rU λi=>.int (g i)):=by
 intro aA s Z H x v Q I rx h;obtain⟨i,rfl,q⟩:=h;obtain⟨t,rfl⟩:=rx;exact rule i t s _ _ ⟨.int (g i),H,I.tok _,⟨_,rfl⟩,q⟩
theorem cf5:UnR X (unaryOp .USub) (rU λi=>.int (-i)):=unI λ_ _ _ _ _ q=>neg_int q
end
def cw1:V->V->Bool
 |.non,.non=>true|.non,.int _=>true|.int _,.non=>true|.non,.bl _=>true|.bl _,.non=>true|.non,.str _=>true|.str _,.non=>true
 |.int _,.int _=>true|.bl _,.bl _=>true|.str _,.str _=>true|.byt _,.byt _=>true
 |.int _,.str _=>true|.str _,.int _=>true|.bl _,.str _=>true|.str _,.bl _=>true
 |_,_=>false
def rNe:R2:=λx y H Q=>cw1 x y=true/\Q (.bl (!decide (x=y))) H
theorem bu2:decide (V.int i=V.int j)=(i==j):=by
 rw[cC8];simp
theorem cn3:decide (V.bl i=V.bl j)=(i==j):=by
 rw[cC8];simp
theorem ce6:decide (V.str i=V.str j)=(i==j):=by
 rw[cC8];simp
theorem ce7:decide (V.byt i=V.byt j)=(i.toList==j.toList):=by
 rw[cC8];cases i;cases j;simp
section
variable {X:Cx}{a b c:Expr}{ta tb tc:TE}{pos:Pos}
theorem S8(I:Inv X aA Z H s)(q:Q (.bl k) H)(e:k=k'):EP X aA Z Q (.bool k') s:=by
 subst e;exact⟨.bl k,H,I,rfl,q⟩
theorem cr3:OpR X (compareOp .NotEq) rNe:=by
 intro aA s Z H x y v u Q I rx ry h;obtain⟨hs,q⟩:=h;cases x with
 |non=>
  cases rx;cases y with
  |non=>cases ry;exact PySem.EqNone.ne_none_none (S8 I q (by simp))
  |bl j=>cases ry;exact PySem.EqNone.ne_none_bool (S8 I q (by simp))
  |int j=>obtain⟨t',rfl⟩:=ry;exact PySem.EqNone.ne_none_int (S8 I q (by simp))
  |str j=>obtain⟨t',rfl⟩:=ry;exact PySem.EqNone.ne_none_str (S8 I q (by simp))
  |_=>exact absurd (show false=true from hs) cD1
 |bl i=>
  cases rx;cases y with
  |non=>cases ry;exact PySem.EqNone.ne_bool_none (S8 I q (by simp))
  |bl j=>cases ry;exact ne_bool (S8 I q (congrArg not cn3))
  |str j=>obtain⟨t',rfl⟩:=ry;exact PySem.EqMixed.ne_bool_str (S8 I q (by simp))
  |_=>exact absurd (show false=true from hs) cD1
 |int i=>
  obtain⟨t,rfl⟩:=rx;cases y with
  |non=>cases ry;exact PySem.EqNone.ne_int_none (S8 I q (by simp))
  |int j=>obtain⟨t',rfl⟩:=ry;exact ne_int (S8 I q (congrArg not bu2))
  |str j=>obtain⟨t',rfl⟩:=ry;exact PySem.EqMixed.ne_int_str (S8 I q (by simp))
  |_=>exact absurd (show false=true from hs) cD1
 |str i=>
  obtain⟨t,rfl⟩:=rx;cases y with
  |non=>cases ry;exact PySem.EqNone.ne_str_none (S8 I q (by simp))
  |bl j=>cases ry;exact PySem.EqMixed.ne_str_bool (S8 I q (by simp))
  |int j=>obtain⟨t',rfl⟩:=ry;exact PySem.EqMixed.ne_str_int (S8 I q (by simp))
  |str j=>obtain⟨t',rfl⟩:=ry;exact ne_str (S8 I q (congrArg not ce6))
  |_=>exact absurd (show false=true from hs) cD1
 |byt i=>
  obtain⟨t,rfl⟩:=rx;cases y with
  |byt j=>obtain⟨t',rfl⟩:=ry;exact W.ne_bytes (S8 I q (congrArg not ce7))
  |_=>exact absurd (show false=true from hs) cD1
 |_=>cases y<;>exact absurd (show false=true from hs) cD1
theorem bW1:OpR X (compareOp .Lt) (rI0 λi j=>.bl (decide (i<j))):=bx4 λ_ _ _ _ _ _ _ q=>lt_int q
theorem bx3:OpR X (compareOp .LtE) (rI0 λi j=>.bl (decide (i<=j))):=bx4 λ_ _ _ _ _ _ _ q=>le_int q
theorem bW2:OpR X (compareOp .Gt) (rI0 λi j=>.bl (decide (j<i))):=bx4 λ_ _ _ _ _ _ _ q=>gt_int q
theorem cr4:OpR X (compareOp .GtE) (rI0 λi j=>.bl (decide (j<=i))):=bx4 λ_ _ _ _ _ _ _ q=>ge_int q
theorem cj8:OpR X (compareOp .Is) (λx y H Q=>y=.non/\Q (.bl (decide (x=.non))) H):=by
 intro aA s Z H x y v u Q I rx ry h;obtain⟨rfl,q⟩:=h;cases ry;refine is_none_gen (S8 I q ?_);cases x<;>first
  |(cases rx;rfl)
  |(obtain⟨t,rfl⟩:=rx;rfl)
theorem cb7:OpR X (compareOp .IsNot) (λx y H Q=>y=.non/\Q (.bl (!decide (x=.non))) H):=by
 intro aA s Z H x y v u Q I rx ry h;obtain⟨rfl,q⟩:=h;cases ry;refine isnot_none_gen (S8 I q ?_);cases x<;>first
  |(cases rx;rfl)
  |(obtain⟨t,rfl⟩:=rx;rfl)
theorem OpR.or(h:OpR X f r)(h':OpR X f r'):OpR X f (λx y H Q=>r x y H Q\/r' x y H Q):=by
 intro aA s Z H x y v u Q I rx ry q;rcases q with q|q
 .exact h aA s Z H x y v u Q I rx ry q
 .exact h' aA s Z H x y v u Q I rx ry q
theorem W8(b:Expr)(h:op≠.In:=by decide)(h2:op≠.NotIn:=by decide):behindInMarks op b=false:=by
 have e1:(op==CmpOp.In)=false:=by cases op<;>first |rfl|exact absurd rfl h
 have e2:(op==CmpOp.NotIn)=false:=by cases op<;>first |rfl|exact absurd rfl h2
 cases b<;>simp[behindInMarks,e1,e2]
theorem cb4{op:CmpOp}{r:R2}(ho:OpR X (compareOp op) r)(ha:PE X a ta)(hb:PE X b tb)(hm:behindInMarks op b=false):PE X (.Compare a [op] [b] pos) (tOp r ta tb):=by
 intro aA s Z H Q I h;exact wpAny_Compare1 (bU5 ha hb I h λv u s2 x y H2 I2 rx ry q=>ho aA s2 Z H2 x y v u Q I2 rx ry q) hm
def bV6(t:TE):TT:=λZ H Q=>t Z H λx H'=>∃k,x=.bl k/\Q k H'
theorem ca9(ho:OpR X (compareOp op) r)(ha:PE X a ta)(hb:PE X b tb)(hm:behindInMarks op b=false):PT X (.Compare a [op] [b] pos) (bV6 (tOp r ta tb)):=by
 intro aA s Z H Q I h;refine wpAny_isTrue_Compare1 (thn (ha aA s Z H _ I h) λv s1 ⟨x,H1,I1,r1,q1⟩=>thn (hb aA s1 Z H1 _ I1 q1) λu s2 ⟨y,H2,I2,r2,q2⟩=>
  thn (ho aA s2 Z H2 x y v u _ I2 r1 r2 q2) λc s3 ⟨z,H3,I3,r3,k,e,q3⟩=> ?_) hm
 subst e;cases r3;exact cQ2 ⟨H3,I3,q3⟩
def bC4(r r':R2)(ta tb tc:TE):TE:=λZ H Q=>ta Z H λx H1=>tb Z H1 λy H2=>r x y H2 λz H3=>∃k,z=.bl k/\
 (if k=true then tc Z H3 λw' H4=>r' y w' H4 Q else Q (.bl false) H3)
theorem bR8(ho:OpR X (compareOp op) r)(ho':OpR X (compareOp op') r')(ha:PE X a ta)(hb:PE X b tb)(hc:PE X c tc)
  (hm:lastMarks [op,op'] [b,c]=false):PE X (.Compare a [op,op'] [b,c] pos) (bC4 r r' ta tb tc):=by
 intro aA s Z H Q I h;refine Compare_chain (thn (ha aA s Z H _ I h) λv s1 ⟨x,H1,I1,r1,q1⟩=>chain_link (thn (hb aA s1 Z H1 _ I1 q1) λu s2 ⟨y,H2,I2,r2,q2⟩=>
  thn (ho aA s2 Z H2 x y v u _ I2 r1 r2 q2) λd s3 ⟨z,H3,I3,r3,k,e,q3⟩=> ?_)) hm
 subst e;cases r3;refine cQ2 ?_;cases k with
 |false=>exact ite_ff ⟨.bl false,H3,I3,rfl,q3⟩
 |true=>exact ite_tt (chain_last (thn (hc aA s3 Z H3 _ I3 q3) λw' s4 ⟨z',H4,I4,r4,q4⟩=>ho' aA s4 Z H4 y z' u w' Q I4 r2 r4 q4))
theorem aI3:(sizeLine:Nat)<2^63:=by rw[sizeLine_eq];decide
theorem ap8(r:B6 [x] us):∃u,us=[u]/\D0 x u:=by
 cases r with
 |cons r1 r2=>cases r2;exact⟨_,rfl,r1⟩
theorem bf2(r:B6 [x,y] us):∃u w',us=[u,w']/\D0 x u/\D0 y w':=by
 cases r with
 |cons r1 r2=>
  cases r2 with
  |cons r3 r4=>cases r4;exact⟨_,_,rfl,r1,r3⟩
theorem bU4:ad8 X (.builtin "abs") (λxs H Q=>∃i,xs=[.int i]/\Q (.int (if i<0 then -i else i)) H):=by
 intro aA s Z H xs us Q I r h;obtain⟨i,rfl,q⟩:=h;obtain⟨u,rfl,t,rfl⟩:=ap8 r;exact call_abs_int λu tk=>⟨.int (if i<0 then -i else i),H,I.tok _,⟨_,rfl⟩,q⟩
theorem bK7(hc:X.calm=true):ad8 X (.builtin "max") (λxs H Q=>∃i j,xs=[.int i,.int j]/\Q (.int (if j>i then j else i)) H):=by
 intro aA s Z H xs us Q I r h;obtain⟨i,j,rfl,q⟩:=h;obtain⟨u,w',rfl,⟨t,rfl⟩,⟨t',rfl⟩⟩:=bf2 r;refine max_two_ints (I.ok.hd hc) λh' tk k=>⟨_,H,I.kept k,?_,q⟩
 by_cases hj:j>i
 .rw[cP2 hj,cP2 hj];exact⟨_,rfl⟩
 .rw[cP1 hj,cP1 hj];exact⟨_,rfl⟩
theorem bK6(hc:X.calm=true):ad8 X (.builtin "min") (λxs H Q=>∃i j,xs=[.int i,.int j]/\Q (.int (if j<i then j else i)) H):=by
 intro aA s Z H xs us Q I r h;obtain⟨i,j,rfl,q⟩:=h;obtain⟨u,w',rfl,⟨t,rfl⟩,⟨t',rfl⟩⟩:=bf2 r;refine min_two_ints (I.ok.hd hc) λh' tk k=>⟨_,H,I.kept k,?_,q⟩
 by_cases hj:j<i
 .rw[cP2 hj,cP2 hj];exact⟨_,rfl⟩
 .rw[cP1 hj,cP1 hj];exact⟨_,rfl⟩
theorem bK8:ad8 X (.type "int") (λxs H Q=>(∃i,xs=[.int i]/\Q (.int i) H)\/∃k,xs=[.bl k]/\Q (.int (if k then 1 else 0)) H):=by
 intro aA s Z H xs us Q I r h;rcases h with⟨i,rfl,q⟩|⟨k,rfl,q⟩
 .obtain⟨u,rfl,t,rfl⟩:=ap8 r;exact call_int_int ⟨.int i,H,I,⟨_,rfl⟩,q⟩
 .obtain⟨u,rfl,r1⟩:=ap8 r;cases r1;exact call_int_bool ⟨.int (if k then 1 else 0),H,I.tok _,⟨_,rfl⟩,q⟩
end
structure aS1(h:Heap)(x dx C:Addr)(mA:Str->Option Value):Prop where
 obj:h.get? x=some (W.instObj C dx)
 ns:h.Ns1 dx mA
 ne:dx≠x
theorem bH7{h:Heap}{dx:Addr}{mA:Str->Option Value}(n:h.Ns1 dx mA):∃od,h.get? dx=some od/\∀name,W.lookIn name od=some (mA name):=by
 obtain⟨o,es,ep,ho,hd,hk,_,hm⟩:=n;refine⟨o,ho,λname=> ?_⟩;have e:=hm name;unfold nsFind findBy at e;rw[<-Array.find?_toList]at e;unfold W.lookIn;rw[hd];dsimp only;split
 .rename_i y q;rw[q]at e;exact congrArg some e
 .rename_i q;rw[q]at e;have a:es.toList.any (·.refKey)=false:=by
   rw[List.any_eq_false];intro y hy;obtain⟨z,t,hkey⟩:=hk y (Array.mem_toList_iff.mp hy);simp[DictEntry.refKey,hkey]
  have a':¬es.toList.any (·.refKey)=true:=by rw[a];exact cD1
  rw[cP1 a'];exact congrArg some e
theorem aS1.look(I:aS1 h x dx C mA):∃od,W.InstAt h x (W.instObj C dx) C (some od)/\∀name,W.lookIn name od=some (mA name):=
 let⟨od,ho,hl⟩:=bH7 I.ns
 ⟨od,⟨I.obj,rfl,rfl,ho⟩,hl⟩
section
variable {prog:Program}{w:World}{A:Around}{E:Value->Shared->Prop}{s:Shared}{K:cO5}{x dx C f:Addr}{mA:Str->Option Value}{name:Str}{v:Value}
theorem cd9(X:K.In s.heap)(I:aS1 s.heap x dx C mA)(hg:W.plainGet K C name=true)(hh:W.hasDictIn K C=true)
  (ha:W.findIn K (.ref C) name=some none) (hv:mA name=some v) (hv':W.handedIn v=true) (h:Q v {s with toks:=s.toks+1}):
  wpAny (model prog w) A (getAttr (.ref x) name expr) Q E s:=by
 obtain⟨od,J,hl⟩:=I.look;exact W.get_value X J (W.plainGet_of hg).1 (W.findObj_own hh ha rfl (by rw[hl,hv])) hv' h
theorem bT7(X:K.In s.heap)(I:aS1 s.heap x dx C mA)(hg:W.plainGet K C name=true)
  (hf:W.findIn K (.ref C) name=some (some (.ref f))) (ht:W.isFn K (.ref f)=true) (hv:mA name=none) (h:Q (.ref f,[.ref x]) s):
  wpAny (model prog w) A (getMethod (.ref x) name pl) Q E s:=by
 obtain⟨od,J,hl⟩:=I.look;exact W.method_fn X J (W.plainGet_of hg).1 (W.plainGet_of hg).2 hf (beq_iff_eq.mp ht) (by show(W.lookIn name od).map (·.isSome)=some false;rw[hl,hv];rfl) h
theorem bZ0(X:K.In s.heap)(I:aS1 s.heap x dx C mA)
  (hs:W.findIn K (.ref C) "__setattr__"=some (some (.builtin "object.__setattr__"))) (hp:W.plainOver K C=true) (ht:W.takerIn K C name=some none) (hh:W.hasDictIn K C=true)
  (hw:PySem.Within mA ns) (hsz:ns.length<=sizeLine)
  (h:∀h',aS1 h' x dx C (λy=>if y=name then some v else mA y)->Heap.SameBut dx s.heap h'->Q () {s with heap:=h',toks:=s.toks+2}):
  wpAny (model prog w) A (setAttr (.ref x) name v) Q E s:=by
 obtain⟨od,J,hl⟩:=I.look;refine W.set_plain X J hs (W.osa_open (s:={s with toks:=s.toks+1}) (r:=none) X J hp ht λb=> ?_);obtain⟨cd,hc,hd'⟩:=W.any_some hh;have hx:s.heap.get? x=some ⟨.ref C,some dx,.plain,#[]⟩:=I.obj;refine cP3 (cP8 (cP3 (cP3 (wpAny_loadPart hx (cP3 (W.Looks.here (s:={s with toks:=s.toks+1}) (W.looks_clsIn X hc) ?_))))));rw[hd'];refine cP8 (a:=some dx) (cP3 (cP8 (cP3 ?_)));refine wpAny_nsSet1 (s:={s with toks:=s.toks+1}) I.ns λh' hn2 hs2=> ?_
 obtain⟨oD,esD,epD,hoD,hdD,hcD⟩:=hn2.count (PySem.Within.cons name v hw);refine cP3 (wpAny_lookBehind hoD (by rw[hdD];exact pastItsLine_dict (cM5 hcD (by rw[cB8];omega))) ?_);exact cP8 (h _ ⟨(hs2.2 _ (Ne.symm I.ne)).trans I.obj,hn2,I.ne⟩ hs2)
theorem bS8(X:K.In s.heap)(hm:W.makesIn K C=true)
  (hi:W.findIn K (.ref C) "__init__"=some (some (.ref f))) (hf:W.typeIn K (.ref f)=some (.type "function"))
  (h:codeAny (model prog w) (A.under (.builtin "type.__call__" ⟨.ref C::vs,kw⟩)) (.call (.ref f) ⟨.ref (s.sz+1)::vs,kw⟩) (W.InitBack (s.sz+1) R)
   {s with heap:=(s.heap.push W.emptyDict).push (W.instObj C s.sz)}):
  codeAny (model prog w) A (.call (.ref C) ⟨vs,kw⟩) R s:=by
 obtain⟨hh,g,d,t,os⟩:=s;exact W.make_core (W.makes_of X hm) (W.looks_findIn X hi) (λself=>W.bind_fn X self hf) (.inl rfl) h
end
def ag1(f:Str)(v:V):List (Str×V)->List (Str×V)
 |[]=>[(f,v)]
 |(g,x)::r=>if g=f then(g,v)::r else(g,x)::ag1 f v r
theorem aN5(f g:Str)(v:V):∀fs:List (Str×V),(ag1 f v fs).lookup g=if g=f then some v else fs.lookup g
 |[]=>by
  show List.lookup g [(f,v)]=_;by_cases h:g=f
  .have hb:(g==f)=true:=beq_iff_eq.mpr h;simp only[List.lookup,hb,cP2 h]
  .have hb:(g==f)=false:=cB1 h;simp only[List.lookup,hb,cP1 h]
 |(k,x)::r=>by
  have ih:=aN5 f g v r;rw[show ag1 f v ((k,x)::r)=(if k=f then(k,v)::r else(k,x)::ag1 f v r)from rfl];by_cases hk:k=f
  .rw[cP2 hk];by_cases h:g=k
   .have hb:(g==k)=true:=beq_iff_eq.mpr h;simp only[List.lookup,hb,cP2 (h.trans hk)]
   .have hb:(g==k)=false:=cB1 h;simp only[List.lookup,hb,cP1 (λe:g=f=>h (e.trans hk.symm))]
  .rw[cP1 hk];by_cases h:g=k
   .have hb:(g==k)=true:=beq_iff_eq.mpr h;simp only[List.lookup,hb,cP1 (λe:g=f=>hk (h.symm.trans e))]
   .have hb:(g==k)=false:=cB1 h;simp only[List.lookup,hb];exact ih
theorem aI5(f:Str)(v:V):∀fs:List (Str×V),f∈(ag1 f v fs).map (·.1)/\∀g,g∈fs.map (·.1)->g∈(ag1 f v fs).map (·.1)
 |[]=>⟨by simp[ag1],λg h=>by simp at h⟩
 |(k,x)::r=>by
  obtain⟨i1,i2⟩:=aI5 f v r;rw[show ag1 f v ((k,x)::r)=(if k=f then(k,v)::r else(k,x)::ag1 f v r)from rfl];by_cases hk:k=f
  .rw[cP2 hk];subst hk;exact⟨by simp,λg h=>by simpa using h⟩
  .rw[cP1 hk];refine⟨?_,λg h=> ?_⟩
   .rw[cB4];exact cK6 _ i1
   .rw[cB4]at h⊢;rcases cA9 h with e|e
    .exact List.mem_cons.mpr (.inl e)
    .exact cK6 _ (i2 g e)
theorem aN6(f:Str)(v:V):∀fs:List (Str×V),(ag1 f v fs).length<=fs.length+1
 |[]=>by simp[ag1]
 |(k,x)::r=>by
  have ih:=aN6 f v r;rw[show ag1 f v ((k,x)::r)=(if k=f then(k,v)::r else(k,x)::ag1 f v r)from rfl];by_cases hk:k=f
  .rw[cP2 hk,cB8,cB8];omega
  .rw[cP1 hk,cB8,cB8];omega
theorem az8.some_of(r:az8 (some v) o):∃u,o=some u/\D0 v u:=by
 cases o with
 |none=>exact(show False from r).elim
 |some u=>exact⟨u,rfl,r⟩
theorem az8.none_of(r:az8 none o):o=none:=by
 cases o with
 |none=>rfl
 |some u=>exact(show False from r).elim
theorem bI4(r:D0 v u):W.handedIn u=true:=by
 cases v with
 |non=>cases(show u=Value.none from r);rfl
 |bl b=>cases(show u=Value.bool b from r);rfl
 |int i=>obtain⟨t,e⟩:=(show∃t,u=Value.int i t from r);cases e;rfl
 |str x=>obtain⟨t,e⟩:=(show∃t,u=Value.str x t from r);cases e;rfl
 |byt b=>obtain⟨t,e⟩:=(show∃t,u=Value.bytes b t from r);cases e;rfl
 |flt b=>obtain⟨t,e⟩:=(show∃t,u=Value.float b t from r);cases e;rfl
 |ref a=>cases(show u=Value.ref a from r);rfl
 |ty n=>cases(show u=Value.type n from r);rfl
section
variable {P:Program}{w:World}{H H':Hp}{h h':Heap}{a C dx:Addr}{fs fs':List (Str×V)}
theorem aZ0(hok:HOk P w H h)(e:H a=some (.ins C dx fs)):∃mA,aS1 h a dx C mA/\(∀f,az8 (fs.lookup f) (mA f))/\PySem.Within mA (fs.map (·.1))/\fs.length<=1000/\H dx=some (.aB a):=by
 obtain⟨d,z,ne,ob,mA,n,r,q⟩:=(show ad3 P w H h a (.ins C dx fs)from hok a _ e)
 exact⟨mA,⟨ob,n,ne⟩,r,q,z,d⟩
end
structure Cls(K:cO5)(C:Addr):Prop where
 pg:W.plainGet K C Str.empty=true
 hd:W.hasDictIn K C=true
 po:W.plainOver K C=true
 sa:W.findIn K (.ref C) "__setattr__"=some (some (.builtin "object.__setattr__"))
theorem Cls.get{K:cO5}{C:Addr}(c:Cls K C)(f:Str):W.plainGet K C f=true:=c.pg
def O9(K:cO5)(C:Addr)(f:Str):Prop:=W.findIn K (.ref C) f=some none
theorem O9.taker{K:cO5}{C:Addr}{f:Str}(n:O9 K C f):W.takerIn K C f=some none:=by
 unfold W.takerIn;rw[show W.findIn K (.ref C) f=some none from n];rfl
structure ba3(K:cO5)(C:Addr)(m:Str)(f:Addr):Prop where
 at_:W.findIn K (.ref C) m=some (some (.ref f))
 fn:W.isFn K (.ref f)=true
 kp:W.keepIn K (.ref f)=true
section
variable {X:Cx}{aA:List (Addr×Obj)}{Z:St}{H:Hp}{s:Shared}{a C dx:Addr}{fs:List (Str×V)}{f:Str}{v:V}{A:Around}{E:Value->Shared->Prop}
theorem by5(I:Inv X aA Z H s)(e:H a=some (.ins C dx fs))(c:Cls X.K C)(n:O9 X.K C f)(l:fs.lookup f=some v)
  (h:∀u s',Inv X aA Z H s'->D0 v u->Q u s'):wpAny (model X.prog X.w) A (getAttr (.ref a) f b) Q E s:=by
 obtain⟨mA,O,r,_,_,_⟩:=aZ0 I.hok e;obtain⟨u,hu,ru⟩:=az8.some_of (v:=v) (o:=mA f) (by rw[<-l];exact r f);exact cd9 I.kIn O (c.get f) c.hd n hu (bI4 ru) (h u _ (I.tok _) ru)
theorem by4(I:Inv X aA Z H s)(e:H a=some (.ins C dx fs))(c:Cls X.K C)(k:ba3 X.K C m g)(l:fs.lookup m=none)
  (h:Q (.ref g,[.ref a]) s):wpAny (model X.prog X.w) A (getMethod (.ref a) m pl) Q E s:=by
 obtain⟨mA,O,r,_,_,_⟩:=aZ0 I.hok e;have hn:mA m=none:=az8.none_of (by rw[<-l];exact r m);exact bT7 I.kIn O (c.get m) k.at_ k.fn hn h
theorem bw3(I:Inv X aA Z H s)(e:H a=some (.ins C dx fs))(c:Cls X.K C)(n:O9 X.K C f)(hl:fs.length<1000)(ry:D0 y u)
  (h:∀s',Inv X aA Z (upd H a (.ins C dx (ag1 f y fs))) s'->Q () s'):wpAny (model X.prog X.w) A (setAttr (.ref a) f u) Q E s:=by
 obtain⟨mA,O,r,wi,_,ho⟩:=aZ0 I.hok e;have hz:(fs.map (·.1)).length<=sizeLine:=by rw[cJ3,sizeLine_eq];omega
 refine bZ0 I.kIn O c.sa c.po n.taker c.hd wi hz λh' O' sb=>h _ ?_
 have hd:∃o,h'.get? dx=some o:=let⟨o,_,_,e',_⟩:=O'.ns;⟨o,e'⟩;refine I.write (x:=a) (e:=dx) (by rw[e];exact True.intro) (.inr ho) (λb q hb z=>(sb.2 b hb).trans z) hd ?_;refine⟨by rw[l8 O.ne];exact ho,?_,O.ne,O'.obj,_,O'.ns,λg=> ?_,λg hg=> ?_⟩
 .have :=aN6 f y fs;omega
 .show az8 ((ag1 f y fs).lookup g) (if g=f then some u else mA g);rw[aN5];by_cases q:g=f
  .rw[cP2 q,cP2 q];exact ry
  .rw[cP1 q,cP1 q];exact r g
 .by_cases q:g=f
  .rw[q];exact(aI5 f y fs).1
  .refine(aI5 f y fs).2 g (wi g λz=>hg ?_);show(if g=f then some u else mA g)=none;rw[cP1 q];exact z
theorem Inv.made(I:Inv X aA Z H s):Inv X aA Z (upd (upd H s.sz (.aB (s.sz+1))) (s.sz+1) (.ins C s.sz []))
  {s with heap:=(s.heap.push W.emptyDict).push (W.instObj C s.sz)}:=by
 have e1:(s.heap.push W.emptyDict).get? s.sz=some W.emptyDict:=cD6 s.heap rfl;have e2:((s.heap.push W.emptyDict).push (W.instObj C s.sz)).get? (s.sz+1)=some (W.instObj C s.sz):=by
  have :=cD6 (s.heap.push W.emptyDict) (o:=W.instObj C s.sz) rfl;rwa[cE0]at this
 have e3:(s.heap.push W.emptyDict).Ns s.sz (λ_=>none):=⟨W.emptyDict,#[],_,e1,rfl,(λe he=>absurd he (by simp)),λ_=>rfl⟩
 have I1:=I.laid (a:=s.sz) (o:=.aB (s.sz+1)) (h':=s.heap.push W.emptyDict) (t':=s.toks) (λb u q=>cD5 _ q) (cM3 _) ⟨_,e1⟩;refine I1.laid (a:=s.sz+1) (o:=.ins C s.sz []) (t':=s.toks) (λb u q=>cD5 _ q) (Nat.le_of_eq (cE0 _ _)) ?_;have ne:s.sz≠s.sz+1:=cN5 (cN0 _);refine⟨by rw[l8 ne,t6],cO2 _,ne,e2,λ_=>none,(Heap.Ns1.of_empty e3).at λo q=>cD5 _ q,λ_=>True.intro,λy hy=>absurd rfl hy⟩
theorem cf1(hb:attributeBase e f env (eval e env)=eval e env)
  (h:wpAny (model prog w) A (eval e env) (λo se=>wpAny (model prog w) A (getAttr o f true) Q E se) E s):wpAny (model prog w) A (eval (.Attribute e f pos) env) Q E s:=
 Attribute_any_ h (by rw[arm_eval_Attribute,hb])
end
def cv7(K:cO5)(ta:TE)(f:Str):TE:=λZ H Q=>ta Z H λx H1=>∃a C dx fs v,x=.ref a/\H1 a=some (.ins C dx fs)/\Cls K C/\O9 K C f/\fs.lookup f=some v/\Q v H1
def cw2(K:cO5)(ta tv:TE)(f:Str):TS:=λD Z H=>tv Z H λy H1=>ta Z H1 λx H2=>∃a C dx fs,x=.ref a/\H2 a=some (.ins C dx fs)/\Cls K C/\O9 K C f/\fs.length<1000/\
 D.nx Z (upd H2 a (.ins C dx (ag1 f y fs)))
section
variable {X:Cx}{o e value:Expr}{f:Str}{pos pos' tpos:Pos}{ta tv:TE}
theorem bk2(he:PE X e ta)(hb:attributeBase e f X.env (eval e X.env)=eval e X.env):PE X (.Attribute e f pos) (cv7 X.K ta f):=by
 intro aA s Z H Q I h;refine cf1 hb (thn (he aA s Z H _ I h) λu s1 ⟨x,H1,I1,rx,a,C,dx,fs,v,ex,ea,c,n,l,q⟩=> ?_);subst ex;obtain rfl:u=Value.ref a:=rx;exact by5 I1 ea c n l λu' s2 I2 ru=>⟨v,H1,I2,ru,q⟩
theorem aA8(ha:PE X o ta)(hv:PE X value tv)(hs:swapsWith value (some (.Attribute o f pos')) pos.line X.env=pure false):PS X (.Assign [.Attribute o f pos'] value pos) (cw2 X.K ta tv f):=by
 intro aA s Z H D I h;refine plainObj_wpAny_Assign_Attribute (thn (hv aA s Z H _ I h) λu s1 ⟨y,H1,I1,ry,q⟩=>thn (ha aA s1 Z H1 _ I1 q) λov s2 ⟨x,H2,I2,rx,a,C,dx,fs,ex,ea,c,n,l,q2⟩=> ?_) hs;subst ex;obtain rfl:ov=Value.ref a:=rx;exact bw3 I2 ea c n l ry λs3 I3=>⟨Z,_,I3,q2⟩
end
section
variable {X:Cx}{aA:List (Addr×Obj)}{Z:St}{H:Hp}{s:Shared}{A:Around}{E:Value->Shared->Prop}{Q:Value->Shared->Prop}{c:Value}{b:Bool}
end
structure J9(k:Nat)(A:Around):Prop where
 hd:A.handled=none
 dp:A.depth+3*k+5<recursionLimit
 un:A.units+16*k+200<cLine
theorem J9.mono(r:J9 k A)(h:j<=k):J9 j A:=⟨r.hd,by have :=r.dp;omega,by have :=r.un;omega⟩
theorem J9.deeper(r:J9 (k+1) A)(env:Env):J9 k (A.deeper env):=
 ⟨r.hd,by have :=r.dp;show A.depth+1+3*k+5<_;omega,by have :=r.un;show A.units+3+16*k+200<_;omega⟩
theorem bx8{A:Around}{C:Addr}{us:List Value}{kw:List (Str×Value)}:(A.under (.builtin "type.__call__" ⟨.ref C::us,kw⟩)).depth=A.depth+1:=by
 first |rfl|simp[Around.under,Code.weight,Code.isCreation,Code.isGuard,Code.isCaller,Code.frames,Code.isFrame,guardIds]
theorem bx7{A:Around}{C:Addr}{us:List Value}{kw:List (Str×Value)}:(A.under (.builtin "type.__call__" ⟨.ref C::us,kw⟩)).units=A.units+1:=by
 first |rfl|simp[Around.under,Code.cUnits,Code.frames,Code.isFrame]
theorem J9.make(r:J9 (k+1) A)(C:Addr)(us:List Value)(kw:List (Str×Value)):J9 k (A.under (.builtin "type.__call__" ⟨.ref C::us,kw⟩)):=
 ⟨r.hd,by have :=r.dp;rw[bx8];omega,by have :=r.un;rw[bx7];omega⟩
theorem J9.depth(r:J9 k A):A.depth<recursionLimit:=by have :=r.dp;omega
theorem J9.units(r:J9 k A):A.units+64<cLine:=by have :=r.un;omega
theorem J9.units0(r:J9 k A):A.units<cLine:=by have :=r.un;omega
def cv3:TA:=λ_ H Q=>Q [] H
def cq1(ta:TE)(tr:TA):TA:=λZ H Q=>ta Z H λx H1=>tr Z H1 λxs H2=>Q (x::xs) H2
section
variable {X:Cx}{e:Expr}{es:List Expr}{te:TE}{t:TA}{pos:Pos}
theorem ab3:PA X [] cv3:=λ_ _ _ _ H Q I h=>Calls.spliced_nil ⟨[],H,I,.nil,h⟩
theorem T0(ha:PE X e te)(hr:PA X es t)(hs:StE X e es):PA X (e::es) (cq1 te t):=by
 intro pos aA s Z H Q I h;rw[hs];show wpAny _ _ (spliced ((false,eval e X.env)::backTo pos (starEach es X.env))) _ _ s;refine Calls.spliced_cons (thn (ha aA s Z H _ I h) λu s1 ⟨x,H1,I1,r1,q1⟩=> ?_);exact thn (hr pos aA s1 Z H1 _ I1 q1) λus s2 ⟨xs,H2,I2,r2,q2⟩=>⟨x::xs,H2,I2,.cons r1 r2,q2⟩
def cu8(t:TA):TE:=λZ H Q=>t Z H λxs H1=>xs.length<=sizeLine/\∀p,H1 p=none->Q (.ref p) (upd H1 p (.tup xs))
def cv4(t:TA):TE:=λZ H Q=>t Z H λxs H1=>xs.length<=sizeLine/\∀p,H1 p=none->Q (.ref p) (upd H1 p (.lst xs))
theorem ci6(h:PA X es t):PE X (.Tuple es x1 pos) (cu8 t):=by
 intro aA s Z H Q I hq;refine wpAny_Tuple_spliced (thn (h pos aA s Z H _ I hq) λus s1 ⟨xs,H1,I1,r,z,q⟩=>⟨by rw[<-r.length];exact z,?_⟩);have hf:H1 s1.sz=none:=I1.hok.fresh (cM3 _);refine⟨.ref s1.sz,upd H1 s1.sz (.tup xs),I1.laid (t':=s1.toks) (λb u e=>cD5 _ e) (cM3 _) ?_,rfl,q _ hf⟩;exact⟨z,us,r,⟨_,cD6 _ rfl,rfl,_,rfl⟩⟩
theorem bF9(h:PA X es t):PE X (.List es pos) (cv4 t):=by
 intro aA s Z H Q I hq;refine wpAny_List_spliced (thn (h pos aA s Z H _ I hq) λus s1 ⟨xs,H1,I1,r,z,q⟩=>⟨by rw[<-r.length];exact z,?_⟩);have hf:H1 s1.sz=none:=I1.hok.fresh (cM3 _);refine⟨.ref s1.sz,upd H1 s1.sz (.lst xs),I1.laid (t':=s1.toks) (λb u e=>cD5 _ e) (cM3 _) ?_,rfl,q _ hf⟩;exact⟨z,us,0,r,cD6 _ rfl⟩
end
abbrev Sp:=List V->Hp->VK->XK->Prop
abbrev CXT:=List Env->Hp->Shared->XK->Value->Shared->Prop
structure ap5(P:Program)(w:World)(K:cO5)(mg:Str->Option Value)(aD:Heap)(A:Around)(aE:List Env)(s:Shared)(H:Hp):Prop where
 frames:A.frames=some aE
 mod:Mod K mg aD
 bs:∀b o,aD.get? b=some o->s.heap.get? b=some o/\H b=none
 bsz:aD.objs.size<=s.sz
 funs:s.heap.FunFrames aD aE
 frf:∀b∈frs aE,H b=none
 hok:HOk P w H s.heap
 bare:AllBare s.gens
def CE(aE:List Env)(P:Program)(w:World)(H:Hp)(s:Shared)(Q:VK)(u:Value)(s':Shared):Prop:=
 ∃v H',s'.os=s.os/\AllBare s'.gens/\Un (frs aE) [] H H' s.heap s'.heap/\HOk P w H' s'.heap/\D0 v u/\Q v H'
def CR(CX:CXT)(aE:List Env)(P:Program)(w:World)(H:Hp)(s:Shared)(Q:VK)(E:XK)(r:Result)(s':Shared):Prop:=
 match r with
 |.ok (.ret u)=>CE aE P w H s Q u s'
 |.ok _=>False
 |.error e=>CX aE H s E e s'
structure P9(P:Program)(w:World)(K:cO5)(mg:Str->Option Value)(aD:Heap)(CX:CXT)(k:Nat)(f:Addr)(fd:FuncData)(ps:List Str)(sp:Sp):Prop where
 len:∀vs H Q E,sp vs H Q E->vs.length=ps.length
 run:∀(A:Around) (aE:List Env) (s:Shared) (H:Hp) (args:Args) (us:List Value) (vs:List V) (Q:VK) (E:XK),J9 k A->ap5 P w K mg aD A aE s H->BindsTo s fd args (ps.zip us)->B6 vs us->sp vs H Q E->
  codeAny (model P w) A (.call (.ref f) args) (CR CX aE P w H s Q E) s
theorem ap5.make{P:Program}{w:World}{K:cO5}{mg:Str->Option Value}{aD:Heap}{A:Around}{aE:List Env}{s:Shared}{H:Hp}(e:ap5 P w K mg aD A aE s H)(C:Addr)(us:List Value)(kw:List (Str×Value)):
  ap5 P w K mg aD (A.under (.builtin "type.__call__" ⟨.ref C::us,kw⟩)) aE s H:=⟨by first |exact e.frames|(simpa[Around.under,Code.envs,Code.isFrame,pushEnvs]using e.frames),e.mod,e.bs,e.bsz,e.funs,e.frf,e.hok,e.bare⟩
section
variable {X:Cx}{aA:List (Addr×Obj)}{Z:St}{H:Hp}{s s':Shared}
theorem Inv.env0(I:Inv X aA Z H s):ap5 X.prog X.w X.K X.mg X.aD X.A X.stack s H:=
 ⟨I.ok.frames,I.ok.mod,I.bs,cM5 I.ok.bsz I.sz,I.stack,I.stkFree,I.hok,I.bare⟩
theorem Inv.after(I:Inv X aA Z H s)(h:CE X.stack X.prog X.w H s Q u s'):EP X aA Z Q u s':=by
 obtain⟨v,H',os,bare,un,hok,r,q⟩:=h;obtain⟨hh,g,d,t,os'⟩:=s';obtain rfl:os'=s.os:=os;exact⟨v,H',I.call (h':=hh) (g':=g) (d':=d) (t':=t) (ch:=[]) un hok bare (λb z=>absurd z (by simp)),r,q⟩
end
def cq2(sp:Sp)(dvs:List V)(E:XK)(t:TA):TE:=λZ H Q=>t Z H λvs H1=>sp (vs++dvs) H1 Q E
def cp8(C:Addr)(m:Str)(sp:Sp)(dvs:List V)(E:XK)(ta:TE)(t:TA):TE:=λZ H Q=>ta Z H λx H1=>∃a dx fs,x=.ref a/\H1 a=some (.ins C dx fs)/\fs.lookup m=none/\
 t Z H1 λvs H2=>sp (x::(vs++dvs)) H2 Q E
def cp9(C:Addr)(sp:Sp)(dvs:List V)(E:XK)(t:TA):TE:=λZ H Q=>t Z H λvs H1=>∀x dx,H1 x=none->H1 dx=none->dx≠x->
 sp (.ref x::(vs++dvs)) (upd (upd H1 dx (.aB x)) x (.ins C dx [])) (λv H2=>v=.non/\Q (.ref x) H2) E
def P6(K:cO5)(fd:FuncData)(ps:List Str)(ds:List Value):Prop:=
 ∀(s:Shared) (us:List Value),K.In s.heap->(us++ds).length=ps.length->BindsTo s fd ⟨us,[]⟩ (ps.zip (us++ds))
theorem P6.all{K:cO5}{fd:FuncData}{ps:List Str}(h:∀us:List Value,us.length=ps.length->bindArgs fd ⟨us,[]⟩=pure (ps.zip us)):P6 K fd ps []:=λs us _ hl=>by
 rw[cH0]at hl⊢;exact .of_eq (h us hl)
def ab8(CX:CXT)(X:Cx)(E:XK):Prop:=∀(aA:List (Addr×Obj)) (Z:St) (H:Hp) (s:Shared) (e:Value) (s':Shared),Inv X aA Z H s->CX X.stack H s E e s'->X.xe e s'
section
variable {X:Cx}{CX:CXT}{k:Nat}{f C:Addr}{fd:FuncData}{ps:List Str}{sp:Sp}{dvs:List V}{ds:List Value}{E:XK}{x m:Str}{p pos apos:Pos}{e o:Expr}{es:List Expr}{ta:TE}{t:TA}
theorem bD2(F:P9 X.prog X.w X.K X.mg X.aD CX k f fd ps sp)(hr:J9 k X.A)(hb:P6 X.K fd ps ds)(hd:B6 dvs ds)(hx:ab8 CX X E)
  (I:Inv X aA Z H s) (r:B6 vs us) (h:sp (vs++dvs) H Q E):wpAny (model X.prog X.w) X.A (call (.ref f) us) (EP X aA Z Q) X.xe s:=by
 have r2:B6 (vs++dvs) (us++ds):=r.append hd;have hl:(us++ds).length=ps.length:=by rw[<-r2.length];exact F.len _ _ _ _ h
 refine wpAny_call (codeAny_mono (F.run X.A X.stack s H ⟨us,[]⟩ (us++ds) (vs++dvs) Q E hr I.env0 (hb s us I.kIn hl) r2 h) λr s' hq=> ?_);cases r with
 |error e=>exact hx aA Z H s e s' I hq
 |ok fl=>
  cases fl with
  |ret u=>exact I.after hq
  |next=>exact False.elim hq
  |brk=>exact False.elim hq
  |cont=>exact False.elim hq
theorem aL9(F:P9 X.prog X.w X.K X.mg X.aD CX k f fd ps sp)(hr:J9 k X.A)(hg:Gl X x)(hm:X.mg x=some (.ref f))(hk:W.keepIn X.K (.ref f)=true)(hb:P6 X.K fd ps ds)(hd:B6 dvs ds)(hx:ab8 CX X E)
  (ha:PA X (e::es) t) (hdb:NoD x) (he:StE X e es) (hpl:Bks X pos es):
  PE X (.Call (.Name x p) (e::es) [] pos) (cq2 sp dvs E t):=by
 intro aA s Z H Q I h;refine wpAny_Call_Name_kw (ao7 I hg hm ?_ hdb);refine W.callWith_K (h₀:=X.aD) I.ok.mod.kin hk (thn (ha pos aA s Z H _ I h) λus s1 ⟨vs,H1,I1,r,q⟩=>⟨I1.kIn,?_⟩) he hpl;exact bD2 F hr hb hd hx I1 r q
theorem cb2(he:PE X o ta)(c:Cls X.K C)(hm:ba3 X.K C m f)(F:P9 X.prog X.w X.K X.mg X.aD CX k f fd ps sp)(hr:J9 k X.A)(hb:P6 X.K fd ps ds)(hd:B6 dvs ds)(hx:ab8 CX X E)(ha:PA X (e::es) t)
  (hst:StE X e es) (hpl:Bks X pos es)
  (ht:eval (.Call (.Attribute o m apos) (e::es) [] pos) X.env=(do
   let ov<-eval o X.env
   standAt apos.atName
   let(f,f1)<-holding [ov] (getMethod ov m pl)
   callWith pos f f1 (backTo pos (starEach (e::es) X.env)) (backToKw pos (keywordEach [] X.env)))):
  PE X (.Call (.Attribute o m apos) (e::es) [] pos) (cp8 C m sp dvs E ta t):=by
 intro aA s Z H Q I h;refine W.methodCall_KW (pl:=pl) (thn (he aA s Z H _ I h) λu s1 ⟨x,H1,I1,rx,a,dx,fs,ex,ea,l,q⟩=> ?_) ht;subst ex;obtain rfl:u=Value.ref a:=rx;refine by4 I1 ea c hm l ?_;refine W.callWith_K (first :=[.ref a]) (h₀:=X.aD) I.ok.mod.kin hm.kp (thn (ha pos aA s1 Z H1 _ I1 q) λus s2 ⟨vs,H2,I2,r,q2⟩=>⟨I2.kIn,?_⟩) hst hpl;exact bD2 (us:=.ref a::us) (vs:=.ref a::vs) F hr hb hd hx I2 (.cons rfl r) q2
structure Mk(K:cO5)(C f:Addr):Prop where
 makes:W.makesIn K C=true
 init:W.findIn K (.ref C) "__init__"=some (some (.ref f))
 fn:W.isFn K (.ref f)=true
 kp:W.keepIn K (.ref C)=true
theorem bN9(M:Mk X.K C f)(F:P9 X.prog X.w X.K X.mg X.aD CX k f fd ps sp)(hr:J9 (k+1) X.A)(hb:P6 X.K fd ps ds)(hd:B6 dvs ds)
  (hx:ab8 CX X E) (I:Inv X aA Z H s) (r:B6 vs us)
  (h:∀x dx,H x=none->H dx=none->dx≠x->sp (.ref x::(vs++dvs)) (upd (upd H dx (.aB x)) x (.ins C dx [])) (λv H2=>v=.non/\Q (.ref x) H2) E):
  wpAny (model X.prog X.w) X.A (call (.ref C) us) (EP X aA Z Q) X.xe s:=by
 have hq:=h (s.sz+1) s.sz (I.hok.fresh (cM4 _)) (I.hok.fresh (cM3 _)) (cN5 (cN0 _));have I2:=Inv.made (C:=C) I;have r2:B6 (V.ref (s.sz+1)::(vs++dvs)) (Value.ref (s.sz+1)::(us++ds)):=.cons rfl (r.append hd);have hl:(Value.ref (s.sz+1)::us++ds).length=ps.length:=by
  have e:=r2.length;rw[F.len _ _ _ _ hq]at e;exact e.symm
 refine wpAny_call (bS8 (f:=f) I.kIn M.makes M.init (beq_iff_eq.mp M.fn) (codeAny_mono (F.run _ X.stack _ _ ⟨Value.ref (s.sz+1)::us,[]⟩ (Value.ref (s.sz+1)::(us++ds)) _ _ E (hr.make C us [])
  (I2.env0.make C us []) (hb _ (Value.ref (s.sz+1)::us) I2.kIn hl) r2 hq) λr s' hq'=> ?_))
 cases r with
 |error e=>exact hx aA Z _ _ e s' I2 hq'
 |ok fl=>
  cases fl with
  |ret u=>
   obtain⟨v,H',I3,rv,ev,q3⟩:=I2.after hq';subst ev;exact⟨rv,⟨V.ref (s.sz+1),H',I3,rfl,q3⟩⟩
  |next=>exact False.elim hq'
  |brk=>exact False.elim hq'
  |cont=>exact False.elim hq'
theorem cb3(M:Mk X.K C f)(F:P9 X.prog X.w X.K X.mg X.aD CX k f fd ps sp)(hr:J9 (k+1) X.A)(hg:Gl X x)(hm:X.mg x=some (.ref C))(hb:P6 X.K fd ps ds)(hd:B6 dvs ds)(hx:ab8 CX X E)
  (ha:PA X (e::es) t) (hdb:NoD x) (he:StE X e es) (hpl:Bks X pos es):
  PE X (.Call (.Name x p) (e::es) [] pos) (cp9 C sp dvs E t):=by
 intro aA s Z H Q I h;refine wpAny_Call_Name_kw (ao7 I hg hm ?_ hdb);refine W.callWith_K (h₀:=X.aD) I.ok.mod.kin M.kp (thn (ha pos aA s Z H _ I h) λus s1 ⟨vs,H1,I1,r,q⟩=>⟨I1.kIn,?_⟩) he hpl;exact bN9 M F hr hb hd hx I1 r q
end
section
variable {X:Cx}{CX:CXT}{k:Nat}{f C:Addr}{fd:FuncData}{ps ks:List Str}{sp:Sp}{E:XK}{x m:Str}{p pos apos kpos:Pos}{e o:Expr}{es:List Expr}{kws:List Keyword}{te ta:TE}{t tk:TA}{nm:Option Str}
variable {g:List Value->List Value->List Value}{gV:List V->List V->List V}
end
structure O8(N P:List Str)(sc:Scope):Prop where
 kind:sc.kind=.function
 co:sc.isCoroutine=false
 gen:sc.isGenerator=false
 nd:N.Nodup
 pre:N.take P.length=P
 par:∀x∈P,sc.names.lookup x=some .local\/sc.names.lookup x=some .cell
 nofree:∀y∈sc.names,y.2≠.free
theorem bd7{kindOf:Str->Option NameKind}{x:Str}:∀{binds:List (Str×Value)}{m:Str->Option Value},(∀v,(x,v)∉binds)->bindL kindOf binds m x=m x
 |[],_,_=>rfl
 |(n,v)::r,m,h=>by
  unfold bindL;rw[bd7 λw hw=>h w (cK6 _ hw)];split
  .have :x≠n:=by rintro rfl;exact h v cK7
   simp[this]
  .rfl
theorem bd9{kindOf:Str->Option NameKind}{x:Str}:∀{binds:List (Str×Value)}{m:Str->Option Value},(∀v,(x,v)∉binds)->bindC kindOf binds m x=m x
 |[],_,_=>rfl
 |(n,v)::r,m,h=>by
  unfold bindC;rw[bd9 λw hw=>h w (cK6 _ hw)];split
  .rfl
  .have :x≠n:=by rintro rfl;exact h v cK7
   simp[this]
theorem bd8{kindOf:Str->Option NameKind}{x:Str}{v:Value}:∀{P:List Str}{vs:List Value}{i:Nat}{m:Str->Option Value},P.Nodup->P[i]?=some x->vs[i]?=some v->kindOf x=some .local->
  bindL kindOf (P.zip vs) m x=some v
 |[],_,_,_,_,h,_,_=>by simp at h
 |_::_,[],_,_,_,_,h,_=>by simp at h
 |p::P,w::vs,0,m,nd,h1,h2,hk=>by
  simp at h1 h2;subst h1;subst h2;show bindL kindOf ((p,w)::P.zip vs) m p=_;unfold bindL;rw[bd7 λv hv=>(List.nodup_cons.mp nd).1 (cL3 hv).1,cP2 hk];simp
 |p::P,w::vs,i+1,m,nd,h1,h2,hk=>by
  show bindL kindOf ((p,w)::P.zip vs) m x=_;unfold bindL;exact bd8 (i:=i) (List.nodup_cons.mp nd).2 (by simpa using h1) (by simpa using h2) hk
theorem be0{kindOf:Str->Option NameKind}{x:Str}{v:Value}:∀{P:List Str}{vs:List Value}{i:Nat}{m:Str->Option Value},P.Nodup->P[i]?=some x->vs[i]?=some v->kindOf x≠some .local->
  bindC kindOf (P.zip vs) m x=some v
 |[],_,_,_,_,h,_,_=>by simp at h
 |_::_,[],_,_,_,_,h,_=>by simp at h
 |p::P,w::vs,0,m,nd,h1,h2,hk=>by
  simp at h1 h2;subst h1;subst h2;show bindC kindOf ((p,w)::P.zip vs) m p=_;unfold bindC;rw[bd9 λv hv=>(List.nodup_cons.mp nd).1 (cL3 hv).1,cP1 hk];simp
 |p::P,w::vs,i+1,m,nd,h1,h2,hk=>by
  show bindC kindOf ((p,w)::P.zip vs) m x=_;unfold bindC;exact be0 (i:=i) (List.nodup_cons.mp nd).2 (by simpa using h1) (by simpa using h2) hk
def start(N:List Str)(vs:List V):St:=vs.map some++List.replicate (N.length-vs.length) none
def F7(CX:CXT)(P:Program)(w:World)(K:cO5)(mg:Str->Option Value)(aD:Heap)(N:List Str)(qual:Str)(scope:Scope)(f:Addr)(cd:Value)(A:Around)(aE:List Env)(s:Shared)(H:Hp)(E:XK):Cx where
 prog:=P
 w:=w
 K:=K
 mg:=mg
 aD:=aD
 A:=A.deeper (envOfC qual scope s.sz f cd)
 N:=N
 sd:=s
 Ho:=H
 env:=envOfC qual scope s.sz f cd
 aE:=aE
 stack:=envOfC qual scope s.sz f cd::aE
 ex:=[]
 calm:=true
 fn:=λ_=>true
 pn:=[]
 xe:=λe s'=>wpAny (model P w) (A.deeper (envOfC qual scope s.sz f cd)) (leaving (envOfC qual scope s.sz f cd) e) (λ_ s''=>CX aE H s E e s'') (λe' s''=>CX aE H s E e' s'') s'
theorem bn5{sc:Scope}{n:Nat}{x:Str}(h:sc.names.lookup x=some .cell):∃c,(cellsFrom n sc.names []).lookup x=some c:=by
 have q:=W.cellsFrom_some sc.names n [] (.inl h);exact Option.isSome_iff_exists.mp q
theorem bc1{CX:CXT}{P:Program}{w:World}{K:cO5}{mg:Str->Option Value}{aD:Heap}{N ps:List Str}{qual:Str}{scope:Scope}{f:Addr}{cd:Value}{A:Around}{aE:List Env}{s s1:Shared}{H:Hp}{E:XK}{us:List Value}{vs:List V}
  (S:O8 N ps scope) (hd:A.handled=none) (e0:ap5 P w K mg aD A aE s H) (hl:vs.length=ps.length) (r:B6 vs us)
  (x:InCallC s s.sz (bindL (envOfC qual scope s.sz f cd).kindOf (ps.zip us) λ_=>none) (cellsFrom (s.sz+1) scope.names []) (bindC (envOfC qual scope s.sz f cd).kindOf (ps.zip us) λ_=>none) s1):
  Inv (F7 CX P w K mg aD N qual scope f cd A aE s H E) [] (start N vs) H s1:=by
 have hpl:ps.length<=N.length:=by have :=congrArg List.length S.pre;rw[cJ8]at this;omega
 obtain⟨h1,tk,rfl,hk⟩:=x.done;have noA:∀b:Addr,b∉(F7 CX P w K mg aD N qual scope f cd A aE s H E).ex:=λb z=>absurd (show b∈([]:List Addr)from z) (by simp)
 refine⟨⟨e0.mod,S.kind,rfl,rfl,cM3 _,λy z c h1 h2=> ?_,λy hy=> ?_,λy c _ h=> ?_,λ_=>hd,Around.frames_deeper e0.frames,.inr ⟨rfl,rfl⟩,λb z=>absurd z (noA b),e0.bs,e0.bsz,λb _ _=>noA b,λb z=>absurd z (noA b),e0.funs,e0.frf⟩,
  rfl,e0.bare,Un.kept hk,⟨_,x.toInCall.ns,λi y v h1 h2 h3=> ?_⟩,λy c h=>⟨_,x.cell y c h⟩,e0.hok.fresh (cM3 _),λy c h=> ?_,λp hp=>absurd (show p∈([]:List (Addr×Obj))from hp) (by simp),e0.hok.kept hk,?_⟩
 .exact name_of_addr x.apart (cO6 h1) (cO6 h2)
 .have hy:scope.names.lookup y=some .cell\/scope.names.lookup y=some .free:=hy;rcases hy with hy|hy
  .exact bn5 hy
  .exact absurd rfl (S.nofree _ (cO6 hy))
 .exact Nat.le_of_lt (x.above y c (cO6 h))
 .have hi:i<vs.length:=by
   unfold start at h2;by_cases hi:i<vs.length
   .exact hi
   .rw[cI2 (by simpa using hi)]at h2;rw[cI7]at h2;split at h2<;>cases h2
  have ha:vs[i]?=some v:=by
   unfold start at h2;rw[cI1 (by simpa using hi),cI5]at h2;cases e:vs[i]? with
   |none=>rw[e]at h2;cases h2
   |some a=>rw[e]at h2;cases h2;rfl
  obtain⟨u,hu,rv⟩:=r.get ha;have hp:ps[i]?=some y:=by
   rw[<-S.pre,List.getElem?_take_of_lt (by omega)];exact h1
  have ndP:ps.Nodup:=by rw[<-S.pre];exact S.nd.sublist (List.take_sublist _ _)
  refine⟨u,rv,?_⟩;rcases S.par y (cK9 hp)with k|k
  .exact .inl ⟨k,bd8 ndP hp hu k⟩
  .obtain⟨c,e⟩:=bn5 (n:=s.sz+1) k;refine .inr ⟨.inl k,c,e,?_⟩;have q:=x.cell y c e;rw[be0 ndP hp hu (by show scope.names.lookup y≠_;rw[k];decide)]at q;exact q
 .exact e0.hok.fresh (Nat.le_of_lt (x.above y c (cO6 h)))
 .unfold start;show _=N.length;rw[cJ2,cJ3,cJ5];omega
theorem by8{CX:CXT}{P:Program}{w:World}{K:cO5}{mg:Str->Option Value}{aD:Heap}{k:Nat}{f:Addr}{name qual:Str}{params:Arguments}{body:List Stmt}{scope:Scope}{dV kV doc pm cdv ct oc:Value}{an od:Option Addr}
  {osl:Array (Option Value)}{N ps:List Str}{sp:Sp}(lk:K.lookup f=some ⟨oc,od,.func (W.fnOf name qual params body scope dV kV doc pm an cdv ct),osl⟩) (hcd:W.codeIn K cdv qual=true) (S:O8 N ps scope)
  (len:∀vs H Q E,sp vs H Q E->vs.length=ps.length)
  (hbody:∀(A:Around) (aE:List Env) (s:Shared) (H:Hp) (vs:List V) (Q:VK) (E:XK),J9 k (A.deeper (envOfC qual scope s.sz f cdv))->sp vs H Q E->
   ∃t,PSs (F7 CX P w K mg aD N qual scope f cdv A aE s H E) body t/\t {nx:=λ_ H'=>Q .non H',rt:=Q} (start N vs) H):
  P9 P w K mg aD CX (k+1) f (W.fnOf name qual params body scope dV kV doc pm an cdv ct) ps sp:=by
 refine⟨len,λA aE s H args us vs Q E hr e0 hb r hsp=> ?_⟩;have hl:=len _ _ _ _ hsp;have KX:K.In s.heap:=e0.mod.kin.keeps λb o e=>(e0.bs b o e).1
 have lim:s.heap.NoLimit:=e0.mod.nolimit.keeps λb o e=>(e0.bs b o e).1
 have hkind:∀y∈ps.zip us,scope.names.lookup y.1=some .local\/(scope.names.lookup y.1=some .cell/\((cellsFrom (s.sz+1) scope.names []).lookup y.1).isSome=true):=λ⟨n,v⟩ hy=>by
  rcases S.par n (cL3 hy).1 with q|q
  .exact .inl q
  .exact .inr ⟨q,W.cellsFrom_some _ _ _ (.inl q)⟩
 refine codeAny_call_function hr.depth (KX _ _ lk) rfl S.co S.gen rfl (W.codeRec_of KX hcd) (hb _ _ _ _ ?_);refine wpAny_newFunctionEnv_cells S.kind hkind λenv he s1 x=> ?_
 subst he;refine⟨lim.keeps x.toInCall.keep,codeAny_func ?_⟩;obtain⟨t,ht,hq⟩:=hbody A aE s H vs Q E (hr.deeper _) hsp;have I:Inv (F7 CX P w K mg aD N qual scope f cdv A aE s H E) [] (start N vs) H s1:=bc1 S hr.hd e0 hl r x;refine cP6 (ht [] s1 (start N vs) H _ I hq) (λfl s' hs=> ?_) λe s' hs=>hs
 have fin:∀{Z':St}{H':Hp}{v:V}{u:Value},Inv (F7 CX P w K mg aD N qual scope f cdv A aE s H E) [] Z' H' s'->D0 v u->Q v H'->CE aE P w H s Q u s':=
  λ{Z' H' v u} J rv q=>⟨v,H',J.os,J.bare,J.aD,J.hok,rv,q⟩
 cases fl with
 |ret u=>
  obtain⟨v,Z',H',J,rv,q⟩:=hs;exact fin J rv q
 |next=>
  obtain⟨Z',H',J,q⟩:=hs;exact fin (v:=V.non) (u:=Value.none) J rfl q
 |brk=>
  obtain⟨_,_,_,q⟩:=hs;exact False.elim q
 |cont=>
  obtain⟨_,_,_,q⟩:=hs;exact False.elim q
section
variable {X:Cx}{x:Str}{p pos:Pos}{e:Expr}{es:List Expr}{t:TA}{id T:String}{r:List V->Hp->VK->Prop}
def tCB(r:List V->Hp->VK->Prop)(t:TA):TE:=λZ H Q=>t Z H λvs H1=>r vs H1 Q
theorem aQ1(hc:ad8 X (.builtin id) r)(hg:Gl X x)(hm:X.mg x=none)(hv:bootBuiltins x=some (.builtin id))(ha:PA X (e::es) t)(hn:x≠"__name__")(hdb:NoD x)
  (he:StE X e es) (hpl:Bks X pos es):PE X (.Call (.Name x p) (e::es) [] pos) (tCB r t):=by
 intro aA s Z H Q I h;refine wpAny_Call_Name_kw (ar0 I hg hm hv ?_ hn hdb);exact PyProof.Rows.callWith_builtin1 (thn (ha pos aA s Z H _ I h) λus s1 ⟨vs,H1,I1,r1,q1⟩=>hc aA s1 Z H1 vs us Q I1 r1 q1) he hpl
theorem bG1(hc:ad8 X (.type T) r)(hg:Gl X x)(hm:X.mg x=none)(hv:bootBuiltins x=some (.type T))(ha:PA X (e::es) t)(hn:x≠"__name__")(hdb:NoD x)
  (he:StE X e es) (hpl:Bks X pos es):PE X (.Call (.Name x p) (e::es) [] pos) (tCB r t):=by
 intro aA s Z H Q I h;refine wpAny_Call_Name_kw (ar0 I hg hm hv ?_ hn hdb);exact PyProof.Rows.callWith_type1 (thn (ha pos aA s Z H _ I h) λus s1 ⟨vs,H1,I1,r1,q1⟩=>hc aA s1 Z H1 vs us Q I1 r1 q1) he hpl
end
end L2
namespace HT
open PySem PyProof.Rows
def lexLt:List Int->List Int->Bool
 |[],[]=>false
 |[],_::_=>true
 |_::_,[]=>false
 |x::xs,y::ys=>if x=y then lexLt xs ys else decide (x<y)
theorem lexLt_cons(x y:Int)(xs ys:List Int):lexLt (x::xs) (y::ys)=if x=y then lexLt xs ys else decide (x<y):=rfl
theorem bf0:lexLt [] []=false:=rfl
theorem aY5(y:Int)(ys:List Int):lexLt [] (y::ys)=true:=rfl
theorem aY6(x:Int)(xs:List Int):lexLt (x::xs) []=false:=rfl
theorem bU0(A:Around)(s:Shared)(a:Int)(t:Tok)(c:Int)(u:Tok):∃e,SeqAt.EqAt A s (.int a t) (.int c u) e/\(e=true ↔a=c):=
 ⟨(a==c),SeqAt.EqAt.int_int a t c u,by simp⟩
theorem bQ1(A:Around)(s:Shared)(a:Int)(t:Tok)(c:Int)(u:Tok)(prog:Program)(w:World)(E:Value->Shared->Prop)(Q:Value->Shared->Prop)(h:Q (.bool (decide (a<c))) s):
  wpAny (model prog w) A (richCompare .Lt (.int a t) (.int c u)) Q E s:=
 (PyProof.Rows.lt_int h:wpAny (model prog w) A (compareOp .Lt (.int a t) (.int c u)) Q E s)
section
open PySem.SeqAt
open PySem.AutoSeq1 (wpAny_loadPart')
open PySem.MeetsSeq PySem.MeetsSeq2 PySem.MeetsSeq3
theorem be8(l b:Addr)(items items2:Array Value)(n n2:Nat)(dd dd2:Option Addr)(sl sl2:Array (Option Value))(ns ms:List Int)(hi:IntsAre items.toList ns)(hj:IntsAre items2.toList ms):
  Meets (Builtin.«tuple.__lt__» ⟨[.ref l,.ref b],[]⟩)
   (λ_ R s=>s.heap.get? l=some {cls:=.type "tuple",dict:=dd,data:=.seq items n,slots:=sl}/\s.heap.get? b=some {cls:=.type "tuple",dict:=dd2,data:=.seq items2 n2,slots:=sl2}/\
    R (.ok (.ret (.bool (lexLt ns ms)))) s):=
 .of_wp λprog w A R s h=>by
  obtain⟨hp,g,d,tk,os⟩:=s;obtain⟨hl,hb,h⟩:=h;have f2:=AutoSeq1.sub_tuple_tuple;have z1:items.size=ns.length:=by rw[<-hi.length];simp
  have z2:items2.size=ms.length:=by rw[<-hj.length];simp
  wp_walk using wpAny_loadPart' hl,wpAny_loadPart' hb,wpAny_forIn_list _ (λrest b s'=>b.1=none/\s'=⟨hp,g,d,tk,os⟩/\∃(vs ws:List Value) (ns' ms':List Int),rest=vs.zip ws/\
   IntsAre vs ns'/\IntsAre ws ms'/\ns'.length+items2.size=ms'.length+items.size/\R (.ok (.ret (.bool (lexLt ns' ms')))) ⟨hp,g,d,tk,os⟩) _
  case turn=>
   rintro⟨y,x⟩ rest b s' ⟨hb',rfl,vs,ws,ns',ms',hz,hvi,hwi,hlen,hR⟩;cases hvi with
   |nil=>rw[List.zip_nil_left]at hz;cases hz
   |cons a t hvi'=>
    cases hwi with
    |nil=>rw[List.zip_nil_right]at hz;cases hz
    |cons c u hwi'=>
     rw[List.zip_cons_cons]at hz;injection hz with hyx hrest
     injection hyx with hy hx
     subst hy hx;rw[lexLt_cons]at hR;simp only[cB8]at hlen;obtain⟨e,he,hiff⟩:=bU0 A.in1 ⟨hp,g,d,tk,os⟩ a t c u;refine cP3 (he prog w _ _ ?_);cases e with
     |true=>
      rw[cP2 (hiff.mp rfl)]at hR
      wp_walk
      exact⟨rfl,rfl,_,_,_,_,hrest,hvi',hwi',by omega,hR⟩
     |false=>
      rw[cP1 (λq=>absurd (hiff.mpr q) cD1)]at hR;have hri:=bQ1 A.in1 ⟨hp,g,d,tk,os⟩ a t c u prog w
      wp_walk using hri
      exact⟨_,rfl,by simpa using hR⟩
  case fin=>
   rintro⟨b1,b2⟩ s' ⟨hb',rfl,vs,ws,ns',ms',hz,hvi,hwi,hlen,hR⟩;simp only at hb';subst hb';have hv:lexLt ns' ms'=decide (items.size<items2.size):=by
    cases hvi with
    |nil=>
     cases hwi with
     |nil=>
      simp only[cB9]at hlen;rw[bf0];exact(cO8 (by omega)).symm
     |cons c u hw=>
      simp only[cB9,cB8]at hlen;rw[aY5];exact(cO9 (by omega)).symm
    |cons a t hv=>
     cases hwi with
     |nil=>
      simp only[cB9,cB8]at hlen;rw[aY6];exact(cO8 (by omega)).symm
     |cons c u hw=>
      rw[List.zip_cons_cons]at hz;cases hz
   rw[hv]at hR
   wp_walk
   exact⟨_,rfl,by simpa[Builtin.Tuple.tupleCompareSizes]using hR⟩
  case h=>
   exact⟨rfl,rfl,items.toList,items2.toList,ns,ms,rfl,hi,hj,by omega,h⟩
end
section
variable {prog:Program}{w:World}{A:Around}{E:Value->Shared->Prop}{s:Shared}
theorem lt_tupInts(hl:IsTup s.heap l items)(hb:IsTup s.heap b items2)(hi:IntsAre items.toList ns)(hj:IntsAre items2.toList ms)
  (hu:A.units<cLine) (h:Q (.bool (lexLt ns ms)) s):wpAny (model prog w) A (compareOp .Lt (.ref l) (.ref b)) Q E s:=by
 obtain⟨⟨cls,dd,data,sl⟩,ho,hc,n,hd⟩:=id hl;obtain⟨⟨cls2,dd2,data2,sl2⟩,ho2,hc2,n2,hd2⟩:=id hb;simp only at hc hd hc2 hd2;subst hc hd hc2 hd2;exact richCompare_meets_room (op:=.Lt) ⟨_,ho,rfl⟩ ⟨_,ho2,rfl⟩ PySem.F.slot_tuple_lt PySem.F.entry_tuple_lt (PySem.F.args_tuple_lt_2 _ _) (be8 l b items items2 n n2 dd dd2 sl sl2 ns ms hi hj)
  ⟨ho,ho2,show Value.bool (lexLt ns ms)≠Value.notImplemented/\Q (.bool (lexLt ns ms)) s from⟨(λx=>nomatch x),h⟩⟩ hu
def sIx(n d:Nat):Option Int->Nat
 |none=>d
 |some v=>if v<0 then(v+(n:Int)).toNat else min v.toNat n
theorem sIx_nat(n d k:Nat):sIx n d (some (k:Int))=min k n:=by
 show(if(k:Int)<0 then((k:Int)+(n:Int)).toNat else min (k:Int).toNat n)=min k n;rw[cP1 (by omega),cG2]
theorem cg7(n d:Nat)(hd:d<=n)(o:Option Int):sIx n d o<=n:=by
 cases o with
 |none=>exact hd
 |some v=>
  show(if v<0 then(v+(n:Int)).toNat else min v.toNat n)<=n;by_cases hv:v<0
  .rw[cP2 hv];omega
  .rw[cP1 hv];exact Nat.min_le_right _ _
theorem bu4(v:Int)(n d:Nat):(if v<0 then max (v+(n:Int)) 0 else min v (n:Int))=((sIx n d (some v):Nat):Int):=by
 show(if v<0 then max (v+(n:Int)) 0 else min v (n:Int))=(((if v<0 then(v+(n:Int)).toNat else min v.toNat n):Nat):Int);by_cases hv:v<0
 .simp only[cP2 hv];omega
 .simp only[cP1 hv];omega
theorem bz9(lo hi:Option Int)(n:Nat):Builtin.Slice.sliceAdjust lo hi 1 (n:Int)=(((sIx n 0 lo:Nat):Int),((sIx n n hi:Nat):Int)):=by
 have h1:¬((1:Int)<0):=by omega
 unfold Builtin.Slice.sliceAdjust;simp only[h1,if_false];refine Prod.ext ?_ ?_
 .cases lo with
  |none=>rfl
  |some v=>exact bu4 v n 0
 .cases hi with
  |none=>rfl
  |some v=>exact bu4 v n n
theorem bx0(i j:Nat):Builtin.Slice.slicePlaces (i:Int) (j:Int) 1=j-i:=by
 unfold Builtin.Slice.slicePlaces;have h1:(1:Int)>0:=by omega
 simp only[h1,if_true,Int.ediv_one];split<;>omega
theorem aS5(p:IsPart v o)(h:Q o s):wpAny (model prog w) A (Builtin.Slice.slicePartIndex v) Q E s:=by
 cases p with
 |none=>exact slicePart_none h
 |int i t=>exact slicePart_int h
theorem aP1{sl:Addr}{vl vu:Value}{lo hi:Option Int}{n:Nat}{Q:Int×Int×Nat->Shared->Prop}(hs:s.heap.IsSliceOf sl vl vu .none)(pl:IsPart vl lo)(pu:IsPart vu hi)
  (h:Q (((sIx n 0 lo:Nat):Int),1,sIx n n hi-sIx n 0 lo) s):wpAny (model prog w) A (Builtin.Slice.sliceApplied (.ref sl) (pure (n:Int))) Q E s:=by
 obtain⟨os,hos,hcs,hds⟩:=id hs;unfold Builtin.Slice.sliceApplied Builtin.Slice.sliceFields;refine cP3 (cP3 (cP5 hos hds (x:=vl) rfl (cP3 (cP5 hos hds (x:=vu) rfl (cP3 (cP5 hos hds (x:=.none) rfl (cP8 ?_)))))));refine cP3 (slicePart_none ?_);show wpAny _ _ (if((1:Int)==0)=true then _ else _) _ _ s;rw[cP1 (by decide)];refine cP3 (aS5 pl (cP3 (aS5 pu (cP3 (cP8 ?_)))));show wpAny _ _ (match Builtin.Slice.sliceAdjust lo hi 1 (n:Int)with |(lo,hi)=>pure (lo,(1:Int),Builtin.Slice.slicePlaces lo hi 1)) _ _ s;rw[bz9 lo hi n];show wpAny _ _ (pure (((sIx n 0 lo:Nat):Int),(1:Int),Builtin.Slice.slicePlaces ((sIx n 0 lo:Nat):Int) ((sIx n n hi:Nat):Int) 1)) _ _ s;rw[bx0];exact cP8 h
theorem bR6(xs:Array Value)(i k:Nat):((List.range k).filterMap λ(m:Nat)=>xs[((i:Int)+(m:Int)*1).toNat]?).toArray=((xs.toList.drop i).take k).toArray:=by
 have e:(λ(m:Nat)=>xs[((i:Int)+(m:Int)*1).toNat]?)=λm=>xs[i+m]?:=by
  funext m
  have :((i:Int)+(m:Int)*1).toNat=i+m:=by omega
  rw[this]
 rw[e];have :=pick_run xs i k;rw[List.filterMap_map]at this;have e2:((λx=>xs[x]?)∘λx=>i+x)=λm=>xs[i+m]?:=rfl
 rw[e2]at this;rw[this]
theorem getItem_tuple_cut{t sl:Addr}{items:Array Value}{vl vu:Value}{lo hi:Option Int}{Q:Value->Shared->Prop}(ht:IsTup s.heap t items)(hs:s.heap.IsSliceOf sl vl vu .none)(pl:IsPart vl lo)(pu:IsPart vu hi)
  (hw:¬(sIx items.size 0 lo=0/\sIx items.size items.size hi=items.size))
  (h:Q (.ref s.sz) {s with heap:=s.heap.push {cls:=.type "tuple",data:=.seq ((items.toList.drop (sIx items.size 0 lo)).take (sIx items.size items.size hi-sIx items.size 0 lo)).toArray}})
  (hsz:items.size<=sizeLine):wpAny (model prog w) A (getItem (.ref t) (.ref sl)) Q E s:=by
 have htake:sizeOk (.seq ((items.toList.drop (sIx items.size 0 lo)).take (sIx items.size items.size hi-sIx items.size 0 lo)).toArray):=by
  show((items.toList.drop (sIx items.size 0 lo)).take (sIx items.size items.size hi-sIx items.size 0 lo)).toArray.size<=sizeLine;rw[cL9,cJ8,List.length_drop,cC6];omega
 have hj:sIx items.size items.size hi<=items.size:=cg7 _ _ (cM3 _) hi;obtain⟨os,hos,hcs,hds⟩:=id hs;have hTs:s.TypeIs (.ref sl) "slice":=⟨os,hos,hcs⟩
 unfold getItem
 try with_reducible refine wpAny_holding ?_
 first |refine cP3 (cP8 ?_)|skip
 refine cP3 (wpAny_sequenceKey ht.typeIs (by decide) ?_);refine cP3 (wpAny_callSpecial?_slot (name:=Str.ofString "__getitem__") ht.typeIs PyProof.Rows.slot_tuple_getitem
  (cP4 PyProof.Rows.slot_tuple_getitem ht.typeIs entry_tuple_getitem ?_ (args_tuple_getitem _ _)))
 show wpAny _ _ (Builtin.Tuple.tupleItemsOf (.ref t)>>=_) _ _ s;refine cP3 (tupleItemsOf_ ht ?_);refine cP3 (wpAny_typeOf hTs ?_);rw[cP2 (by decide)];refine cP3 (aP1 hs pl pu ?_);have hno:¬((((sIx items.size 0 lo:Nat):Int)==0&&(1:Int)==1&&(sIx items.size items.size hi-sIx items.size 0 lo)==items.size)=true):=by
  intro q;rw[cC7,cC7]at q;have q1:((sIx items.size 0 lo:Nat):Int)=0:=eq_of_beq q.1.1;have q2:sIx items.size items.size hi-sIx items.size 0 lo=items.size:=eq_of_beq q.2;exact hw ⟨by omega,by omega⟩
 show wpAny _ _ (if(((sIx items.size 0 lo:Nat):Int)==0&&(1:Int)==1&&(sIx items.size items.size hi-sIx items.size 0 lo)==items.size)=true then _ else _) _ _ s;rw[cP1 hno,bR6]
 first
  |exact cP3 (m:=Builtin.Tuple.tupleExact _) (cP7 (cP8 ⟨_,rfl,cP8 h⟩) htake)
  |exact cP3 (m:=Builtin.Tuple.tupleExact _) (cP7 (cP3 (cP8 (cP8 ⟨_,rfl,cP8 h⟩))) htake)
  |exact cP3 (cP3 (m:=Builtin.Tuple.tupleExact _) (cP7 (cP8 (cP8 ⟨_,rfl,cP8 h⟩)) htake))
  |exact cP3 (cP3 (m:=Builtin.Tuple.tupleExact _) (cP7 (cP8 ⟨_,rfl,cP8 h⟩) htake))
end
end HT
namespace L2
abbrev TO:=St->Hp->(Option Int->Hp->Prop)->Prop
def PO(X:Cx)(e:Option Expr)(t:TO):Prop:=
 ∀(aA:List (Addr×Obj)) (s:Shared) (Z:St) (H:Hp) (Q:Option Int->Hp->Prop),Inv X aA Z H s->t Z H Q->
  wpAny (model X.prog X.w) X.A (evalPart e X.env) (λu s'=>∃o H',Inv X aA Z H' s'/\IsPart u o/\Q o H') X.xe s
def bY7:TO:=λ_ H Q=>Q none H
def cp5(t:TE):TO:=λZ H Q=>t Z H λx H1=>∃i,x=.int i/\Q (some i) H1
theorem aE1:∀{us:List Value},B6 (ns.map V.int) us->IntsAre us ns:=by
 induction ns with
 |nil=>intro us r;rw[cB5]at r;cases r;exact .nil
 |cons n ns ih=>
  intro us r;rw[cB4]at r;cases r with
  |cons r1 r2=>
   obtain⟨t,e⟩:=r1;subst e;exact .cons n t (ih r2)
section
variable {X:Cx}{e:Expr}{te:TE}{lo hi:Option Expr}{tl th:TO}{pos p2:Pos}
theorem bs3:PO X none bY7:=by
 intro aA s Z H Q I h;rw[evalPart_none];exact cP8 ⟨none,H,I,.none,h⟩
theorem bs2(h:PE X e te):PO X (some e) (cp5 te):=by
 intro aA s Z H Q I hw;rw[evalPart_some];refine thn (h aA s Z H _ I hw) λu s1 ⟨x,H1,I1,r1,q1⟩=> ?_
 obtain⟨i,rfl,q⟩:=q1;obtain⟨t,rfl⟩:=r1;exact⟨some i,H1,I1,.int i t,q⟩
def SlR(X:Cx)(r:V->Option Int->Option Int->Hp->VK->Prop):Prop:=
 ∀(aA:List (Addr×Obj)) (s:Shared) (Z:St) (H:Hp) (x:V) (v vl vu:Value) (lo hi:Option Int) (sl:Addr) (Q:VK),Inv X aA Z H s->D0 x v->s.heap.IsSliceOf sl vl vu .none->IsPart vl lo->IsPart vu hi->r x lo hi H Q->
  ∃T id,typeLookup (.type T) "__getitem__"=pure (some (.builtin id))/\s.TypeIs v T/\wpAny (model X.prog X.w) X.A (getItem v (.ref sl)) (EP X aA Z Q) X.xe s
theorem SlR.or(h:SlR X r)(h':SlR X r'):SlR X (λx lo hi H Q=>r x lo hi H Q\/r' x lo hi H Q):=by
 intro aA s Z H x v vl vu lo hi sl Q I rx hs pl pu q;rcases q with q|q
 .exact h aA s Z H x v vl vu lo hi sl Q I rx hs pl pu q
 .exact h' aA s Z H x v vl vu lo hi sl Q I rx hs pl pu q
def tSl(r:V->Option Int->Option Int->Hp->VK->Prop)(te:TE)(tl th:TO):TE:=λZ H Q=>te Z H λx H1=>tl Z H1 λl H2=>th Z H2 λu H3=>r x l u H3 Q
theorem bk1(hr:SlR X r)(he:PE X e te)(hl:PO X lo tl)(hu:PO X hi th):PE X (.Subscript e (.Slice lo hi none p2) pos) (tSl r te tl th):=by
 intro aA s Z H Q I h;refine Subscript_ (thn (he aA s Z H _ I h) λv s1 ⟨x,H1,I1,r1,q1⟩=> ?_);refine wpAny_Slice (thn (hl aA s1 Z H1 _ I1 q1) λvl s2 ⟨l,H2,I2,pl,q2⟩=>thn (hu aA s2 Z H2 _ I2 q2) λvu s3 ⟨u,H3,I3,pu,q3⟩=> ?_);rw[evalPart_none];refine cP8 ?_;have I4:Inv X aA Z H3 {s3 with heap:=s3.heap.push {cls:=.type "slice",data:=.fields #[vl,vu,.none]}}:=I3.kept (t':=s3.toks) λb ob q=>cD5 _ q
 obtain⟨T,id,hT,ht,hg⟩:=hr aA {s3 with heap:=s3.heap.push {cls:=.type "slice",data:=.fields #[vl,vu,.none]}} Z H3 x v vl vu l u s3.sz Q I4 r1 (Heap.IsSliceOf.new ..) pl pu q3;show wpAny (model X.prog X.w) X.A (subscriptTail e (.Slice lo hi none p2) v (.ref s3.sz)) (EP X aA Z Q) X.xe {s3 with heap:=s3.heap.push {cls:=.type "slice",data:=.fields #[vl,vu,.none]}};exact tail_any (ops:=[.ref s3.sz,v]) ht hT hg (by with_unfolding_all rfl)
def as5(xs:List V)(lo hi:Option Int):List V:=(xs.drop (HT.sIx xs.length 0 lo)).take (HT.sIx xs.length xs.length hi-HT.sIx xs.length 0 lo)
theorem aN8(xs:List V)(lo hi:Option Int):(as5 xs lo hi).length<=xs.length:=by
 unfold as5;rw[cJ8,List.length_drop];omega
def cw3(K:cO5):V->Option Int->Option Int->Hp->VK->Prop:=λx lo hi H Q=>∃a xs,x=.ref a/\SqT K H a xs/\
 ¬(HT.sIx xs.length 0 lo=0/\HT.sIx xs.length xs.length hi=xs.length)/\∀p,H p=none->Q (.ref p) (upd H p (.tup (as5 xs lo hi)))
theorem cg5:SlR X (cw3 X.K):=by
 intro aA s Z H x v vl vu lo hi sl Q I rx hs pl pu h;obtain⟨a,xs,rfl,hx,hw,q⟩:=h;cases rx;obtain⟨its,r,ht,hz⟩:=I.tuple hx;have hlen:its.toArray.size=xs.length:=by rw[cL9];exact r.length.symm
 refine⟨"tuple",_,PyProof.Rows.slot_tuple_getitem.lookup,ht.typeIs,?_⟩;refine HT.getItem_tuple_cut ht hs pl pu (by rw[hlen];exact hw) ?_ (by rw[hlen];exact hz);rw[hlen];refine⟨.ref s.sz,_,I.laid (t':=s.toks) (o:=.tup (as5 xs lo hi)) (λb ob q=>cD5 _ q) (cM3 _) ?_,rfl,q _ (I.hok.fresh (cM3 _))⟩;exact⟨cM5 (aN8 xs lo hi) hz,_,(r.drop (HT.sIx xs.length 0 lo)).take (HT.sIx xs.length xs.length hi-HT.sIx xs.length 0 lo),IsTup.new _ _⟩
def ch0(K:cO5):R2:=λx y H Q=>∃a b ns ms,x=.ref a/\y=.ref b/\SqT K H a (ns.map V.int)/\SqT K H b (ms.map V.int)/\Q (.bl (HT.lexLt ns ms)) H
theorem cj7(hu:X.A.units<cLine):OpR X (compareOp .Lt) (ch0 X.K):=by
 intro aA s Z H x y v u Q I rx ry h;obtain⟨a,b,ns,ms,rfl,rfl,ha,hb,q⟩:=h;cases rx;cases ry;obtain⟨its,r1,p1,_⟩:=I.tuple ha;obtain⟨its2,r2,p2,_⟩:=I.tuple hb;have i1:IntsAre its.toArray.toList ns:=aE1 r1;have i2:IntsAre its2.toArray.toList ms:=aE1 r2;exact HT.lt_tupInts p1 p2 i1 i2 hu ⟨.bl (HT.lexLt ns ms),H,I,rfl,q⟩
end
def ixN(n:Nat)(i:Int):Option Nat:=if 0<=i then(if i<n then some i.toNat else none)else if -(n:Int)<=i then some (i+n).toNat else none
def atI{α:Type}(xs:List α)(i:Int):Option α:=(ixN xs.length i).bind λj=>xs[j]?
theorem bt6(h:ixN n i=some j):seqIndex? i n=some j/\j<n/\ -(n:Int)<=i/\i<n:=by
 unfold ixN at h;by_cases h0:0<=i
 .rw[cP2 h0]at h;by_cases h1:i<n
  .rw[cP2 h1]at h;have e:i.toNat=j:=cO4 h;exact⟨by rw[seqIndex_of h0 h1,e],by omega,by omega,h1⟩
  .rw[cP1 h1]at h;cases h
 .rw[cP1 h0]at h;by_cases h1: -(n:Int)<=i
  .rw[cP2 h1]at h;have e:(i+n).toNat=j:=cO4 h;exact⟨by rw[seqIndex_neg (by omega) h1,e],by omega,h1,by omega⟩
  .rw[cP1 h1]at h;cases h
theorem ba0(h:atI xs i=some v):∃j,seqIndex? i xs.length=some j/\xs[j]?=some v/\j<xs.length/\ -(xs.length:Int)<=i/\i<xs.length:=by
 unfold atI at h;cases e:ixN xs.length i with
 |none=>rw[e]at h;cases h
 |some j=>
  rw[e]at h;obtain⟨h1,h2,h3,h4⟩:=bt6 e;exact⟨j,h1,h,h2,h3,h4⟩
def aM6(b:Expr):Prop:=∀o i,subscripted b false o i=operate [o,i] (getItem o i)
def IxR(X:Cx)(r:R2):Prop:=
 ∀(value slice:Expr) (aA:List (Addr×Obj)) (s:Shared) (Z:St) (H:Hp) (x y:V) (v u:Value) (Q:VK),Inv X aA Z H s->D0 x v->D0 y u->r x y H Q->
  subscripted slice false v u=operate [v,u] (getItem v u)->wpAny (model X.prog X.w) X.A (subscriptTail value slice v u) (EP X aA Z Q) X.xe s
def MtR(X:Cx)(id:String)(r:V->List V->Hp->VK->Prop):Prop:=
 ∀(aA:List (Addr×Obj)) (s:Shared) (Z:St) (H:Hp) (x:V) (xs:List V) (v:Value) (us:List Value) (Q:VK),Inv X aA Z H s->D0 x v->B6 xs us->r x xs H Q->
  wpAny (model X.prog X.w) X.A (call (.builtin id) (v::us)) (EP X aA Z Q) X.xe s
section
variable {X:Cx}{a b:Expr}{ta tb:TE}{pos:Pos}
theorem IxR.or(h:IxR X r)(h':IxR X r'):IxR X (λx y H Q=>r x y H Q\/r' x y H Q):=by
 intro value slice aA s Z H x y v u Q I rx ry q hs;rcases q with q|q
 .exact h value slice aA s Z H x y v u Q I rx ry q hs
 .exact h' value slice aA s Z H x y v u Q I rx ry q hs
theorem bW0(hr:IxR X r)(ha:PE X a ta)(hb:PE X b tb)(hs:aM6 b):PE X (.Subscript a b pos) (tOp r ta tb):=by
 intro aA s Z H Q I h;exact Subscript_ (bU5 ha hb I h λv u s2 x y H2 I2 rx ry q=>hr a b aA s2 Z H2 x y v u Q I2 rx ry q (hs _ _))
def ch3(K:cO5):R2:=λx y H Q=>∃p xs i v,x=.ref p/\y=.int i/\SqL K H p xs/\atI xs i=some v/\Q v H
def ch1(K:cO5):R2:=λx y H Q=>∃p xs i v,x=.ref p/\y=.int i/\SqT K H p xs/\atI xs i=some v/\Q v H
def ch2:R2:=λx y H Q=>∃z i c,x=.str z/\y=.int i/\z.length<=sizeLine/\atI z.cps.toList i=some c/\Q (.str ⟨#[c]⟩) H
theorem bt5:IxR X (ch3 X.K):=by
 intro value slice aA s Z H x y v u Q I rx ry h hs;obtain⟨p,xs,i,z,rfl,rfl,hq,he,q⟩:=h;cases rx;obtain⟨t,rfl⟩:=ry;obtain⟨its,r,pl,hz⟩:=I.list hq;obtain⟨j,h1,h2,h3,h4,h5⟩:=ba0 he;obtain⟨w,ew,rw'⟩:=r.get h2;have hl:=r.length;have hn:=aI3;have fin:EP X aA Z Q w s:=⟨z,H,I,rw',q⟩
 by_cases h0:0<=i
 .have hj:i.toNat=j:=by
   rw[seqIndex_of h0 h5]at h1;exact cO4 h1
  exact item_listR pl.isList h0 (by omega) (by rw[hj];simpa using ew) fin hs
 .have hj:(i+(its.toArray.size:Int)).toNat=j:=by
   rw[seqIndex_neg (by omega) h4]at h1;rw[cL9,<-hl];exact cO4 h1
  exact subscriptTail_builtinR (x:=w) pl.isList.typeIs slot_list_getitem.lookup
   (wpAny_getItem_list_neg (Q:=λr s'=>r=w/\EP X aA Z Q r s') pl.isList (by omega) (by rw[cL9]<;>omega) (by omega) (by rw[hj];simpa using ew) ⟨rfl,fin⟩) hs
theorem cm2:IxR X (ch1 X.K):=by
 intro value slice aA s Z H x y v u Q I rx ry h hs;obtain⟨p,xs,i,z,rfl,rfl,hq,he,q⟩:=h;cases rx;obtain⟨t,rfl⟩:=ry;obtain⟨its,r,pl,hz⟩:=I.tuple hq;obtain⟨j,h1,h2,h3,h4,h5⟩:=ba0 he;obtain⟨w,ew,rw'⟩:=r.get h2;have hl:=r.length;have hn:=aI3;have fin:EP X aA Z Q w s:=⟨z,H,I,rw',q⟩
 exact subscriptTail_builtinR (x:=w) pl.typeIs slot_tuple_getitem.lookup
  (getItem_tuple (j:=j) (Q:=λr s'=>r=w/\EP X aA Z Q r s') pl (by omega) (by omega) (by rw[cL9,<-hl];exact h1) (by simpa using ew) ⟨rfl,fin⟩) hs
theorem cm3:IxR X ch2:=by
 intro value slice aA s Z H x y v u Q I rx ry h hs;obtain⟨z,i,c,rfl,rfl,hz,he,q⟩:=h;obtain⟨t,rfl⟩:=rx;obtain⟨t',rfl⟩:=ry;obtain⟨j,h1,h2,h3,h4,h5⟩:=ba0 he;have hl:z.cps.toList.length=z.length:=by simp[Str.length]
 rw[hl]at h1 h4 h5;have hn:=aI3;exact tail_any (typeIs_str s z t) slot_str_getitem.lookup (getItem_str (c:=c) (by
  have e1:decide (i< -(2^63:Int))=false:=cO8 (by omega);have e2:decide (i>=2^63)=false:=cO8 (by omega);rw[e1,e2,Bool.or_false]) (by rw[h1];simpa using h2) ⟨.str ⟨#[c]⟩,H,I.tok _,⟨_,rfl⟩,q⟩) hs
def rIx(K:cO5):R2:=λx y H Q=>ch3 K x y H Q\/ch1 K x y H Q\/ch2 x y H Q
theorem cm4:IxR X (rIx X.K):=bt5.or (cm2.or cm3)
theorem bx6(its:List Value)(n j:Nat)(u:Value):Obj.mapSeq (·.setIfInBounds j u) {cls:=.type "list",data:=.seq its.toArray n}={cls:=.type "list",data:=.seq (its.set j u).toArray n}:=by
 simp[Obj.mapSeq]
theorem Inv.lst(I:Inv X aA Z H s)(h:H p=some (.lst xs)):
  ∃(its:List Value) (n:Nat),B6 xs its/\s.heap.get? p=some {cls:=.type "list",data:=.seq its.toArray n}/\xs.length<=sizeLine:=by
 obtain⟨z,its,n,r,e⟩:=I.hok p _ h;exact⟨its,n,r,e,z⟩
theorem Inv.lstUpd{aA:List (Addr×Obj)}{Z:St}{H:Hp}{s:Shared}{p:Addr}{xs ys:List V}{its its':List Value}{n n':Nat}{f:Obj->Obj}(I:Inv X aA Z H s)(h:H p=some (.lst xs))
  (ho:s.heap.get? p=some {cls:=.type "list",data:=.seq its.toArray n}) (hf:f {cls:=.type "list",data:=.seq its.toArray n}={cls:=.type "list",data:=.seq its'.toArray n'}) (r:B6 ys its') (hz:ys.length<=sizeLine) (t:Nat):
  Inv X aA Z (upd H p (.lst ys)) {s with heap:=s.heap.update p f,toks:=t}:=by
 have e:(s.heap.update p f).get? p=some {cls:=.type "list",data:=.seq its'.toArray n'}:=by
  rw[cD8 f ho (by rw[hf]<;>rfl),hf]
 refine I.write (x:=p) (e:=p) (by rw[h];trivial) (.inl rfl) (λb u hb q=>(cD7 _ _ (Ne.symm hb)).trans q) ⟨_,e⟩ ?_;exact⟨hz,its',n',r,e⟩
def cq4:V->V->V->Hp->(Hp->Prop)->Prop:=λo i v H Q=>∃p xs k j,o=.ref p/\i=.int k/\H p=some (.lst xs)/\ixN xs.length k=some j/\Q (upd H p (.lst (xs.set j v)))
theorem aP2:cn9 X cq4:=by
 intro aA s Z H o i v ov iv u Q I ro ri rv h;obtain⟨p,xs,k,j,rfl,rfl,hp,hj,q⟩:=h;cases ro;obtain⟨t,rfl⟩:=ri;obtain⟨its,n,r,ho,hz⟩:=I.lst hp;obtain⟨h1,h2,h3,h4⟩:=bt6 hj;have hl:=r.length;have hn:=aI3;have I':Inv X aA Z (upd H p (.lst (xs.set j v))) {s with heap:=s.heap.update p (Obj.mapSeq (·.setIfInBounds j u))}:=
  I.lstUpd hp ho (bx6 its n j u) (r.set rv j) (by rw[cJ6];exact hz) s.toks
 by_cases h0:0<=k
 .have hk:k.toNat=j:=by
   rw[seqIndex_of h0 h4]at h1;exact cO4 h1
  exact W.ki_setAt ho h0 (by omega) (by rw[cL9,<-hl];exact h4) (by rw[hk];exact⟨_,I',q⟩)
 .have hk:(k+(its.toArray.size:Int)).toNat=j:=by
   rw[seqIndex_neg (by omega) h3]at h1;rw[cL9,<-hl];exact cO4 h1
  exact W.ki_setBack ho (by omega) (by rw[cL9,<-hl];exact h3) (by omega) (by rw[hk];exact⟨_,I',q⟩)
theorem bX2(i:Int)(n:Nat):max 0 (min (if i<0 then i+n else i) (n:Int))=((if i<0 then(i+(n:Int)).toNat else min i.toNat n:Nat):Int):=by split<;>omega
theorem bi1(lo hi:Option Int)(n:Nat):(sliceBounds lo hi none n).1=((HT.sIx n 0 lo:Nat):Int)/\(sliceBounds lo hi none n).2.1=((HT.sIx n n hi:Nat):Int)/\(sliceBounds lo hi none n).2.2=1:=by
 refine⟨?_,?_,rfl⟩
 .cases lo with
  |none=>rfl
  |some i=>exact bX2 i n
 .cases hi with
  |none=>rfl
  |some i=>exact bX2 i n
theorem be9(its:List Value)(lo hi:Option Int):slicePick its.toArray lo hi none=((its.drop (HT.sIx its.length 0 lo)).take (HT.sIx its.length its.length hi-HT.sIx its.length 0 lo)).toArray:=by
 obtain⟨h1,h2,h3⟩:=bi1 lo hi its.toArray.size;unfold slicePick;rw[h1,h2,h3];simp only[sliceRange_one,pick_run,cL9]<;>rfl
def cw4(K:cO5):V->Option Int->Option Int->Hp->VK->Prop:=λx lo hi H Q=>∃a xs,x=.ref a/\SqL K H a xs/\∀p,H p=none->Q (.ref p) (upd H p (.lst (as5 xs lo hi)))
theorem bq8:SlR X (cw4 X.K):=by
 intro aA s Z H x v vl vu lo hi sl Q I rx hs pl pu h;obtain⟨a,xs,rfl,hx,q⟩:=h;cases rx;obtain⟨its,r,ht,hz⟩:=I.list hx;have hlen:=r.length;refine⟨"list",_,slot_list_getitem.lookup,ht.isList.typeIs,?_⟩;refine wpAny_getItem_list_slice ht.isList hs pl pu .none (by simp) ?_ (by rw[cL9]<;>omega);rw[be9,<-hlen];refine⟨.ref s.sz,_,I.laid (t':=s.toks) (o:=.lst (as5 xs lo hi)) (λb ob q=>cD5 _ q) (cM3 _) ?_,rfl,q _ (I.hok.fresh (cM3 _))⟩;exact⟨cM5 (aN8 xs lo hi) hz,_,0,(r.drop (HT.sIx xs.length 0 lo)).take (HT.sIx xs.length xs.length hi-HT.sIx xs.length 0 lo),cD6 _ rfl⟩
def al8:V->Bool
 |.non=>true
 |.bl _=>true
 |.int _=>true
 |.str _=>true
 |_=>false
def eqV:V->V->Bool
 |.non,.non=>true
 |.bl a,.bl b=>a==b
 |.bl a,.int b=>(if a then 1 else 0)==b
 |.int a,.bl b=>a==(if b then 1 else 0)
 |.int a,.int b=>a==b
 |.str a,.str b=>a==b
 |_,_=>false
theorem cn2(ry:D0 y u)(rx:D0 x v)(fy:al8 y=true)(fx:al8 x=true):SeqAt.EqAt A s u v (eqV y x):=by
 cases y with
 |non=>
  cases ry;cases x with
  |non=>cases rx;exact SeqAt.EqAt.same _
  |bl b=>cases rx;exact SeqAt.EqAt.none_bool b
  |int b=>obtain⟨t,rfl⟩:=rx;exact SeqAt.EqAt.none_int b t
  |str b=>obtain⟨t,rfl⟩:=rx;exact SeqAt.EqAt.none_str b t
  |_=>exact absurd (show false=true from fx) cD1
 |bl a=>
  cases ry;cases x with
  |non=>cases rx;exact SeqAt.EqAt.bool_none a
  |bl b=>cases rx;exact SeqAt.EqAt.bool_bool a b
  |int b=>obtain⟨t,rfl⟩:=rx;exact SeqAt.EqAt.bool_int a b t
  |str b=>obtain⟨t,rfl⟩:=rx;exact SeqAt.EqAt.bool_str a b t
  |_=>exact absurd (show false=true from fx) cD1
 |int a=>
  obtain⟨t',rfl⟩:=ry;cases x with
  |non=>cases rx;exact SeqAt.EqAt.int_none a t'
  |bl b=>cases rx;exact SeqAt.EqAt.int_bool a t' b
  |int b=>obtain⟨t,rfl⟩:=rx;exact SeqAt.EqAt.int_int a t' b t
  |str b=>obtain⟨t,rfl⟩:=rx;exact SeqAt.EqAt.int_str a t' b t
  |_=>exact absurd (show false=true from fx) cD1
 |str a=>
  obtain⟨t',rfl⟩:=ry;cases x with
  |non=>cases rx;exact SeqAt.EqAt.str_none a t'
  |bl b=>cases rx;exact SeqAt.EqAt.str_bool a t' b
  |int b=>obtain⟨t,rfl⟩:=rx;exact SeqAt.EqAt.str_int a t' b t
  |str b=>obtain⟨t,rfl⟩:=rx;exact SeqAt.EqAt.str_str a t' b t
  |_=>exact absurd (show false=true from fx) cD1
 |_=>exact absurd (show false=true from fy) cD1
def eqU(x:V)(u:Value):Bool:=match u with
 |.none=>eqV .non x
 |.bool b=>eqV (.bl b) x
 |.int i _=>eqV (.int i) x
 |.str z _=>eqV (.str z) x
 |_=>false
theorem bJ6(r:D0 y u)(f:al8 y=true):eqU x u=eqV y x:=by
 cases y with
 |non=>cases r;rfl
 |bl b=>cases r;rfl
 |int i=>obtain⟨t,rfl⟩:=r;rfl
 |str z=>obtain⟨t,rfl⟩:=r;rfl
 |_=>exact absurd (show false=true from f) cD1
theorem aC2:∀{xs:List V}{us:List Value},B6 xs us->xs.all al8=true->us.any (eqU x)=xs.any λy=>eqV y x
 |_,_,.nil,_=>rfl
 |y::xs,u::us,.cons r t,f=>by
  rw[cG6,cC7]at f;rw[cG9,cG9,bJ6 r f.1,aC2 t f.2]
theorem aw2(rx:D0 x v)(fx:al8 x=true):∀{xs:List V}{us:List Value},B6 xs us->xs.all al8=true->∀u∈us,SeqAt.EqAt A s u v (eqU x u)
 |_,_,.nil,_=>λu hu=>by cases hu
 |y::xs,u::us,.cons r t,f=>λu' hu=>by
  rw[cG6,cC7]at f;rcases cA9 hu with rfl|hu
  .rw[bJ6 r f.1];exact cn2 r rx f.1 fx
  .exact aw2 rx fx t f.2 u' hu
def inV(x:V)(xs:List V):Bool:=xs.any λy=>eqV y x
def rIn(K:cO5)(neg:Bool):R2:=λx y H Q=>∃p xs,y=.ref p/\(SqL K H p xs\/SqT K H p xs)/\al8 x=true/\xs.all al8=true/\Q (.bl (if neg then !inV x xs else inV x xs)) H
theorem bG4:OpR X (compareOp .In) (rIn X.K false):=by
 intro aA s Z H x y v u Q I rx ry h;obtain⟨p,xs,rfl,hq,fx,fs,q⟩:=h;cases ry;rcases hq with hq|hq
 .obtain⟨its,r,pl,hz⟩:=I.list hq;refine SeqAt.in_listAt (eqU x) pl.isList (λw hw=>aw2 rx fx r fs w (by simpa using hw)) ⟨.bl _,H,I,rfl,?_⟩;rw[show its.toArray.any (eqU x)=its.any (eqU x) by simp,aC2 r fs];exact q
 .obtain⟨its,r,pl,hz⟩:=I.tuple hq;refine SeqAt.in_tupleAt (eqU x) pl (λw hw=>aw2 rx fx r fs w (by simpa using hw)) ⟨.bl _,H,I,rfl,?_⟩;rw[show its.toArray.any (eqU x)=its.any (eqU x) by simp,aC2 r fs];exact q
theorem bk4:OpR X (compareOp .NotIn) (rIn X.K true):=by
 intro aA s Z H x y v u Q I rx ry h;obtain⟨p,xs,rfl,hq,fx,fs,q⟩:=h;cases ry;rcases hq with hq|hq
 .obtain⟨its,r,pl,hz⟩:=I.list hq;refine SeqAt.notIn_listAt (eqU x) pl.isList (λw hw=>aw2 rx fx r fs w (by simpa using hw)) ⟨.bl _,H,I,rfl,?_⟩;rw[show its.toArray.any (eqU x)=its.any (eqU x) by simp,aC2 r fs];exact q
 .obtain⟨its,r,pl,hz⟩:=I.tuple hq;refine SeqAt.notIn_tupleAt (eqU x) pl (λw hw=>aw2 rx fx r fs w (by simpa using hw)) ⟨.bl _,H,I,rfl,?_⟩;rw[show its.toArray.any (eqU x)=its.any (eqU x) by simp,aC2 r fs];exact q
theorem bn6:ad8 X (.builtin "len") (λxs H Q=>∃p ys,xs=[.ref p]/\(SqL X.K H p ys\/SqT X.K H p ys)/\Q (.int ys.length) H):=by
 intro aA s Z H xs us Q I r h;obtain⟨p,ys,rfl,hq,q⟩:=h;obtain⟨u,rfl,rx⟩:=ap8 r;cases rx;have hn:=aI3;rcases hq with hq|hq
 .obtain⟨its,r',pl,hz⟩:=I.list hq;have hlen:=r'.length;exact Calls.call_len_list pl.isList (by simp only[cL9]<;>omega) ⟨.int ys.length,H,I.tok _,⟨s.toks+1,by rw[cL9,hlen]⟩,q⟩
 .obtain⟨its,r',pl,hz⟩:=I.tuple hq;have hlen:=r'.length;exact len_tuple pl (by simp only[cL9]<;>omega) ⟨.int ys.length,H,I.tok _,⟨s.toks+1,by rw[cL9,hlen]⟩,q⟩
def tyV(K:cO5)(T:String)(x:V)(H:Hp):Prop:=match x with
 |.str _=>T="str"
 |.int _=>T="int"
 |.ref p=>(T="list"/\∃xs,SqL K H p xs)\/(T="tuple"/\∃o,K.lookup p=some o/\o.cls=.type "tuple"/\o.dict=none)\/
   (T="dict"/\((∃kvs,H p=some (.dK kvs))\/∃kvs,H p=some (.dT kvs)))\/(T="set"/\∃S n,H p=some (.set S n))
 |_=>False
theorem cf6(I:Inv X aA Z H s)(r:D0 x v)(ty:tyV X.K T x H):
  s.TypeIs v T/\∀a,v=.ref a->∃ob,s.heap.get? a=some ob/\ob.dict=none:=by
 cases x with
 |str z=>
  obtain⟨t,rfl⟩:=r;cases(show T="str"from ty);exact⟨typeIs_str s z t,λ_ e=>nomatch e⟩
 |int i=>
  obtain⟨t,rfl⟩:=r;cases(show T="int"from ty);exact⟨typeIs_int s i t,λ_ e=>nomatch e⟩
 |ref p=>
  cases r;rcases ty with⟨rfl,xs,hq⟩|⟨rfl,o,hk,hc,hd⟩|⟨rfl,hk⟩|⟨rfl,S,n,hk⟩
  .obtain⟨its,_,pl,_⟩:=I.list hq;refine⟨pl.isList.typeIs,λa e=> ?_⟩;cases e;obtain⟨o,n,e,c,hd,_⟩:=pl;exact⟨o,e,hd⟩
  .refine⟨⟨o,I.kIn p o hk,hc⟩,λa e=> ?_⟩;cases e;exact⟨o,I.kIn _ o hk,hd⟩
  .have z:∃o,s.heap.get? p=some o/\o.ExactDict:=by
    rcases hk with⟨kvs,hk⟩|⟨kvs,hk⟩
    .obtain⟨_,_,_,_,o,_,_,e,ex,_⟩:=I.hok p _ hk;exact⟨o,e,ex⟩
    .obtain⟨_,_,_,_,o,_,_,e,ex,_⟩:=I.hok p _ hk;exact⟨o,e,ex⟩
   obtain⟨o,e,ex⟩:=z;refine⟨⟨o,e,ex.1⟩,λa e2=> ?_⟩;cases e2;exact⟨o,e,ex.2.1⟩
  .obtain⟨o,_,_,_,e,ex,_⟩:=I.hok p _ hk;refine⟨⟨o,e,ex.1⟩,λa e2=> ?_⟩;cases e2;exact⟨o,e,ex.2.1⟩
 |_=>exact False.elim ty
def tBM(K:cO5)(T:String)(r:V->List V->Hp->VK->Prop)(to:TE)(t:TA):TE:=λZ H Q=>to Z H λx H1=>tyV K T x H1/\t Z H1 λxs H2=>r x xs H2 Q
variable {o e:Expr}{es:List Expr}{to:TE}{t:TA}{name:Str}{apos cpos:Pos}{T id:String}{r:V->List V->Hp->VK->Prop}
theorem bf8(pa:PlainAttrs T)(slot:Slot T name id)(hty:typeOf (.builtin id)=pure (.type "method_descriptor"))(hm:MtR X id r)(ho:PE X o to)(ha:PA X (e::es) t)
  (hbase:attributeBase o name X.env (eval o X.env)=eval o X.env)
  (hfew:((backTo cpos (starEach (e::es) X.env)).all (λx=> !x.1)&&(backToKw cpos (keywordEach [] X.env)).all (λx=>x.1.isSome)
   &&decide ((e::es).length+([]:List Keyword).length+(if([]:List Keyword).isEmpty then 0 else 1)<30))=true)
  (hline:(apos.endLine==cpos.line)=true) (hs:StE X e es) (hplain:Bks X cpos es):
  PE X (.Call (.Attribute o name apos) (e::es) [] cpos) (tBM X.K T r to t):=by
 intro aA s Z H Q I h;refine wpAny_Call_method_late hbase hfew hline rfl (thn (ho aA s Z H _ I h) λv s1 ⟨x,H1,I1,r1,ty,q1⟩=> ?_);obtain⟨h1,h2⟩:=cf6 I1 r1 ty;refine⟨T,id,pa,slot,hty,h1,h2,?_⟩;have hA:=ha cpos aA s1 Z H1 _ I1 q1;rw[hs]at hA⊢;refine Calls.callWith_builtin (by show(false||(backTo cpos (starEach es X.env)).any (·.1))=false;rw[hplain]<;>rfl) (Calls.evalArgs_plain ?_);exact thn hA λus s2 ⟨vs,H2,I2,r2,q2⟩=>hm aA s2 Z H2 x vs v us Q I2 r1 r2 q2
end
def MtM(X:Cx)(id:String)(r:V->List V->Hp->VK->Prop):Prop:=
 ∀(aA:List (Addr×Obj)) (s:Shared) (Z:St) (H:Hp) (x:V) (xs:List V) (v:Value) (us:List Value) (Q:VK),Inv X aA Z H s->D0 x v->B6 xs us->r x xs H Q->
  wpAny (model X.prog X.w) X.A (call (.builtin id) (v::us)) (EP X aA Z Q) X.xe s
theorem B6.one:∀{x:V}{us:List Value},B6 [x] us->∃u,us=[u]/\D0 x u
 |_,_,.cons r .nil=>⟨_,rfl,r⟩
theorem B6.rep(h:B6 xs us):∀k:Nat,B6 (List.replicate k xs).flatten (List.replicate k us).flatten
 |0=>.nil
 |k+1=>by
  rw[cL7,cL7,cH9,cH9];exact B6.append h (B6.rep h k)
theorem bc5(its:List Value):∀(k:Nat) (acc:List Value),
  List.foldl (λx1 x2=>x1++x2) acc.toArray (List.replicate k its.toArray)=(acc++(List.replicate k its).flatten).toArray
 |0,acc=>by simp
 |k+1,acc=>by
  have e:acc.toArray++its.toArray=(acc++its).toArray:=by simp
  have e2:(acc++its)++(List.replicate k its).flatten=acc++(List.replicate (k+1) its).flatten:=by
   rw[cL7,cH9,List.append_assoc]
  rw[<-e2,<-bc5 its k (acc++its),<-e,cL7,cB6]
section
variable {X:Cx}{aA:List (Addr×Obj)}{Z:St}{H:Hp}{s:Shared}{l b:Addr}{xs ys zs:List V}
theorem Inv.lset{its its':List Value}{n:Nat}{f:Array Value->Array Value}{t':Nat}(I:Inv X aA Z H s)(hH:H l=some (.lst xs))
  (e:s.heap.get? l=some {cls:=.type "list",data:=.seq its.toArray n}) (hf:f its.toArray=its'.toArray) (hv:B6 ys its') (hz:ys.length<=sizeLine):
  Inv X aA Z (upd H l (.lst ys)) {s with heap:=s.heap.update l (Obj.mapSeq f),toks:=t'}:=by
 have q:=PySem.IsL.update e f;rw[hf]at q;refine I.write (x:=l) (e:=l) (by rw[hH];exact trivial) (.inl rfl) (λb' u hb hu=>(cD7 s.heap (Obj.mapSeq f) (Ne.symm hb)).trans hu) ⟨_,q⟩ ?_;exact⟨hz,its',_,hv,q⟩
theorem Inv.lnew(I:Inv X aA Z H s)(hv:B6 ys its)(hz:ys.length<=sizeLine):
  Inv X aA Z (upd H s.sz (.lst ys)) {s with heap:=s.heap.push {cls:=.type "list",data:=.seq its.toArray},toks:=t'}:=
 I.laid (λ_ _ q=>cD5 _ q) (cM3 _) ⟨hz,its,0,hv,cD6 _ rfl⟩
theorem Inv.fresh(I:Inv X aA Z H s):H s.sz=none:=I.hok.fresh (cM3 _)
theorem Inv.lstM(I:Inv X aA Z H s)(hH:H l=some (.lst xs)):xs.length<=sizeLine/\∃(its:List Value) (n:Nat),B6 xs its/\xs.length=its.length/\s.heap.get? l=some {cls:=.type "list",data:=.seq its.toArray n}:=by
 obtain⟨z,its,n,r,e⟩:=I.hok l _ hH;exact⟨z,its,n,r,r.length,e⟩
theorem bk9(h:n<=sizeLine):Builtin.List.listTooLong n=false:=by
 unfold Builtin.List.listTooLong;exact cO8 (by omega)
end
section
variable {X:Cx}
def bZ8:V->List V->Hp->VK->Prop:=λx vs H Q=>∃l xs y,x=.ref l/\vs=[y]/\H l=some (.lst xs)/\xs.length<sizeLine/\Q .non (upd H l (.lst (xs++[y])))
theorem aI2:MtM X "list.append" bZ8:=by
 intro aA s Z H x vs v us Q I rx rv h;obtain⟨l,xs,y,rfl,rfl,hH,hz,q⟩:=h;cases rx;obtain⟨u,rfl,ru⟩:=rv.one;obtain⟨z,its,n,r,hl,e⟩:=I.lstM hH;refine call_meets F.slot_list_append ⟨_,e,rfl⟩ F.entry_list_append (F.args_list_append_2 _ _) (PySem.list_append l its.toArray n u (by rw[cL9];omega)) ⟨e,?_⟩;refine⟨.non,_,I.lset (its':=its++[u]) hH e (by simp) (r.append (.cons ru .nil)) ?_,rfl,q⟩;rw[cJ2,cJ7];omega
def bZ7:V->List V->Hp->VK->Prop:=λx vs H Q=>∃l b xs zs,x=.ref l/\vs=[.ref b]/\H l=some (.lst xs)/\H b=some (.lst zs)/\xs.length+zs.length<=sizeLine/\Q .non (upd H l (.lst (xs++zs)))
theorem bH4:MtM X "list.extend" bZ7:=by
 intro aA s Z H x vs v us Q I rx rv h;obtain⟨l,b,xs,zs,rfl,rfl,hH,hB,hz,q⟩:=h;cases rx;obtain⟨u,rfl,ru⟩:=rv.one;cases ru;obtain⟨z,its,n,r,hl,e⟩:=I.lstM hH;obtain⟨z2,its2,n2,r2,hl2,e2⟩:=I.lstM hB;have hsz:its.toArray.size+its2.toArray.size<=sizeLine:=by rw[cL9,cL9];omega
 have hlong:¬(!its.toArray.isEmpty&&Builtin.List.listTooLong (its.toArray.size+its2.toArray.size))=true:=by
  rw[bk9 hsz,Bool.and_false];exact cD1
 refine call_meets F.slot_list_extend ⟨_,e,rfl⟩ F.entry_list_extend (F.args_list_extend_2 _ _)
  (AutoSeq1.list_extend_list_list_0 l its.toArray n b its2.toArray n2 hlong (by rw[cL9];omega) (by omega)) ⟨e,e2,?_⟩
 refine⟨.non,_,I.lset (its':=its++its2) hH e (by simp) (r.append r2) ?_,rfl,q⟩;rw[cJ2];omega
def ch4:R2:=λx y H Q=>∃l b xs zs,x=.ref l/\y=.ref b/\H l=some (.lst xs)/\H b=some (.lst zs)/\xs.length+zs.length<=sizeLine/\∀p,H p=none->Q (.ref p) (upd H p (.lst (xs++zs)))
theorem cj9:OpR X (binaryOp .Add) ch4:=by
 intro aA s Z H x y v u Q I rx ry h;obtain⟨l,b,xs,zs,rfl,rfl,hH,hB,hz,q⟩:=h;cases rx;cases ry;obtain⟨z,its,n,r,hl,e⟩:=I.lstM hH;obtain⟨z2,its2,n2,r2,hl2,e2⟩:=I.lstM hB;refine PySem.P.add_list e e2 ?_ (by rw[cL9,cL9];omega);have ea:its.toArray++its2.toArray=(its++its2).toArray:=by simp
 rw[ea];exact⟨.ref _,_,I.lnew (t':=s.toks) (r.append r2) (by rw[cJ2];omega),rfl,q _ I.fresh⟩
def cg9:R2:=λx y H Q=>∃l k xs,x=.ref l/\y=.int k/\H l=some (.lst xs)/\ -(2^63)<=k/\k<2^63/\xs.length*k.toNat<=sizeLine/\
 ∀p,H p=none->Q (.ref p) (upd H p (.lst (List.replicate k.toNat xs).flatten))
theorem cd2(xs:List α)(k:Nat):(List.replicate k xs).flatten.length=k*xs.length:=by
 induction k with
 |zero=>simp
 |succ k ih=>rw[cL7,cH9,cJ2,ih,cO0,Nat.add_comm]
theorem cj3:OpR X (binaryOp .Mult) cg9:=by
 intro aA s Z H x y v u Q I rx ry h;obtain⟨l,k,xs,rfl,rfl,hH,h1,h2,hz,q⟩:=h;cases rx;obtain⟨t,rfl⟩:=ry;obtain⟨z,its,n,r,hl,e⟩:=I.lstM hH;have hlen:its.toArray.size*k.toNat<=sizeLine:=by rw[cL9,<-hl];exact hz
 have hcap:¬its.toArray.size*k.toNat>(2^63-1)/8:=by
  have :(sizeLine:Nat)<=(2^63-1)/8:=by decide
  omega
 have hfit:¬(!Builtin.List.listFitsIndex k)=true:=by
  rw[fitsIndex_both h1 h2];exact cD1
 have hlong:¬Builtin.List.listTooLong (its.toArray.size*k.toNat)=true:=by
  rw[bk9 hlen];exact cD1
 have hnew:List.foldl (λx1 x2=>x1++x2) #[] (List.replicate (if its.toArray.isEmpty=true then 0 else k.toNat) its.toArray)=(List.replicate k.toNat its).flatten.toArray:=by
  have f0:∀m:Nat,List.foldl (λx1 x2=>x1++x2) #[] (List.replicate m its.toArray)=(List.replicate m its).flatten.toArray:=λm=>by
   have :=bc5 its m [];rw[cC0]at this;exact this
  rw[f0];cases its with
  |nil=>simp
  |cons a r'=>rw[cP1 (by simp)]
 refine wpAny_binaryOp_repeat_ref (T:="list") (U:="int") (by decide) ⟨_,e,rfl⟩ (λs'=>typeIs_int s' k t) noFill_list_mul F.fills_int_mul F.slot_int_rmul repeat_list F.slot_int_index.lookup
  (call_meets F.slot_int_rmul (typeIs_int s k t) F.entry_int_rmul (F.args_int_rmul_2 _ _) (int___rmul___int_list k t l its.toArray n)
   ⟨e,rfl,⟨_,e,rfl⟩,call_meets F.slot_list_mul ⟨_,e,rfl⟩ F.entry_list_mul (F.args_list_mul_2 _ _) (AutoListH.list___mul___list_int_3 l its.toArray n k t hfit hcap hlong) ⟨e,?_⟩⟩)
 rw[hnew];exact⟨.ref _,_,I.lnew (t':=s.toks) (r.rep k.toNat) (by rw[cd2,cN2];exact hz),rfl,q _ I.fresh⟩
end
section
variable {prog:Program}{w:World}{A:Around}{E:Value->Shared->Prop}{s:Shared}
end
section
variable {X:Cx}
end
end L2
namespace Att
open PySem PySem.W PySem.Calls PyProof.Rows
theorem aU3:∀(ns:List Int) (vs:List Value),WellAll P h vs (ns.map WData.int)->IntsAre vs ns:=by
 intro ns;induction ns with
 |nil=>
  intro vs w;rw[cB5]at w;cases w;exact .nil
 |cons n ns ih=>
  intro vs w;rw[cB4]at w;cases w with
  |cons a b=>
   cases a;exact .cons _ _ (ih _ b)
theorem bC8{l:OpenLaw}{n:Nat}(hn:l.most=some n){P:Params}{h:Heap}{args:List WData}{vals:List Value}
  (hpre:l.row.toRowW.claim.pre args=true) (hwl:WellAll P h vals args):
  ∃a vs ns,vals=[Value.ref a]/\args=[WData.list (ns.map WData.int)]/\h.get? a=some {cls:=.type "list",data:=.seq vs.toArray}/\IntsAre vs ns/\ns.length<=n:=by
 have hsh:WShape.hasAll [] args [.list .int]=true:=(pre_splitW hpre).1;have hc:l.pre.holds [] {args:=args}=true:=(pre_splitW hpre).2;obtain⟨d,r,rfl,h1,h2⟩:=hasAllW_cons hsh;obtain rfl:=hasAllW_nil h2;obtain⟨xs,rfl,h3⟩:=hasW_list h1;obtain⟨ns,rfl⟩:=items_int h3;have hlen:ns.length<=n:=by
  unfold OpenLaw.pre at hc;have h4:(WTm.not (.lt (.lit (.int (n:Int))) (.len (.arg 0)))).holds [] {args:=[.list (ns.map .int)]}=true:=by
   have h4:=(holds_andW hc).1;rw[hn]at h4;exact h4
  have h5:=condW_of h4 (w_not (w_lt w_lit (w_len_list (w_arg rfl))));rw[cJ3]at h5;refine Nat.le_of_not_lt λq=> ?_
  have q':(n:Int)<((ns.length:Nat):Int):=by omega
  first
   |(rw[cO9 q']at h5;exact absurd h5 (by decide))
   |(simp at h5;omega)
 cases hwl with
 |cons w1 w2=>
  cases w2;cases w1 with
  |list ho hall=>exact⟨_,_,ns,rfl,rfl,ho,aU3 ns _ hall,hlen⟩
theorem bF5(l:OpenLaw)(args:List WData):l.row.toRowW.claim.post args (.bool true) args=true:=
 postW_of (r:=l.row.toRowW) (X:=(true==true))
  (show WShape.has [] (.bool true) .bool=true by first |rfl|decide|simp[WShape.has,WShape.arms,WShape.armsAll])
  (show(WTm.eq .res (.lit (.bool true))).value [] {args:=args,res:=some (.bool true),after:=args}=some (.bool (true==true))from w_eq_bool (w_res rfl) w_lit) rfl
theorem attach_call{l:OpenLaw}{n:Nat}{q:Program}{loose:List Str}{XP:(Str->Option Value)->Heap->Prop}{YP:World->Heap->Prop}{d:DefRec}
  (hn:l.most=some n) (hdf:d.params.defaults=[])
  (call:∀(w:World) (sd se:Shared) (mg mb:Str->Option Value) (fa:Addr) (o:Obj) (pm cd doc:Value) (a:Addr) (vs:List Value) (ns:List Int),
   Ground q loose [] XP w sd mg mb se.heap->YP w se.heap->
   se.heap.get? fa=some o->o.data=.func (docDef d.name d.params d.body d.scope pm cd doc)->se.heap.CodeRec cd d.name->mg d.name=some (.ref fa)->
   se.heap.get? a=some {cls:=.type "list",data:=.seq vs.toArray}->IntsAre vs ns->ns.length<=n->se.gens=#[]->
   codeAny (model l.prog w) callerA (.call (.ref fa) ⟨[.ref a],[]⟩) (λr s'=>r=.ok (.ret (.bool true))/\OldK se.heap s'.heap/\s'.os=se.os/\AllBare s'.gens) se):
  WalkO q loose XP YP l.row.toRowW d [] (λf vs=>PySem.call f vs):=by
 intro w sd se mg mb G Y fa o pm cd doc dV kV ho hd hcd hD hmg hg args vals as hpre hlay hrd hwl hlo;obtain rfl:dV=.none:=Dflts.none hD hdf;obtain rfl:kV=.none:=Dflts.noKw hD;obtain⟨a,vs,ns,rfl,rfl,hobj,hints,hlen⟩:=bC8 hn hpre hwl;refine enter_call (codeAny_mono (call w sd se mg mb fa o pm cd doc a vs ns G Y ho (fd_plain hd) hcd hmg hobj hints hlen hg) λr s' hq=> ?_);obtain⟨rfl,h2,h3,h4⟩:=hq;exact⟨.inl ⟨.bool true,.bool true,[],rfl,λ_=>rfl,.bool true,bF5 l _,λ_=>⟨List.Pairwise.nil,λ_ hm=>(nomatch hm)⟩⟩,h2,h3,h4⟩
section
variable {prog:Program}{w:World}{A:Around}{E:Value->Shared->Prop}{s:Shared}{K:Frag}
end
end Att
namespace L2
theorem bb0:∀{vs:List Value}{ns:List Int},IntsAre vs ns->B6 (ns.map V.int) vs
 |_,_,.nil=>.nil
 |_,_,.cons n t h=>.cons ⟨t,rfl⟩ (bb0 h)
def cy0(H:Hp):Prop:=∀b,H b=none\/∃o xs,H b=some (.frz o (.lst xs))
abbrev KOf{K:cO5}{h:Heap}(_:K.In h):cO5:=K
def aC0(s:Stmt):Arguments:=match s with
 |.FunctionDef _ a _ _ _ _ _ _ _ _=>a
 |_=>{posonlyargs:=[],args:=[],vararg:=none,kwonlyargs:=[],kw_defaults:=[],kwarg:=none,defaults:=[]}
def N8(s:Stmt):List Stmt:=match s with
 |.FunctionDef _ _ b _ _ _ _ _ _ _=>b
 |_=>[]
def r8(s:Stmt):Scope:=match s with
 |.FunctionDef _ _ _ _ _ _ sc _ _ _=>sc
 |_=>{kind:=.function,names:=[],isGenerator:=false,isCoroutine:=false}
abbrev CX0:CXT:=λ_ _ _ _ _ _=>False
abbrev E0:XK:=λ_ _ _=>False
theorem aT2:ab8 CX0 X E0:=λ_ _ _ _ _ _ _ h=>h.elim
structure Fun(K:cO5)(x qual:Str)(st:Stmt)(f:Addr)(fd:FuncData):Prop where
 ex:∃(oc:Value) (od:Option Addr) (kV doc pm:Value) (an:Option Addr) (cdv ct:Value) (osl:Array (Option Value)),
  fd=W.fnOf x qual (aC0 st) (N8 st) (r8 st) .none kV doc pm an cdv ct/\K.lookup f=some ⟨oc,od,.func fd,osl⟩/\W.codeIn K cdv qual=true
 kp:W.keepIn K (.ref f)=true
section
variable {P:Program}{w:World}{K:cO5}{mg:Str->Option Value}{aD:Heap}
theorem Fun.ok{x qual:Str}{st:Stmt}{f:Addr}{fd:FuncData}{N ps:List Str}{k:Nat}{sp:Sp}(F:Fun K x qual st f fd)(S:O8 N ps (r8 st))(len:∀vs H Q E,sp vs H Q E->vs.length=ps.length)
  (hbody:∀(cdv:Value) (A:Around) (aE:List Env) (s:Shared) (H:Hp) (vs:List V) (Q:VK) (E:XK),J9 k (A.deeper (envOfC qual (r8 st) s.sz f cdv))->sp vs H Q E->
   ∃t,PSs (F7 CX0 P w K mg aD N qual (r8 st) f cdv A aE s H E).nox (N8 st) t/\t {nx:=λ_ H'=>Q .non H',rt:=Q} (start N vs) H):P9 P w K mg aD CX0 (k+1) f fd ps sp:=by
 obtain⟨oc,od,kV,doc,pm,an,cdv,ct,osl,rfl,lk,hcd⟩:=F.ex;refine by8 lk hcd S len λA aE s H vs Q E hr hsp=> ?_
 obtain⟨t,h,q⟩:=hbody cdv A aE s H vs Q E hr hsp;exact⟨t,h.nox,q⟩
theorem Fun.binds{x qual:Str}{st:Stmt}{f:Addr}{fd:FuncData}{ps:List Str}(F:Fun K x qual st f fd)
  (h:∀(kV doc pm:Value) (an:Option Addr) (cdv ct:Value) (us:List Value),us.length=ps.length->bindArgs (W.fnOf x qual (aC0 st) (N8 st) (r8 st) .none kV doc pm an cdv ct) ⟨us,[]⟩=pure (ps.zip us)):P6 K fd ps []:=by
 obtain⟨oc,od,kV,doc,pm,an,cdv,ct,osl,rfl,lk,hcd⟩:=F.ex;exact .all (h kV doc pm an cdv ct)
end
section
variable {X:Cx}
end
theorem as3{A B:Prop}(h:B):if false=true then A else B:=by
 rw[cP1 cD1];exact h
theorem as2{A B:Prop}(h:A):if true=true then A else B:=by
 rw[cP2 rfl];exact h
def D6(H H':Hp):Prop:=∀b o,H b=some o->H' b=some o
theorem D6.refl(H:Hp):D6 H H:=λ_ _ h=>h
theorem D6.trans(a:D6 H H1)(b:D6 H1 H2):D6 H H2:=λc o h=>b c o (a c o h)
theorem D6.free(e:D6 H H')(h:H' l=cO3):H l=cO3:=by
 cases q:H l with
 |none=>rfl
 |some o=>
  rw[e l o q]at h;cases h
theorem D6.seq{K:cO5}{H H':Hp}{a:Addr}{xs:List V}(e:D6 H H')(h:SqL K H a xs):SqL K H' a xs:=by
 rcases h with(h|⟨o,h⟩)|h
 .exact .inl (.inl (e _ _ h))
 .exact .inl (.inr ⟨o,e _ _ h⟩)
 .exact .inr h
end L2
open L2
namespace L3
noncomputable abbrev mr(n:Nat)(f:Nat->α):=(List.range n).map f
theorem bH5:mr (a+b) f=mr a f++mr b λj=>f (a+j):=by unfold mr;rw[cL4,cK0,cK2];rfl
inductive T where
 |non|bl (b:Bool)|int (i:Int)|str (x:Str)|tup (xs:List T)|lst (xs:List T)|ref (a:Nat)|scr (ns:List Int)|obj (fs:List Str) (ts:List T)
abbrev A7:=List (Option T)
abbrev G:=A7->Option T
abbrev GB:=A7->Option Bool
abbrev GL:=A7->Option (List T)
noncomputable def M9(i:Nat):G:=λU=>(U[i]?).join
noncomputable def gC(t:T):G:=λ_=>some t
abbrev gI(n:Int):G:=gC (.int n)
abbrev d7:=M9 0
abbrev e7:=M9 1
abbrev m7:=M9 2
abbrev n6:=M9 3
abbrev y6:=M9 4
abbrev A3:=M9 5
abbrev D7:=M9 6
abbrev V3:=M9 7
abbrev R7:=M9 8
abbrev by7:=M9 9
abbrev Y2:=M9 10
abbrev k8:=gI 0
abbrev e9:=gI 1
abbrev v8:=gI 2
abbrev al5:=gI 3
abbrev Y3:=gI 8
abbrev al6:=gI 20
abbrev ai4:=gI 64
noncomputable def gs:List G->GL
 |[],_=>some []
 |a::r,U=>(a U).bind λx=>(gs r U).bind λxs=>some (x::xs)
noncomputable def g1(f:T->Option T)(a:G):G:=λU=>(a U).bind f
noncomputable def g2(f:T->T->Option T)(a b:G):G:=λU=>(a U).bind λx=>(b U).bind λy=>f x y
def gN(f:List T->Option T)(as:List G):G:=λU=>(gs as U).bind f
def A1(as:List G):G:=λU=>(gs as U).bind λxs=>some (.tup xs)
def C4(as:List G):G:=λU=>(gs as U).bind λxs=>some (.lst xs)
noncomputable def toB:T->Option Bool
 |.bl b=>some b
 |_=>none
noncomputable def toL:T->Option (List T)
 |.lst xs=>some xs
 |_=>none
noncomputable def toI:T->Option Int
 |.int i=>some i
 |_=>none
def bOf(g:G):GB:=λU=>(g U).bind toB
def K6(a b:G):G:=λU=>(bOf a U).bind λc=>if c then b U else some (.bl false)
def gOr(a b:G):G:=λU=>(bOf a U).bind λc=>if c then some (.bl true)else b U
def aZ3(a:G):G:=λU=>(bOf a U).bind λc=>some (.bl !c)
noncomputable def gIf(c:GB)(a b:G):G:=λU=>(c U).bind λc=>if c then a U else b U
noncomputable def V4(a b:GB):GB:=λU=>(a U).bind λc=>if c then b U else some false
noncomputable def bOr(a b:GB):GB:=λU=>(a U).bind λc=>if c then some true else b U
noncomputable def ae6(a:GB):GB:=λU=>(a U).bind λc=>some !c
def aB7(f f':T->T->Option T)(a b c:G):G:=λU=>(a U).bind λx=>(b U).bind λy=>((f x y).bind toB).bind λk=>if k then(c U).bind λz=>f' y z else some (.bl false)
noncomputable def big(i:Int):Bool:=decide (i.natAbs<2^4000)
noncomputable def sm(i:Int):Bool:=decide (-(2^64)<i)&&decide (i<2^64)
noncomputable def lim:Nat:=1000000
def z0:T->T->Option T
 |.int i,.int j=>some (.int (i+j))
 |.lst xs,.lst ys=>if xs.length+ys.length<=lim then some (.lst (xs++ys))else none
 |_,_=>none
noncomputable def opN(f:Int->Int->Option T):T->T->Option T
 |.int i,.int j=>f i j
 |_,_=>none
def aw9:=opN λi j=>some (.int (i-j))
def M0:T->T->Option T
 |.int i,.int j=>if(big i&&big j)||(sm i||sm j)then some (.int (i*j))else none
 |.lst xs,.int k=>if 0<=k/\xs.length*k.toNat<=lim/\k<=lim then some (.lst (List.replicate k.toNat xs).flatten)else none
 |_,_=>none
def K7:=opN λi j=>if 0<j&&big j then some (.int (i/j))else none
def J5:=opN λi j=>if 0<j then some (.int (i%j))else none
def az6:=opN λi j=>if 0<=j/\j<=1000/\i.natAbs<2^64 then some (.int (i^j.toNat))else none
noncomputable def L9:T->Option T
 |.int i=>some (.int (-i))
 |_=>none
def fLt:=opN λi j=>some (.bl (decide (i<j)))
def fLe:=opN λi j=>some (.bl (decide (i<=j)))
def fGt:=opN λi j=>some (.bl (decide (j<i)))
def fGe:=opN λi j=>some (.bl (decide (j<=i)))
noncomputable def aa5(f:T->T->Option Bool):List T->List T->Option Bool
 |[],_=>some true
 |_::_,[]=>some true
 |x::xs,y::ys=>(f x y).bind λa=>(aa5 f xs ys).bind λb=>some (a&&b)
def eqD:Nat->T->T->Option Bool
 |0,_,_=>none
 |_+1,.non,.non=>some true
 |_+1,.bl a,.bl b=>some (a==b)
 |_+1,.int a,.int b=>some (a==b)
 |_+1,.str a,.str b=>some (a==b)
 |n+1,.tup xs,.tup ys=>(aa5 (eqD n) xs ys).bind λb=>some (b&&xs.length==ys.length)
 |n+1,.lst xs,.lst ys=>if xs.length=ys.length then aa5 (eqD n) xs ys else some false
 |_+1,.scr ns,.lst []=>some ns.isEmpty
 |_+1,_,_=>none
def fEq(x y:T):Option T:=(eqD 8 x y).bind λb=>some (.bl b)
def fNe(x y:T):Option T:=(eqD 8 x y).bind λb=>some (.bl !b)
noncomputable def bg0:T->Bool
 |.non=>true
 |_=>false
noncomputable def aI9(x:T):Option T:=some (.bl (bg0 x))
noncomputable def aU7(x:T):Option T:=some (.bl !(bg0 x))
noncomputable def X3:List T->Option (List Int)
 |[]=>some []
 |.int i::r=>(X3 r).bind λis=>some (i::is)
 |_=>none
noncomputable def as1:List Int->List Int->Bool
 |[],[]=>false
 |[],_::_=>true
 |_::_,[]=>false
 |x::xs,y::ys=>if x=y then as1 xs ys else decide (x<y)
def bz2:T->T->Option T
 |.tup xs,.tup ys=>(X3 xs).bind λns=>(X3 ys).bind λms=>some (.bl (as1 ns ms))
 |_,_=>none
noncomputable def ixT(n:Nat)(i:Int):Option Nat:=if 0<=i then(if i<n then some i.toNat else none)else if -(n:Int)<=i then some (i+n).toNat else none
noncomputable def cx4(i:Int)(x:T):List Int->List T->List T
 |k::ks,t::ts=>if k=i then x::ts else t::cx4 i x ks ts
 |_,_=>[x]
def z8:T->T->Option T
 |.tup xs,.int i=>(ixT xs.length i).bind λj=>xs[j]?
 |.lst xs,.int i=>(ixT xs.length i).bind λj=>xs[j]?
 |.scr ns,.int i=>(ixT ns.length i).bind λj=>ns[j]?.map T.int
 |_,_=>none
abbrev d9:=g2 z8
noncomputable def cn5(lo:Nat)(hi:Option Nat)(xs:List T):List T:=match hi with
 |none=>xs.drop lo
 |some h=>(xs.take h).drop lo
noncomputable def ag4(lo:Nat)(hi:Option Nat):T->Option T
 |.tup xs=>if min lo xs.length=0/\(hi.elim xs.length λh=>min h xs.length)=xs.length then none else some (.tup (cn5 lo hi xs))
 |.lst xs=>some (.lst (cn5 lo hi xs))
 |_=>none
def fIn:T->T->Option T
 |.int i,.tup xs=>(X3 xs).bind λis=>some (.bl (is.contains i))
 |.int i,.lst xs=>(X3 xs).bind λis=>some (.bl (is.contains i))
 |_,_=>none
def S9(x y:T):Option T:=(fIn x y).bind fun |.bl b=>some (.bl !b)|_=>none
noncomputable def C5:List T->Option T
 |[.tup xs]=>some (.int xs.length)
 |[.lst xs]=>some (.int xs.length)
 |[.scr ns]=>some (.int ns.length)
 |_=>none
noncomputable def ag6:List T->Option (List Bool)
 |[]=>some []
 |.bl i::r=>(ag6 r).bind λis=>some (i::is)
 |_=>none
def as4:List T->Option T
 |[.lst xs]=>(ag6 xs).bind λbs=>some (.bl (bs.all id))
 |_=>none
def aJ0:List T->Option T
 |[.lst xs]=>(ag6 xs).bind λbs=>some (.bl (bs.any id))
 |_=>none
noncomputable def bz3:List T->Option T
 |[.int i]=>some (.int (if i<0 then -i else i))
 |_=>none
noncomputable def ay8:List T->Option T
 |[.int i,.int j]=>some (.int (if j>i then j else i))
 |_=>none
noncomputable def aU8:List T->Option T
 |[.int i,.int j]=>some (.int (if j<i then j else i))
 |_=>none
noncomputable def ax0:List T->Option T
 |[.int i]=>some (.int i)
 |[.bl k]=>some (.int (if k then 1 else 0))
 |_=>none
inductive Kd where | int | bool | tuple | list | str
noncomputable def isK(k:Kd):T->Option Bool
 |.non=>some false
 |.bl _=>some (match k with |.int=>true|.bool=>true|_=>false)
 |.int _=>some (match k with |.int=>true|_=>false)
 |.str _=>some (match k with |.str=>true|_=>false)
 |.tup _=>some (match k with |.tuple=>true|_=>false)
 |.lst _=>some (match k with |.list=>true|_=>false)
 |.ref _=>none
 |.scr _=>none
 |.obj _ _=>none
noncomputable def ap0(k:Kd)(x:T):Option T:=(isK k x).bind λb=>some (.bl b)
noncomputable def X7(nT:Nat)(aC:List Nat)(U:A7):A7:=List.replicate nT none++aC.map λi=>(U[i]?).join
abbrev St1:=T->A7->Option A7
noncomputable def stN(i:Nat):St1:=λt U=>some (U.set i (some t))
noncomputable def st2(i j:Nat):St1
 |.tup [x,y],U=>some ((U.set i (some x)).set j (some y))
 |_,_=>none
noncomputable def st3(i j k:Nat):St1
 |.tup [x,y,z],U=>some (((U.set i (some x)).set j (some y)).set k (some z))
 |_,_=>none
noncomputable def Y4(U:A7)(st:St1)(c:GB)(e:G):List T->Option (List T)
 |[]=>some []
 |x::xs=>(st x U).bind λU1=>(c U1).bind λb=>if b then(e U1).bind λt=>(Y4 U st c e xs).bind λr=>some (t::r)else Y4 U st c e xs
def l9(it:GL)(nT:Nat)(aC:List Nat)(st:St1)(c:GB)(e:G):G:=λU=>(it U).bind λxs=>
 if xs.length<=lim then(Y4 (X7 nT aC U) st c e xs).bind λr=>some (.lst r)else none
noncomputable def t9:GB:=λ_=>some true
def itL(g:G):GL:=λU=>(g U).bind toL
noncomputable def C8:List T->List T->List T
 |x::xs,y::ys=>.tup [x,y]::C8 xs ys
 |_,_=>[]
def itZ(a b:G):GL:=λU=>(itL a U).bind λxs=>(itL b U).bind λys=>some (C8 xs ys)
noncomputable def J2:Nat->List T->List T
 |_,[]=>[]
 |n,x::xs=>.tup [.int n,x]::J2 (n+1) xs
def itE(a:G):GL:=λU=>(itL a U).bind λxs=>some (J2 0 xs)
noncomputable def G9(lo:Int)(n:Nat):List T:=(List.range n).map λ(i:Nat)=>T.int (lo+(i:Int))
def itR(a:G):GL:=λU=>((a U).bind toI).bind λn=>if -lim<=n/\n<=lim then some (G9 0 n.toNat)else none
inductive Out where | nx(U:A7) | ret(t:T) | bk(U:A7) | ct(U:A7)
abbrev GS:=A7->Option Out
noncomputable def A2:GS:=λU=>some (.nx U)
noncomputable def n9(a b:GS):GS:=λU=>(a U).bind λo=>match o with |.nx U'=>b U'|o=>some o
noncomputable def u7(i:Nat)(g:G):GS:=λU=>(g U).bind λt=>some (.nx (U.set i (some t)))
noncomputable def sSt(st:St1)(g:G):GS:=λU=>(g U).bind λt=>(st t U).bind λU'=>some (.nx U')
noncomputable def bi2(i j:Nat)(a b:G):GS:=λU=>(a U).bind λx=>(b U).bind λy=>some (.nx ((U.set i (some x)).set j (some y)))
noncomputable def t8(g:G):GS:=λU=>(g U).bind λt=>some (.ret t)
noncomputable def sIf(c:GB)(a b:GS):GS:=λU=>(c U).bind λk=>if k then a U else b U
noncomputable def G8(st:St1)(b:GS):List T->GS
 |[],U=>some (.nx U)
 |x::xs,U=>(st x U).bind λU1=>(b U1).bind λo=>match o with
  |.nx U2=>G8 st b xs U2
  |.ct U2=>G8 st b xs U2
  |.bk U2=>some (.nx U2)
  |.ret t=>some (.ret t)
noncomputable def N6(it:GL)(st:St1)(b:GS):GS:=λU=>(it U).bind λxs=>G8 st b xs U
noncomputable def N2(c:GB)(b:GS):Nat->GS
 |0,_=>none
 |n+1,U=>(c U).bind λk=>if k then(b U).bind λo=>match o with
  |.nx U2=>N2 c b n U2
  |.ct U2=>N2 c b n U2
  |.bk U2=>some (.nx U2)
  |.ret t=>some (.ret t)else some (.nx U)
noncomputable def o8(n:Nat)(ts:List T):A7:=ts.map some++List.replicate (n-ts.length) none
noncomputable def az4:Option Out->Option T
 |some (.ret t)=>some t
 |some (.nx _)=>some .non
 |_=>none
def A6(k n:Nat)(b:GS)(ts:List T):Option T:=if ts.length=k then az4 (b (o8 n ts))else none
mutual
noncomputable def al9:T->Bool
 |.tup xs=>aE8 xs
 |.lst _=>false
 |.scr _=>false
 |.obj _ _=>false
 |_=>true
noncomputable def aE8:List T->Bool
 |[]=>true
 |x::xs=>al9 x&&aE8 xs
end
noncomputable def C7(aB:List Nat)(U:A7):A7:=aB.foldl (λr i=>r.set i none) U
def gM(aB:List Nat)(g:G):G:=λU=>g (C7 aB U)
def gLM(aB:List Nat)(g:GL):GL:=λU=>g (C7 aB U)
noncomputable def gF(g:G):G:=λU=>(g U).bind λt=>if al9 t then some t else none
def aD3(i:Nat)(g:G):GS:=λU=>(g U).bind λt=>match(U[i]?).join with
 |some (.lst ts)=>if ts.length<lim then some (.nx (U.set i (some (.lst (ts++[t])))))else none
 |_=>none
def aX6(i:Nat)(gi g:G):GS:=λU=>(g U).bind λt=>(gi U).bind λk=>match(U[i]?).join,k with
 |some (.lst ts),.int j=>(ixT ts.length j).bind λn=>some (.nx (U.set i (some (.lst (ts.set n t)))))
 |_,_=>none
noncomputable def ao5:List Int->Option Int
 |[]=>none
 |x::xs=>match ao5 xs with |none=>some x|some y=>some (if y<x then y else x)
def ay7:List T->Option T
 |[.lst xs]=>(X3 xs).bind λis=>(ao5 is).bind λm=>some (.int m)
 |_=>none
noncomputable def aQ2(f:Str):List Str->List T->Option T
 |k::ks,t::ts=>if f=k then some t else aQ2 f ks ts
 |_,_=>none
noncomputable def J6(f:Str):T->Option T
 |.obj fs ts=>aQ2 f fs ts
 |_=>none
noncomputable def aE9(b:Bool):T->Option T
 |.bl c=>some (.bl !(c==b))
 |_=>none
noncomputable def aa3:List T->List T->List T->List T
 |x::xs,y::ys,z::zs=>.tup [x,y,z]::aa3 xs ys zs
 |_,_,_=>[]
def bT3(a b c:G):GL:=λU=>(itL a U).bind λxs=>(itL b U).bind λys=>(itL c U).bind λzs=>some (aa3 xs ys zs)
noncomputable def gFr(g:G):G:=λU=>(g U).bind λt=>match t with |.lst xs=>some (.lst xs)|_=>none
inductive Res where | val(t:T) | exc(c:Str)
inductive bA1 where | o(o:Out) | exc(c:Str)
abbrev GR:=A7->Option bA1
noncomputable def at4(g:GS):GR:=λU=>(g U).bind λo=>some (.o o)
noncomputable def av6(a b:GR):GR:=λU=>(a U).bind λr=>match r with |.o (.nx U')=>b U'|r=>some r
noncomputable def rIf(c:GB)(a b:GR):GR:=λU=>(c U).bind λk=>if k then a U else b U
noncomputable def bQ3(c:Str):GR:=λ_=>some (.exc c)
def al0(F:List T->Option Res)(l:List G):GR:=λU=>(gs l U).bind λxs=>(F xs).bind λr=>match r with
 |.val _=>some (.o (.nx U))
 |.exc c=>some (.exc c)
noncomputable def ac7:Option bA1->Option Res
 |some (.o (.ret t))=>some (.val t)
 |some (.o (.nx _))=>some (.val .non)
 |some (.exc c)=>some (.exc c)
 |_=>none
def aD5(k n:Nat)(g:GR)(ts:List T):Option Res:=if ts.length=k then ac7 (g (o8 n ts))else none
noncomputable def ae2(F:List T->Option Res)(ts:List T):Option T:=(F ts).bind λr=>match r with
 |.val t=>some t
 |.exc _=>none
noncomputable def aF0:List Str:=["BadNet"]
noncomputable def aC9(F:List T->Option Res)(ts:List T):Option T:=(F ts).bind λr=>match r with
 |.val t=>some t
 |.exc c=>if c∈aF0 then some (.str c)else none
def aK8(F:List T->Option Res)(l:List G)(xs:List T):Option T:=(gs l (xs.map some)).bind (aC9 F)
noncomputable def aZ4(ea:Nat)(b:Bool)(g:G):G:=λU=>(g U).bind λt=>match t with
 |.ref a=>if a=ea then some (.bl b)else none
 |_=>none
noncomputable def bz1:T->T->Option T
 |.int i,.int j=>some (.bl (!decide (i=j)))
 |_,_=>none
def aU6:List T->Option T
 |[.lst xs]=>(X3 xs).bind λis=>if(is.all λn=>decide (0<=n)&&decide (n<=1))&&decide (is.length<=1000)then some (.int is.sum)else none
 |_=>none
def aZ7:T->Option T
 |.lst xs=>(ag6 xs).bind λbs=>(bs.findIdx? id).bind λj=>if bs.length<=1000 then some (.int (j:Nat))else none
 |_=>none
noncomputable def aP3(n d:Nat):Option Int->Nat
 |none=>d
 |some v=>if v<0 then(v+(n:Int)).toNat else min v.toNat n
noncomputable def Z4(xs:List T)(lo hi:Option Int):List T:=(xs.drop (aP3 xs.length 0 lo)).take (aP3 xs.length xs.length hi-aP3 xs.length 0 lo)
def gPt:Option L3.G->A7->Option (Option Int)
 |none,_=>some none
 |some g,U=>(g U).bind λt=>(toI t).bind λi=>some (some i)
def gSl(a:L3.G)(lo hi:Option L3.G):L3.G:=λU=>(a U).bind λt=>(gPt lo U).bind λl=>(gPt hi U).bind λh=>match t with
 |.lst ts=>some (.lst (Z4 ts l h))
 |_=>none
def az2(i:Nat)(g:L3.G):GS:=λU=>(g U).bind λt=>match(U[i]?).join,t with
 |some (.lst ts),.lst us=>if ts.length+us.length<=lim then some (.nx (U.set i (some (.lst (ts++us)))))else none
 |_,_=>none
noncomputable def fsB:List Str:=["sought","rows","owners","under"]
noncomputable def bdT(q:Int)(rows os:List T)(u:Int):T:=.obj fsB [.int q,.lst rows,.lst os,.int u]
noncomputable def aX7(i:Nat)(F:List T->Option T)(g1 g2:L3.G):GS:=λU=>(g1 U).bind λx=>(g2 U).bind λy=>((U[i]?).join).bind λt=>(F [t,x,y]).bind λt'=>some (.nx (U.set i (some t')))
def aP4(n:Nat)(g:GS)(ts:List T):Option T:=(g (o8 n ts)).bind λo=>match o with
 |.nx U=>(U[0]?).join
 |_=>none
mutual
noncomputable def as0:T->Bool
 |.tup xs=>at5 xs
 |.lst xs=>at5 xs
 |.obj _ _=>false
 |_=>true
noncomputable def at5:List T->Bool
 |[]=>true
 |x::xs=>as0 x&&at5 xs
end
noncomputable def fsV:List Str:=["sought","rows","under"]
def vwT:T->T
 |.obj _ [q,rows,_,u]=>.obj fsV [q,rows,u]
 |t=>t
def vw(i:Nat)(U:A7):A7:=match(U[i]?).join with
 |some t=>U.set i (some (vwT t))
 |none=>U
def gV(i:Nat)(g:L3.G):L3.G:=λU=>(g (vw i U)).bind λt=>if as0 t then some t else none
noncomputable def bdP:T->Option (Int×List T)
 |.obj _ [.int q,.lst _,.lst os,.int _]=>some (q,os)
 |_=>none
def bw1(U:A7)(t tb tc to tk:T):Option Out:=(toL t).bind λts=>(bdP tb).bind λx=>(toI tc).bind λch=>(toI to).bind λco=>(toL tk).bind λks=>
 (ixT ts.length ch).bind λn=>(ixT x.2.length ch).bind λn'=>(ixT ks.length co).bind λm=>(ks[m]?).bind λk=>(toI k).bind λu'=>some (.nx ((U.set 4 (some (.lst (ts.set n (.lst ks))))).set 0 (some (bdT x.1 (ts.set n (.lst ks)) (x.2.set n' (.int co)) u'))))
def bf4(gc:L3.G):GS:=λU=>(gV 0 gc U).bind λt=>(d7 U).bind λtb=>(e7 U).bind λtc=>(m7 U).bind λto=>(n6 U).bind λtk=>bw1 U t tb tc to tk
def by2(gs gq gr ga go:L3.G)(U:A7):Option T:=(gs (C7 [0] U)).bind λsp=>
 (gq (C7 [0] (U.set 4 (some sp)))).bind λq=>(gr (C7 [0] (U.set 4 (some sp)))).bind λr=>(ga (C7 [0] (U.set 4 (some sp)))).bind λl=>(go (C7 [0] (U.set 4 (some sp)))).bind λo=>match q,r,o with
  |.int q,.lst rs,.lst os=>if rs.length<lim then some (bdT q (rs++[l]) os 1)else none
  |_,_,_=>none
def bO0(n:Nat)(gs gq gr ga go:L3.G)(ts:List T):Option T:=by2 gs gq gr ga go (o8 n (.non::ts))
def bf5(i:Nat)(l:List L3.G)(FI FK FC:List T->Option T)(gR:L3.G):GS:=λU=>(gs l U).bind λts=>(FI ts).bind λt0=>(FK [t0]).bind λt1=>(FC [t1]).bind λt2=>(gR (U.set i (some t2))).bind λt=>some (.ret t)
noncomputable def bX1:T->Option T
 |.lst []=>some .non
 |_=>none
noncomputable def T4:T:=.tup [.int 0,.int 1]
noncomputable def bz7:T:=.tup [.int 1,.int 1]
noncomputable def bW5(i:Nat)(U:A7):Nat:=match(U[i]?).join with |some (.int k)=>k.natAbs|_=>0
noncomputable def an1(U:A7):Nat:=bW5 1 U+2
noncomputable def aN7(U:A7):Nat:=bW5 3 U+2
noncomputable def aw5(_:A7):Nat:=1
noncomputable def al7(U:A7):Nat:=match(U[0]?).join with
 |some (T.obj _ [_,.lst (.lst r::_),.lst os,_])=>r.length^os.length+1
 |_=>0
def aV9:=t8 (K6 (g1 (ap0 .int) d7) (aZ3 (g1 (ap0 .bool) d7)))
def ah9:=A6 1 1 aV9
def ax4:=n9 (λU=>N2 (bOf (g2 fNe e7 k8)) (n9 (u7 2 (g2 J5 d7 e7)) (n9 (u7 0 e7) (u7 1 m7))) (an1 U) U) (t8 d7)
def X1:=A6 2 3 ax4
def as7:=t8 (K6 (g1 (ap0 .tuple) d7) (K6 (g2 fEq (gN C5 [d7]) v8) (K6 (gN ah9 [d9 d7 k8]) (K6 (gN ah9 [d9 d7 e9]) (K6 (g2 fGt (d9 d7 e9) k8) (g2 fEq (gN X1 [d9 d7 k8,d9 d7 e9]) e9))))))
def M1:=A6 1 1 as7
def be5:=n9 (u7 2 (gN X1 [d7,e7])) (t8 (A1 [g2 K7 d7 m7,g2 K7 e7 m7]))
def V9:=A6 2 3 be5
def bL5:=t8 (gN V9 [g2 z0 (g2 M0 (d9 d7 k8) (d9 e7 e9)) (g2 M0 (d9 e7 k8) (d9 d7 e9)),g2 M0 (d9 d7 e9) (d9 e7 e9)])
def X0:=A6 2 2 bL5
def bv4:=t8 (gN X0 [d7,A1 [g1 L9 (d9 e7 k8),d9 e7 e9]])
def ah7:=A6 2 2 bv4
def bv3:=t8 (gN V9 [g2 M0 (d9 d7 k8) (d9 e7 k8),g2 M0 (d9 d7 e9) (d9 e7 e9)])
def av3:=A6 2 2 bv3
def bv2:=n9 (u7 1 (gC T4)) (n9 (N6 (itL d7) (stN 2) (u7 1 (gN X0 [e7,m7]))) (t8 e7))
def ae1:=A6 1 3 bv2
def aJ9:=t8 (g2 fGt (g2 M0 (d9 d7 k8) (d9 e7 e9)) (g2 M0 (d9 e7 k8) (d9 d7 e9)))
def W2:=A6 2 2 aJ9
def aJ7:=t8 (l9 (itZ d7 e7) 2 [3,1,2,0] (st2 0 1) t9 (g2 K7 (g2 aw9 (g2 M0 d7 (d9 n6 y6)) (g2 M0 e7 (d9 A3 y6))) m7))
def U7:=A6 4 4 aJ7
def Gi1:=l9 (itR (gN C5 [m7])) 1 [2] (stN 0) t9 (l9 (itR (gN C5 [e7])) 1 [0] (stN 0) t9 (gIf (bOf (g2 fEq d7 e7)) e9 k8))
def Gi2:=gN C5 [e7]
def Gi3:=l9 (bT3 m7 y6 n6) 3 [] (st3 0 1 2) t9 (g2 z0 (g2 z0 d7 e7) (C4 [m7]))
def Gi4:=g2 z0 (l9 (itL e7) 1 [] (stN 0) t9 (g1 L9 d7)) (l9 (itR (g2 z0 (gN C5 [m7]) e9)) 1 [] (stN 0) t9 k8)
def Gi5:=l9 (itR (gN C5 [m7])) 1 [1] (stN 0) t9 (g2 z0 (gN C5 [e7]) d7)
def aK6:=bO0 5 Gi1 Gi2 Gi3 Gi4 Gi5
def bo8:=n9 (u7 3 (gV 0 (d9 (g1 (J6 "rows") d7) e7))) (n9 (sIf (bOf (g2 fLt (d9 n6 m7) k8)) (u7 3 (gV 0 (l9 (itL n6) 1 [] (stN 0) t9 (g1 L9 d7)))) A2) (bf4 (l9 (itL (g1 (J6 "rows") d7)) 1 [3,2,0] (stN 0) t9 (gN U7 [d7,e7,m7,g1 (J6 "under") n6]))))
def am6:=aP4 5 bo8
def aC4:=n9 (u7 1 e9) (n9 (N6 (itL d7) (stN 2) (u7 1 (g2 M0 e7 (d9 m7 e9)))) (t8 e7))
def ac0:=A6 1 3 aC4
def ax5:=n9 (u7 1 (l9 (itR (gN C5 [g1 (J6 "owners") d7])) 1 [0] (stN 0) (bOf (g2 fLt (d9 (d9 (g1 (J6 "rows") e7) d7) (g1 L9 e9)) k8)) d7)) (t8 (g1 bX1 e7))
def X2:=A6 1 2 ax5
def am4:=n9 (N6 (itE d7) (st2 1 2) (sIf (bOf (g2 fLt m7 k8)) (t8 e7) A2)) (t8 (gC .non))
def J3:=A6 1 3 am4
def as6:=n9 (u7 1 (gF (gN X2 [d7]))) (λU=>N2 (bOf (g2 (λx y=>match y with |.non=>aU7 x|_=>none) e7 (gC .non))) (n9 (aX7 0 am6 (gF e7) (gF (gN J3 [gSl (d9 (g1 (J6 "rows") d7) e7) none (some (g1 L9 e9))]))) (u7 1 (gF (gN X2 [d7])))) (aw5 U) U)
def ad9:=aP4 2 as6
def aJ8:=n9 (u7 4 (d9 (g1 (J6 "rows") d7) m7)) (n9 (u7 5 (d9 (g1 (J6 "rows") d7) n6)) (n9 (u7 6 (g2 aw9 (g2 M0 (d9 y6 (g1 L9 e9)) (d9 A3 e7)) (g2 M0 (d9 A3 (g1 L9 e9)) (d9 y6 e7)))) (t8 (gOr (g2 fLt D7 k8) (K6 (g2 fEq D7 k8) (g2 fLt (d9 (g1 (J6 "owners") d7) m7) (d9 (g1 (J6 "owners") d7) n6)))))))
def ab9:=A6 4 7 aJ8
def aC3:=n9 (u7 2 (gC .non)) (n9 (N6 (itR (gN C5 [g1 (J6 "owners") d7])) (stN 3) (sIf (V4 (bOf (g2 fGt (d9 (d9 (g1 (J6 "rows") d7) n6) e7) k8)) (bOr (bOf (g2 (λx y=>match y with |.non=>aI9 x|_=>none) m7 (gC .non))) (bOf (gN ab9 [d7,e7,n6,m7])))) (u7 2 n6) A2)) (t8 m7))
def T5:=A6 2 4 aC3
def ba4:=n9 (u7 1 (gF (gN J3 [gSl (d9 (g1 (J6 "rows") d7) (g1 L9 e9)) none (some (g1 L9 e9))]))) (λU=>N2 (bOf (g2 (λx y=>match y with |.non=>aU7 x|_=>none) e7 (gC .non))) (n9 (aX7 0 am6 (gF (gN T5 [d7,e7])) (gF e7)) (u7 1 (gF (gN J3 [gSl (d9 (g1 (J6 "rows") d7) (g1 L9 e9)) none (some (g1 L9 e9))])))) (al7 U) U)
def aC5:=aP4 2 ba4
def aK2:=n9 (u7 2 (gFr (gM [] (l9 (itR (g1 (J6 "sought") d7)) 1 [] (stN 0) t9 (gC T4))))) (n9 (N6 (gLM [2] (itE (g1 (J6 "owners") d7))) (st2 3 4) (sIf (bOf (g2 fLt y6 (g1 (J6 "sought") d7))) (aX6 2 y6 (gF (gN V9 [d9 (d9 (g1 (J6 "rows") d7) n6) (g1 L9 e9),g2 M0 (g1 (J6 "under") d7) e7]))) A2)) (t8 m7))
def ah0:=A6 2 5 aK2
def aO1:=t8 (l9 (itL (gSl (d9 (g1 (J6 "rows") d7) (g1 L9 e9)) (some (g1 (J6 "sought") d7)) (some (g1 L9 e9)))) 1 [0] (stN 0) t9 (gN V9 [d7,g1 (J6 "under") e7]))
def ai9:=A6 1 1 aO1
def bp3:=n9 (u7 3 (gM [] (gN ac0 [m7]))) (bf5 4 [d7,e7,l9 (itL m7) 1 [3] (stN 0) t9 (g2 M0 (d9 d7 k8) (g2 K7 e7 (d9 d7 e9)))] aK6 ad9 aC5 (A1 [gN ah0 [y6,n6],gN ai9 [y6]]))
def aC6:=A6 3 5 bp3
def bL7:=t8 (K6 (g1 (ap0 .tuple) d7) (g2 fEq (gN C5 [d7]) v8))
def be7:=A6 1 1 bL7
def aO4:=t8 (K6 (g1 (ap0 .tuple) d7) (g2 fEq (gN C5 [d7]) al5))
def aa0:=A6 1 1 aO4
def aO3:=t8 (K6 (gN ah9 [d7]) (aB7 fLe fLe e7 d7 m7))
def Z9:=A6 3 3 aO3
def be6:=t8 (K6 (gN aa0 [d7]) (K6 (gN Z9 [d9 d7 k8,k8,g2 aw9 e7 e9]) (K6 (gN Z9 [d9 d7 e9,k8,g2 aw9 e7 e9]) (K6 (g2 fNe (d9 d7 k8) (d9 d7 e9)) (gN Z9 [d9 d7 v8,m7,n6])))))
def W0:=A6 4 4 be6
def aK1:=t8 (gN as4 [l9 (itZ d7 (g1 (ag4 1 none) d7)) 2 [] (st2 0 1) t9 (g2 bz2 (g1 (ag4 0 (some 2)) d7) (g1 (ag4 0 (some 2)) e7))])
def ac1:=A6 1 1 aK1
def aW3:=t8 (K6 (g1 (ap0 .list) d7) (K6 (g2 fLe (gN C5 [d7]) (gI 10)) (K6 (gN as4 [l9 (itL d7) 1 [1] (stN 0) t9 (gN W0 [d7,e7,e9,al6])]) (gN ac1 [d7]))))
def ad7:=A6 2 2 aW3
def aO7:=t8 (K6 (g1 (ap0 .list) d7) (K6 (aB7 fLe fLe e9 (gN C5 [d7]) al5) (gN as4 [l9 (itL d7) 1 [1] (stN 0) t9 (gN W0 [d7,e7,e9,al6])])))
def aa1:=A6 2 2 aO7
def bp1:=t8 (K6 (gN aa0 [d7]) (K6 (gN Z9 [d9 d7 k8,v8,gI 6]) (K6 (gN ad7 [d9 d7 e9,d9 d7 k8]) (gN aa1 [d9 d7 v8,d9 d7 k8]))))
def ad6:=A6 1 1 bp1
def aO5:=t8 (K6 (gN M1 [d7]) (g2 fGe (d9 d7 k8) k8))
def W3:=A6 1 1 aO5
def bp0:=t8 (K6 (g1 (ap0 .list) d7) (K6 (g2 fEq (gN C5 [d7]) e7) (gN as4 [l9 (itL d7) 1 [] (stN 0) t9 (gN W3 [d7])])))
def V0:=A6 2 2 bp0
def az1:=t8 (K6 (g1 (ap0 .list) e7) (K6 (g2 fEq (gN C5 [e7]) (gN C5 [d9 d7 v8])) (gN as4 [l9 (itL e7) 1 [0] (stN 0) t9 (gN V0 [d7,gN C5 [d9 e7 e9]])])))
def O3:=A6 2 2 az1
def bL8:=n9 (u7 3 (gC T4)) (n9 (N6 (itZ d7 e7) (st2 4 5) (n9 (sIf (bOf (g2 fEq (d9 y6 e9) m7)) (u7 3 (gN X0 [n6,A3])) A2) (sIf (bOf (g2 fEq (d9 y6 k8) m7)) (u7 3 (gN ah7 [n6,A3])) A2))) (t8 n6))
def ar7:=A6 3 6 bL8
def aO2:=n9 (u7 3 (l9 (itR (d9 d7 k8)) 1 [1] (stN 0) (bOf (g2 S9 d7 (g1 (ag4 0 (some 2)) e7))) d7)) (t8 (gN as4 [l9 (itL n6) 1 [2,0] (stN 0) t9 (g2 fEq (gN ar7 [d9 m7 e9,e7,d7]) (gC T4))]))
def aq3:=A6 3 4 aO2
def az0:=t8 (gN as4 [l9 (itZ (d9 d7 v8) e7) 2 [0] (st2 0 1) t9 (gN aq3 [m7,d7,e7])])
def Y5:=A6 2 2 az0
def bL6:=t8 (gN ae1 [l9 (itL d7) 1 [1] (stN 0) t9 (d9 d7 e7)])
def aK5:=A6 2 2 bL6
def aW0:=t8 (aZ3 (gN aJ0 [l9 (itE (d9 d7 e9)) 2 [1] (st2 0 1) t9 (gN W2 [gN aK5 [m7,d7],A1 [d9 e7 v8,e9]])]))
def am7:=A6 2 2 aW0
def ad4:GR:=rIf (ae6 (bOf (gN ad6 [d7]))) (bQ3 "BadNet") (at4 A2)
def aa2:=aD5 1 1 ad4
def aq2:GR:=rIf (ae6 (bOf (gN O3 [d7,e7]))) (bQ3 "BadFlow") (at4 A2)
def am9:=aD5 2 2 aq2
def bp2:GR:=av6 (al0 aa2 [d7]) (av6 (al0 am9 [d7,e7]) (at4 (t8 (K6 (gN Y5 [d7,e7]) (gN am7 [d7,e7])))))
def aN1:=aD5 2 2 bp2
def aK0:GR:=av6 (al0 aa2 [d7]) (av6 (al0 am9 [d7,e7]) (at4 (t8 (l9 (itZ (d9 d7 v8) e7) 2 [0] (st2 0 1) t9 (gN ar7 [d9 m7 e9,e7,d9 d7 e9])))))
def at9:=aD5 2 2 aK0
def aA2(R:List T->Option T):GS:=n9 (sIf (bOf (g2 fEq (d9 e7 (g1 L9 e9)) m7)) (t8 (C4 [C4 []])) A2) (n9 (u7 3 (gC (.lst []))) (n9 (N6 (gLM [3] (itE d7)) (st2 4 5) (sIf (V4 (bOf (g2 fEq (d9 A3 k8) (d9 e7 (g1 L9 e9)))) (bOf (g2 S9 (d9 A3 e9) e7))) (az2 3 (gM [3] (l9 (itL (gN R [d7,g2 z0 e7 (C4 [d9 A3 e9]),m7])) 1 [4] (stN 0) t9 (g2 z0 (C4 [e7]) d7)))) A2)) (t8 n6)))
def O1:Nat->List T->Option T
 |0,_=>none
 |n+1,ts=>A6 3 6 (aA2 (O1 n)) ts
def ai8:=O1 7
def aV8:=n9 (u7 1 (gC (.lst []))) (n9 (N6 (gLM [1] (itE (d9 d7 v8))) (st2 2 3) (az2 1 (gM [1] (l9 (itL (gN ai8 [d9 d7 e9,C4 [d9 n6 k8],d9 n6 e9])) 1 [2] (stN 0) t9 (A1 [e7,d7]))))) (t8 e7))
def ah8:=A6 1 4 aV8
def aV5:=t8 (g2 z0 (C4 [gIf (bOf (g2 (λx y=>match y with |.non=>aI9 x|_=>none) m7 (gC .non))) d7 k8]) (l9 (itL e7) 1 [3] (stN 0) t9 (gIf (bOf (g2 fEq (d9 d7 k8) e7)) (g1 L9 e9) k8)))
def am5:=A6 4 4 aV5
def be2:=t8 (g2 z0 (C4 [k8]) (l9 (itL d7) 1 [1] (stN 0) t9 (gIf (bOf (g2 fIn e7 (d9 d7 e9))) e9 k8)))
def ar6:=A6 2 2 be2
def aW2:=t8 (l9 (itZ e7 (d9 d7 v8)) 2 [] (st2 0 1) t9 (gN av3 [d7,A1 [d9 e7 v8,e9]]))
def V5:=A6 2 2 aW2
def aO6:=n9 (u7 2 (gN V5 [d7,l9 (itL e7) 1 [] (stN 0) t9 (gIf (bOf (g2 (λx y=>match y with |.non=>aI9 x|_=>none) d7 (gC .non))) (gC T4) (A1 [g1 L9 (d9 d7 k8),d9 d7 e9]))])) (t8 (g2 z0 m7 (l9 (itL (d9 d7 e9)) 1 [] (stN 0) t9 (A1 [d9 d7 v8,e9]))))
def aq4:=A6 2 3 aO6
def aW1:=n9 (u7 5 (l9 (itR d7) 1 [] (stN 0) t9 (gC T4))) (n9 (u7 6 y6) (n9 (N6 (itZ e7 m7) (st2 7 8) (sIf (bOf (g2 fEq (d9 V3 k8) n6)) (n9 (u7 9 (gIf (bOf (gN W2 [R7,D7])) D7 R7)) (n9 (u7 6 (gN ah7 [D7,by7])) (u7 5 (l9 (itE A3) 2 [9,7] (st2 0 1) t9 (gIf (bOf (g2 fIn d7 (d9 n6 e9))) (gN X0 [e7,m7]) e7))))) A2)) (t8 A3)))
def am8:=A6 5 10 aW1
def bo9:=n9 (u7 2 (gM [] (gN ah8 [d7]))) (n9 (u7 3 (gM [] (gN C5 [d9 d7 v8]))) (n9 (u7 4 (gFr (gM [] (l9 (itR n6) 1 [2,1,0] (stN 0) t9 (gN am5 [d9 (d9 (d9 n6 v8) d7) v8,e7,d9 m7 d7,d7]))))) (n9 (az2 4 (gM [4] (l9 (itR (gN C5 [d9 d7 e9])) 1 [2] (stN 0) t9 (gN ar6 [e7,d7])))) (n9 (u7 5 (gM [] (gN aC6 [g2 z0 (C4 [e9]) (l9 (itL m7) 1 [] (stN 0) t9 k8),y6,gN aq4 [d7,e7]]))) (n9 (u7 6 (gM [] (d9 (d9 A3 k8) k8))) (n9 (u7 7 (gM [] (gN V5 [d7,l9 (itL e7) 1 [6] (stN 0) t9 (gIf (bOf (g2 (λx y=>match y with |.non=>aI9 x|_=>none) d7 (gC .non))) e7 d7)]))) (n9 (u7 8 (gM [] (l9 (itR n6) 1 [2,7,0,5] (stN 0) t9 (gN am8 [gN C5 [d9 n6 e9],e7,g1 (ag4 1 none) (d9 y6 k8),d7,d9 m7 d7])))) (t8 (A1 [D7,R7,A1 [gSl (d9 A3 e9) (some n6) none,gSl (d9 A3 e9) none (some n6)]])))))))))
def ax8:=A6 2 9 bo9
def bL9:=t8 (gN ae1 [l9 (itL e7) 1 [0] (stN 0) t9 (d9 e7 d7)])
def aW6:=A6 2 2 bL9
def bu9:=t8 (gN ae1 [l9 (itZ e7 (d9 d7 e9)) 2 [] (st2 0 1) t9 (gN av3 [d7,A1 [d9 e7 v8,e9]])])
def aM9:=A6 2 2 bu9
def W9:GR:=av6 (al0 aa2 [d7]) (at4 (t8 (gN ax8 [d7,l9 (itL (d9 d7 v8)) 1 [] (stN 0) t9 (gC .non)])))
def N3:=aD5 1 1 W9
def aS3:=t8 (K6 (gN O3 [d7,e7]) (K6 (gN (ae2 aN1) [d7,e7]) (g2 fEq (gN (ae2 at9) [d7,e7]) (gN V5 [d7,m7]))))
def ag9:=A6 3 3 aS3
def aG2:=t8 (K6 (gN be7 [e7]) (K6 (gN V0 [d9 e7 k8,gN C5 [d9 d7 e9]]) (K6 (gN V0 [d9 e7 e9,gN C5 [d9 d7 v8]]) (aZ3 (gN aJ0 [l9 (itL (gN ah8 [d7])) 1 [1] (stN 0) t9 (gN W2 [d9 (d9 e7 e9) (d9 d7 k8),gN aW6 [d9 e7 k8,d9 d7 e9]])])))))
def ad5:=A6 2 2 aG2
def N0:GR:=av6 (al0 aa2 [d7]) (at4 (t8 (K6 (gN aa0 [e7]) (K6 (gN M1 [d9 e7 k8]) (K6 (gN ag9 [d7,d9 e7 e9,l9 (itL (d9 d7 v8)) 1 [1] (stN 0) t9 (d9 e7 k8)]) (K6 (gN ad5 [d7,d9 e7 v8]) (K6 (g2 fEq (gN ae1 [gN V5 [d7,d9 (d9 e7 v8) e9]]) (gC bz7)) (g2 fEq (gN aM9 [d7,d9 (d9 e7 v8) k8]) (d9 e7 k8)))))))))
def E9:=aD5 2 2 N0
def bo6:=n9 (sIf (bOf (g2 fEq d7 (C4 []))) (t8 (g2 M0 e7 (gI 7919))) A2) (t8 (g2 z0 (d9 d7 (g2 J5 e7 (gN C5 [d7]))) (g2 M0 (g2 K7 e7 (gN C5 [d7])) (gI 104729))))
def aG5:=A6 2 2 bo6
def be4:=n9 (u7 2 (g2 J5 (g2 z0 (g2 M0 d7 (gI 6364136223846793005)) (g2 M0 (g2 z0 e7 e9) (gI 1442695040888963407))) (gI 340282366920938463463374607431768211507))) (t8 (g2 J5 (g2 M0 m7 m7) (gI 340282366920938463463374607431768211297)))
def V8:=A6 2 3 be4
def bo3:=n9 (bi2 2 3 (gN bz3 [d7]) e7) (n9 (λU=>N2 (bOf (g2 fGt n6 k8)) (bi2 2 3 n6 (g2 J5 m7 n6)) (aN7 U) U) (t8 (A1 [g2 K7 d7 m7,g2 K7 e7 m7])))
def ax6:=A6 2 4 bo3
def bo2:=t8 (gN ax6 [g2 z0 (g2 M0 (d9 d7 k8) (d9 e7 e9)) (g2 M0 (d9 e7 k8) (d9 d7 e9)),g2 M0 (d9 d7 e9) (d9 e7 e9)])
def S3:=A6 2 2 bo2
def aJ6:=t8 (gN ax6 [g2 M0 (d9 d7 k8) (d9 e7 k8),g2 M0 (d9 d7 e9) (d9 e7 e9)])
def R6:=A6 2 2 aJ6
def bv1:=n9 (u7 1 (A1 [k8,e9])) (n9 (N6 (itL d7) (stN 2) (u7 1 (gN S3 [e7,m7]))) (t8 e7))
def P8:=A6 1 3 bv1
def aJ5:=t8 (g2 fLt (g2 M0 (d9 d7 k8) (d9 e7 e9)) (g2 M0 (d9 e7 k8) (d9 d7 e9)))
def O2:=A6 2 2 aJ5
def bv0:=n9 (u7 1 (gM [] (g2 z0 v8 (g2 J5 d7 (gI 4))))) (n9 (u7 2 (gC (.lst []))) (n9 (N6 (gLM [2] (itR e7)) (stN 3) (N6 (gLM [2] (itR e7)) (stN 4) (n9 (u7 5 (gM [2] (gN V8 [d7,g2 z0 (g2 M0 Y3 n6) y6]))) (sIf (V4 (bOf (g2 fNe n6 y6)) (V4 (bOf (g2 fLt (g2 J5 A3 (gI 5)) (g2 z0 v8 (g2 J5 (g2 K7 d7 Y3) al5)))) (bOf (g2 fLt (gN C5 [m7]) Y3)))) (aD3 2 (gM [2] (A1 [n6,y6,g2 z0 e9 (g2 J5 (g2 K7 A3 ai4) (d9 (C4 [al5,al6]) (g2 J5 (g2 K7 d7 ai4) v8)))]))) A2)))) (n9 (u7 6 (gC (.lst []))) (n9 (N6 (gLM [6,2] (itR (g2 z0 e9 (g2 J5 (g2 K7 d7 (gI 256)) al5)))) (stN 7) (n9 (u7 5 (gM [6,2] (gN V8 [d7,g2 z0 (gI 70) V3]))) (n9 (u7 8 (gM [6,2] (g2 J5 A3 e7))) (aD3 6 (gM [6,2] (A1 [R7,g2 J5 (g2 z0 (g2 z0 R7 e9) (g2 J5 (g2 K7 A3 Y3) (g2 aw9 e7 e9))) e7,g2 z0 e9 (g2 J5 (g2 K7 A3 ai4) (gI 9))])))))) (t8 (A1 [e7,m7,D7]))))))
def aN0:=A6 1 9 bv0
def aV6:=n9 (u7 3 (A1 [k8,e9])) (n9 (N6 (itZ e7 (d9 d7 e9)) (st2 4 5) (u7 3 (gN S3 [n6,gN R6 [y6,A1 [g2 aw9 (gN ax0 [g2 fEq (d9 A3 e9) m7]) (gN ax0 [g2 fEq (d9 A3 k8) m7]),e9]]]))) (t8 n6))
def S4:=A6 3 6 aV6
def bo4:=n9 (N6 (itZ (d9 d7 v8) e7) (st2 2 3) (N6 (itR (d9 d7 k8)) (stN 4) (sIf (V4 (bOf (g2 S9 y6 (g1 (ag4 0 (some 2)) m7))) (bOf (g2 fNe (gN S4 [d7,n6,y6]) (A1 [k8,e9])))) (t8 (gC (.bl false))) A2))) (n9 (N6 (itE (d9 d7 e9)) (st2 5 6) (sIf (bOf (gN O2 [A1 [d9 D7 v8,e9],gN P8 [l9 (itL e7) 1 [5] (stN 0) t9 (d9 d7 e7)]])) (t8 (gC (.bl false))) A2)) (t8 (gC (.bl true))))
def ax7:=A6 2 7 bo4
def aO0:=t8 (l9 (itZ (d9 d7 v8) e7) 2 [0] (st2 0 1) t9 (gN S4 [m7,e7,d9 d7 e9]))
def ai7:=A6 2 2 aO0
def aS2(R:List T->Option T):GS:=n9 (sIf (bOf (g2 fEq e7 m7)) (t8 (C4 [C4 []])) A2) (n9 (u7 4 (C4 [])) (n9 (N6 (itE (d9 d7 e9)) (st2 5 6) (sIf (V4 (bOf (g2 fEq (d9 D7 k8) e7)) (bOf (g2 S9 (d9 D7 e9) n6))) (u7 4 (g2 z0 y6 (l9 (itL (gN R [d7,d9 D7 e9,m7,g2 z0 n6 (C4 [d9 D7 e9])])) 1 [5] (stN 0) t9 (g2 z0 (C4 [e7]) d7)))) A2)) (t8 y6)))
def U6:Nat->List T->Option T
 |0,_=>none
 |n+1,ts=>A6 4 7 (aS2 (U6 n)) ts
def aj4:=U6 7
def as9:=n9 (sSt (st2 2 3) e7) (n9 (sIf (bOr (bOf (g2 fLt (gN ay7 [l9 (itL (g2 z0 m7 n6)) 1 [] (stN 0) t9 (d9 d7 k8)]) k8)) (bOr (bOf (g2 fNe (gN C5 [m7]) (gN C5 [d9 d7 e9]))) (bOf (g2 fNe (gN C5 [n6]) (gN C5 [d9 d7 v8]))))) (t8 (gC (.bl false))) A2) (n9 (N6 (itZ (d9 d7 v8) n6) (st2 4 5) (N6 (itL (gN aj4 [d7,d9 y6 k8,d9 y6 e9,C4 [d9 y6 k8]])) (stN 6) (sIf (bOf (gN O2 [gN P8 [l9 (itL D7) 1 [2] (stN 0) t9 (d9 e7 d7)],A3])) (t8 (gC (.bl false))) A2))) (t8 (gC (.bl true)))))
def V2:=A6 2 7 as9
def bo5:=t8 (gN P8 [l9 (itZ e7 (d9 d7 e9)) 2 [] (st2 0 1) t9 (gN R6 [d7,A1 [d9 e7 v8,e9]])])
def aG4:=A6 2 2 bo5
def bo7:=n9 (u7 2 (g2 J5 e7 (gN ay8 [e9,gN C5 [d7]]))) (n9 (u7 3 (d9 (C4 [A1 [e9,gI 7],A1 [g1 L9 e9,gI 7],A1 [g1 L9 (gI 9),e9],A1 [gI 5,e9]]) (g2 J5 (g2 K7 e7 ai4) (gI 4)))) (t8 (g2 z0 (g2 z0 (gSl d7 none (some m7)) (l9 (itL (gSl d7 (some m7) (some (g2 z0 m7 e9)))) 1 [3] (stN 0) t9 (gN S3 [d7,e7]))) (gSl d7 (some (g2 z0 m7 e9)) none))))
def ap4:=A6 2 4 bo7
def be3:=n9 (sSt (st3 2 3 4) e7) (n9 (N6 (itL n6) (stN 5) (sIf (bOr (bOf (g2 fNe (gN C5 [A3]) (gN C5 [d9 d7 e9]))) (bOf (g2 fLt (gN ay7 [g2 z0 (C4 [k8]) (l9 (itL A3) 1 [] (stN 0) t9 (d9 d7 k8))]) k8))) (t8 (gC (.bl false))) A2)) (n9 (u7 6 (l9 (itL (d9 d7 v8)) 1 [2] (stN 0) t9 (gN R6 [e7,A1 [d9 d7 v8,e9]]))) (n9 (sIf (bOr (bOf (g2 fLt (d9 m7 k8) k8)) (bOr (ae6 (bOf (gN ax7 [d7,n6]))) (bOr (bOf (g2 fNe (gN ai7 [d7,n6]) D7)) (ae6 (bOf (gN V2 [d7,y6])))))) (t8 (gC (.bl false))) A2) (n9 (u7 7 (gN P8 [l9 (itZ (d9 y6 e9) (d9 d7 v8)) 2 [] (st2 0 1) t9 (gN R6 [d7,A1 [d9 e7 v8,e9]])])) (t8 (K6 (g2 fEq V3 (A1 [e9,e9])) (g2 fEq (gN aG4 [d7,d9 y6 k8]) m7)))))))
def ak3:=A6 2 8 be3
def lp1:=d9 (C4 [g2 z0 (gSl V3 none (some (g1 L9 e9))) (C4 [gN ap4 [d9 V3 (g1 L9 e9),g2 K7 Y2 Y3]]),V3]) (g2 J5 Y2 v8)
def lp2:=d9 (C4 [gN ap4 [d9 R7 k8,g2 K7 Y2 (g2 az6 v8 (gI 12))],d9 R7 k8]) (g2 J5 (g2 K7 Y2 v8) v8)
def lp3:=d9 (C4 [gN ap4 [d9 R7 e9,g2 K7 Y2 (g2 az6 v8 (gI 24))],d9 R7 e9]) (g2 J5 (g2 K7 Y2 (gI 4)) v8)
def lp4:=d9 (C4 [D7,gN S3 [D7,A1 [e9,gI 9]]]) (gN ax0 [g2 fEq (g2 J5 (g2 K7 Y2 (g2 az6 v8 (gI 40))) (gI 4)) k8])
def lB:=n9 (u7 10 (gN V8 [m7,g2 z0 (gI 90) by7])) (n9 (u7 11 lp1) (n9 (u7 12 lp2) (n9 (u7 13 lp3) (n9 (u7 14 lp4) (n9 (u7 15 (A1 [M9 14,M9 11,A1 [M9 12,M9 13]])) (n9 (u7 16 (gN (ae2 E9) [n6,M9 15])) (sIf (bOr (ae6 (bOf (g1 (ap0 .bool) (M9 16)))) (bOf (g2 fNe (M9 16) (gN ak3 [n6,M9 15])))) (t8 (gC (.bl false))) A2)))))))
def bT1:=l9 (itL (d9 n6 v8)) 1 [3] (stN 0) (bOf (g2 fEq (gN aj4 [e7,d9 d7 k8,d9 d7 e9,C4 [d9 d7 k8]]) (C4 []))) d7
def lA:=n9 (u7 2 (gN V8 [gN aG5 [d7,e7],e7])) (n9 (u7 3 (gN aN0 [m7])) (n9 (u7 4 (gN (aK8 N3 [d7]) [n6])) (n9 (sIf (bOr (ae6 (bOf (g1 (ap0 .tuple) y6))) (bOr (bOf (g2 fNe (gN C5 [y6]) al5)) (ae6 (bOf (gN ak3 [n6,y6]))))) (t8 (gC (.bl false))) A2) (n9 (sIf (bOr (bOf (g1 (aE9 true) (gN (ae2 E9) [n6,y6]))) (bOf (g2 fNe (gN (ae2 N3) [n6]) y6))) (t8 (gC (.bl false))) A2) (n9 (u7 5 bT1) (n9 (sIf (bOf (g2 fNe (g2 fEq (d9 y6 k8) (A1 [k8,e9])) (g2 fNe A3 (C4 [])))) (t8 (gC (.bl false))) A2) (n9 (sSt (st3 6 7 8) y6) (n9 (N6 (itR (gI 6)) (stN 9) lB) (n9 (u7 17 (C4 [A1 [D7,C4 [],R7],A1 [D7,gC .non,R7],A1 [D7,V3,A1 [C4 [],C4 []]]])) (n9 (u7 17 (g2 z0 (M9 17) (C4 [A1 [D7,V3,gC .non],A1 [A1 [v8,v8],V3,R7]]))) (n9 (u7 17 (g2 z0 (M9 17) (C4 [A1 [D7,V3,A1 [d9 R7 k8,g2 z0 (d9 R7 e9) (C4 [A1 [k8,e9]])]],A1 [gC .non,V3,R7]]))) (n9 (u7 17 (g2 z0 (M9 17) (C4 [A1 [A1 [g1 L9 e9,e9],V3,R7]]))) (n9 (sIf (bOf (g1 (aE9 false) (gN (ae2 E9) [n6,d9 (M9 17) (g2 J5 (g2 K7 m7 (g2 az6 v8 al6)) Y3)]))) (t8 (gC (.bl false))) A2) (n9 (sIf (bOf (g2 fNe (gN (aK8 N3 [A1 [e9,C4 [],C4 [A1 [k8,e9,e9]]]]) []) (gC (.str "BadNet")))) (t8 (gC (.bl false))) A2) (sIf (bOf (g2 fNe (gN (aK8 E9 [A1 [v8,C4 [],C4 []],d7]) [y6]) (gC (.str "BadNet")))) (t8 (gC (.bl false))) A2)))))))))))))))
def aV7:=n9 (N6 (itR (gN ay8 [e9,gN aU8 [v8,gN C5 [d7]]])) (stN 1) lA) (t8 (gC (.bl true)))
def bg6:=A6 1 18 aV7
end L3
namespace L2
section
theorem Inv.turnedNew{t':Nat}{ch:List Addr}{p:Addr}{o:HO}(I:Inv X aA Z H s)(k:∀b u,b∉ch->s.heap.get? b=some u->h'.get? b=some u)(hf:∀b∈ch,as8 X aA H b)
  (hp:s.sz<=p) (new:ad3 X.prog X.w (upd H p o) h' p o):Inv X aA Z (upd H p o) {s with heap:=h',toks:=t'}:=by
 have hn:H p=none:=I.hok.fresh hp;have nch:∀b u,H b=some u->b∉ch:=λb u e z=>by rw[(hf b z).1]at e;cases e
 have nep:∀b u,s.heap.get? b=some u->b≠p:=λb u e=>cN5 (cM7 (cD9 e) hp)
 refine I.step (g':=s.gens) (d':=s.drawn) (ch:=ch) (λb hb=> ?_) (λb u _ _ hc e _=>k b u hc e) (λb u _ _ hc e _=>⟨u.slots,k b u hc e⟩) (λb u _ e n=>by rw[l8 (nep b u e)];exact n)
  (λb u hc e=>⟨u,k b u hc e⟩) (λb xs e=>by rw[l8 (A9 e hn)];exact e) (λb u v e=>by rw[l8 (A9 e hn)];exact e) (λb ps e=>⟨#[],by rw[l8 (A9 e hn),e];simp⟩) (λm hm=> ?_) (λb u e=> ?_) I.bare
 .obtain⟨f0,f1,f2,f3,f4,f5⟩:=hf b hb;exact⟨f3,f1,f4,f5⟩
 .obtain⟨ob,es,ep,ho,r⟩:=hm;exact⟨ob,es,ep,k _ ob (λz=>(hf _ z).2.1 rfl) ho,r⟩
 .by_cases hb:b=p
  .subst hb;rw[t6]at e;cases e;exact new
  .rw[l8 hb]at e;refine(I.hok b u e).stay (λc v hc q=>k c v ?_ q) (λc q=>by rw[l8 (A9 q hn)];exact q) λc xs q=>by rw[l8 (A9 q hn)];exact q
   rcases hc with z|z
   .rw[z];exact nch b u e
   .exact nch c _ z
theorem Inv.turnedL{t':Nat}{ch:List Addr}(I:Inv X aA Z H s)(k:∀b u,b∉ch->s.heap.get? b=some u->h'.get? b=some u)(hf:∀b∈ch,as8 X aA H b):Inv X aA Z H {s with heap:=h',toks:=t'}:=by
 have nch:∀b u,H b=some u->b∉ch:=λb u e z=>by rw[(hf b z).1]at e;cases e
 refine I.step (g':=s.gens) (d':=s.drawn) (ch:=ch) (λb hb=> ?_) (λb u _ _ hc e _=>k b u hc e) (λb u _ _ hc e _=>⟨u.slots,k b u hc e⟩) (λ_ _ _ _ n=>n)
  (λb u hc e=>⟨u,k b u hc e⟩) (λ_ _ e=>e) (λ_ _ _ e=>e) (λb ps e=>⟨#[],by rw[e];simp⟩) (λm hm=> ?_) (λb u e=> ?_) I.bare
 .obtain⟨f0,f1,f2,f3,f4,f5⟩:=hf b hb;exact⟨f3,f1,f4,f5⟩
 .obtain⟨ob,es,ep,ho,r⟩:=hm;exact⟨ob,es,ep,k _ ob (λz=>(hf _ z).2.1 rfl) ho,r⟩
 .refine(I.hok b u e).stay (λc v hc q=>k c v ?_ q) (λ_ q=>q) λ_ _ q=>q
  rcases hc with z|z
  .rw[z];exact nch b u e
  .exact nch c _ z
end
def Itz(K:cO5)(a b:Addr):It:=
 ⟨λi H=>∃xs ys x y,SqL K H a xs/\SqL K H b ys/\xs[i]?=some x/\ys[i]?=some y,
 λi H v H'=>∃x y p,(∀xs,SqL K H a xs->xs[i]?=some x)/\(∀ys,SqL K H b ys->ys[i]?=some y)/\H p=none/\H'=upd H p (.tup [x,y])/\v=.ref p,
 λi H=>∃xs ys,SqL K H a xs/\SqL K H b ys/\(xs.length<=i\/ys.length<=i)⟩
def Ite(K:cO5)(a:Addr):It:=
 ⟨λi H=>∃xs x,SqL K H a xs/\xs[i]?=some x,
 λi H v H'=>∃x p,(∀xs,SqL K H a xs->xs[i]?=some x)/\H p=none/\H'=upd H p (.tup [.int i,x])/\v=.ref p,
 λi H=>∃xs,SqL K H a xs/\xs.length<=i⟩
theorem bN3{P:Program}{w:World}{K:cO5}{es:List Expr}{k:Nat}{pos:Pos}{z TI TO i1 i2 l1 l2:Addr}(D:ZipApart z TI TO i1 i2 l1 l2):
  ba2 P w K (.Tuple es k pos) (Itz K l1 l2) [z,TI,TO,i1,i2] z (λi h=>IsZip h z TI TO .none/\IsPair h TI (.ref i1) (.ref i2)/\(∃a b,IsPair h TO a b)/\h.IsListIter i1 l1 i/\h.IsListIter i2 l2 i) where
 mem:=by simp
 obj:=λi h st b hb=>by
  obtain⟨h1,h2,⟨_,_,h3⟩,⟨o4,h4,_,d4⟩,⟨o5,h5,_,d5⟩⟩:=st;simp at hb;rcases hb with rfl|rfl|rfl|rfl|rfl
  .exact⟨_,h1,λv z=>by cases z⟩
  .exact⟨_,h2,λv z=>by cases z⟩
  .exact⟨_,h3,λv z=>by cases z⟩
  .exact⟨o4,h4,λv z=>by rw[d4]at z;cases z⟩
  .exact⟨o5,h5,λv z=>by rw[d5]at z;cases z⟩
 keep:=λi h h' st kk=>by
  obtain⟨h1,h2,⟨a,b,h3⟩,h4,h5⟩:=st;exact⟨kk z (by simp) _ h1,kk TI (by simp) _ h2,⟨a,b,kk TO (by simp) _ h3⟩,h4.at λo e=>kk i1 (by simp) o e,h5.at λo e=>kk i2 (by simp) o e⟩
 item:=by
  intro X hP hw hK hc i aA s Z H E I hf st hg;subst hP hw hK;obtain⟨xs,ys,x,y,hq1,hq2,hx,hy⟩:=hg;obtain⟨its1,rv1,p1,hz1⟩:=I.list hq1;obtain⟨its2,rv2,p2,hz2⟩:=I.list hq2;obtain⟨u1,hu1,ru1⟩:=rv1.get hx;obtain⟨u2,hu2,ru2⟩:=rv2.get hy;obtain⟨h1,h2,⟨a,b,h3⟩,h4,h5⟩:=st;refine wpAny_pyNext_zip_item D h1 h2 h3 h4 h5 p1.isList p2.isList (x:=u1) (y:=u2) (by simpa using hu1) (by simpa using hu2) λh' a1 a2 a3 a4 a5 a6 a7=> ?_
  refine⟨_,rfl,wpAny_letOwnedTupleGo_zip (s:={s with heap:=h'}) a1 λh2' b1 sb=> ?_⟩;have up:∀c o,c≠z->h'.get? c=some o->h2'.get? c=some o:=λc o hc e=>(sb.2 c hc).trans e
  (have lt:∀{c o},s.heap.get? c=some o->s.sz≠c:=λe=>cN4 (cD9 e));have hT:h2'.get? s.sz=some {cls:=.type "tuple",data:=.seq #[u1,u2]}:=up _ _ (lt h1) a5
  have I1:=I.turnedNew (t':=s.toks) (h':=h2') (ch:=[z,TI,TO,i1,i2]) (p:=s.sz) (o:=.tup [x,y]) (λc o hc e=>by
    simp at hc;exact up c o hc.1 (a7 c o hc.1 hc.2.2.1 hc.2.2.2.1 hc.2.2.2.2 e)) hf (cM3 _)
   ⟨by show 2<=sizeLine;decide,[u1,u2],.cons ru1 (.cons ru2 .nil),_,hT,rfl,_,rfl⟩
  refine⟨.ref s.sz,_,I1,rfl,⟨x,y,_,λxs' e=>by rw[I.list_inj e hq1];exact hx,λys' e=>by rw[I.list_inj e hq2];exact hy,I.hok.fresh (cM3 _),rfl,rfl⟩,
   ⟨b1,up _ _ D.TIz (a7 _ _ D.TIz D.TITO D.TIi1 D.TIi2 h2),⟨_,_,up _ _ D.TOz a2⟩,a3.at λo e=>up _ o D.i1z e,a4.at λo e=>up _ o D.i2z e⟩,λc hcm=> ?_⟩
  have hc0:=(hf c hcm).1;rw[l8 ?_]
  .exact hc0
  .intro e;subst e;simp at hcm;obtain⟨o4,g4,_⟩:=h4;obtain⟨o5,g5,_⟩:=h5;rcases hcm with q|q|q|q|q
   .exact lt h1 q
   .exact lt h2 q
   .exact lt h3 q
   .exact lt g4 q
   .exact lt g5 q
 done:=by
  intro X hP hw hK hc i aA s Z H E I hf st hg;subst hP hw hK;obtain⟨xs,ys,hq1,hq2,hend⟩:=hg;obtain⟨its1,rv1,p1,hz1⟩:=I.list hq1;obtain⟨its2,rv2,p2,hz2⟩:=I.list hq2;have l1:=rv1.length;have l2:=rv2.length;obtain⟨h1,h2,⟨a,b,h3⟩,h4,h5⟩:=st;refine wpAny_pyNext_zip_end (I.ok.hd hc) D h1 h2 h3 h4 h5 p1.isList p2.isList ?_ λh' a7=>⟨rfl,?_⟩
  .rcases hend with q|q
   .exact .inl (by simp;omega)
   .exact .inr (by simp;omega)
  .exact I.turnedL (t':=s.toks) (ch:=[z,TI,TO,i1,i2]) (λc o hc e=>by
    simp at hc;exact a7 c o hc.1 hc.2.2.1 hc.2.2.2.1 hc.2.2.2.2 e) hf
 self:=λ_ _ _ _ _ st h=>wpAny_pyIter_zip st.1 h
theorem bB6{P:Program}{w:World}{K:cO5}{es:List Expr}{k:Nat}{pos:Pos}{e it l:Addr}(hne:e≠it):
  ba2 P w K (.Tuple es k pos) (Ite K l) [e,it] e (λi h=>(∃old,IsEnum h e it i old)/\h.IsListIter it l i) where
 mem:=by simp
 obj:=λi h st b hb=>by
  obtain⟨⟨_,h1⟩,⟨o4,h4,_,d4⟩⟩:=st;simp at hb;rcases hb with rfl|rfl
  .exact⟨_,h1,λv z=>by cases z⟩
  .exact⟨o4,h4,λv z=>by rw[d4]at z;cases z⟩
 keep:=λi h h' st kk=>by
  obtain⟨⟨old,h1⟩,h4⟩:=st;exact⟨⟨old,kk e (by simp) _ h1⟩,h4.at λo q=>kk it (by simp) o q⟩
 item:=by
  intro X hP hw hK hc i aA s Z H E I hf st hg;subst hP hw hK;obtain⟨xs,x,hq1,hx⟩:=hg;obtain⟨its1,rv1,p1,hz1⟩:=I.list hq1;obtain⟨u1,hu1,ru1⟩:=rv1.get hx;obtain⟨⟨old,h1⟩,h4⟩:=st;refine wpAny_pyNext_enum_item h1 h4 p1.isList (x:=u1) (by simpa using hu1) hne λh' a1 a3 a5 a6 a7=> ?_
  refine⟨_,rfl,wpAny_letOwnedTupleGo_enum (s:={s with heap:=h',toks:=s.toks+1}) a1 λh2' b1 sb=> ?_⟩;have up:∀c o,c≠e->h'.get? c=some o->h2'.get? c=some o:=λc o hc q=>(sb.2 c hc).trans q
  have lt:∀{c o},s.heap.get? c=some o->s.sz≠c:=λq=>cN4 (cD9 q)
  have hT:h2'.get? s.sz=some {cls:=.type "tuple",data:=.seq #[.int i s.toks,u1]}:=up _ _ (lt h1) a5;have I1:=I.turnedNew (t':=s.toks+1) (h':=h2') (ch:=[e,it]) (p:=s.sz) (o:=.tup [.int i,x]) (λc o hc q=>by
    simp at hc;exact up c o hc.1 (a7 c o hc.1 hc.2 q)) hf (cM3 _)
   ⟨by show 2<=sizeLine;decide,[.int i s.toks,u1],.cons ⟨_,rfl⟩ (.cons ru1 .nil),_,hT,rfl,_,rfl⟩
  refine⟨.ref s.sz,_,I1,rfl,⟨x,_,λxs' q=>by rw[I.list_inj q hq1];exact hx,I.hok.fresh (cM3 _),rfl,rfl⟩,
   ⟨⟨_,by simpa using b1⟩,a3.at λo q=>up _ o (Ne.symm hne) q⟩,λc hcm=> ?_⟩
  have hc0:=(hf c hcm).1;rw[l8 ?_]
  .exact hc0
  .intro q;subst q;simp at hcm;obtain⟨o4,g4,_⟩:=h4;rcases hcm with q|q
   .exact lt h1 q
   .exact lt g4 q
 done:=by
  intro X hP hw hK hc i aA s Z H E I hf st hg;subst hP hw hK;obtain⟨xs,hq1,hend⟩:=hg;obtain⟨its1,rv1,p1,hz1⟩:=I.list hq1;have l1:=rv1.length;obtain⟨⟨old,h1⟩,h4⟩:=st;refine wpAny_pyNext_enum_end (I.ok.hd hc) h1 h4 p1.isList (by simp;omega) λh' eb=>⟨rfl,?_⟩
  exact I.turnedL (t':=s.toks) (ch:=[e,it]) (λc o hc q=>by
    simp at hc;exact eb c o hc.2 q) hf
 self:=λA i s Q E st h=>by
  obtain⟨⟨old,h1⟩,h4⟩:=st;exact wpAny_pyIter_enum h1 h
section
def cx1(K:cO5)(ta:TA):TI:=λZ H R=>ta Z H λvs H1=>∃a b,vs=[.ref a,.ref b]/\(∃xs,SqL K H1 a xs)/\(∃ys,SqL K H1 b ys)/\R (Itz K a b) H1
theorem ci5{a b:Expr}{ta:TA}{p pos:Pos}(hg:Gl X "zip")(hm:X.mg "zip"=none)(ha:PA X [a,b] ta)(hs:starEach [a,b] X.env=[(false,eval a X.env),(false,eval b X.env)])(hs2:starEach [b] X.env=[(false,eval b X.env)]):
  PI X (.Tuple es' k tp) (.Call (.Name "zip" p) [a,b] [] pos) (cx1 X.K ta):=by
 intro aA s Z H R I h;refine Call_ (ar0 I hg hm boot_zip (PyProof.Rows.callWith_type1 (thn (ha pos aA s Z H _ I h) λus s1 ⟨vs,H1,I1,r1,q1⟩=> ?_) (by rw[hs,hs2]) (by rw[hs2];rfl)));obtain⟨l1,l2,e,⟨xs,hq1⟩,⟨ys,hq2⟩,q⟩:=q1;subst e;cases r1 with
 |cons r rr=>
  cases rr with
  |cons r' rr=>
   cases rr;cases r;cases r';obtain⟨its1,rv1,p1,hz1⟩:=I1.list hq1;obtain⟨its2,rv2,p2,hz2⟩:=I1.list hq2;have lt1:l1<s1.sz:=by obtain⟨o,e,_⟩:=p1.isList;exact cD9 e
   have lt2:l2<s1.sz:=by obtain⟨o,e,_⟩:=p2.isList;exact cD9 e
   refine call_zip_2 p1.isList p2.isList λh' g1 g2 g3 g4 g5 g6 g7=> ?_
   refine wpAny_pyIter_zip (s:={s1 with heap:=h'}) g1 ?_;refine⟨s1.sz+4,[s1.sz+4,s1.sz+2,s1.sz+3,s1.sz,s1.sz+1],_,_,H1,rfl,I1.kept (t':=s1.toks) g7,bN3 (l1:=l1) (l2:=l2) ?_,⟨g1,g2,⟨_,_,g3⟩,g4,g5⟩,λb hb=> ?_,q⟩
   .have l1':=cN9 lt1;have l2':=cN9 lt2;constructor<;>(intro z;have z':(_:Nat)=_:=z;omega)
   .have hb':s1.sz<=b:=by
     simp at hb;rcases hb with rfl|rfl|rfl|rfl|rfl<;>first |exact cM3 _|exact Nat.le_add_right _ _
    exact I1.fpOk hb' (I1.hok.fresh hb')
def cr8(K:cO5)(ta:TA):TI:=λZ H R=>ta Z H λvs H1=>∃a,vs=[.ref a]/\(∃xs,SqL K H1 a xs)/\R (Ite K a) H1
theorem cb1{a:Expr}{ta:TA}{p pos:Pos}(hg:Gl X "enumerate")(hm:X.mg "enumerate"=none)(ha:PA X [a] ta)(hs:starEach [a] X.env=[(false,eval a X.env)]):
  PI X (.Tuple es' k tp) (.Call (.Name "enumerate" p) [a] [] pos) (cr8 X.K ta):=by
 intro aA s Z H R I h;refine Call_ (ar0 I hg hm boot_enumerate (PyProof.Rows.callWith_type1 (thn (ha pos aA s Z H _ I h) λus s1 ⟨vs,H1,I1,r1,q1⟩=> ?_) hs rfl));obtain⟨l1,e,⟨xs,hq1⟩,q⟩:=q1;subst e;cases r1 with
 |cons r rr=>
  cases rr;cases r;obtain⟨its1,rv1,p1,hz1⟩:=I1.list hq1;refine call_enumerate_list p1.isList λh' g1 g4 g6 g7=> ?_
  refine wpAny_pyIter_enum (s:={s1 with heap:=h'}) g1 ?_;refine⟨s1.sz+1,[s1.sz+1,s1.sz],_,_,H1,rfl,I1.kept (t':=s1.toks) g7,bB6 (l:=l1) (Nat.succ_ne_self _),⟨⟨_,g1⟩,g4⟩,λb hb=> ?_,q⟩;have hb':s1.sz<=b:=by
   simp at hb;rcases hb with rfl|rfl<;>first |exact cM3 _|exact Nat.le_add_right _ _
  exact I1.fpOk hb' (I1.hok.fresh hb')
end
noncomputable def ag5(env:Env)(names:List (Str×NameKind))(cs:List (Str×Addr)):List (Str×Addr):=
 names.foldl (λcs x=>if x.2==.free then(x.1,(env.cells.lookup x.1).getD 0)::cs else cs) cs
theorem ad2(env:Env):∀(names:List (Str×NameKind)) (cs:List (Str×Addr)),(∀x∈names,x.2=.free->∃c,env.cells.lookup x.1=some c)->
  (forIn names cs (λ(x:Str×NameKind) (r:List (Str×Addr))=>if(x.2==.free)=true then do let a<-cellOf env x.1;pure (ForInStep.yield ((x.1,a)::r))else pure (ForInStep.yield r)):Sem (List (Str×Addr)))=pure (ag5 env names cs)
 |[],cs,_=>by simp[ag5]
 |(n,k)::r,cs,h=>by
  rw[cI0];by_cases hk:k=.free
  .subst hk;obtain⟨c,hc⟩:=h (n,.free) cK7 rfl;have e1:cellOf env n=pure c:=by
    have hc':env.cells.lookup n=some c:=hc;simp only[cellOf,hc']
   simp only[e1,cO7,if_true,pure_bind];rw[ad2 env r _ λx hx=>h x (cK6 _ hx)];simp only[ag5,cB6,cO7,if_true,hc,Option.getD_some]
  .have hb:(k==NameKind.free)=false:=by simpa using hk
   simp only[hb,cD0,if_false,pure_bind];rw[ad2 env r _ λx hx=>h x (cK6 _ hx)];simp only[ag5,cB6,hb,cD0,if_false]
theorem bz5(h:∀x∈scope.names,x.2=.free->∃c,env.cells.lookup x.1=some c):closureFor scope env=pure (ag5 env scope.names []):=by
 have q:=ad2 env scope.names [] h;unfold closureFor;refine Eq.trans ?_ (congrArg (λm=>m>>=pure) q|>.trans (by simp));rfl
theorem az7:∀{names:List (Str×NameKind)}{cs:List (Str×Addr)}{x:Str}{c:Addr},(∀y∈names,y.2=.free->∃c,env.cells.lookup y.1=some c)->(∀x c,cs.lookup x=some c->env.cells.lookup x=some c)->
  (ag5 env names cs).lookup x=some c->env.cells.lookup x=some c
 |[],_,_,_,_,hc,e=>hc _ _ e
 |(n,k)::r,cs,x,c,h,hc,e=>by
  have h':∀y∈r,y.2=.free->∃c,env.cells.lookup y.1=some c:=λy hy=>h y (cK6 _ hy)
  by_cases hk:k=.free
  .subst hk;obtain⟨c0,hc0⟩:=h (n,.free) cK7 rfl;refine az7 (cs:=(n,c0)::cs) h' (λz d ez=> ?_) (by simpa only[ag5,cB6,cO7,if_true,hc0,Option.getD_some]using e);rw[cJ9]at ez;cases hz:z==n with
   |true=>rw[hz]at ez;cases ez;have :=eq_of_beq hz;subst this;exact hc0
   |false=>rw[hz]at ez;exact hc z d ez
  .have hb:(k==NameKind.free)=false:=by simpa using hk
   exact az7 (cs:=cs) h' hc (by simpa only[ag5,cB6,hb,cD0,if_false]using e)
theorem aF6:∀{names:List (Str×NameKind)}{cs:List (Str×Addr)}{x:Str},(∀y∈names,y.2=.free->∃c,env.cells.lookup y.1=some c)->((x,.free)∈names\/∃c,cs.lookup x=some c)->
  ∃c,(ag5 env names cs).lookup x=some c
 |[],_,_,_,h=>by simpa[ag5]using h
 |(n,k)::r,cs,x,hh,h=>by
  have h':∀y∈r,y.2=.free->∃c,env.cells.lookup y.1=some c:=λy hy=>hh y (cK6 _ hy)
  by_cases hk:k=.free
  .subst hk;obtain⟨c0,hc0⟩:=hh (n,.free) cK7 rfl;have e:ag5 env ((n,.free)::r) cs=ag5 env r ((n,c0)::cs):=by simp only[ag5,cB6,cO7,if_true,hc0,Option.getD_some]
   rw[e];by_cases hx:x=n
   .subst hx;exact aF6 h' (.inr ⟨c0,by simp[cJ9]⟩)
   .refine aF6 h' ?_;rcases h with h|⟨c,h⟩
    .rcases cA9 h with q|q
     .cases q;exact absurd rfl hx
     .exact .inl q
    .exact .inr ⟨c,by rw[cJ9,cB1 hx];exact h⟩
  .have hb:(k==NameKind.free)=false:=by simpa using hk
   have e:ag5 env ((n,k)::r) cs=ag5 env r cs:=by simp only[ag5,cB6,hb,cD0,if_false]
   rw[e];refine aF6 h' ?_;rcases h with h|h
   .rcases cA9 h with q|q
    .cases q;exact absurd rfl hk
    .exact .inl q
   .exact .inr h
noncomputable abbrev Nev:Value->Shared->Prop:=λ_ _=>False
noncomputable abbrev cd5(M:Model)(A:Around)(elt target:Expr)(ifs:List Expr)(it acc:Value)(env:Env)(v:Value)(K:Shared->Prop)(s0:Shared):Prop:=
 wpAny M A (letOwnedTupleGo target it v) (λ_ s1=>wpAny M A (assign target env v) (λ_ s2=>
  wpAny M A (forIn ifs true λc r=>(if r=true then do{let ok<-isTrue c env (eval c env);pure (ForInStep.yield ok)}else pure (ForInStep.yield r))) (λyes s3=>
   if yes=true then wpAny M A (eval elt env) (λx s4=>wpAny M A (call (.builtin "list.append") [acc,x]) (λ_ s5=>K s5) Nev s4) Nev s3 else K s3) Nev s2) Nev s1) Nev s0
theorem never(h:wpAny M A m Q Nev s)(k:∀a s1,Q a s1->Q' a s1):wpAny M A m Q' E s:=
 cP6 h k (λ_ _ z=>z.elim)
theorem aF5(J:Nat->Shared->Prop)
  (turn:∀n s,J n s->wpAny (model P w) A (pyNext it) (λr s1=>match r with
   |none=>R (.ok .next) s1
   |some v=>cd5 (model P w) A elt target ifs it acc env v (λs2=>∃m,m<n/\J m s2) s1) Nev s) (n:Nat) (h:J n s):
  codeAny (model P w) A (.compLoop (.ListComp elt [⟨target,iter,ifs,0⟩] scope pos) 0 it acc env) R s:=by
 refine codeAny_loop rfl J (λk s1 hk=> ?_) n h;refine wpAny_noted ?_;show wpAny _ _ (compTurn (.ListComp elt [⟨target,iter,ifs,0⟩] scope pos) 0 it acc env) _ _ _;rw[compTurn_list];refine cP3 (wpAny_standAt (cP3 (never (turn k s1 hk) (λr s2 h2=> ?_))));rcases r with _|v
 . (exact cP8 h2)
 .refine cP3 (never h2 (λ_ s3 h3=>cP3 (never h3 (λ_ s4 h4=>cP3 (never h4 (λyes s5 h5=> ?_))))));rcases yes with _|_
  .exact cP8 (.intro rfl h5)
  .exact cP3 (cP3 (never h5 (λx s6 h6=>cP3 (never h6 (λ_ s7 h7=>cP8 (cP8 (.intro rfl h7)))))))
noncomputable def O7(oc:Option Str)(X:Cx)(scope:Scope)(cl:List (Str×Addr))(C:Addr)(N':List Str)(sd:Shared)(Ho:Hp)(fp:List Addr):Cx where
 prog:=X.prog
 w:=X.w
 K:=X.K
 mg:=X.mg
 aD:=X.aD
 A:=X.A
 N:=N'
 sd:=sd
 Ho:=Ho
 env:=compEnvC scope cl C X.env
 aE:=X.stack
 stack:=X.stack
 ex:=fp
 fn:=λx=>oc==some x
 calm:=X.calm
 pn:=[]
 xe:=λ_ _=>False
noncomputable abbrev K8:=O7 none
noncomputable def X4(nT:Nat)(aC:List Nat)(Z:St):St:=List.replicate nT none++aC.map λi=>(Z[i]?).join
noncomputable def ax3(oc:Option Str)(sc:Scope)(N:List Str)(scope:Scope)(N':List Str)(nT:Nat)(aC:List Nat):Bool:=
 (match scope.kind with |.function=>true|_=>false)&&
 ((scope.names.filter λy=>y.2==.cell).map (·.1)==oc.toList)&&
 scope.names.all (λy=>(y.2 !=.local||scope.names.lookup y.1==some .local)&&(y.2 !=.free||(oc !=some y.1&&(sc.names.lookup y.1==some .cell||sc.names.lookup y.1==some .free))))&&
 N'.length==nT+aC.length&&
 (aC.zip (N'.drop nT)).all (λy=>N[y.1]?==some y.2&&(sc.names.lookup y.2==some .cell||sc.names.lookup y.2==some .free)&&scope.names.lookup y.2==some .free)
noncomputable abbrev ah6:=ax3 none
theorem aH4{env:Env}:∀{names:List (Str×NameKind)}{x:Str},names.lookup x=some .free->
  (names.map λ(n,k)=>if(k==NameKind.free&&env.scope.kind==.function&&env.kindOf n==some .cell)then(n,NameKind.cell)else(n,k)).lookup x=some .cell\/
  (names.map λ(n,k)=>if(k==NameKind.free&&env.scope.kind==.function&&env.kindOf n==some .cell)then(n,NameKind.cell)else(n,k)).lookup x=some .free
 |[],_,h=>by simp at h
 |(n,k)::r,x,h=>by
  have ih:= @aH4 env r x;rw[cB4];dsimp only;cases hx:x==n with
  |true=>
   (simp only[cJ9,hx]at h);cases h
   by_cases hc:(NameKind.free==NameKind.free&&env.scope.kind==.function&&env.kindOf n==some .cell)=true
   .left;rw[cP2 hc];simp only[cJ9,hx]
   .right;rw[cP1 hc];simp only[cJ9,hx]
  |false=>
   (simp only[cJ9,hx]at h);(by_cases hc:(k==NameKind.free&&env.scope.kind==.function&&env.kindOf n==some .cell)=true)
   . (rw[cP2 hc];simp only[cJ9,hx];exact ih h)
   . (rw[cP1 hc];simp only[cJ9,hx];exact ih h)
theorem az3{env:Env}{oc:Option Str}:∀{names:List (Str×NameKind)}{x:Str}{k:NameKind},
  (names.map λ(n,k)=>if(k==NameKind.free&&env.scope.kind==.function&&env.kindOf n==some .cell)then(n,NameKind.cell)else(n,k)).lookup x=some k->(k=.cell\/k=.free)->(∀y∈names,y.2=.cell->oc=some y.1)->oc=some x\/(x,.free)∈names
 |[],_,_,h,_,_=>by simp at h
 |(n,k0)::r,x,k,h,hk,hn=>by
  have ih:= @az3 env oc r x k;rw[cB4]at h;dsimp only at h;have hn':∀y∈r,y.2=.cell->oc=some y.1:=λy hy=>hn y (cK6 _ hy)
  cases hx:x==n with
  |true=>
   have e:=eq_of_beq hx;subst e;by_cases hc:(k0==NameKind.free&&env.scope.kind==.function&&env.kindOf x==some .cell)=true
   .have :k0=.free:=by
     cases hq:k0==NameKind.free with
     |true=>exact eq_of_beq hq
     |false=>rw[hq]at hc;simp at hc
    subst this;exact .inr cK7
   .rw[cP1 hc]at h
    (simp only[cJ9,hx]at h);cases h
    rcases hk with rfl|rfl
    .exact .inl (hn (x,.cell) cK7 rfl)
    .exact .inr cK7
  |false=>
   by_cases hc:(k0==NameKind.free&&env.scope.kind==.function&&env.kindOf n==some .cell)=true
   .rw[cP2 hc]at h;simp only[cJ9,hx]at h;exact(ih h hk hn').imp id λz=>cK6 _ z
   .rw[cP1 hc]at h;simp only[cJ9,hx]at h;exact(ih h hk hn').imp id λz=>cK6 _ z
noncomputable def bz6:Obj:={cls:=.type "cell",data:=.cell none}
noncomputable def aM5(oc:Option Str)(h:Heap):Heap:=match oc with
 |none=>h
 |some _=>h.push bz6
noncomputable abbrev aR7(x:Str×NameKind)(r:List (Str×Addr)):Sem (ForInStep (List (Str×Addr))):=match x with
 |(name,kind)=>if(kind==NameKind.cell)=true then do
   let a<-alloc bz6
   pure (ForInStep.yield ((name,a)::r))
  else pure (ForInStep.yield r)
theorem aR6:∀(oc:Option Str) (names:List (Str×NameKind)) (cs:List (Str×Addr)) (s:Shared),(names.filter λy=>y.2==.cell).map (·.1)=oc.toList->
  Q (oc.toList.map (λx=>(x,s.heap.objs.size))++cs) {s with heap:=aM5 oc s.heap}->wpAny M A (forIn names cs aR7) Q E s
 |none,[],cs,s,_,q=>by rw[List.forIn_nil];exact cP8 q
 |some _,[],cs,s,h,_=>by cases h
 |oc,(n,k)::r,cs,s,h,q=>by
  rw[cI0];show wpAny M A (aR7 (n,k) cs>>=_) Q E s;unfold aR7;dsimp only;cases hk:k==NameKind.cell with
  |false=>
   rw[cH7,cP1 (by show¬(k==NameKind.cell)=true;rw[hk];decide)]at h;simp only[cD0,if_false,pure_bind];exact aR6 oc r cs s h q
  |true=>
   rw[cH7,cP2 (by exact hk),cB4]at h;cases oc with
   |none=>cases h
   |some x0=>
    injection h with h1 h2
    have h1:n=x0:=h1;subst h1;simp only[if_true,bind_assoc,pure_bind];exact cP3 (wpAny_alloc (aR6 none r _ _ h2 q))
theorem ck4(h1:(scope.names.filter λy=>y.2==.cell).map (·.1)=oc.toList)
  (h:Q {scope:=scope,locals:=s.heap.objs.size,globals:=globals,cells:=oc.toList.map (λx=>(x,s.heap.objs.size+1))++closure,qual:=qual,func:=none,code:=env.code,frame:=env.frame,builtins:=env.builtins} {s with heap:=aM5 oc (s.heap.push {cls:=.type "dict",data:=.dict #[]})}):
  wpAny M A (newFunctionEnv scope globals closure [] qual none .none (some env)) Q E s:=by
 unfold newFunctionEnv;refine cP3 (wpAny_alloc ?_);refine cP3 (aR6 oc scope.names closure _ h1 ?_);have sz:(s.heap.push {cls:=.type "dict",data:=.dict #[]}).objs.size=s.heap.objs.size+1:=by
  show(s.heap.objs.push _).size=_;simp
 simp only[List.forIn_nil,pure_bind];refine cP8 ?_;show Q {scope:=scope,locals:=s.heap.objs.size,globals:=globals,cells:=oc.toList.map (λx=>(x,(s.heap.push {cls:=.type "dict",data:=.dict #[]}).objs.size))++closure,qual:=qual,func:=none,code:=env.code,frame:=env.frame,builtins:=env.builtins} _;rw[sz];exact h
noncomputable def aS0(X:Cx)(ifs:List Expr)(t:TT):Prop:=
 ∀(aA:List (Addr×Obj)) (s:Shared) (Z:St) (H:Hp) (Q:Bool->Hp->Prop),Inv X aA Z H s->t Z H Q->
  wpAny (model X.prog X.w) X.A (forIn ifs true λc r=>if r=true then do let ok<-isTrue c X.env (eval c X.env);pure (ForInStep.yield ok)else pure (ForInStep.yield r)) (TP X aA Z Q) X.xe s
noncomputable def cu7:TT:=λ_ H Q=>Q true H
theorem bR5:aS0 X [] cu7:=λ_ _ _ H _ I h=>wpAny_tests_nil ⟨H,I,h⟩
theorem bR4(h:PT X c t):aS0 X [c] t:=λaA s Z H Q I q=>wpAny_tests_one (h aA s Z H Q I q)
noncomputable def Sub(Z Z':St):Prop:=Z'.length=Z.length/\∀(i:Nat) v,Z[i]?=some (some v)->Z'[i]?=some (some v)
noncomputable def tLC(wi:TI)(g:TG)(tc:TT)(te:TE)(nT:Nat)(aC:List Nat):TE:=λZ H Q=>wi Z H λJ H1=>∀a,H1 a=none->
 ∃W:Nat->Nat->List V->Hp->Prop,(∃m,W 0 m [] (upd H1 a (.lst [])))/\∀i m ys H,W i m ys H->
  (J.stop i H/\Q (.ref a) H)\/(J.go i H/\∀x H',J.yld i H x H'->g x (X4 nT aC Z) H' λZ2 H2=>Sub (X4 nT aC Z) Z2/\tc Z2 H2 λc H3=>
   if c=true then te Z2 H3 λv H4=>H4 a=some (.lst ys)/\ys.length<sizeLine/\∃m',m'<m/\W (i+1) m' (ys++[v]) (upd H4 a (.lst (ys++[v])))else∃m',m'<m/\W (i+1) m' ys H3)
structure cy2(X:Cx)(aA:List (Addr×Obj))(H:Hp)(C:Addr):Prop where
 hn:H C=none
 hL:C≠X.env.locals
 h1:C∈X.ex\/X.sd.heap.objs.size<=C
 h2:∀x c,X.env.cells.lookup x=some c->c≠C
 h3:∀p∈X.pn++aA,p.1≠C
structure bX4(ok:Cx->Prop)(P:Program)(w:World)(K:cO5)(tg:Expr)(J:It)(fp:List Addr)(it:Addr)(tn:Nat->Heap->Prop):Prop where
 mem:it∈fp
 obj:∀i h,tn i h->∀b∈fp,∃o,h.get? b=some o/\∀v,o.data≠.cell v
 keep:∀i h h',tn i h->(∀b∈fp,∀o,h.get? b=some o->h'.get? b=some o)->tn i h'
 item:∀(X:Cx),X.prog=P->X.w=w->X.K=K->ok X->∀(i:Nat) (aA:List (Addr×Obj)) (s:Shared) (Z:St) (H:Hp) (E:Value->Shared->Prop),Inv X aA Z H s->(∀b∈fp,as8 X aA H b)->tn i s.heap->J.go i H->
  wpAny (model P w) X.A (pyNext (.ref it)) (λr s1=>∃u,r=some u/\
   wpAny (model P w) X.A (letOwnedTupleGo tg (.ref it) u) (λ_ s2=>∃x H',Inv X aA Z H' s2/\D0 x u/\J.yld i H x H'/\tn (i+1) s2.heap/\∀b∈fp,H' b=none) E s1) E s
 done:∀(X:Cx),X.prog=P->X.w=w->X.K=K->ok X->∀(i:Nat) (aA:List (Addr×Obj)) (s:Shared) (Z:St) (H:Hp) (E:Value->Shared->Prop),Inv X aA Z H s->(∀b∈fp,as8 X aA H b)->tn i s.heap->J.stop i H->
  wpAny (model P w) X.A (pyNext (.ref it)) (λr s1=>r=none/\Inv X aA Z H s1) E s
 self:∀(A:Around) (i:Nat) (s:Shared) (Q:Value->Shared->Prop) (E:Value->Shared->Prop),tn i s.heap->Q (.ref it) s->wpAny (model P w) A (pyIter (.ref it)) Q E s
noncomputable def cx9(ok:Cx->Prop)(X:Cx)(aA:List (Addr×Obj))(Z:St)(tg:Expr)(R:It->Hp->Prop)(itv:Value)(s2:Shared):Prop:=
 ∃(it:Addr) (fp:List Addr) (tn:Nat->Heap->Prop) (J:It) (H':Hp),itv=.ref it/\Inv X aA Z H' s2/\bX4 ok X.prog X.w X.K tg J fp it tn/\tn 0 s2.heap/\(∀b∈fp,as8 X aA H' b)/\R J H'
noncomputable def PIx(ok:Cx->Prop)(X:Cx)(tg iter:Expr)(wi:TI):Prop:=
 ∀(aA:List (Addr×Obj)) (s:Shared) (Z:St) (H:Hp) (R:It->Hp->Prop),Inv X aA Z H s->wi Z H R->
  wpAny (model X.prog X.w) X.A (eval iter X.env) (λv s1=>wpAny (model X.prog X.w) X.A (pyIter v) (cx9 ok X aA Z tg R) X.xe s1) X.xe s
theorem PI.x(h:PI X tg iter wi):PIx (λX=>X.calm=true) X tg iter wi:=λaA s Z H R I q=>
 thn (h aA s Z H R I q) λv s1 h1=>thn h1 λitv s2 ⟨it,fp,tn,J,H',e,I2,T,r⟩=>⟨it,fp,tn,J,H',e,I2,⟨T.mem,T.obj,T.keep,T.item,T.done,T.self⟩,r⟩
theorem bl7{X:Cx}{oc:Option Str}{elt target iter:Expr}{ifs:List Expr}{scope:Scope}{pos:Pos}{wi:TI}{g:TG}{tc:TT}{te:TE}(N':List Str)(nT:Nat)(aC:List Nat)
  {ok:Cx->Prop}(hokc:∀cl C fp aA Z H s,Inv X aA Z H s->(∀b∈fp,b∈X.ex\/X.sd.heap.objs.size<=b)->ok (O7 oc X scope cl C N' s H fp)) (chk:ax3 oc X.env.scope X.N scope N' nT aC=true) (hi:PIx ok X target iter wi)
  (hg:∀cl C sd Ho fp,PG (O7 oc X scope cl C N' sd Ho fp) target g) (hc:∀cl C sd Ho fp,aS0 (O7 oc X scope cl C N' sd Ho fp) ifs tc) (he:∀cl C sd Ho fp,PE (O7 oc X scope cl C N' sd Ho fp) elt te)
  (hs:NFo X iter){aA:List (Addr×Obj)}{s:Shared}{Z:St}{H:Hp}{Q:VK}(I:Inv X aA Z H s) (h:tLC wi g tc te nT aC Z H Q)
  {use:Option (Value->Sem Unit)}{Q':Value->Shared->Prop}{ps:Pos}
  (fin:∀(a C:Addr) (H5:Hp) (s6:Shared),Inv X aA Z H5 s6->(∃m,s6.heap.Ns C m)->cy2 X aA H5 C->Q (.ref a) H5->compPost (model X.prog X.w) X.A X.xe use Q' (.ref a) C (.ok .next) s6):
  wpAny (model X.prog X.w) X.A (comprehension (.ListComp elt [⟨target,iter,ifs,0⟩] scope pos) scope X.env ps (newList []) false (eval iter X.env) use) Q' X.xe s:=by
 simp only[ax3,cC7,cG7,beq_iff_eq]at chk;obtain⟨⟨⟨⟨ck,c1⟩,cn⟩,cl0⟩,cc⟩:=chk;have kind:scope.kind=.function:=by
  revert ck;cases scope.kind<;>simp
 have ocell:∀y∈scope.names,y.2=.cell->oc=some y.1:=λy hy e=>by
  have :y∈scope.names.filter λy=>y.2==.cell:=List.mem_filter.mpr ⟨hy,by rw[e];rfl⟩
  have :y.1∈(scope.names.filter λy=>y.2==.cell).map (·.1):=List.mem_map.mpr ⟨y,this,rfl⟩;rw[c1]at this;cases oc with
  |none=>cases this
  |some x0=>rw[List.mem_singleton.mp this]
 have locs:∀y∈scope.names,y.2=.local->scope.names.lookup y.1=some .local:=λy hy e=>by
  have :=(cn y hy).1;simpa[e]using this
 have capb:∀y∈scope.names,y.2=.free->oc≠some y.1/\(X.env.kindOf y.1=some .cell\/X.env.kindOf y.1=some .free):=λy hy e=>by
  have :=(cn y hy).2;simp only[e,bne_self_eq_false,Bool.false_or,cC7,bne_iff_ne,ne_eq,cD3,beq_iff_eq]at this;exact this
 have capk:∀y∈scope.names,y.2=.free->(X.env.kindOf y.1=some .cell\/X.env.kindOf y.1=some .free):=λy hy e=>(capb y hy e).2
 have hcap:∀y∈scope.names,y.2=.free->∃c,X.env.cells.lookup y.1=some c:=λy hy e=>I.ok.has y.1 (capk y hy e)
 refine wpAny_comprehension_free (use:=use) rfl hs (bz5 hcap) kind locs (thn (hi aA s Z H _ I h) λv s1 h1=>thn h1 λitv s2 h2=> ?_);obtain⟨it,fp,tn,J,H2,rfl,I2,T,st2,f2,hq⟩:=h2
 (refine cP7 ?_ (by size_fits));have hfr:H2 s2.heap.objs.size=none:=I2.hok.fresh (cM3 _)
 have I3:Inv X aA Z (upd H2 s2.heap.objs.size (.lst [])) {s2 with heap:=s2.heap.push {cls:=.type "list",dict:=none,data:=.seq ([]:List Value).toArray}}:=
  I2.laid (t':=s2.toks) (λb u e=>cD5 _ e) (cM3 _) ⟨cO2 _,[],0,.nil,cD6 _ rfl⟩
 have fpo:∀b∈fp,∃o,s2.heap.get? b=some o/\∀v,o.data≠.cell v:=T.obj _ _ st2;have fplt:∀b∈fp,b<s2.heap.objs.size:=λb hb=>by obtain⟨o,e,_⟩:=fpo b hb;exact cD9 e
 generalize ha:s2.heap.objs.size=a at *;generalize hs3:({s2 with heap:=s2.heap.push {cls:=.type "list",dict:=none,data:=.seq ([]:List Value).toArray}}:Shared)=s3 at *;have st3:tn 0 s3.heap:=by rw[<-hs3];exact T.keep _ _ _ st2 λb _ o e=>cD5 _ e
 have fpo3:∀b∈fp,∃o,s3.heap.get? b=some o/\∀v,o.data≠.cell v:=T.obj _ _ st3;have fr3:∀b∈fp,upd H2 a (.lst []) b=none:=λb hb=>by rw[l8 (cN5 (fplt b hb))];exact(f2 b hb).1
 refine ck4 c1 ?_;obtain⟨W,⟨m0,w0⟩,turn⟩:=hq a hfr;have szC:(s3.heap.push {cls:=.type "dict",data:=.dict #[]}).objs.size=s3.heap.objs.size+1:=by
  show(s3.heap.objs.push _).size=_;simp
 have hns1:(aM5 oc (s3.heap.push {cls:=.type "dict",data:=.dict #[]})).Ns s3.heap.objs.size λ_=>none:=by
  cases oc with
  |none=>exact Heap.Ns.new _ _
  |some _=>exact(Heap.Ns.new _ _).push _
 have keep1:∀b o,s3.heap.get? b=some o->(aM5 oc (s3.heap.push {cls:=.type "dict",data:=.dict #[]})).get? b=some o:=λb o e=>by
  cases oc with
  |none=>exact cD5 _ e
  |some _=>exact cD5 _ (cD5 _ e)
 have cell0:∀x,oc=some x->(aM5 oc (s3.heap.push {cls:=.type "dict",data:=.dict #[]})).IsCell (s3.heap.objs.size+1) none:=λx e=>by
  rw[e,<-szC];exact⟨bz6,cD6 _ rfl,rfl⟩
 generalize hh1:aM5 oc (s3.heap.push {cls:=.type "dict",data:=.dict #[]})=h₁ at *;generalize hC:s3.heap.objs.size=C at *;generalize hcl0:ag5 X.env scope.names []=cl0' at *;have clsub0:∀x c,cl0'.lookup x=some c->X.env.cells.lookup x=some c:=λx c e=>by
  rw[<-hcl0]at e;exact az7 hcap (λx c e=>by simp at e) e
 have clhas0:∀x,(x,.free)∈scope.names->∃c,cl0'.lookup x=some c:=λx hx=>by
  rw[<-hcl0];exact aF6 hcap (.inl hx)
 generalize hcl:oc.toList.map (λx=>(x,C+1))++cl0'=cl at *;have clsplit:∀x c,cl.lookup x=some c->(oc=some x/\c=C+1)\/(oc≠some x/\X.env.cells.lookup x=some c):=λx c e=>by
  rw[<-hcl]at e;cases oc with
  |none=>exact .inr ⟨(nomatch ·),clsub0 x c e⟩
  |some x0=>
   have e:((x0,C+1)::cl0').lookup x=some c:=e;rw[cJ9]at e;cases hx:x==x0 with
   |true=>rw[hx]at e;cases e;exact .inl ⟨by rw[eq_of_beq hx],rfl⟩
   |false=>rw[hx]at e;exact .inr ⟨λz=>beq_eq_false_iff_ne.mp hx (cO4 z).symm,clsub0 x c e⟩
 have clhas:∀x,(x,.free)∈scope.names->∃c,cl.lookup x=some c:=λx hx=>by
  obtain⟨c,h⟩:=clhas0 x hx;refine⟨c,?_⟩;have ne:=(capb _ hx rfl).1;rw[<-hcl];cases oc with
  |none=>exact h
  |some x0=>
   show((x0,C+1)::cl0').lookup x=_;rw[cJ9,cB1 λz=>ne (by rw[z])];exact h
 have clx0:∀x,oc=some x->cl.lookup x=some (C+1):=λx e=>by
  rw[<-hcl,e];show((x,C+1)::cl0').lookup x=_;rw[cJ9,cO7]
 have ltC:∀b o,s3.heap.get? b=some o->b<C:=λb o e=>by rw[<-hC];exact cD9 e
 have cellC:∀x c,X.env.cells.lookup x=some c->c<C:=λx c e=>by
  obtain⟨v,o,ho,_⟩:=I3.cell x c e;exact ltC c o ho
 have I4:Inv (O7 oc X scope cl C N' s3 (upd H2 a (.lst [])) fp) [] (X4 nT aC Z) (upd H2 a (.lst [])) {s3 with heap:=h₁}:=by
  refine⟨⟨I.ok.mod,kind,I.ok.glob,I.ok.blt,by rw[<-hC];exact cM3 _,λx y c e1 e2=> ?_,λx hx=> ?_,(λx c z e=> ?_),I.ok.hd,I.ok.frames,.inl rfl,λb hb=>⟨?_,λx c e=> ?_⟩,
   I3.bs,cM5 I.ok.bsz I3.sz,λb o e z=> ?_,λb hb z=> ?_,I3.stack,I3.stkFree⟩,rfl,I3.bare,Un.kept keep1,⟨_,hns1,λi x v e1 e2 e3=> ?_⟩,λx c e=> ?_,?_,λx c e=> ?_,λp hp=>absurd (show p∈([]:List (Addr×Obj))from hp) (by simp),I3.hok.kept keep1,?_⟩
  .rcases clsplit x c e1 with⟨a1,a2⟩|⟨a1,a2⟩
   .rcases clsplit y c e2 with⟨b1,b2⟩|⟨b1,b2⟩
    .exact cO4 (a1.symm.trans b1)
    .exact absurd (cellC y c b2) (by rw[a2];exact Nat.not_lt.mpr (cM4 C))
   .rcases clsplit y c e2 with⟨b1,b2⟩|⟨b1,b2⟩
    .exact absurd (cellC x c a2) (by rw[b2];exact Nat.not_lt.mpr (cM4 C))
    .exact I.ok.inj x y c a2 b2
  .rcases hx.elim (λq=>az3 q (.inl rfl) ocell) (λq=>az3 q (.inr rfl) ocell)with q|q
   .exact⟨_,clx0 x q⟩
   .exact clhas x q
  .have hx:oc=some x:=eq_of_beq z;have e:cl.lookup x=some c:=e;rw[clx0 x hx]at e;cases e;show s3.heap.objs.size<=C+1;rw[hC];exact cM4 _
  .exact cN5 (by obtain⟨o,q,_⟩:=fpo3 b hb;exact ltC b o q)
  .rcases clsplit x c e with⟨_,a2⟩|⟨_,a2⟩
   .rw[a2];obtain⟨o,q,_⟩:=fpo3 b hb;have :=ltC b o q;exact λz=>absurd this (by rw[<-z];exact Nat.not_lt.mpr (cM4 C))
   .exact(f2 b hb).2.2.2.2.1 x c a2
  .rcases(f2 b z).2.2.2.1 with q|q
   .exact I.ok.noex b o e q
   .exact absurd (cM7 (cD9 e) (cM5 I.ok.bsz q)) (cM6 _)
  .rcases cA9 (I3.stkSub b z)with q|q
   .exact(f2 b hb).2.1 q
   .exact(f2 b hb).2.2.1 q
  .have hi':nT<=i:=by
    by_cases hlt:i<nT
    .exfalso;unfold X4 at e2;rw[cI1 (by simpa using hlt),cI7,cP2 hlt]at e2;cases e2
    .omega
   unfold X4 at e2;rw[cI2 (by simpa using hi'),cJ5,cI5]at e2;cases ec:aC[i-nT]? with
   |none=>rw[ec]at e2;cases e2
   |some i0=>
    rw[ec]at e2;have e2':(Z[i0]?).join=some v:=cO4 e2;have es:Z[i0]?=some (some v):=by
     cases q:Z[i0]? with
     |none=>rw[q]at e2';cases e2'
     |some o=>rw[q]at e2';cases o with
      |none=>cases e2'
      |some v'=>cases e2';rfl
    have e1':N'[i]?=some x:=e1;have hz:(i0,x)∈aC.zip (N'.drop nT):=by
     refine cK9 (i:=i-nT) ?_;rw[cJ0];refine⟨ec,?_⟩;rw[List.getElem?_drop,<-e1'];congr 1;omega
    obtain⟨⟨c1,c2⟩,c3⟩:=cc _ hz;simp only[cD3,beq_iff_eq]at c2;obtain⟨m,hn,hl⟩:=I3.loc;obtain⟨u,ru,lu⟩:=hl i0 x v c1 es (c2.elim (λq=>.inr (.inl q)) λq=>.inr (.inr q));refine⟨u,ru,?_⟩;rcases lu with⟨q,_⟩|⟨_,c,hc',hcell⟩
    .exfalso;have q':X.env.scope.names.lookup x=some .local:=q;rcases c2 with c2|c2<;>rw[c2]at q'<;>cases q'
    .obtain⟨c'',hc''⟩:=clhas x (cO6 c3);have hne:=(capb _ (cO6 c3) rfl).1;have :=((clsplit x c'' hc'').resolve_left λz=>hne z.1).2;rw[hc']at this;cases this;refine .inr ⟨?_,c,hc'',?_⟩
     .exact aH4 c3
     .obtain⟨o,ho,hd⟩:=hcell;exact⟨o,keep1 c o ho,hd⟩
  .rcases clsplit x c e with⟨a1,a2⟩|⟨_,a2⟩
   .rw[a2];exact⟨_,cell0 x a1⟩
   .obtain⟨v,o,ho,hd⟩:=I3.cell x c a2;exact⟨v,o,keep1 c o ho,hd⟩
  .exact I3.hok.fresh (by rw[hC];exact cM3 _)
  .rcases clsplit x c e with⟨_,a2⟩|⟨_,a2⟩
   .rw[a2];exact I3.hok.fresh (by rw[hC];exact cM4 _)
   .exact I3.freeC x c a2
  .show(X4 nT aC Z).length=N'.length;unfold X4;rw[cJ2,cJ5,cJ3,cl0]
 have hcalm:ok (O7 oc X scope cl C N' s3 (upd H2 a (.lst [])) fp):=hokc _ _ _ _ _ _ _ I3 λb hb=>(f2 b hb).2.2.2.1
 have stat:∀{H':Hp},(∀b∈fp,H' b=none)->∀b∈fp,as8 (O7 oc X scope cl C N' s3 (upd H2 a (.lst [])) fp) [] H' b:=λhn b hb=>
  ⟨hn b hb,cN5 (by obtain⟨o,q,_⟩:=fpo3 b hb;exact ltC b o q),λz=>by
   rcases cA9 (I3.stkSub b z)with q|q
   .exact(f2 b hb).2.1 q
   .exact(f2 b hb).2.2.1 q,.inl hb,λx c e=>by
   rcases clsplit x c e with⟨_,a2⟩|⟨_,a2⟩
   .rw[a2];obtain⟨o,q,_⟩:=fpo3 b hb;have :=ltC b o q;exact λz=>absurd this (by rw[<-z];exact Nat.not_lt.mpr (cM4 C))
   .exact(f2 b hb).2.2.2.2.1 x c a2,λp hp=>absurd (show p∈([]:List (Addr×Obj))from hp) (by simp)⟩
 have loop:codeAny (model X.prog X.w) X.A (.compLoop (.ListComp elt [⟨target,iter,ifs,0⟩] scope pos) 0 (.ref it) (.ref a) (compEnvC scope cl C X.env))
   (compPost (model X.prog X.w) X.A X.xe use Q' (.ref a) C) {s3 with heap:=h₁}:=by
  refine aF5 (λn s'=>∃i ys H',Inv (O7 oc X scope cl C N' s3 (upd H2 a (.lst [])) fp) [] (X4 nT aC Z) H' s'/\tn i s'.heap/\(∀b∈fp,H' b=none)/\W i n ys H') ?_ m0
   ⟨0,[],_,I4,T.keep _ _ _ st3 λb _ o e=>keep1 b o e,fr3,w0⟩
  rintro n s5 ⟨i,ys,H5,I5,st5,fr5,w5⟩;rcases turn i n ys H5 w5 with⟨stop,qn⟩|⟨go,step⟩
  .refine thn (T.done (O7 oc X scope cl C N' s3 (upd H2 a (.lst [])) fp) rfl rfl rfl hcalm i [] s5 (X4 nT aC Z) H5 (λ_ _=>False) I5 (stat fr5) st5 stop) λr s6 ⟨hr,I6⟩=> ?_
   subst hr;obtain⟨m,hn,_⟩:=I6.loc;have J0:Inv X aA Z H5 s6:=I3.call' (ch:=fp) I6.os I6.aD I6.hok I6.bare λb hb=>by
    obtain⟨f0,f1,f3,f4,f5,f6⟩:=f2 b hb;exact⟨f4,f1,f5,f6⟩
   exact fin a C H5 s6 J0 ⟨m,hn⟩ ⟨I6.free,cN4 (by rw[<-hC];exact I3.lt),.inr (by rw[<-hC];exact I3.sz),λx c e=>cN5 (cellC x c e),λp hp=>cN5 (ltC p.1 p.2 (I3.pin p hp).1)⟩ qn
  .refine thn (T.item (O7 oc X scope cl C N' s3 (upd H2 a (.lst [])) fp) rfl rfl rfl hcalm i [] s5 (X4 nT aC Z) H5 (λ_ _=>False) I5 (stat fr5) st5 go) λr s6 ⟨u,hr,h6⟩=> ?_
   subst hr;refine thn h6 λ_ s7 ⟨x,H7,I7,r7,y7,st7,fr7⟩=> ?_
   have I7':=I7.pinned (stat fr7) (T.obj _ _ st7);refine thn (hg _ _ _ _ _ _ s7 _ H7 x u _ I7' r7 (step x H7 y7)) λ_ s8 ⟨Z8,H8,I8,sub8,q8⟩=> ?_
   refine thn (hc _ _ _ _ _ _ s8 Z8 H8 _ I8 q8) λb s9 ⟨H9,I9,q9⟩=> ?_
   have again:∀{H':Hp}{s':Shared}{ys':List V}{m':Nat},Inv (O7 oc X scope cl C N' s3 (upd H2 a (.lst [])) fp) ([]++aH9 fp s7.heap) Z8 H' s'->W (i+1) m' ys' H'->m'<n->
     ∃m,m<n/\∃i ys H',Inv (O7 oc X scope cl C N' s3 (upd H2 a (.lst [])) fp) [] (X4 nT aC Z) H' s'/\tn i s'.heap/\(∀b∈fp,H' b=none)/\W i m ys H':=λ{H' s' ys' m'} I' w' hm=>by
    refine⟨m',hm,i+1,ys',H',(I'.unpinned).weak sub8.1.symm sub8.2,T.keep _ _ _ st7 λb hb o e=>(I'.pin (b,o) (cK4 _ (cK4 _ (at6 hb e)))).1,λb hb=> ?_,w'⟩;obtain⟨o,e,d⟩:=T.obj _ _ st7 b hb;exact(I'.pin (b,o) (cK4 _ (cK4 _ (at6 hb e)))).2.1
   cases b with
   |false=>
    obtain⟨m',hm,w'⟩:=q9;exact again I9 w' hm
   |true=>
    refine thn (he _ _ _ _ _ _ s9 Z8 H9 _ I9 q9) λy s10 ⟨v,H10,I10,r10,hacc,hlen,m',hm,w'⟩=> ?_
    refine thn (aI2 _ s10 Z8 H10 (.ref a) [v] (.ref a) [y] (λ(z:V) (H':Hp)=>z=.non/\H'=upd H10 a (.lst (ys++[v]))) I10 rfl (.cons r10 .nil) ⟨a,ys,v,rfl,rfl,hacc,hlen,rfl,rfl⟩) λz s11 ⟨_,H11,I11,_,_,e11⟩=> ?_
    subst e11;exact again I11 w' hm
 exact codeAny_compStart_list loop (T.self _ 0 _ _ _ (T.keep _ _ _ st3 λb _ o e=>keep1 b o e) loop)
theorem bV9(N':List Str)(nT:Nat)(aC:List Nat)
  (hcalm:X.calm=true) (chk:ah6 X.env.scope X.N scope N' nT aC=true) (hi:PI X target iter wi)
  (hg:∀cl C sd Ho fp,PG (K8 X scope cl C N' sd Ho fp) target g) (hc:∀cl C sd Ho fp,aS0 (K8 X scope cl C N' sd Ho fp) ifs tc) (he:∀cl C sd Ho fp,PE (K8 X scope cl C N' sd Ho fp) elt te)
  (hs:NFo X iter):
  PE X (.ListComp elt [⟨target,iter,ifs,0⟩] scope pos) (tLC wi g tc te nT aC):=by
 intro aA s Z H Q I h;rw[eval_ListComp];refine bl7 N' nT aC (ok:=λX=>X.calm=true) (λ_ _ _ _ _ _ _ _ _=>hcalm) chk hi.x hg hc he hs I h (use:=none) λa C H5 s6 J0 hn fr qn=> ?_
 obtain⟨m,hn⟩:=hn;refine⟨m,hn,λh' sb=> ?_⟩;have J1:Inv X aA Z H5 {s6 with heap:=h',toks:=s6.toks}:=J0.turned (it:=C) (λb o hb e=>sb.extBut b o hb e) fr.hn fr.hL fr.h1 fr.h2 fr.h3;exact⟨.ref a,H5,J1,rfl,qn⟩
theorem cj0(N':List Str)(nT:Nat)(aC:List Nat)
  (hokc:∀cl C fp aA Z H s,Inv X aA Z H s->(∀b∈fp,b∈X.ex\/X.sd.heap.objs.size<=b)->ok (K8 X scope cl C N' s H fp)) (chk:ah6 X.env.scope X.N scope N' nT aC=true) (hi:PIx ok X target iter wi)
  (hg:∀cl C sd Ho fp,PG (K8 X scope cl C N' sd Ho fp) target g) (hc:∀cl C sd Ho fp,aS0 (K8 X scope cl C N' sd Ho fp) ifs tc) (he:∀cl C sd Ho fp,PE (K8 X scope cl C N' sd Ho fp) elt te)
  (hs:NFo X iter):
  PE X (.ListComp elt [⟨target,iter,ifs,0⟩] scope pos) (tLC wi g tc te nT aC):=by
 intro aA s Z H Q I h;rw[eval_ListComp];refine bl7 N' nT aC hokc chk hi hg hc he hs I h (use:=none) λa C H5 s6 J0 hn fr qn=> ?_
 obtain⟨m,hn⟩:=hn;refine⟨m,hn,λh' sb=> ?_⟩;have J1:Inv X aA Z H5 {s6 with heap:=h',toks:=s6.toks}:=J0.turned (it:=C) (λb o hb e=>sb.extBut b o hb e) fr.hn fr.hL fr.h1 fr.h2 fr.h3;exact⟨.ref a,H5,J1,rfl,qn⟩
theorem aq8(N':List Str)(nT:Nat)(aC:List Nat)
  (hcalm:X.calm=true) (chk:ax3 oc X.env.scope X.N scope N' nT aC=true) (hi:PI X target iter wi)
  (hg:∀cl C sd Ho fp,PG (O7 oc X scope cl C N' sd Ho fp) target g) (hc:∀cl C sd Ho fp,aS0 (O7 oc X scope cl C N' sd Ho fp) ifs tc) (he:∀cl C sd Ho fp,PE (O7 oc X scope cl C N' sd Ho fp) elt te)
  (hN:X.N.Nodup) (hx:X.N[i]?=some x) (hl:X.env.scope.names.lookup x=some .local) (hsw:swapsWith (.ListComp elt [⟨target,iter,ifs,0⟩] scope pos) (some (.Name x pos')) spos.line X.env=pure true)
  (hs:NFo X iter):
  PS X (.Assign [.Name x pos'] (.ListComp elt [⟨target,iter,ifs,0⟩] scope pos) spos) (aX2 (tLC wi g tc te nT aC) (aq0 i)):=by
 intro aA s Z H D I h
 (rw[exec_Assign_Name_used _ _ _ _ hsw]);(refine cP3 (wpAny_standAt (cP3 ?_)));show wpAny _ X.A (do let _<-comprehension (.ListComp elt [⟨target,iter,ifs,0⟩] scope pos) scope X.env _ (newList []) false (eval iter X.env) (some (assign (.Name x pos') X.env))) _ _ s
 refine cP3 (cP6 (bl7 N' nT aC (ok:=λX=>X.calm=true) (λ_ _ _ _ _ _ _ _ _=>hcalm) chk hi.x hg hc he hs I h (use:=some (assign (.Name x pos') X.env)) (Q':=λ_ s'=>SP X aA D .next s') λa C H5 s6 J0 hn fr qn=> ?_) (λ_ s' hq=>cP8 (cP8 hq)) λ_ _ e=>e);obtain⟨m,hn⟩:=hn;show wpAny _ X.A (assign (.Name x pos') X.env (.ref a)) _ _ s6;refine wpAny_assign_Name (aG9 J0 hN hx (.inl hl) (show D0 (.ref a) (.ref a)from rfl) (λs7 I7 ⟨b,sb,hb⟩=> ?_) (.inr hl));have hbC:C≠b:=by
  rcases hb with rfl|hb
  .exact fr.hL
  .exact λz=>fr.h2 x b hb z.symm
 refine⟨m,?_,λh' sb'=> ?_⟩
 .obtain⟨o,es,ep,ho,r⟩:=hn;exact⟨o,es,ep,(sb.2 C hbC).trans ho,r⟩
 .have J1:Inv X aA (Z.set i (some (.ref a))) H5 {s7 with heap:=h',toks:=s7.toks}:=I7.turned (it:=C) (λb o hb e=>sb'.extBut b o hb e) fr.hn fr.hL fr.h1 fr.h2 fr.h3;exact⟨_,H5,J1,qn⟩
end L2
namespace L3
def af3:List (Addr×Str):=[(129,"broken_row.<locals>.<lambda>"),(530,"law.<locals>.<lambda>")]
theorem bY6:∀p∈af3,∀p'∈af3,p.1=p'.1->p.2=p'.2:=by decide +kernel
def ad1(c:Addr)(q:Str):HO:=.ext (λh=>h.CodeRec (.ref c) q)
def U0(H:Hp)(q:Str):List Value->Prop
 |[]=>True
 |.int _ _::.int _ _::c::rest=>(∃a,c=.ref a/\H a=some (ad1 a q))/\U0 H q rest
 |_=>False
def Tbs(H:Hp):Prop:=∀p∈af3,∃ps,H p.1=some (.tbl ps)/\U0 H p.2 ps.toList
structure Sub(G H:Hp):Prop where
 s:D6 G H
 t:Tbs H
 n:∀b ps,G b≠some (.tbl ps)
instance {G H:Hp}:CoeFun (Sub G H) (λ_=>∀b o,G b=some o->H b=some o):=⟨λh=>h.s⟩
instance {G H:Hp}:Coe (Sub G H) (D6 G H):=⟨λh=>h.s⟩
def ah3:HO->Bool
 |.tbl _=>false
 |_=>true
def R8(H H':Hp):Prop:=∀b o,H b=some o->∃o',H' b=some o'/\(ah3 o=true->o'=o)
section
variable {G G' H H' H2:Hp}
theorem R8.refl(H:Hp):R8 H H:=λ_ o h=>⟨o,h,λ_=>rfl⟩
theorem bf3(h:D6 H H'):R8 H H':=λb o q=>⟨o,h b o q,λ_=>rfl⟩
theorem R8.yes(h:R8 H H')(e:H b=some o)(n:ah3 o=true):H' b=some o:=by
 obtain⟨o',e',z⟩:=h b o e;rw[z n]at e';exact e'
theorem R8.lst(h:R8 H H')(e:H b=some (.lst xs)):H' b=some (.lst xs):=h.yes e rfl
theorem R8.ne(h:R8 H H')(e:H b≠none):H' b≠none:=by
 cases q:H b with
 |none=>exact absurd q e
 |some o=>obtain⟨o',e',_⟩:=h b o q;rw[e'];simp
theorem R8.free(h:R8 H H')(e:H' b=cO3):H b=cO3:=by
 cases q:H b with
 |none=>rfl
 |some o=>obtain⟨o',e',_⟩:=h b o q;rw[e']at e;cases e
theorem R8.trans(a:R8 H H')(b:R8 H' H2):R8 H H2:=λc o e=>by
 by_cases n:ah3 o=true
 .exact⟨o,b.yes (a.yes e n) n,λ_=>rfl⟩
 .obtain⟨o',e',_⟩:=a c o e;obtain⟨o2,e2,_⟩:=b c o' e';exact⟨o2,e2,λz=>absurd z n⟩
theorem R8.upd(h:R8 H H')(n:H a=none):R8 H (L2.upd H' a o):=λb u e=>by
 rw[l8 (A9 e n)];exact h b u e
theorem Sub.free(e:Sub G H)(h:H l=cO3):G l=cO3:=e.s.free h
theorem Sub.seq{K:cO5}{a:Addr}{xs:List V}(e:Sub G H)(h:SqL K G a xs):SqL K H a xs:=e.s.seq h
theorem aB0(h:∀b ps,G b≠some (.tbl ps))(n:ah3 o=true):∀b ps,L2.upd G a o b≠some (.tbl ps):=λb ps z=>by
 by_cases e:b=a
 .subst e;rw[t6]at z;cases z;cases n
 .rw[l8 e]at z;exact h b ps z
theorem U0.mono(k:∀a,H a=some (ad1 a q)->H' a=some (ad1 a q)):∀{l:List Value},U0 H q l->U0 H' q l
 |[],_=>trivial
 |.int _ _::.int _ _::c::rest,⟨⟨a,e,h⟩,r⟩=>⟨⟨a,e,k a h⟩,U0.mono k r⟩
theorem U0.triples:∀{l:List Value},U0 H q l->TriplesOk l
 |[],_=>trivial
 |.int _ _::.int _ _::c::rest,⟨_,r⟩=>by
  have :=U0.triples r;simpa only[TriplesOk]using this
theorem U0.hit:∀{l:List Value},U0 H q l->codeAmong pos l=some cv->∃a,cv=.ref a/\H a=some (ad1 a q)
 |[],_,e=>by cases e
 |.int _ _::.int _ _::c::rest,⟨⟨a,ea,h⟩,r⟩,e=>by
  unfold codeAmong at e;split at e
  .cases e;exact⟨a,ea,h⟩
  .exact U0.hit r e
theorem U0.more(h:H a=some (ad1 a q)):∀{l:List Value},U0 H q l->U0 H q (l++[.int i t,.int j u,.ref a])
 |[],_=>⟨⟨a,rfl,h⟩,trivial⟩
 |.int _ _::.int _ _::c::rest,⟨x,r⟩=>⟨x,U0.more h r⟩
theorem Tbs.upd(h:Tbs H)(n:∀x,H a=some x->(∀ps,x≠.tbl ps)/\∀c q,x≠ad1 c q):Tbs (upd H a o):=λp hp=>by
 obtain⟨ps,e,r⟩:=h p hp;have n1:p.1≠a:=λz=>by rw[z]at e;exact(n _ e).1 ps rfl
 refine⟨ps,by rw[l8 n1];exact e,r.mono λc hc=> ?_⟩;rw[l8 λz=>by rw[z]at hc;exact(n _ hc).2 _ _ rfl];exact hc
theorem Tbs.new(h:Tbs H)(n:H a=none):Tbs (L2.upd H a o):=h.upd λx e=>by rw[n]at e;cases e
theorem Tbs.lst(h:Tbs H)(n:H a=some (.lst xs)):Tbs (L2.upd H a o):=h.upd λx e=>by rw[n]at e;cases e;exact⟨λ_ z=>HO.noConfusion z,λ_ _ z=>HO.noConfusion z⟩
end
structure Wd(p:Prop):Prop where
 run:p
def ai0:List Str->Bool
 |[]=>true
 |x::xs=> !(xs.contains x)&&ai0 xs
theorem O6:∀{l:List Str},ai0 l=true->l.Nodup
 |[],_=>List.nodup_nil
 |x::xs,h=>by
  rw[ai0,cC7]at h;exact List.nodup_cons.mpr ⟨λz=>by rw[cH1,cO9 z]at h;exact absurd h.1 (by decide),O6 h.2⟩
mutual
def Rep(K:cO5)(G:Hp):T->V->Prop
 |.non,v=>v=.non
 |.bl b,v=>v=.bl b
 |.int i,v=>v=.int i
 |.str x,v=>v=.str x
 |.tup ts,v=>∃a xs,v=.ref a/\SqT K G a xs/\j8 K G ts xs
 |.lst ts,v=>∃a xs,v=.ref a/\G a=some (.lst xs)/\j8 K G ts xs
 |.ref a,v=>v=.ref a
 |.scr ns,v=>∃a,v=.ref a/\SqL K G a (ns.map V.int)
 |.obj fs ts,v=>∃a C dx fl xs,v=.ref a/\G a=some (.ins C dx fl)/\fs.map (λf=>fl.lookup f)=xs.map some/\(Cls K C/\∀f∈fs,O9 K C f)/\j8 K G ts xs
def j8(K:cO5)(G:Hp):List T->List V->Prop
 |[],xs=>xs=[]
 |t::ts,xs=>∃x r,xs=x::r/\Rep K G t x/\j8 K G ts r
end
section
variable {K:cO5}{G G':Hp}
theorem seqT(e:D6 G G')(h:SqT K G a xs):SqT K G' a xs:=by
 rcases h with(h|⟨o,h⟩)|h
 .exact .inl (.inl (e _ _ h))
 .exact .inl (.inr ⟨o,e _ _ h⟩)
 .exact .inr h
mutual
theorem Rep.mono(e:D6 G G'):∀{t:T}{v:V},Rep K G t v->Rep K G' t v
 |.non,_,h=>by simpa[Rep]using h
 |.bl _,_,h=>by simpa[Rep]using h
 |.int _,_,h=>by simpa[Rep]using h
 |.str _,_,h=>by simpa[Rep]using h
 |.tup ts,_,h=>by
  simp only[Rep]at h⊢;obtain⟨a,xs,h1,h2,h3⟩:=h;exact⟨a,xs,h1,seqT e h2,j8.mono e h3⟩
 |.lst ts,_,h=>by
  simp only[Rep]at h⊢;obtain⟨a,xs,h1,h2,h3⟩:=h;exact⟨a,xs,h1,e _ _ h2,j8.mono e h3⟩
 |.ref _,_,h=>by simpa[Rep]using h
 |.scr _,_,h=>by
  simp only[Rep]at h⊢;obtain⟨a,h1,h2⟩:=h;exact⟨a,h1,e.seq h2⟩
 |.obj _ _,_,h=>by
  simp only[Rep]at h⊢;obtain⟨a,C,dx,fl,xs,h1,h2,h4,h5,h3⟩:=h;exact⟨a,C,dx,fl,xs,h1,e _ _ h2,h4,h5,j8.mono e h3⟩
theorem j8.mono(e:D6 G G'):∀{ts:List T}{xs:List V},j8 K G ts xs->j8 K G' ts xs
 |[],_,h=>by simpa[j8]using h
 |t::ts,_,h=>by
  simp only[j8]at h⊢;obtain⟨x,r,h1,h2,h3⟩:=h;exact⟨x,r,h1,Rep.mono e h2,j8.mono e h3⟩
end
theorem j8.nil:j8 K G [] []:=by simp[j8]
theorem j8.cons(h:Rep K G t x)(r:j8 K G ts xs):j8 K G (t::ts) (x::xs):=by
 simp only[j8];exact⟨x,xs,rfl,h,r⟩
theorem j8.length:∀{ts:List T}{xs:List V},j8 K G ts xs->xs.length=ts.length
 |[],xs,h=>by simp only[j8]at h;subst h;rfl
 |t::ts,xs,h=>by
  simp only[j8]at h;obtain⟨x,r,e,h1,h2⟩:=h;subst e;simp[j8.length h2]
theorem j8.get:∀{ts:List T}{xs:List V}{i:Nat}{t:T},j8 K G ts xs->ts[i]?=some t->∃x,xs[i]?=some x/\Rep K G t x
 |[],xs,i,t,h,e=>by simp at e
 |t0::ts,xs,i,t,h,e=>by
  simp only[j8]at h;obtain⟨x,r,ex,h1,h2⟩:=h;subst ex;cases i with
  |zero=>simp at e;subst e;exact⟨x,by simp,h1⟩
  |succ i=>obtain⟨y,hy,ry⟩:=j8.get (i:=i) h2 (by simpa using e);exact⟨y,by simpa using hy,ry⟩
theorem j8.append:∀{ts us:List T}{xs ys:List V},j8 K G ts xs->j8 K G us ys->j8 K G (ts++us) (xs++ys)
 |[],us,xs,ys,h,h'=>by simp only[j8]at h;subst h;simpa using h'
 |t::ts,us,xs,ys,h,h'=>by
  simp only[j8]at h;obtain⟨x,r,ex,h1,h2⟩:=h;subst ex;exact j8.cons h1 (j8.append h2 h')
theorem j8.drop:∀{ts:List T}{xs:List V}(n:Nat),j8 K G ts xs->j8 K G (ts.drop n) (xs.drop n)
 |ts,xs,0,h=>by simpa using h
 |[],xs,n+1,h=>by simp only[j8]at h;subst h;simp[j8]
 |t::ts,xs,n+1,h=>by
  simp only[j8]at h;obtain⟨x,r,ex,h1,h2⟩:=h;subst ex;simpa using j8.drop n h2
theorem j8.take:∀{ts:List T}{xs:List V}(n:Nat),j8 K G ts xs->j8 K G (ts.take n) (xs.take n)
 |ts,xs,0,h=>by simp[j8]
 |[],xs,n+1,h=>by simp only[j8]at h;subst h;simp[j8]
 |t::ts,xs,n+1,h=>by
  simp only[j8]at h;obtain⟨x,r,ex,h1,h2⟩:=h;subst ex;simpa using j8.cons h1 (j8.take n h2)
theorem j8.rep(h:j8 K G ts xs):∀k:Nat,j8 K G (List.replicate k ts).flatten (List.replicate k xs).flatten
 |0=>by simp[j8]
 |k+1=>by
  rw[cL7,cH9,cL7,cH9];exact j8.append h (j8.rep h k)
def K5(K:cO5)(G:Hp)(Z:L2.St)(U:A7):Prop:=Z.length=U.length/\∀(i:Nat) (t:T),U[i]?=some (some t)->∃v,Z[i]?=some (some v)/\Rep K G t v
theorem K5.mono(e:D6 G G')(h:K5 K G Z U):K5 K G' Z U:=⟨h.1,λi t q=>let⟨v,h1,h2⟩:=h.2 i t q;⟨v,h1,h2.mono e⟩⟩
theorem K5.set(h:K5 K G Z U)(r:Rep K G t v):K5 K G (Z.set i (some v)) (U.set i (some t)):=by
 refine⟨by simpa using h.1,λj u q=> ?_⟩;by_cases e:i=j
 .subst e;by_cases hl:i<U.length
  .rw[cI9 hl]at q;cases q;exact⟨v,cI9 (by rw[h.1];exact hl),r⟩
  .rw[cI4 (by simpa using hl)]at q;cases q
 .rw[cI8 e]at q;obtain⟨w,h1,h2⟩:=h.2 j u q;exact⟨w,by rw[cI8 e];exact h1,h2⟩
theorem aI6(h:o.join=some x):o=some (some x):=by
 cases o with
 |none=>cases h
 |some p=>cases p with
  |none=>cases h
  |some y=>cases h;rfl
theorem K5.cap(nT:Nat)(aC:List Nat)(h:K5 K G Z U):K5 K G (X4 nT aC Z) (X7 nT aC U):=by
 refine⟨by simp[X4,X7],λj u q=> ?_⟩;unfold X7 at q;unfold X4;by_cases hl:j<nT
 .rw[cI1 (by simpa using hl),cI7,cP2 hl]at q;cases q
 .rw[cI2 (by simpa using hl),cJ5,cI5]at q;rw[cI2 (by simpa using hl),cJ5,cI5];cases e:aC[j-nT]? with
  |none=>rw[e]at q;cases q
  |some i=>
   rw[e]at q;obtain⟨v,h1,h2⟩:=h.2 i u (aI6 (cO4 q));refine⟨v,?_,h2⟩;show some ((Z[i]?).join)=some (some v);rw[h1];rfl
end
structure Ext(G H G' H':Hp):Prop where
 g:D6 G G'
 s:Sub G' H'
 h:R8 H H'
 fr:∀b,H b≠none->G b=none->G' b=none
theorem Ext.refl{G H:Hp}(e:Sub G H):Ext G H G H:=⟨D6.refl _,e,R8.refl _,λ_ _ q=>q⟩
theorem Ext.trans{G H G1 H1 G2 H2:Hp}(a:Ext G H G1 H1)(b:Ext G1 H1 G2 H2):Ext G H G2 H2:=
 ⟨a.g.trans b.g,b.s,a.h.trans b.h,λc h1 h2=>b.fr c (a.h.ne h1) (a.fr c h1 h2)⟩
theorem K2(h:H p=none)(o:HO):D6 H (upd H p o):=λb u q=>by rw[l8 (A9 q h)];exact q
theorem Ext.new{G H:Hp}{p:Addr}(e:Sub G H)(h:H p=none)(o:HO)(no:ah3 o=true:=by rfl):Ext G H (upd G p o) (upd H p o):=by
 refine⟨K2 (e.free h) o,⟨λb u q=> ?_,e.t.new h,aB0 e.n no⟩,bf3 (K2 h o),λb h1 h2=> ?_⟩
 .by_cases hb:b=p
  .subst hb;rw[t6]at q⊢;exact q
  .rw[l8 hb]at q⊢;exact e b u q
 .rw[l8 (λz=>h1 (by rw[z];exact h))];exact h2
section
variable {X:Cx}
def tX(K:cO5)(g:L3.G):TE:=λZ H Q=>∃G U t,Sub G H/\K5 K G Z U/\g U=some t/\∀v G' H',Ext G H G' H'->Rep K G' t v->Q v H'
def tXB(K:cO5)(g:GB):TT:=λZ H Q=>∃G U t,Sub G H/\K5 K G Z U/\g U=some t/\∀G' H',Ext G H G' H'->Q t H'
def tXA(K:cO5)(g:GL):TA:=λZ H Q=>∃G U ts,Sub G H/\K5 K G Z U/\g U=some ts/\∀vs G' H',Ext G H G' H'->j8 K G' ts vs->Q vs H'
abbrev PX(X:Cx)(e:Expr)(g:L3.G):Prop:=PE X e (tX X.K g)
abbrev PXB(X:Cx)(e:Expr)(g:GB):Prop:=PT X e (tXB X.K g)
abbrev PXW(X:Cx)(e:Expr)(g:GB):Prop:=PW X e (tXB X.K g)
abbrev PXA(X:Cx)(es:List Expr)(g:GL):Prop:=PA X es (tXA X.K g)
theorem PE.imp(h:PE X e t)(f:∀Z H Q,t' Z H Q->t Z H Q):PE X e t':=λaA s Z H Q I q=>h aA s Z H Q I (f Z H Q q)
theorem PT.imp(h:PT X e t)(f:∀Z H Q,t' Z H Q->t Z H Q):PT X e t':=λaA s Z H Q I q=>h aA s Z H Q I (f Z H Q q)
theorem PW.imp(h:PW X e t)(f:∀Z H Q,t' Z H Q->t Z H Q):PW X e t':=λw aA s Z H Q I q=>h w aA s Z H Q I (f Z H Q q)
theorem PA.imp(h:PA X es t)(f:∀Z H Q,t' Z H Q->t Z H Q):PA X es t':=λp aA s Z H Q I q=>h p aA s Z H Q I (f Z H Q q)
theorem PS.imp{st:Stmt}{t t':TS}(h:PS X st t)(f:∀D Z H,t' D Z H->t D Z H):PS X st t':=λaA s Z H D I q=>h aA s Z H D I (f D Z H q)
theorem PSs.imp{st:List Stmt}{t t':TS}(h:PSs X st t)(f:∀D Z H,t' D Z H->t D Z H):PSs X st t':=λaA s Z H D I q=>h aA s Z H D I (f D Z H q)
theorem PG.imp(h:PG X tg t)(f:∀v Z H Q,t' v Z H Q->t v Z H Q):PG X tg t':=λaA s Z H v u Q I r q=>h aA s Z H v u Q I r (f v Z H Q q)
theorem PI.imp(h:PI X tg it t)(f:∀Z H R,t' Z H R->t Z H R):PI X tg it t':=λaA s Z H R I q=>h aA s Z H R I (f Z H R q)
theorem j5(h:o.bind f=some y):∃x,o=some x/\f x=some y:=by
 cases o with
 |none=>cases h
 |some x=>exact⟨x,rfl,h⟩
theorem M2(i:Nat)(hN:X.N[i]?=some x:=by rfl)(hv:Vis X.env.scope x:=by first |exact .inl rfl|exact .inr (.inl rfl)|exact .inr (.inr rfl))(hd:NoD x:=by decide)(hcd:(x==("__classdict__":Str))=false:=by decide):Wd (PX X (.Name x pos) (M9 i)):=⟨PE.imp (aq9 hN hv hd hcd) λZ H Q zz=>by
  obtain⟨G,U,t,sG,hU,hg,q⟩:=zz;obtain⟨v,h1,h2⟩:=hU.2 i t (aI6 hg);exact⟨v,h1,q v G H (Ext.refl sG) h2⟩⟩
theorem aY2{t:TE}{v:V}{u:T}(h:PE X e (tC v))(r:∀K G,Rep K G u v):PX X e (gC u):=
 PE.imp h λZ H Q zz=>by
  obtain⟨G,U,t,sG,hU,hg,q⟩:=zz;cases hg;exact q v G H (Ext.refl sG) (r _ _)
theorem j4{i j pos}:Wd (PX X (.Constant (.int i) j pos) (gC (.int i))):=⟨aY2 (t:=tC (.int i)) bG0 λ_ _=>by simp[Rep]⟩
theorem cq7{i j pos}:PX X (.Constant (.bool i) j pos) (gC (.bl i)):=aY2 (t:=tC (.bl i)) bx2 λ_ _=>by simp[Rep]
theorem V1{i j pos}:Wd (PX X (.Constant (.bool i) j pos) (gC (.bl i))):=⟨aY2 (t:=tC (.bl i)) bx2 λ_ _=>by simp[Rep]⟩
theorem W4{j pos}:Wd (PX X (.Constant .none j pos) (gC .non)):=⟨aY2 (t:=tC .non) ci9 λ_ _=>by simp[Rep]⟩
theorem au2{x j pos}:Wd (PX X (.Constant (.str x) j pos) (gC (.str x))):=⟨aY2 (t:=tC (.str x)) bF8 λ_ _=>by simp[Rep]⟩
theorem bQ9{x:Str}{i:Int}{t:Tok}{pos:Pos}(hg:Gl X x)(hm:X.mg x=some (.int i t))(hd:NoD x):PX X (.Name x pos) (gC (.int i)):=
 aY2 (t:=tC (.int i)) (aA9 (v:=.int i) hg hm ⟨t,rfl⟩ hd) λ_ _=>by simp[Rep]
theorem ca5{x:Str}{a:Addr}{pos:Pos}{t:T}(hg:Gl X x)(hm:X.mg x=some (.ref a))(r:∀G,Rep X.K G t (.ref a))(hd:NoD x):PX X (.Name x pos) (gC t):=
 PE.imp (aA9 (v:=.ref a) hg hm rfl hd) λZ H Q zz=>by
  obtain⟨G,U,t',sG,hU,hg',q⟩:=zz;cases hg';exact q _ G H (Ext.refl sG) (r G)
def bX5(K:cO5)(r:V->Hp->VK->Prop)(f:T->Option T):Prop:=
 ∀G H tx x tz Q,Sub G H->Rep K G tx x->f tx=some tz->(∀v G' H',Ext G H G' H'->Rep K G' tz v->Q v H')->r x H Q
def N1(K:cO5)(r:R2)(f:T->T->Option T):Prop:=
 ∀G H tx ty x y tz Q,Sub G H->Rep K G tx x->Rep K G ty y->f tx ty=some tz->(∀v G' H',Ext G H G' H'->Rep K G' tz v->Q v H')->r x y H Q
def am3(K:cO5)(r:List V->Hp->VK->Prop)(f:List T->Option T):Prop:=
 ∀G H ts xs tz Q,Sub G H->j8 K G ts xs->f ts=some tz->(∀v G' H',Ext G H G' H'->Rep K G' tz v->Q v H')->r xs H Q
theorem tX2(hr:N1 X.K r f):∀Z H Q,tX X.K (g2 f ga gb) Z H Q->tOp r (tX X.K ga) (tX X.K gb) Z H Q:=λZ H Q zz=>by
 obtain⟨G,U,t,sG,hU,hg,q⟩:=zz;obtain⟨x,h1,hg⟩:=j5 hg;obtain⟨y,h2,hg⟩:=j5 hg;refine⟨G,U,x,sG,hU,h1,λv G1 H1 e1 r1=>⟨G1,U,y,e1.s,hU.mono e1.g,h2,λu G2 H2 e2 r2=> ?_⟩⟩;exact hr G2 H2 x y v u t Q e2.s (r1.mono e2.g) r2 hg λz G3 H3 e3 r3=>q z G3 H3 (e1.trans (e2.trans e3)) r3
theorem aA6(ho:OpR X (binaryOp op) r)(hr:N1 X.K r f)(ha:PX X a ga)(hb:PX X b gb):PX X (.BinOp a op b pos) (g2 f ga gb):=
 PE.imp (cr2 ho ha hb) (tX2 hr)
theorem cq5(ho:UnR X (unaryOp op) r)(hr:bX5 X.K r f)(ha:PX X a ga):PX X (.UnaryOp op a pos) (g1 f ga):=
 PE.imp (cr0 ho ha) λZ H Q zz=>by
  obtain⟨G,U,t,sG,hU,hg,q⟩:=zz;obtain⟨x,h1,hg⟩:=j5 hg;exact⟨G,U,x,sG,hU,h1,λv G1 H1 e1 r1=>hr G1 H1 x v t Q e1.s r1 hg λz G2 H2 e2 r2=>q z G2 H2 (e1.trans e2) r2⟩
theorem av9(ho:OpR X (compareOp op) r)(hr:N1 X.K r f)(ha:PX X a ga)(hb:PX X b gb)(hm:behindInMarks op b=false):PX X (.Compare a [op] [b] pos) (g2 f ga gb):=
 PE.imp (cb4 ho ha hb hm) (tX2 hr)
theorem tXT(h:∀Z H Q,tX X.K g Z H Q->t Z H Q):∀Z H Q,tXB X.K (bOf g) Z H Q->bV6 t Z H Q:=λZ H Q zz=>by
 obtain⟨G,U,b,sG,hU,hg,q⟩:=zz;obtain⟨x,h1,hg⟩:=j5 hg;refine h Z H _ ⟨G,U,x,sG,hU,h1,λv G1 H1 e1 r1=> ?_⟩;cases x<;>first |(cases hg;done)|skip
 cases hg;simp only[Rep]at r1;exact⟨b,r1,q G1 H1 e1⟩
theorem ai3(ho:OpR X (compareOp op) r)(hr:N1 X.K r f)(ha:PX X a ga)(hb:PX X b gb)(hm:behindInMarks op b=false):PXB X (.Compare a [op] [b] pos) (bOf (g2 f ga gb)):=
 PT.imp (ca9 ho ha hb hm) (tXT (tX2 hr))
theorem tXC(hr:N1 X.K r f)(hr':N1 X.K r' f'):∀Z H Q,tX X.K (aB7 f f' ga gb gc) Z H Q->bC4 r r' (tX X.K ga) (tX X.K gb) (tX X.K gc) Z H Q:=λZ H Q zz=>by
 obtain⟨G,U,t,sG,hU,hg,q⟩:=zz;obtain⟨x,h1,hg⟩:=j5 hg;obtain⟨y,h2,hg⟩:=j5 hg;obtain⟨k,h3,hg⟩:=j5 hg;obtain⟨z,h4,h5⟩:=j5 h3;refine⟨G,U,x,sG,hU,h1,λv G1 H1 e1 r1=>⟨G1,U,y,e1.s,hU.mono e1.g,h2,λu G2 H2 e2 r2=> ?_⟩⟩;refine hr G2 H2 x y v u z _ e2.s (r1.mono e2.g) r2 h4 λw G3 H3 e3 r3=> ?_
 cases z<;>first |(cases h5;done)|skip
 cases h5;simp only[Rep]at r3;refine⟨k,r3,?_⟩;cases k with
 |false=>
  cases hg;exact as3 (q _ G3 H3 (e1.trans (e2.trans e3)) (by simp[Rep]))
 |true=>
  obtain⟨zc,h6,h7⟩:=j5 hg;refine as2 ⟨G3,U,zc,e3.s,hU.mono (e1.g.trans (e2.g.trans e3.g)),h6,λw' G4 H4 e4 r4=> ?_⟩;exact hr' G4 H4 y zc u w' t Q e4.s (r2.mono (e3.g.trans e4.g)) r4 h7 λz G5 H5 e5 r5=>q z G5 H5 (e1.trans (e2.trans (e3.trans (e4.trans e5)))) r5
theorem bR0(ho:OpR X (compareOp op) r)(hr:N1 X.K r f)(ho':OpR X (compareOp op') r')(hr':N1 X.K r' f')(ha:PX X a ga)(hb:PX X b gb)(hc:PX X c gc)
  (hm:lastMarks [op,op'] [b,c]=false):PX X (.Compare a [op,op'] [b,c] pos) (aB7 f f' ga gb gc):=
 PE.imp (bR8 ho ho' ha hb hc hm) (tXC hr hr')
theorem O5(h:Wd (PX X a g)):Wd (PX X (.BoolOp op [a] pos) g):=⟨have h:=h.run;ci7 h⟩
theorem bw2{g:L3.G}{Z:L2.St}{H G:Hp}{U:A7}{k:Bool}{Q:VK}(sG:Sub G H)(hU:K5 X.K G Z U)(h:bOf g U=some k)(q:∀G1 H1,Ext G H G1 H1->Q (.bl k) H1):tX X.K g Z H Q:=by
 obtain⟨x,h1,h2⟩:=j5 h;refine⟨G,U,x,sG,hU,h1,λv G1 H1 e1 r1=> ?_⟩;cases x<;>first |(cases h2;done)|skip
 cases h2;simp only[Rep]at r1;subst r1;exact q G1 H1 e1
theorem C0(ha:Wd (PX X a ga))(hb:Wd (PX X (.BoolOp .And (b::rest) pos) gb)):Wd (PX X (.BoolOp .And (a::b::rest) pos) (K6 ga gb)):=⟨have ha:=ha.run;have hb:=hb.run;PE.imp (cj1 ha hb) λZ H Q zz=>by
  obtain⟨G,U,t,sG,hU,hg,q⟩:=zz;obtain⟨k,h1,hg⟩:=j5 hg;refine bw2 sG hU h1 λG1 H1 e1=>⟨k,rfl,?_⟩
  cases k with
  |false=>cases hg;exact as3 (q _ G1 H1 e1 (by simp[Rep]))
  |true=>exact as2 ⟨G1,U,t,e1.s,hU.mono e1.g,hg,λz G2 H2 e2 r2=>q z G2 H2 (e1.trans e2) r2⟩⟩
theorem ch5(ha:Wd (PX X a ga))(hb:Wd (PX X (.BoolOp .Or (b::rest) pos) gb)):Wd (PX X (.BoolOp .Or (a::b::rest) pos) (gOr ga gb)):=⟨have ha:=ha.run;have hb:=hb.run;PE.imp (cr1 ha hb) λZ H Q zz=>by
  obtain⟨G,U,t,sG,hU,hg,q⟩:=zz;obtain⟨k,h1,hg⟩:=j5 hg;refine bw2 sG hU h1 λG1 H1 e1=>⟨k,rfl,?_⟩
  cases k with
  |true=>cases hg;exact as2 (q _ G1 H1 e1 (by simp[Rep]))
  |false=>exact as3 ⟨G1,U,t,e1.s,hU.mono e1.g,hg,λz G2 H2 e2 r2=>q z G2 H2 (e1.trans e2) r2⟩⟩
theorem aY1(ha:Wd (PX X a ga)):Wd (PX X (.UnaryOp .Not a pos) (aZ3 ga)):=⟨have ha:=ha.run;PE.imp (ci8 ha) λZ H Q zz=>by
  obtain⟨G,U,t,sG,hU,hg,q⟩:=zz;obtain⟨k,h1,hg⟩:=j5 hg;cases hg;exact bw2 sG hU h1 λG1 H1 e1=>⟨k,rfl,q _ G1 H1 e1 (by simp[Rep])⟩⟩
theorem Y0(h:Wd (PX X e g))(he:∀ak4,isTrue e X.env ak4=(do let v<-ak4;standAt e.pos;holding [v] (truthy v)):=by intro _;rfl):Wd (PXB X e (bOf g)):=⟨have h:=h.run;PT.imp (ci1 h he) λZ H Q ⟨G,U,t,sG,hU,hg,q⟩=>bw2 sG hU hg λG1 H1 e1=>⟨t,rfl,q G1 H1 e1⟩⟩
theorem aj7(h:Wd (PXB X a g)):Wd (PXB X (.UnaryOp .Not a pos) (ae6 g)):=⟨have h:=h.run;PT.imp (ci2 h) λZ H Q zz=>by
  obtain⟨G,U,t,sG,hU,hg,q⟩:=zz;obtain⟨k,h1,hg⟩:=j5 hg;cases hg;exact⟨G,U,k,sG,hU,h1,λG1 H1 e1=>q G1 H1 e1⟩⟩
theorem aq7(h:Wd (PXB X a g)):Wd (PXW X (.BoolOp .And [a] pos) g):=⟨have h:=h.run;ca7 h⟩
theorem af8(h:Wd (PXB X a g)):Wd (PXW X (.BoolOp .Or [a] pos) g):=⟨have h:=h.run;ch8 h⟩
theorem an8(ha:Wd (PXB X a ga))(hb:Wd (PXW X (.BoolOp .And (b::rest) pos) gb)):Wd (PXW X (.BoolOp .And (a::b::rest) pos) (V4 ga gb)):=⟨have ha:=ha.run;have hb:=hb.run;PW.imp (ch9 ha hb) λZ H Q zz=>by
  obtain⟨G,U,t,sG,hU,hg,q⟩:=zz;obtain⟨k,h1,hg⟩:=j5 hg;refine⟨G,U,k,sG,hU,h1,λG1 H1 e1=> ?_⟩;cases k with
  |false=>cases hg;exact as3 (q G1 H1 e1)
  |true=>exact as2 ⟨G1,U,t,e1.s,hU.mono e1.g,hg,λG2 H2 e2=>q G2 H2 (e1.trans e2)⟩⟩
theorem X9(ha:Wd (PXB X a ga))(hb:Wd (PXW X (.BoolOp .Or (b::rest) pos) gb)):Wd (PXW X (.BoolOp .Or (a::b::rest) pos) (bOr ga gb)):=⟨have ha:=ha.run;have hb:=hb.run;PW.imp (cq8 ha hb) λZ H Q zz=>by
  obtain⟨G,U,t,sG,hU,hg,q⟩:=zz;obtain⟨k,h1,hg⟩:=j5 hg;refine⟨G,U,k,sG,hU,h1,λG1 H1 e1=> ?_⟩;cases k with
  |true=>cases hg;exact as2 (q G1 H1 e1)
  |false=>exact as3 ⟨G1,U,t,e1.s,hU.mono e1.g,hg,λG2 H2 e2=>q G2 H2 (e1.trans e2)⟩⟩
theorem ac3(hc:Wd (PXB X c g))(ha:Wd (PX X a ga))(hb:Wd (PX X b gb)):Wd (PX X (.IfExp c a b pos) (gIf g ga gb)):=⟨have hc:=hc.run;have ha:=ha.run;have hb:=hb.run;PE.imp (bR7 hc ha hb) λZ H Q zz=>by
  obtain⟨G,U,t,sG,hU,hg,q⟩:=zz;obtain⟨k,h1,hg⟩:=j5 hg;refine⟨G,U,k,sG,hU,h1,λG1 H1 e1=> ?_⟩;cases k with
  |true=>exact as2 ⟨G1,U,t,e1.s,hU.mono e1.g,hg,λz G2 H2 e2 r2=>q z G2 H2 (e1.trans e2) r2⟩
  |false=>exact as3 ⟨G1,U,t,e1.s,hU.mono e1.g,hg,λz G2 H2 e2 r2=>q z G2 H2 (e1.trans e2) r2⟩⟩
theorem o9:Wd (PXA X [] (gs [])):=⟨PA.imp ab3 λZ H Q zz=>by
 obtain⟨G,U,t,sG,hU,hg,q⟩:=zz;cases hg;exact q [] G H (Ext.refl sG) j8.nil⟩
def bl1:Expr->Bool
 |.Starred _ _=>false
 |_=>true
theorem bY8(h:bl1 e=true):starEach (e::es) env=(false,eval e env)::starEach es env:=by
 cases e<;>first |rfl|cases h
theorem c9(ha:Wd (PX X e g))(hr:Wd (PXA X es (gs l)))(hs:bl1 e=true:=by rfl):Wd (PXA X (e::es) (gs (g::l))):=⟨have ha:=ha.run;have hr:=hr.run;PA.imp (T0 ha hr (bY8 hs)) λZ H Q zz=>by
  obtain⟨G,U,t,sG,hU,hg,q⟩:=zz;obtain⟨x,h1,hg⟩:=j5 hg;obtain⟨xs,h2,hg⟩:=j5 hg;cases hg;refine⟨G,U,x,sG,hU,h1,λv G1 H1 e1 r1=>⟨G1,U,xs,e1.s,hU.mono e1.g,h2,λvs G2 H2 e2 r2=>q _ G2 H2 (e1.trans e2) (j8.cons (r1.mono e2.g) r2)⟩⟩⟩
theorem d0(ha:Wd (PX X e g))(hs:bl1 e=true:=by rfl):Wd (PXA X [e] (gs [g])):=c9 ha o9 hs
theorem ar3:∀{l:List L3.G}{U:A7}{ts:List T},gs l U=some ts->ts.length=l.length
 |[],_,_,hz=>by cases hz;rfl
 |a::r,U,ts,h=>by
  obtain⟨x,_,h⟩:=j5 h;obtain⟨xs,h2,h⟩:=j5 h;cases h;simp[ar3 h2]
theorem at2(h:n<=lim):n<=sizeLine:=cM5 h (by decide)
theorem z9{es:List Expr}{l:List L3.G}{k:Nat}(h:Wd (PXA X es (gs l)))(hl:l.length<=lim:=by decide):Wd (PX X (.Tuple es k pos) (A1 l)):=⟨have h:=h.run;PE.imp (ci6 h) λZ H Q zz=>by
  obtain⟨G,U,t,sG,hU,hg,q⟩:=zz;obtain⟨xs,h1,hg⟩:=j5 hg;cases hg;refine⟨G,U,xs,sG,hU,h1,λvs G1 H1 e1 r1=>⟨by rw[r1.length,ar3 h1];exact at2 hl,λp hp=> ?_⟩⟩;refine q _ (upd G1 p (.tup vs)) _ (e1.trans (Ext.new e1.s hp _)) ?_;simp only[Rep];exact⟨p,vs,rfl,SqT.of t6,r1.mono (K2 (e1.s.free hp) _)⟩⟩
theorem B7{es:List Expr}{l:List L3.G}(h:Wd (PXA X es (gs l)))(hl:l.length<=lim:=by decide):Wd (PX X (.List es pos) (C4 l)):=⟨have h:=h.run;PE.imp (bF9 h) λZ H Q zz=>by
  obtain⟨G,U,t,sG,hU,hg,q⟩:=zz;obtain⟨xs,h1,hg⟩:=j5 hg;cases hg;refine⟨G,U,xs,sG,hU,h1,λvs G1 H1 e1 r1=>⟨by rw[r1.length,ar3 h1];exact at2 hl,λp hp=> ?_⟩⟩;refine q _ (upd G1 p (.lst vs)) _ (e1.trans (Ext.new e1.s hp _)) ?_;simp only[Rep];exact⟨p,vs,rfl,t6,r1.mono (K2 (e1.s.free hp) _)⟩⟩
def spT(K:cO5)(n:Nat)(F:List T->Option T):Sp:=λvs H Q _=>∃G ts t,Sub G H/\j8 K G ts vs/\ts.length=n/\F ts=some t/\∀v G' H',Ext G H G' H'->Rep K G' t v->Q v H'
theorem ca6(n:Nat)(H:P9 X.prog X.w X.K X.mg X.aD CX0 k f fd ps (spT X.K n F))(hr:J9 k X.A)(hg:Gl X x)(hm:X.mg x=some (.ref f))(hk:W.keepIn X.K (.ref f)=true)(hb:P6 X.K fd ps [])
  (ha:PXA X (e::es) (gs l)) (hn:l.length=n) (hdb:NoD x) (he:StE X e es) (hpl:Bks X pos es):
  PX X (.Call (.Name x p) (e::es) [] pos) (gN F l):=
 PE.imp (aL9 H hr hg hm hk hb .nil aT2 ha hdb he hpl) λZ H Q zz=>by
  obtain⟨G,U,t,sG,hU,hg,q⟩:=zz;obtain⟨ts,h1,hg⟩:=j5 hg;refine⟨G,U,ts,sG,hU,h1,λvs G1 H1 e1 r1=> ?_⟩;show spT X.K n F (vs++[]) H1 Q E0;rw[cH0];exact⟨G1,ts,t,e1.s,r1,by rw[ar3 h1,hn],hg,λv G2 H2 e2 r2=>q v G2 H2 (e1.trans e2) r2⟩
theorem ag0{es:List Expr}{l:List L3.G}{r:List V->Hp->VK->Prop}{f:List T->Option T}{x:Str}{id:String}{p:Pos}(hc:ad8 X (.builtin id) r)(hr:am3 X.K r f)(hg:Gl X x)(hm:X.mg x=none)(hv:bootBuiltins x=some (.builtin id))(ha:PXA X (e::es) (gs l))(hn:x≠"__name__")(hdb:NoD x)
  (he:StE X e es) (hpl:Bks X pos es):PX X (.Call (.Name x p) (e::es) [] pos) (gN f l):=
 PE.imp (aQ1 hc hg hm hv ha hn hdb he hpl) λZ H Q zz=>by
  obtain⟨G,U,t,sG,hU,hg,q⟩:=zz;obtain⟨ts,h1,hg⟩:=j5 hg;exact⟨G,U,ts,sG,hU,h1,λvs G1 H1 e1 r1=>hr G1 H1 ts vs t Q e1.s r1 hg λv G2 H2 e2 r2=>q v G2 H2 (e1.trans e2) r2⟩
theorem bF3{es:List Expr}{l:List L3.G}{r:List V->Hp->VK->Prop}{f:List T->Option T}{x:Str}{id:String}{p:Pos}(hc:ad8 X (.type id) r)(hr:am3 X.K r f)(hg:Gl X x)(hm:X.mg x=none)(hv:bootBuiltins x=some (.type id))(ha:PXA X (e::es) (gs l))(hn:x≠"__name__")(hdb:NoD x)
  (he:StE X e es) (hpl:Bks X pos es):PX X (.Call (.Name x p) (e::es) [] pos) (gN f l):=
 PE.imp (bG1 hc hg hm hv ha hn hdb he hpl) λZ H Q zz=>by
  obtain⟨G,U,t,sG,hU,hg,q⟩:=zz;obtain⟨ts,h1,hg⟩:=j5 hg;exact⟨G,U,ts,sG,hU,h1,λvs G1 H1 e1 r1=>hr G1 H1 ts vs t Q e1.s r1 hg λv G2 H2 e2 r2=>q v G2 H2 (e1.trans e2) r2⟩
theorem cq6(ho:IxR X r)(hr:N1 X.K r f)(ha:PX X a ga)(hb:PX X b gb)(hs:aM6 b):PX X (.Subscript a b pos) (g2 f ga gb):=
 PE.imp (bW0 ho ha hb hs) (tX2 hr)
end
section
theorem bu6(h:big i=true):Builtin.Int.intBits i<=2^20:=by
 have h':i.natAbs<2^4000:=by simpa[big]using h
 unfold Builtin.Int.intBits;by_cases h0:i.natAbs=0
 .have e:i=0:=by omega
  subst e;decide
 .have h1:i.natAbs.log2<4000:=(Nat.log2_lt h0).mpr h';have e20:(2:Nat)^20=1048576:=by decide
  split<;>omega
theorem bF1(h:big j=true):Builtin.divisionGoesByPylong i j=false:=by
 refine PyProof.noPylong_of_log2 ?_;have h':j.natAbs<2^4000:=by simpa[big]using h
 by_cases h0:j.natAbs=0
 .rw[h0];decide
 .have h1:j.natAbs.log2<4000:=(Nat.log2_lt h0).mpr h';omega
theorem cb8:OpR X (binaryOp .Mult) (rI (λi j=>big i=true/\big j=true) λi j=>.int (i*j)):=opI λ_ _ _ _ _ _ _ hc q=>mul_int q (IntMulOk.of_bits (bu6 hc.1) (bu6 hc.2))
theorem bS0:OpR X (binaryOp .FloorDiv) (rI (λ_ j=>0<j/\big j=true) λi j=>.int (i/j)):=opI λi j _ _ _ _ _ hc q=>by
 have e:i/j=i.fdiv j:=(Int.fdiv_eq_ediv_of_nonneg i (by omega)).symm;rw[e]at q;exact floordiv_int (by omega) q (.inl (bF1 hc.2))
theorem av1{c:Prop}[Decidable c](h:(if c then some a else none)=some b):c/\b=a:=by
 split at h
 .cases h;exact⟨‹_›,rfl⟩
 .cases h
theorem bP9{K:cO5}:N1 K (λx y H Q=>rI0 (λi j=>.int (i+j)) x y H Q\/ch4 x y H Q) z0:=by
 intro G H tx ty x y tz Q sG rx ry hf q;unfold z0 at hf;split at hf
 .simp only[Rep]at rx ry;cases hf;exact .inl ⟨_,_,rx,ry,q _ G H (Ext.refl sG) (by simp[Rep])⟩
 .simp only[Rep]at rx ry;obtain⟨a,xs,h1,h2,h3⟩:=rx;obtain⟨b,ys,k1,k2,k3⟩:=ry;obtain⟨hl,rfl⟩:=av1 hf;refine .inr ⟨a,b,xs,ys,h1,k1,sG _ _ h2,sG _ _ k2,?_,λp hp=> ?_⟩
  .rw[h3.length,k3.length];exact at2 hl
  .refine q _ (upd G p (.lst (xs++ys))) _ (Ext.new sG hp _) ?_;simp only[Rep];exact⟨p,_,rfl,t6,(h3.append k3).mono (K2 (sG.free hp) _)⟩
 .cases hf
theorem bk5(h:opN f x y=some z):∃i j,x=.int i/\y=.int j/\f i j=some z:=by
 unfold opN at h;split at h
 .exact⟨_,_,rfl,rfl,h⟩
 .cases h
theorem aA5{K:cO5}{g:Int->Int->V}{t:Int->Int->T}(hg:∀K G i j,Rep K G (t i j) (g i j)):N1 K (rI0 g) (opN λi j=>some (t i j)):=by
 intro G H tx ty x y tz Q sG rx ry h q;obtain⟨i,j,rfl,rfl,h⟩:=bk5 h;cases h;simp only[Rep]at rx ry;exact⟨i,j,rx,ry,q _ G H (Ext.refl sG) (hg _ _ _ _)⟩
theorem aP5{K:cO5}{C:Int->Int->Prop}{f:Int->Int->Option T}{g:Int->Int->V}{t:Int->Int->T}(hf:∀i j z,f i j=some z->C i j/\z=t i j)(hg:∀K G i j,Rep K G (t i j) (g i j)):N1 K (rI C g) (opN f):=by
 intro G H tx ty x y tz Q sG rx ry h q;obtain⟨i,j,rfl,rfl,h⟩:=bk5 h;obtain⟨hc,rfl⟩:=hf _ _ _ h;simp only[Rep]at rx ry;exact⟨i,j,rx,ry,hc,q _ G H (Ext.refl sG) (hg _ _ _ _)⟩
theorem aD6{f:Int->Int->Int}(K G i j):Rep K G (.int (f i j)) (.int (f i j)):=by simp[Rep]
theorem aL2{f:Int->Int->Bool}(K G i j):Rep K G (.bl (f i j)) (.bl (f i j)):=by simp[Rep]
theorem bO4{K:cO5}:N1 K (rI0 λi j=>.int (i-j)) aw9:=aA5 aD6
theorem br4{K:cO5}:N1 K (rI0 λi j=>.bl (decide (i<j))) fLt:=aA5 aL2
theorem aX9{K:cO5}:N1 K (rI0 λi j=>.bl (decide (i<=j))) fLe:=aA5 aL2
theorem br6{K:cO5}:N1 K (rI0 λi j=>.bl (decide (j<i))) fGt:=aA5 aL2
theorem bZ5{K:cO5}:N1 K (rI0 λi j=>.bl (decide (j<=i))) fGe:=aA5 aL2
theorem bP6{K:cO5}:N1 K (rI (λ_ j=>0<j/\big j=true) λi j=>.int (i/j)) K7:=aP5 (λi j z h=>by simpa using av1 h) aD6
theorem bO9{K:cO5}:N1 K (rI (λ_ j=>0<j) λi j=>.int (i%j)) J5:=aP5 (λi j z h=>av1 h) aD6
theorem bO5{K:cO5}:N1 K (rI cp0 λi j=>.int (i^j.toNat)) az6:=aP5 (λi j z h=>have⟨hc,e⟩:=av1 h;⟨⟨hc.1,by omega,hc.2.2⟩,e⟩) aD6
theorem bO8{K:cO5}:N1 K (λx y H Q=>(rI (λi j=>big i=true/\big j=true) (λi j=>.int (i*j)) x y H Q\/rI bB3 (λi j=>.int (i*j)) x y H Q)\/cg9 x y H Q) M0:=by
 intro G H tx ty x y tz Q sG rx ry hf q;unfold M0 at hf;split at hf
 .simp only[Rep]at rx ry;obtain⟨hc,rfl⟩:=av1 hf;simp only[cC7,cD3,sm,cP0]at hc;rcases hc with hc|hc
  .exact .inl (.inl ⟨_,_,rx,ry,hc,q _ G H (Ext.refl sG) (by simp[Rep])⟩)
  .exact .inl (.inr ⟨_,_,rx,ry,hc,q _ G H (Ext.refl sG) (by simp[Rep])⟩)
 .rename_i ts k;simp only[Rep]at rx ry;obtain⟨a,xs,h1,h2,h3⟩:=rx;obtain⟨hc,rfl⟩:=av1 hf;have hl:(lim:Int)<2^63:=by decide
  refine .inr ⟨a,k,xs,h1,ry,sG _ _ h2,by omega,by omega,?_,λp hp=> ?_⟩
  .rw[h3.length];exact at2 hc.2.1
  .refine q _ (upd G p (.lst (List.replicate k.toNat xs).flatten)) _ (Ext.new sG hp _) ?_;simp only[Rep];exact⟨p,_,rfl,t6,(h3.rep _).mono (K2 (sG.free hp) _)⟩
 .cases hf
theorem bO6{K:cO5}:bX5 K (rU λi=>.int (-i)) L9:=by
 intro G H tx x tz Q sG rx hf q;cases tx<;>first |cases hf|skip
 simp only[Rep]at rx;exact⟨_,rx,q _ G H (Ext.refl sG) (by simp[Rep])⟩
theorem B9(ha:Wd (PX X a ga))(hb:Wd (PX X b gb)):Wd (PX X (.BinOp a .Add b pos) (g2 z0 ga gb)):=⟨have ha:=ha.run;have hb:=hb.run;aA6 (ck0.or cj9) bP9 ha hb⟩
theorem au1(ha:Wd (PX X a ga))(hb:Wd (PX X b gb)):Wd (PX X (.BinOp a .Sub b pos) (g2 aw9 ga gb)):=⟨have ha:=ha.run;have hb:=hb.run;aA6 cj2 bO4 ha hb⟩
theorem J4(ha:Wd (PX X a ga))(hb:Wd (PX X b gb)):Wd (PX X (.BinOp a .Mult b pos) (g2 M0 ga gb)):=⟨have ha:=ha.run;have hb:=hb.run;aA6 ((cb8.or cj5).or cj3) bO8 ha hb⟩
theorem L7(ha:Wd (PX X a ga))(hb:Wd (PX X b gb)):Wd (PX X (.BinOp a .FloorDiv b pos) (g2 K7 ga gb)):=⟨have ha:=ha.run;have hb:=hb.run;aA6 bS0 bP6 ha hb⟩
theorem M7(ha:Wd (PX X a ga))(hb:Wd (PX X b gb)):Wd (PX X (.BinOp a .Mod b pos) (g2 J5 ga gb)):=⟨have ha:=ha.run;have hb:=hb.run;aA6 cj6 bO9 ha hb⟩
theorem aL3(ha:Wd (PX X a ga))(hb:Wd (PX X b gb)):Wd (PX X (.BinOp a .Pow b pos) (g2 az6 ga gb)):=⟨have ha:=ha.run;have hb:=hb.run;aA6 cj4 bO5 ha hb⟩
theorem M3(ha:Wd (PX X a ga)):Wd (PX X (.UnaryOp .USub a pos) (g1 L9 ga)):=⟨have ha:=ha.run;cq5 cf5 bO6 ha⟩
theorem bI0(n:Nat)(i:Int):ixT n i=ixN n i:=rfl
theorem bL1{ts:List T}{xs:List V}{K:cO5}{G:Hp}{i:Int}{t:T}(h:j8 K G ts xs)(e:((ixT ts.length i).bind λj=>ts[j]?)=some t):∃x,atI xs i=some x/\Rep K G t x:=by
 obtain⟨j,h1,h2⟩:=j5 e;obtain⟨x,hx,rx⟩:=h.get h2;refine⟨x,?_,rx⟩;unfold atI;rw[h.length,<-bI0,h1];exact hx
theorem bZ4{K:cO5}:N1 K (rIx K) z8:=by
 intro G H tx ty x y tz Q sG rx ry hf q;unfold z8 at hf;split at hf
 .simp only[Rep]at rx ry;obtain⟨a,xs,h1,h2,h3⟩:=rx;obtain⟨v,hv,rv⟩:=bL1 h3 hf;exact .inr (.inl ⟨a,xs,_,v,h1,ry,seqT sG h2,hv,q v G H (Ext.refl sG) rv⟩)
 .simp only[Rep]at rx ry;obtain⟨a,xs,h1,h2,h3⟩:=rx;obtain⟨v,hv,rv⟩:=bL1 h3 hf;exact .inl ⟨a,xs,_,v,h1,ry,SqL.of (sG _ _ h2),hv,q v G H (Ext.refl sG) rv⟩
 .rename_i ns i;simp only[Rep]at rx ry;obtain⟨a,h1,h2⟩:=rx;obtain⟨j,k1,k2⟩:=j5 hf;cases hn:ns[j]? with
  |none=>rw[hn]at k2;cases k2
  |some z=>
   rw[hn]at k2;cases k2;refine .inl ⟨a,_,i,.int z,h1,ry,sG.seq h2,?_,q _ G H (Ext.refl sG) (by simp[Rep])⟩;unfold atI;rw[cJ3,<-bI0,k1];show(ns.map V.int)[j]?=_;rw[cI5,hn];rfl
 .cases hf
theorem A4(ha:Wd (PX X a ga))(hb:Wd (PX X b gb))(hs:aM6 b:=by intro _ _;rfl):Wd (PX X (.Subscript a b pos) (d9 ga gb)):=⟨have ha:=ha.run;have hb:=hb.run;cq6 cm4 bZ4 ha hb hs⟩
theorem h9(ha:Wd (PX X a ga)):Wd (PX X (.Subscript a (.Constant (.int i) j p) pos) (d9 ga (gI i))):=A4 ha j4
def hiI:Option Nat->Option Int
 |none=>none
 |some n=>some (n:Int)
def bm9{α:Type}(lo:Nat)(hi:Option Nat)(xs:List α):List α:=match hi with
 |none=>xs.drop lo
 |some h=>(xs.take h).drop lo
theorem bJ8(xs:List α)(lo:Nat)(hi:Option Nat):(xs.drop (HT.sIx xs.length 0 (some (lo:Int)))).take (HT.sIx xs.length xs.length (hiI hi)-HT.sIx xs.length 0 (some (lo:Int)))=bm9 lo hi xs:=by
 rw[HT.sIx_nat];cases hi with
 |none=>
  show(xs.drop (min lo xs.length)).take (xs.length-min lo xs.length)=xs.drop lo
  (rw[cM1 (by simp)]);by_cases h:lo<=xs.length
  .rw[cN1 h]
  .rw[cH4 (by omega),cH4 (by omega)]
 |some h=>
  show(xs.drop (min lo xs.length)).take (HT.sIx xs.length xs.length (some ((h:Nat):Int))-min lo xs.length)=(xs.take h).drop lo;rw[HT.sIx_nat,List.drop_take];by_cases h1:lo<=xs.length
  .rw[cN1 h1];by_cases h2:h<=xs.length
   .rw[cN1 h2]
   .rw[Nat.min_eq_right (by omega),cM1 (by simp),cM1 (by simp;omega)]
  .rw[cH4 (by omega),cH4 (by omega)];simp
theorem ce8(xs:List α)(hi:Option Nat):(xs.drop (HT.sIx xs.length 0 none)).take (HT.sIx xs.length xs.length (hiI hi)-HT.sIx xs.length 0 none)=bm9 0 hi xs:=by
 have h:=bJ8 xs 0 hi;rw[HT.sIx_nat,Nat.zero_min]at h;exact h
def PO1(X:Cx)(e:Option Expr)(o:Option Int):Prop:=PO X e (λ_ H Q=>Q o H)
theorem ao3:PO1 X none none:=bs3
theorem au5:PO1 X (some (.Constant (.int i) j pos)) (some i):=by
 have h:=bs2 (X:=X) (bG0 (i:=i) (j:=j) (pos:=pos));intro aA s Z H Q I q;exact h aA s Z H Q I ⟨i,rfl,q⟩
theorem au4(lo:Nat)(hi:Option Nat)(ha:Wd (PX X a ga))(l:PO1 X elo (some (lo:Int))\/(lo=0/\PO1 X elo none))(h:PO1 X ehi (hiI hi)):Wd (PX X (.Subscript a (.Slice elo ehi none p2) pos) (g1 (ag4 lo hi) ga)):=⟨by
 have ha:=ha.run;have key:∀(o:Option Int),(o=some (lo:Int)\/(lo=0/\o=none))->∀(α:Type) (xs:List α),(xs.drop (HT.sIx xs.length 0 o)).take (HT.sIx xs.length xs.length (hiI hi)-HT.sIx xs.length 0 o)=bm9 lo hi xs:=by
  rintro o (rfl|⟨rfl,rfl⟩) α xs
  .exact bJ8 xs lo hi
  .exact ce8 xs hi
 have main:∀(o:Option Int),(o=some (lo:Int)\/(lo=0/\o=none))->PO1 X elo o->PX X (.Subscript a (.Slice elo ehi none p2) pos) (g1 (ag4 lo hi) ga):=by
  intro o ho l;refine PE.imp (bk1 (bq8.or cg5) ha l h) λZ H Q ⟨G,U,t,sG,hU,hg,q⟩=> ?_
  obtain⟨x,h1,hg⟩:=j5 hg;refine⟨G,U,x,sG,hU,h1,λv G1 H1 e1 r1=> ?_⟩;cases x with
  |tup ts=>
   simp only[ag4]at hg;split at hg
   .cases hg
   rename_i hcond;cases hg;simp only[Rep]at r1;obtain⟨p,xs,k1,k2,k3⟩:=r1;refine .inr ⟨p,xs,k1,seqT e1.s k2,?_⟩;have ec:as5 xs o (hiI hi)=bm9 lo hi xs:=key o ho V xs;have hq:∀G' H' (r:Addr),Ext G1 H1 G' H'->SqT X.K G' r (as5 xs o (hiI hi))->Q (.ref r) H':=λG' H' r ex hr=>by
    refine q _ G' H' (e1.trans ex) ?_;simp only[Rep];refine⟨r,_,rfl,hr,?_⟩;rw[ec];cases hi with
    |none=>exact(k3.drop lo).mono ex.g
    |some n=>exact((k3.take n).drop lo).mono ex.g
   refine⟨λhw=> ?_,λp' hp=>hq _ _ p' (Ext.new e1.s hp _) (SqT.of t6)⟩;refine hcond ⟨?_,?_⟩
   .have h1:=hw.1;rcases ho with rfl|⟨rfl,rfl⟩
    .rw[HT.sIx_nat,k3.length]at h1;exact h1
    .exact Nat.zero_min _
   .have h2:=hw.2;cases hi with
    |none=>rfl
    |some n=>
     have h3:HT.sIx xs.length xs.length (some ((n:Nat):Int))=xs.length:=h2;rw[HT.sIx_nat,k3.length]at h3;exact h3
  |lst ts=>
   cases hg;simp only[Rep]at r1;obtain⟨p,xs,k1,k2,k3⟩:=r1;refine .inl ⟨p,xs,k1,SqL.of (e1.s _ _ k2),λp' hp=> ?_⟩;have ec:as5 xs o (hiI hi)=bm9 lo hi xs:=key o ho V xs;refine q _ _ _ (e1.trans (Ext.new e1.s hp _)) ?_;simp only[Rep];refine⟨p',_,rfl,t6,?_⟩;rw[ec];cases hi with
   |none=>exact(k3.drop lo).mono (K2 (e1.s.free hp) _)
   |some n=>exact((k3.take n).drop lo).mono (K2 (e1.s.free hp) _)
  |_=>cases hg
 rcases l with l|⟨e0,l⟩
 .exact main _ (.inl rfl) l
 .exact main _ (.inr ⟨e0,rfl⟩) l⟩
theorem bj1(ha:Wd (PX X a ga))(hb:Wd (PX X b gb)):Wd (PX X (.Compare a [.Lt] [b] pos) (g2 fLt ga gb)):=⟨have ha:=ha.run;have hb:=hb.run;av9 bW1 br4 ha hb (W8 _)⟩
theorem ch6(ha:Wd (PX X a ga))(hb:Wd (PX X b gb)):Wd (PX X (.Compare a [.LtE] [b] pos) (g2 fLe ga gb)):=⟨have ha:=ha.run;have hb:=hb.run;av9 bx3 aX9 ha hb (W8 _)⟩
theorem bE2(ha:Wd (PX X a ga))(hb:Wd (PX X b gb)):Wd (PX X (.Compare a [.Gt] [b] pos) (g2 fGt ga gb)):=⟨have ha:=ha.run;have hb:=hb.run;av9 bW2 br6 ha hb (W8 _)⟩
theorem ch7(ha:Wd (PX X a ga))(hb:Wd (PX X b gb)):Wd (PX X (.Compare a [.GtE] [b] pos) (g2 fGe ga gb)):=⟨have ha:=ha.run;have hb:=hb.run;av9 cr4 bZ5 ha hb (W8 _)⟩
theorem al1(ha:Wd (PX X a ga))(hb:Wd (PX X b gb)):Wd (PXB X (.Compare a [.Lt] [b] pos) (bOf (g2 fLt ga gb))):=⟨have ha:=ha.run;have hb:=hb.run;ai3 bW1 br4 ha hb (W8 _)⟩
theorem bE5(ha:Wd (PX X a ga))(hb:Wd (PX X b gb)):Wd (PXB X (.Compare a [.Gt] [b] pos) (bOf (g2 fGt ga gb))):=⟨have ha:=ha.run;have hb:=hb.run;ai3 bW2 br6 ha hb (W8 _)⟩
theorem bj2(ha:Wd (PX X a ga))(hb:Wd (PX X b gb))(hc:Wd (PX X c gc))(hm:lastMarks [.LtE,.LtE] [b,c]=false:=by with_unfolding_all rfl):Wd (PX X (.Compare a [.LtE,.LtE] [b,c] pos) (aB7 fLe fLe ga gb gc)):=⟨have ha:=ha.run;have hb:=hb.run;have hc:=hc.run;bR0 bx3 aX9 bx3 aX9 ha hb hc hm⟩
theorem av0{K:cO5}{G:Hp}:∀{ts:List T}{is:List Int}{xs:List V},X3 ts=some is->j8 K G ts xs->xs=is.map V.int
 |[],is,xs,h,r=>by cases h;simpa[j8]using r
 |.int i::ts,is,xs,h,r=>by
  obtain⟨is',h1,h2⟩:=j5 h;cases h2;simp only[j8]at r;obtain⟨x,xr,e,rx,rr⟩:=r;subst e;simp only[Rep]at rx;subst rx;rw[av0 h1 rr];rfl
 |.non::_,_,_,h,_=>by cases h
 |.bl _::_,_,_,h,_=>by cases h
 |.str _::_,_,_,h,_=>by cases h
 |.tup _::_,_,_,h,_=>by cases h
 |.lst _::_,_,_,h,_=>by cases h
 |.ref _::_,_,_,h,_=>by cases h
 |.scr _::_,_,_,h,_=>by cases h
theorem aF7{K:cO5}{G:Hp}:∀{ts:List T}{is:List Bool}{xs:List V},ag6 ts=some is->j8 K G ts xs->xs=is.map V.bl
 |[],is,xs,h,r=>by cases h;simpa[j8]using r
 |.bl i::ts,is,xs,h,r=>by
  obtain⟨is',h1,h2⟩:=j5 h;cases h2;simp only[j8]at r;obtain⟨x,xr,e,rx,rr⟩:=r;subst e;simp only[Rep]at rx;subst rx;rw[aF7 h1 rr];rfl
 |.non::_,_,_,h,_=>by cases h
 |.int _::_,_,_,h,_=>by cases h
 |.str _::_,_,_,h,_=>by cases h
 |.tup _::_,_,_,h,_=>by cases h
 |.lst _::_,_,_,h,_=>by cases h
 |.ref _::_,_,_,h,_=>by cases h
 |.scr _::_,_,_,h,_=>by cases h
theorem bT5(i:Int)(is:List Int):inV (.int i) (is.map V.int)=is.contains i:=by
 unfold inV;induction is with
 |nil=>rfl
 |cons j r ih=>
  rw[cB4,cG9,ih,List.contains_cons];congr 1;show eqV (.int j) (.int i)=(i==j);rw[cC8];simp only[eqV]
  first
   |(simp;exact eq_comm)
   |(constructor<;>intro h<;>simp_all)
theorem bJ2(is:List Int):(is.map V.int).all al8=true:=by
 induction is with
 |nil=>rfl
 |cons j r ih=>rw[cB4,cG6,ih];rfl
theorem br5{K:cO5}(neg:Bool):N1 K (rIn K neg) (if neg then S9 else fIn):=by
 have main:∀(G H:Hp) (tx ty:T) (x y:V) (tz:T),Sub G H->Rep K G tx x->Rep K G ty y->fIn tx ty=some tz->∃p xs b,tz=.bl b/\y=.ref p/\(SqL K H p xs\/SqT K H p xs)/\al8 x=true/\xs.all al8=true/\inV x xs=b:=by
  intro G H tx ty x y tz sG rx ry hf;unfold fIn at hf;split at hf<;>first |(cases hf;done)|skip
  all_goals
   simp only[Rep]at rx ry;obtain⟨a,xs,h1,h2,h3⟩:=ry;obtain⟨is,k1,k2⟩:=j5 hf;cases k2;have e:=av0 k1 h3;subst e rx;exact⟨a,_,_,rfl,h1,by first |exact .inr (seqT sG h2)|exact .inl (SqL.of (sG _ _ h2)),rfl,bJ2 is,bT5 _ is⟩
 intro G H tx ty x y tz Q sG rx ry hf q;cases neg with
 |false=>
  obtain⟨p,xs,b,e,h1,h2,h3,h4,h5⟩:=main G H tx ty x y tz sG rx ry hf;subst e;refine⟨p,xs,h1,h2,h3,h4,?_⟩;show Q (.bl (inV x xs)) H;rw[h5];exact q _ G H (Ext.refl sG) (by simp[Rep])
 |true=>
  obtain⟨z,hz,hf⟩:=j5 hf;obtain⟨p,xs,b,e,h1,h2,h3,h4,h5⟩:=main G H tx ty x y z sG rx ry hz;subst e;cases hf;refine⟨p,xs,h1,h2,h3,h4,?_⟩;show Q (.bl (!inV x xs)) H;rw[h5];exact q _ G H (Ext.refl sG) (by simp[Rep])
theorem bE4(ha:Wd (PX X a ga))(hb:Wd (PX X b gb))(hm:behindInMarks .In b=false:=by with_unfolding_all rfl):Wd (PXB X (.Compare a [.In] [b] pos) (bOf (g2 fIn ga gb))):=⟨have ha:=ha.run;have hb:=hb.run;ai3 bG4 (br5 false) ha hb hm⟩
theorem ay2(ha:Wd (PX X a ga))(hb:Wd (PX X b gb))(hm:behindInMarks .NotIn b=false:=by with_unfolding_all rfl):Wd (PXB X (.Compare a [.NotIn] [b] pos) (bOf (g2 S9 ga gb))):=⟨have ha:=ha.run;have hb:=hb.run;ai3 bk4 (br5 true) ha hb hm⟩
theorem bt4:∀ns ms:List Int,as1 ns ms=HT.lexLt ns ms
 |[],[]=>rfl
 |[],_::_=>rfl
 |_::_,[]=>rfl
 |x::xs,y::ys=>by
  rw[HT.lexLt_cons,<-bt4 xs ys];rfl
theorem bP2{K:cO5}:N1 K (ch0 K) bz2:=by
 intro G H tx ty x y tz Q sG rx ry hf q;unfold bz2 at hf;split at hf<;>first |(cases hf;done)|skip
 simp only[Rep]at rx ry;obtain⟨a,xs,h1,h2,h3⟩:=rx;obtain⟨b,ys,k1,k2,k3⟩:=ry;obtain⟨ns,e1,hf⟩:=j5 hf;obtain⟨ms,e2,hf⟩:=j5 hf;cases hf;have z1:=av0 e1 h3;have z2:=av0 e2 k3;subst z1 z2;refine⟨a,b,ns,ms,h1,k1,seqT sG h2,seqT sG k2,?_⟩;rw[<-bt4];exact q _ G H (Ext.refl sG) (by simp[Rep])
theorem ca0(hu:X.A.units<cLine)(ha:Wd (PX X a ga))(hb:Wd (PX X b gb)):Wd (PX X (.Compare a [.Lt] [b] pos) (g2 bz2 ga gb)):=⟨have ha:=ha.run;have hb:=hb.run;av9 (cj7 hu) bP2 ha hb (W8 _)⟩
end
theorem ax2:∀{xs ys:List T}{b:Bool},aa5 f xs ys=some b->∃e:Nat->Bool,(∀j x y,xs[j]?=some x->ys[j]?=some y->f x y=some (e j))/\b=(List.range (min xs.length ys.length)).all e
 |[],ys,b,h=>by cases h;exact⟨λ_=>true,λj x y e=>by simp at e,by simp⟩
 |_::_,[],b,h=>by cases h;exact⟨λ_=>true,λj x y _ e=>by simp at e,by simp⟩
 |x::xs,y::ys,b,h=>by
  obtain⟨a,h1,h⟩:=j5 h;obtain⟨c,h2,h⟩:=j5 h;cases h;obtain⟨e,he,hc⟩:=ax2 h2;refine⟨λj=>match j with |0=>a|j+1=>e j,λj u v eu ev=> ?_,?_⟩
  .cases j with
   |zero=>simp at eu ev;subst eu ev;exact h1
   |succ j=>exact he j u v (by simpa using eu) (by simpa using ev)
  .rw[hc,cB8,cB8,Nat.succ_min_succ,cL6,cG6,cG8];rfl
section
variable {X:Cx}
theorem ax1(I:Inv X aA Z H s):∀(n:Nat) (t u:T) (v:V) (b:Bool),Rep X.K H t v->Rep X.K H u v->eqD n t u=some b->b=true
 |0,_,_,_,_,_,_,hz=>by cases hz
 |n+1,t,u,v,b,rt,ru,h=>by
  unfold eqD at h;split at h<;>first |(cases h;done)|(rename_i e;cases e)
  .cases h;rfl
  .simp only[Rep]at rt ru;cases h;subst rt;cases ru;simp
  .simp only[Rep]at rt ru;cases h;subst rt;cases ru;simp
  .simp only[Rep]at rt ru;cases h;subst rt;cases ru;simp
  .rename_i xs ys;simp only[Rep]at rt ru;obtain⟨a,vs,e1,h2,h3⟩:=rt;obtain⟨a',vs',e1',h2',h3'⟩:=ru;subst e1;cases e1';have e:=I.tuple_inj h2 h2';subst e;obtain⟨c,hc,h⟩:=j5 h;cases h;obtain⟨e,he,hb⟩:=ax2 hc;have hl:xs.length=ys.length:=h3.length.symm.trans h3'.length;have :c=true:=by
    rw[hb,cG7];intro j hj;rw[List.mem_range,hl,Nat.min_self]at hj;have q1:xs[j]?=some xs[j]:=cI3 (by omega);have q2:ys[j]?=some ys[j]:=cI3 hj;obtain⟨w1,k1,k2⟩:=h3.get q1;obtain⟨w2,k1',k2'⟩:=h3'.get q2;rw[k1]at k1';cases k1';exact ax1 I n _ _ _ _ k2 k2' (he j _ _ q1 q2)
   rw[this,hl];simp
  .rename_i xs ys;simp only[Rep]at rt ru;obtain⟨a,vs,e1,h2,h3⟩:=rt;obtain⟨a',vs',e1',h2',h3'⟩:=ru;subst e1;cases e1';rw[h2]at h2';cases h2';have hl:xs.length=ys.length:=h3.length.symm.trans h3'.length;rw[cP2 hl]at h;obtain⟨e,he,hb⟩:=ax2 h;rw[hb,cG7];intro j hj;rw[List.mem_range,hl,Nat.min_self]at hj;have q1:xs[j]?=some xs[j]:=cI3 (by omega);have q2:ys[j]?=some ys[j]:=cI3 hj;obtain⟨w1,k1,k2⟩:=h3.get q1;obtain⟨w2,k1',k2'⟩:=h3'.get q2;rw[k1]at k1';cases k1';exact ax1 I n _ _ _ _ k2 k2' (he j _ _ q1 q2)
  .rename_i ns;cases h;simp only[Rep]at rt ru;obtain⟨a,e1,h2⟩:=rt;obtain⟨a',vs',e1',h2',h3'⟩:=ru;subst e1;cases e1';have e:=I.list_inj h2 (SqL.of h2');simp only[j8]at h3';subst h3';cases ns with
   |nil=>rfl
   |cons x r=>cases e
theorem bm0{A:Around}{n:Nat}{xs ys:List T}{vs ws:List V}{us zs:List Value}{e:Nat->Bool}(ih:∀t u v w b (vv ww:Value),Rep X.K H t v->Rep X.K H u w->D0 v vv->D0 w ww->eqD n t u=some b->SeqAt.EqAt A s vv ww b)
  (h3:j8 X.K H xs vs) (h3':j8 X.K H ys ws) (r1:B6 vs us) (r2:B6 ws zs) (he:∀j x y,xs[j]?=some x->ys[j]?=some y->eqD n x y=some (e j)):
  ∀j (h1:j<us.toArray.size) (h2:j<zs.toArray.size),SeqAt.EqAt A s us.toArray[j] zs.toArray[j] (e j):=by
 intro j h1 h2;have l1:xs.length=us.length:=by rw[<-r1.length,h3.length]
 have l2:ys.length=zs.length:=by rw[<-r2.length,h3'.length]
 have h1':j<us.length:=by simpa using h1
 have h2':j<zs.length:=by simpa using h2
 have q1:xs[j]?=some xs[j]:=cI3 (by omega);have q2:ys[j]?=some ys[j]:=cI3 (by omega);obtain⟨w1,k1,k2⟩:=h3.get q1;obtain⟨w2,k1',k2'⟩:=h3'.get q2;obtain⟨u1,m1,m2⟩:=r1.get k1;obtain⟨u2,m1',m2'⟩:=r2.get k1';rw[cI3 h1']at m1;rw[cI3 h2']at m1';have e1:us.toArray[j]=u1:=by simpa using m1
 have e2:zs.toArray[j]=u2:=by simpa using m1'
 rw[e1,e2];exact ih _ _ _ _ _ _ _ k2 k2' m2 m2' (he j _ _ q1 q2)
theorem bB5(A:Around):A.in1.units<=A.units+1:=by first |exact cM3 _|exact Nat.le_of_eq rfl|(unfold Around.in1;simp)|(unfold Around.in1;simp;omega)
theorem bi6(I:Inv X aA Z H s):∀(n:Nat) (A:Around) (t u:T) (v w:V) (b:Bool) (vv ww:Value),A.units+n<cLine->Rep X.K H t v->Rep X.K H u w->D0 v vv->D0 w ww->eqD n t u=some b->SeqAt.RcAt A s vv ww b/\SeqAt.RcNeAt A s vv ww (!b)/\SeqAt.EqAt A s vv ww b
 |0,_,_,_,_,_,_,_,_,_,_,_,_,_,h=>by cases h
 |n+1,A,t,u,v,w,b,vv,ww,hu,rt,ru,rv,rw',h=>by
  have ih:∀t u v w b (vv ww:Value),Rep X.K H t v->Rep X.K H u w->D0 v vv->D0 w ww->eqD n t u=some b->SeqAt.EqAt A.in1 s vv ww b:=λt u v w b vv ww q1 q2 q3 q4 q5=>
   (bi6 I n A.in1 t u v w b vv ww (by have :=bB5 A;omega) q1 q2 q3 q4 q5).2.2
  unfold eqD at h;split at h<;>first |(cases h;done)|(rename_i e;cases e)
  .simp only[Rep]at rt ru;cases h;subst rt ru;cases rv;cases rw';exact⟨SeqAt.RcAt.none_none,SeqAt.RcNeAt.none_none,SeqAt.EqAt.same _⟩
  .simp only[Rep]at rt ru;cases h;subst rt ru;cases rv;cases rw';exact⟨SeqAt.RcAt.bool_bool _ _,SeqAt.RcNeAt.bool_bool _ _,SeqAt.EqAt.bool_bool _ _⟩
  .simp only[Rep]at rt ru;cases h;subst rt ru;obtain⟨t1,rfl⟩:=rv;obtain⟨t2,rfl⟩:=rw';exact⟨SeqAt.RcAt.int_int _ _ _ _,SeqAt.RcNeAt.int_int _ _ _ _,SeqAt.EqAt.int_int _ _ _ _⟩
  .simp only[Rep]at rt ru;cases h;subst rt ru;obtain⟨t1,rfl⟩:=rv;obtain⟨t2,rfl⟩:=rw';exact⟨SeqAt.RcAt.str_str _ _ _ _,SeqAt.RcNeAt.str_str _ _ _ _,SeqAt.EqAt.str_str _ _ _ _⟩
  .rename_i xs ys;have hsame:=ax1 I (n+1) (.tup xs) (.tup ys);have h0:=h;have rt0:=rt;have ru0:=ru;simp only[Rep]at rt ru;obtain⟨a,vs,e1,h2,h3⟩:=rt;obtain⟨a',vs',e1',h2',h3'⟩:=ru;subst e1 e1';cases rv;cases rw';obtain⟨us,r1,p1,_⟩:=I.tuple h2;obtain⟨zs,r2,p2,_⟩:=I.tuple h2';obtain⟨c,hc,h⟩:=j5 h;cases h;obtain⟨e,he,hb⟩:=ax2 hc;have l1:us.toArray.size=xs.length:=by rw[cL9,<-r1.length,h3.length]
   have l2:zs.toArray.size=ys.length:=by rw[cL9,<-r2.length,h3'.length]
   have it:=bm0 ih h3 h3' r1 r2 he;have R:=SeqAt.RcAt.tuples (A:=A) p1 p2 (by omega) it;have N:=SeqAt.RcNeAt.tuples (A:=A) p1 p2 (by omega) it;rw[l1,l2,<-hb]at R;rw[l1,l2,<-hb]at N;refine⟨R,N,?_⟩;by_cases hne:a=a'
   .subst hne;rw[hsame _ _ rt0 ru0 h0];exact SeqAt.EqAt.same _
   .exact SeqAt.EqAt.of_refs hne R
  .rename_i xs ys;have hsame:=ax1 I (n+1) (.lst xs) (.lst ys);have h0:=h;have rt0:=rt;have ru0:=ru;simp only[Rep]at rt ru;obtain⟨a,vs,e1,h2,h3⟩:=rt;obtain⟨a',vs',e1',h2',h3'⟩:=ru;subst e1 e1';cases rv;cases rw';obtain⟨us,r1,p1,_⟩:=I.list (SqL.of h2);obtain⟨zs,r2,p2,_⟩:=I.list (SqL.of h2');have l1:us.toArray.size=xs.length:=by rw[cL9,<-r1.length,h3.length]
   have l2:zs.toArray.size=ys.length:=by rw[cL9,<-r2.length,h3'.length]
   have fin:SeqAt.RcAt A s (.ref a) (.ref a') b/\SeqAt.RcNeAt A s (.ref a) (.ref a') (!b):=by
    by_cases hl:xs.length=ys.length
    .rw[cP2 hl]at h;obtain⟨e,he,hb⟩:=ax2 h;have it:=bm0 ih h3 h3' r1 r2 he;have R:=SeqAt.RcAt.lists (A:=A) p1.isList p2.isList (by rw[l1,l2,hl]) (by omega) it;have N:=SeqAt.RcNeAt.lists (A:=A) p1.isList p2.isList (by rw[l1,l2,hl]) (by omega) it;rw[<-hl,Nat.min_self,<-l1]at hb;rw[hb];exact⟨R,N⟩
    .rw[cP1 hl]at h;cases h;have hs:(us.toArray.size !=zs.toArray.size)=true:=by rw[l1,l2];simpa using hl
     exact⟨SeqAt.RcAt.lists_lengths p1.isList p2.isList hs (by omega),SeqAt.RcNeAt.lists_lengths p1.isList p2.isList hs (by omega)⟩
   refine⟨fin.1,fin.2,?_⟩;by_cases hne:a=a'
   .subst hne;rw[hsame _ _ rt0 ru0 h0];exact SeqAt.EqAt.same _
   .exact SeqAt.EqAt.of_refs hne fin.1
  .rename_i ns;have hsame:=ax1 I (n+1) (.scr ns) (.lst []);have h0:=h;have rt0:=rt;have ru0:=ru;cases h;simp only[Rep]at rt ru;obtain⟨a,e1,h2⟩:=rt;obtain⟨a',vs',e1',h2',h3'⟩:=ru;subst e1 e1';cases rv;cases rw';simp only[j8]at h3';subst h3';obtain⟨us,r1,p1,_⟩:=I.list h2;obtain⟨zs,r2,p2,_⟩:=I.list (SqL.of h2');cases r2;have l1:us.toArray.size=ns.length:=by rw[cL9,<-r1.length,cJ3]
   have fin:SeqAt.RcAt A s (.ref a) (.ref a') ns.isEmpty/\SeqAt.RcNeAt A s (.ref a) (.ref a') (!ns.isEmpty):=by
    cases ns with
    |nil=>
     cases r1;exact⟨SeqAt.RcAt.lists (e:=λ_=>true) (A:=A) p1.isList p2.isList rfl (by omega) (λj h1=>absurd h1 (by simp)),SeqAt.RcNeAt.lists (e:=λ_=>true) (A:=A) p1.isList p2.isList rfl (by omega) (λj h1=>absurd h1 (by simp))⟩
    |cons x r=>
     have hs:(us.toArray.size !=([]:List Value).toArray.size)=true:=by rw[l1];simp
     exact⟨SeqAt.RcAt.lists_lengths p1.isList p2.isList hs (by omega),SeqAt.RcNeAt.lists_lengths p1.isList p2.isList hs (by omega)⟩
   refine⟨fin.1,fin.2,?_⟩;by_cases hne:a=a'
   .subst hne;rw[hsame _ _ rt0 ru0 h0];exact SeqAt.EqAt.same _
   .exact SeqAt.EqAt.of_refs hne fin.1
end
section
def bw6(K:cO5)(neg:Bool):R2:=λx y H Q=>∃t u k,Rep K H t x/\Rep K H u y/\eqD 8 t u=some k/\Q (.bl (if neg then !k else k)) H
theorem bG5(hu:X.A.units+8<cLine):OpR X (compareOp .Eq) (bw6 X.K false):=by
 intro aA s Z H x y v u Q I rx ry h;obtain⟨t,t',k,h1,h2,h3,q⟩:=h;exact(bi6 I 8 X.A t t' x y k v u hu h1 h2 rx ry h3).1 _ _ _ _ ⟨.bl k,H,I,rfl,q⟩
theorem bG3(hu:X.A.units+8<cLine):OpR X (compareOp .NotEq) (bw6 X.K true):=by
 intro aA s Z H x y v u Q I rx ry h;obtain⟨t,t',k,h1,h2,h3,q⟩:=h;exact(bi6 I 8 X.A t t' x y k v u hu h1 h2 rx ry h3).2.1 _ _ _ _ ⟨.bl !k,H,I,rfl,q⟩
theorem br7{K:cO5}:N1 K (bw6 K false) fEq:=by
 intro G H tx ty x y tz Q sG rx ry hf q;obtain⟨k,h1,h2⟩:=j5 hf;cases h2;exact⟨tx,ty,k,rx.mono sG,ry.mono sG,h1,q _ G H (Ext.refl sG) (by simp[Rep])⟩
theorem br3{K:cO5}:N1 K (bw6 K true) fNe:=by
 intro G H tx ty x y tz Q sG rx ry hf q;obtain⟨k,h1,h2⟩:=j5 hf;cases h2;exact⟨tx,ty,k,rx.mono sG,ry.mono sG,h1,q _ G H (Ext.refl sG) (by simp[Rep])⟩
theorem hu8(hr:J9 k A):A.units+8<cLine:=by have :=hr.units;omega
theorem T8(hr:J9 k X.A)(ha:Wd (PX X a ga))(hb:Wd (PX X b gb)):Wd (PX X (.Compare a [.Eq] [b] pos) (g2 fEq ga gb)):=⟨have ha:=ha.run;have hb:=hb.run;av9 (bG5 (hu8 hr)) br7 ha hb (W8 _)⟩
theorem bE1(hr:J9 k X.A)(ha:Wd (PX X a ga))(hb:Wd (PX X b gb)):Wd (PX X (.Compare a [.NotEq] [b] pos) (g2 fNe ga gb)):=⟨have ha:=ha.run;have hb:=hb.run;av9 (bG3 (hu8 hr)) br3 ha hb (W8 _)⟩
theorem af9(hr:J9 k X.A)(ha:Wd (PX X a ga))(hb:Wd (PX X b gb)):Wd (PXB X (.Compare a [.Eq] [b] pos) (bOf (g2 fEq ga gb))):=⟨have ha:=ha.run;have hb:=hb.run;ai3 (bG5 (hu8 hr)) br7 ha hb (W8 _)⟩
theorem ab2(hr:J9 k X.A)(ha:Wd (PX X a ga))(hb:Wd (PX X b gb)):Wd (PXB X (.Compare a [.NotEq] [b] pos) (bOf (g2 fNe ga gb))):=⟨have ha:=ha.run;have hb:=hb.run;ai3 (bG3 (hu8 hr)) br3 ha hb (W8 _)⟩
theorem bt8{K:cO5}{G:Hp}{t:T}{v:V}(h:Rep K G t v):decide (v=V.non)=bg0 t:=by
 cases t<;>simp only[Rep]at h<;>unfold bg0
 .subst h;simp
 .subst h;simp
 .subst h;simp
 .subst h;simp
 .obtain⟨a,_,rfl,_⟩:=h;simp
 .obtain⟨a,_,rfl,_⟩:=h;simp
 .subst h;simp
 .obtain⟨a,rfl,_⟩:=h;simp
 .obtain⟨a,_,_,_,_,rfl,_⟩:=h;simp
theorem bD4{K:cO5}{G:Hp}{b:Bool}:Rep K G (.bl b) (.bl b):=by simp[Rep]
theorem bP4{K:cO5}:N1 K (λx y H Q=>y=.non/\Q (.bl (decide (x=.non))) H) (λx y=>match y with |.non=>aI9 x|_=>none):=by
 intro G H tx ty x y tz Q sG rx ry hf q;cases ty<;>first |(cases hf;done)|skip
 simp only[Rep]at ry;cases hf;refine⟨ry,?_⟩;rw[bt8 rx];exact q _ G H (Ext.refl sG) bD4
theorem bD5{K:cO5}:N1 K (λx y H Q=>y=.non/\Q (.bl (!decide (x=.non))) H) (λx y=>match y with |.non=>aU7 x|_=>none):=by
 intro G H tx ty x y tz Q sG rx ry hf q;cases ty<;>first |(cases hf;done)|skip
 simp only[Rep]at ry;cases hf;refine⟨ry,?_⟩;rw[bt8 rx];exact q _ G H (Ext.refl sG) bD4
theorem aL5(ha:Wd (PX X a ga))(hb:Wd (PX X b gb)):Wd (PXB X (.Compare a [.Is] [b] pos) (bOf (g2 (λx y=>match y with |.non=>aI9 x|_=>none) ga gb))):=⟨have ha:=ha.run;have hb:=hb.run;ai3 cj8 bP4 ha hb (W8 _)⟩
theorem bj3(ha:Wd (PX X a ga))(hb:Wd (PX X b gb)):Wd (PXB X (.Compare a [.IsNot] [b] pos) (bOf (g2 (λx y=>match y with |.non=>aU7 x|_=>none) ga gb))):=⟨have ha:=ha.run;have hb:=hb.run;ai3 cb7 bD5 ha hb (W8 _)⟩
theorem bP3{K:cO5}:am3 K (λxs H Q=>∃p ys,xs=[.ref p]/\(SqL K H p ys\/SqT K H p ys)/\Q (.int ys.length) H) C5:=by
 intro G H ts xs tz Q sG r hf q
 match ts,hf with
 |[.tup us],hf=>
  cases hf;simp only[j8]at r;obtain⟨x,xr,e,rx,rr⟩:=r;subst e rr;simp only[Rep]at rx;obtain⟨p,ys,h1,h2,h3⟩:=rx;subst h1;refine⟨p,ys,rfl,.inr (seqT sG h2),?_⟩;rw[h3.length];exact q _ G H (Ext.refl sG) (by simp[Rep])
 |[.lst us],hf=>
  cases hf;simp only[j8]at r;obtain⟨x,xr,e,rx,rr⟩:=r;subst e rr;simp only[Rep]at rx;obtain⟨p,ys,h1,h2,h3⟩:=rx;subst h1;refine⟨p,ys,rfl,.inl (SqL.of (sG _ _ h2)),?_⟩;rw[h3.length];exact q _ G H (Ext.refl sG) (by simp[Rep])
 |[.scr ns],hf=>
  cases hf;simp only[j8]at r;obtain⟨x,xr,e,rx,rr⟩:=r;subst e rr;simp only[Rep]at rx;obtain⟨p,h1,h2⟩:=rx;subst h1;refine⟨p,_,rfl,.inl (sG.seq h2),?_⟩;rw[cJ3];exact q _ G H (Ext.refl sG) (by simp[Rep])
theorem D3(hm:X.mg "len"=none)(ha:Wd (PXA X [e] (gs [g])))(hg:Gl X "len":=by rfl)(he:StE X e []:=by rfl)(hpl:Bks X pos []:=by rfl):Wd (PX X (.Call (.Name "len" p) [e] [] pos) (gN C5 [g])):=⟨have ha:=ha.run;ag0 bn6 bP3 hg hm PySem.boot_len ha (by decide) (by decide) he hpl⟩
theorem ah2{K:cO5}{G:Hp}{t:T}{xs:List V}(h:j8 K G [t] xs):∃x,xs=[x]/\Rep K G t x:=by
 simp only[j8]at h;obtain⟨x,r,e,h1,h2⟩:=h;subst h2;exact⟨x,e,h1⟩
theorem aA3{K:cO5}{G:Hp}{t u:T}{xs:List V}(h:j8 K G [t,u] xs):∃x y,xs=[x,y]/\Rep K G t x/\Rep K G u y:=by
 simp only[j8]at h;obtain⟨x,r,e,h1,y,r',e',h2,h3⟩:=h;subst h3 e';exact⟨x,y,e,h1,h2⟩
theorem bQ0{K:cO5}:am3 K (λxs H Q=>∃i,xs=[.int i]/\Q (.int (if i<0 then -i else i)) H) bz3:=by
 intro G H ts xs tz Q sG r hf q
 match ts,hf with
 |[.int i],hf=>
  cases hf;obtain⟨x,e,rx⟩:=ah2 r;simp only[Rep]at rx;subst rx;exact⟨i,e,q _ G H (Ext.refl sG) (by simp[Rep])⟩
theorem ca2(hm:X.mg "abs"=none)(ha:Wd (PXA X [e] (gs [g])))(hg:Gl X "abs":=by rfl)(he:StE X e []:=by rfl)(hpl:Bks X pos []:=by rfl):Wd (PX X (.Call (.Name "abs" p) [e] [] pos) (gN bz3 [g])):=⟨have ha:=ha.run;ag0 bU4 bQ0 hg hm boot_abs ha (by decide) (by decide) he hpl⟩
theorem bP1{K:cO5}:am3 K (λxs H Q=>∃i j,xs=[.int i,.int j]/\Q (.int (if j>i then j else i)) H) ay8:=by
 intro G H ts xs tz Q sG r hf q
 match ts,hf with
 |[.int i,.int j],hf=>
  cases hf;obtain⟨x,y,e,rx,ry⟩:=aA3 r;simp only[Rep]at rx ry;subst rx ry;exact⟨i,j,e,q _ G H (Ext.refl sG) (by simp[Rep])⟩
theorem bP0{K:cO5}:am3 K (λxs H Q=>∃i j,xs=[.int i,.int j]/\Q (.int (if j<i then j else i)) H) aU8:=by
 intro G H ts xs tz Q sG r hf q
 match ts,hf with
 |[.int i,.int j],hf=>
  cases hf;obtain⟨x,y,e,rx,ry⟩:=aA3 r;simp only[Rep]at rx ry;subst rx ry;exact⟨i,j,e,q _ G H (Ext.refl sG) (by simp[Rep])⟩
theorem bs0(hm:X.mg "max"=none)(ha:Wd (PXA X [a,b] (gs [g,g'])))(hc:X.calm=true:=by rfl)(hg:Gl X "max":=by rfl)(he:starEach [a,b] X.env=(false,eval a X.env)::starEach [b] X.env:=by rfl)(hpl:(backTo pos (starEach [b] X.env)).any (·.1)=false:=by rfl):Wd (PX X (.Call (.Name "max" p) [a,b] [] pos) (gN ay8 [g,g'])):=⟨have ha:=ha.run;ag0 (bK7 hc) bP1 hg hm boot_max ha (by decide) (by decide) he hpl⟩
theorem bZ9(hm:X.mg "min"=none)(ha:Wd (PXA X [a,b] (gs [g,g'])))(hc:X.calm=true:=by rfl)(hg:Gl X "min":=by rfl)(he:starEach [a,b] X.env=(false,eval a X.env)::starEach [b] X.env:=by rfl)(hpl:(backTo pos (starEach [b] X.env)).any (·.1)=false:=by rfl):Wd (PX X (.Call (.Name "min" p) [a,b] [] pos) (gN aU8 [g,g'])):=⟨have ha:=ha.run;ag0 (bK6 hc) bP0 hg hm boot_min ha (by decide) (by decide) he hpl⟩
theorem bP5{K:cO5}:am3 K (λxs H Q=>(∃i,xs=[.int i]/\Q (.int i) H)\/∃k,xs=[.bl k]/\Q (.int (if k then 1 else 0)) H) ax0:=by
 intro G H ts xs tz Q sG r hf q
 match ts,hf with
 |[.int i],hf=>
  cases hf;obtain⟨x,e,rx⟩:=ah2 r;simp only[Rep]at rx;subst rx;exact .inl ⟨i,e,q _ G H (Ext.refl sG) (by simp[Rep])⟩
 |[.bl k],hf=>
  cases hf;obtain⟨x,e,rx⟩:=ah2 r;simp only[Rep]at rx;subst rx;exact .inr ⟨k,e,q _ G H (Ext.refl sG) (by simp[Rep])⟩
theorem ay1(hm:X.mg "int"=none)(ha:Wd (PXA X [e] (gs [g])))(hg:Gl X "int":=by rfl)(he:StE X e []:=by rfl)(hpl:Bks X pos []:=by rfl):Wd (PX X (.Call (.Name "int" p) [e] [] pos) (gN ax0 [g])):=⟨have ha:=ha.run;bF3 bK8 bP5 hg hm boot_int ha (by decide) (by decide) he hpl⟩
theorem bD9(l:List α)(f:α->Bool)(d:α):(List.range l.length).all (λi=>f (l.getD i d))=l.all f:=by
 induction l with
 |nil=>rfl
 |cons x r ih=>
  rw[cB8,cL6,cG6,cG8,cG6,<-ih];rfl
theorem bD8(l:List α)(f:α->Bool)(d:α):(List.range l.length).any (λi=>f (l.getD i d))=l.any f:=by
 induction l with
 |nil=>rfl
 |cons x r ih=>
  rw[cB8,cL6,cG9,List.any_map,cG9,<-ih];rfl
theorem bn8{bs:List Bool}{us:List Value}(r:B6 (bs.map V.bl) us){i:Nat}{v:Value}(h:us.toArray[i]?=some v):v=.bool (bs.getD i false):=by
 have h':us[i]?=some v:=by simpa using h
 have hl:=r.length;have hi:i<us.length:=by
  rcases cM8 i us.length with q|q
  .exact q
  .rw[cI4 q]at h';cases h'
 have hb:i<bs.length:=by rw[cJ3]at hl;omega
 have q:(bs.map V.bl)[i]?=some (.bl bs[i]):=by rw[cI5,cI3 hb];rfl
 obtain⟨u,hu,ru⟩:=r.get q;rw[h']at hu;cases hu;rw[show v=Value.bool bs[i]from ru];simp[List.getD,cI3 hb]
theorem bL0(hc:X.calm=true):ad8 X (.builtin "all") (λxs H Q=>∃(p:Addr) (bs:List Bool),xs=[.ref p]/\H p=some (.lst (bs.map V.bl))/\Q (.bl (bs.all id)) H):=by
 intro aA s Z H xs us Q I r h;obtain⟨p,bs,rfl,hp,q⟩:=h;obtain⟨u,rfl,ru⟩:=ap8 r;cases ru;obtain⟨its,rv,pl,hz⟩:=I.list (SqL.of hp);have hl:=rv.length;rw[cJ3]at hl;refine PySem.call_all_walk (cP9 pl.isList ?_);have lt:p<s.sz:=by obtain⟨o,e,_⟩:=pl.isList;exact cD9 e
 refine⟨s.sz,_,_,_,_,_,λi=>id (bs.getD i false),rfl,Walks.list (A:=X.A.in1) (show X.A.in1.handled=none from I.ok.hd hc) s.sz p (cN5 lt) its.toArray,⟨⟨_,cD6 _ rfl,rfl,rfl⟩,pl.isList.push _⟩,?_,λh' tk k=> ?_⟩
 .intro i v s' Q' E' hv hq;rw[bn8 rv hv];exact cQ2 hq
 .have e:(List.range its.toArray.size).all (λi=>id (bs.getD i false))=bs.all id:=by
   rw[cL9,<-hl];exact bD9 bs id false
  rw[e];refine⟨.bl (bs.all id),H,?_,rfl,q⟩;exact I.kept λb o e=>k b o (λz=>cN5 (cD9 e) (by simpa using z)) (cD5 _ e)
theorem bK9(hc:X.calm=true):ad8 X (.builtin "any") (λxs H Q=>∃(p:Addr) (bs:List Bool),xs=[.ref p]/\H p=some (.lst (bs.map V.bl))/\Q (.bl (bs.any id)) H):=by
 intro aA s Z H xs us Q I r h;obtain⟨p,bs,rfl,hp,q⟩:=h;obtain⟨u,rfl,ru⟩:=ap8 r;cases ru;obtain⟨its,rv,pl,hz⟩:=I.list (SqL.of hp);have hl:=rv.length;rw[cJ3]at hl;refine PySem.call_any_walk (cP9 pl.isList ?_);have lt:p<s.sz:=by obtain⟨o,e,_⟩:=pl.isList;exact cD9 e
 refine⟨s.sz,_,_,_,_,_,λi=>id (bs.getD i false),rfl,Walks.list (A:=X.A.in1) (show X.A.in1.handled=none from I.ok.hd hc) s.sz p (cN5 lt) its.toArray,⟨⟨_,cD6 _ rfl,rfl,rfl⟩,pl.isList.push _⟩,?_,λh' tk k=> ?_⟩
 .intro i v s' Q' E' hv hq;rw[bn8 rv hv];exact cQ2 hq
 .have e:(List.range its.toArray.size).any (λi=>id (bs.getD i false))=bs.any id:=by
   rw[cL9,<-hl];exact bD8 bs id false
  rw[e];refine⟨.bl (bs.any id),H,?_,rfl,q⟩;exact I.kept λb o e=>k b o (λz=>cN5 (cD9 e) (by simpa using z)) (cD5 _ e)
theorem bP8{K:cO5}:am3 K (λxs H Q=>∃(p:Addr) (bs:List Bool),xs=[.ref p]/\H p=some (.lst (bs.map V.bl))/\Q (.bl (bs.all id)) H) as4:=by
 intro G H ts xs tz Q sG r hf q
 match ts,hf with
 |[.lst us],hf=>
  obtain⟨bs,h1,h2⟩:=j5 hf;cases h2;obtain⟨x,e,rx⟩:=ah2 r;simp only[Rep]at rx;obtain⟨p,ys,k1,k2,k3⟩:=rx;subst k1;have z:=aF7 h1 k3;subst z;exact⟨p,bs,e,sG _ _ k2,q _ G H (Ext.refl sG) (by simp[Rep])⟩
theorem bP7{K:cO5}:am3 K (λxs H Q=>∃(p:Addr) (bs:List Bool),xs=[.ref p]/\H p=some (.lst (bs.map V.bl))/\Q (.bl (bs.any id)) H) aJ0:=by
 intro G H ts xs tz Q sG r hf q
 match ts,hf with
 |[.lst us],hf=>
  obtain⟨bs,h1,h2⟩:=j5 hf;cases h2;obtain⟨x,e,rx⟩:=ah2 r;simp only[Rep]at rx;obtain⟨p,ys,k1,k2,k3⟩:=rx;subst k1;have z:=aF7 h1 k3;subst z;exact⟨p,bs,e,sG _ _ k2,q _ G H (Ext.refl sG) (by simp[Rep])⟩
theorem an7(hm:X.mg "all"=none)(ha:Wd (PXA X [e] (gs [g])))(hc:X.calm=true:=by rfl)(hg:Gl X "all":=by rfl)(he:StE X e []:=by rfl)(hpl:Bks X pos []:=by rfl):Wd (PX X (.Call (.Name "all" p) [e] [] pos) (gN as4 [g])):=⟨have ha:=ha.run;ag0 (bL0 hc) bP8 hg hm boot_all ha (by decide) (by decide) he hpl⟩
theorem bs1(hm:X.mg "any"=none)(ha:Wd (PXA X [e] (gs [g])))(hc:X.calm=true:=by rfl)(hg:Gl X "any":=by rfl)(he:StE X e []:=by rfl)(hpl:Bks X pos []:=by rfl):Wd (PX X (.Call (.Name "any" p) [e] [] pos) (gN aJ0 [g])):=⟨have ha:=ha.run;ag0 (bK9 hc) bP7 hg hm boot_any ha (by decide) (by decide) he hpl⟩
def kdN:Kd->String
 |.int=>"int"|.bool=>"bool"|.tuple=>"tuple"|.list=>"list"|.str=>"str"
def cw5(K:cO5)(k:Kd):List V->Hp->VK->Prop:=λxs H Q=>∃t x b,xs=[x,.ty (kdN k)]/\Rep K H t x/\isK k t=some b/\Q (.bl b) H
theorem aB6{K:cO5}(k:Kd)(n:String)(hn:n="NoneType"\/n="bool"\/n="int"\/n="str"\/n="tuple"\/n="list"):
  W.kitOne K (.type n) (.type (kdN k))=some (n==kdN k||(n=="bool"&&kdN k=="int")):=by
 rcases hn with rfl|rfl|rfl|rfl|rfl|rfl<;>cases k<;>first |rfl|(with_unfolding_all rfl)
theorem bU3(k:Kd):ad8 X (.builtin "isinstance") (cw5 X.K k):=by
 intro aA s Z H xs us Q I r h;obtain⟨t,x,b,rfl,rx,hb,q⟩:=h;obtain⟨u,w',rfl,r1,r2⟩:=bf2 r;cases r2;have fin:∀tk,EP X aA Z Q (.bool b) {s with toks:=tk}:=λtk=>⟨.bl b,H,I.tok _,rfl,q⟩
 cases t with
 |non=>
  simp only[Rep]at rx;subst rx;cases r1;cases hb;exact W.kia_one W.kitx_none I.kIn True.intro (by rw[aB6 k "NoneType" (by simp)];cases k<;>rfl) (λz=>nomatch z) fin
 |bl y=>
  simp only[Rep]at rx;subst rx;cases r1;cases hb;exact W.kia_one W.kitx_bool I.kIn True.intro (by rw[aB6 k "bool" (by simp)];cases k<;>rfl) (λz=>nomatch z) fin
 |int y=>
  simp only[Rep]at rx;subst rx;obtain⟨tk,rfl⟩:=r1;cases hb;exact W.kia_one W.kitx_int I.kIn True.intro (by rw[aB6 k "int" (by simp)];cases k<;>rfl) (λz=>nomatch z) fin
 |str y=>
  simp only[Rep]at rx;subst rx;obtain⟨tk,rfl⟩:=r1;cases hb;exact W.kia_one W.kitx_str I.kIn True.intro (by rw[aB6 k "str" (by simp)];cases k<;>rfl) (λz=>nomatch z) fin
 |tup ts=>
  simp only[Rep]at rx;obtain⟨a,ys,rfl,h2,_⟩:=rx;cases r1;cases hb;obtain⟨its,_,p,_⟩:=I.tuple h2;obtain⟨o,h1,h3,_⟩:=p;exact W.kia_one W.kitx_tuple I.kIn ⟨o,h1,h3⟩ (by rw[aB6 k "tuple" (by simp)];cases k<;>rfl) (λz=>nomatch z) fin
 |lst ts=>
  simp only[Rep]at rx;obtain⟨a,ys,rfl,h2,_⟩:=rx;cases r1;cases hb;obtain⟨its,_,p,_⟩:=I.list (SqL.of h2);obtain⟨o,h1,h3,_⟩:=p.isList;exact W.kia_one W.kitx_list I.kIn ⟨o,h1,h3⟩ (by rw[aB6 k "list" (by simp)];cases k<;>rfl) (λz=>nomatch z) fin
 |ref a=>cases hb
 |scr a=>cases hb
 |obj ks us=>cases hb
theorem ab1{p p':Pos}{c:Str}{g:L3.G}(k:Kd)(hm:X.mg "isinstance"=none)(hmc:X.mg c=none)(hv:bootBuiltins c=some (.type (kdN k)))(ha:Wd (PX X e g))(hg:Gl X "isinstance":=by rfl)(hgc:Gl X c:=by rfl)(hn:c≠"__name__":=by decide)(hdb:NoD c:=by decide)(hs1:starEach [e,.Name c p'] X.env=(false,eval e X.env)::starEach [.Name c p'] X.env:=by rfl)(hs2:starEach [.Name c p'] X.env=(false,eval (.Name c p') X.env)::starEach [] X.env:=by rfl)(hpl:(backTo pos (starEach [Expr.Name c p'] X.env)).any (·.1)=false:=by rfl):Wd (PX X (.Call (.Name "isinstance" p) [e,.Name c p'] [] pos) (g1 (ap0 k) g)):=⟨by
 have ha:=ha.run;refine PE.imp (aQ1 (bU3 k) hg hm boot_isinstance (T0 ha (T0 (bs5 (v:=.ty (kdN k)) hgc hmc hv rfl hn hdb) ab3 hs2) hs1) (by decide) (by decide) hs1 hpl) λZ H Q ⟨G,U,t,sG,hU,hg,q⟩=> ?_
 obtain⟨x,h1,hg⟩:=j5 hg;obtain⟨b,h2,hg⟩:=j5 hg;cases hg;refine⟨G,U,x,sG,hU,h1,λv G1 H1 e1 r1=> ?_⟩;exact⟨x,v,b,rfl,r1.mono e1.s,h2,q _ G1 H1 e1 (by simp[Rep])⟩⟩
end
def ba1(K:cO5)(G:Hp)(J:It)(ts:List T):Prop:=
 ∀(i:Nat) (G1 H1:Hp),D6 G G1->Sub G1 H1->(∀t,ts[i]?=some t->J.go i H1/\∀x H2,J.yld i H1 x H2->∃G2,Ext G1 H1 G2 H2/\Rep K G2 t x)/\(ts.length<=i->i<=ts.length->J.stop i H1)
def tI(K:cO5)(it:GL):TI:=λZ H R=>∃G U ts,Sub G H/\K5 K G Z U/\it U=some ts/\∀J G' H',Ext G H G' H'->ba1 K G' J ts->R J H'
abbrev PXI(X:Cx)(tg it:Expr)(g:GL):Prop:=PI X tg it (tI X.K g)
section
theorem ba9{K:cO5}{G:Hp}{p:Addr}{xs:List V}{ts:List T}(h:G p=some (.lst xs))(r:j8 K G ts xs):ba1 K G (Itl K p) ts:=by
 intro i G1 H1 s1 s2;have hH:SqL K H1 p xs:=SqL.of (s2 _ _ (s1 _ _ h));refine⟨λt ht=> ?_,λh1 h2=>⟨xs,hH,by rw[r.length];exact h1⟩⟩;obtain⟨x,hx,rx⟩:=r.get ht;refine⟨⟨xs,x,hH,hx⟩,λy H2 hy=> ?_⟩;obtain⟨e,hy⟩:=hy;subst e;have :=hy xs hH;rw[hx]at this;cases this;exact⟨G1,Ext.refl s2,rx.mono s1⟩
theorem bh1:∀{xs ys:List T}{i:Nat}{t:T},(C8 xs ys)[i]?=some t->∃x y,xs[i]?=some x/\ys[i]?=some y/\t=.tup [x,y]
 |[],_,_,_,h=>by simp[C8]at h
 |_::_,[],_,_,h=>by simp[C8]at h
 |x::xs,y::ys,0,t,h=>by simp[C8]at h;exact⟨x,y,by simp,by simp,h.symm⟩
 |x::xs,y::ys,i+1,t,h=>by
  obtain⟨u,v,h1,h2,h3⟩:=bh1 (xs:=xs) (ys:=ys) (i:=i) (t:=t) (by simpa[C8]using h);exact⟨u,v,by simpa using h1,by simpa using h2,h3⟩
theorem aN4:∀(xs ys:List T),(C8 xs ys).length=min xs.length ys.length
 |[],_=>by simp[C8]
 |_::_,[]=>by simp[C8]
 |x::xs,y::ys=>by simp only[C8,cB8,aN4 xs ys,Nat.add_min_add_right]
theorem bN1{K:cO5}{G:Hp}{p p':Addr}{xs ys:List V}{ts us:List T}(h:G p=some (.lst xs))(r:j8 K G ts xs)(h':G p'=some (.lst ys))(r':j8 K G us ys):ba1 K G (Itz K p p') (C8 ts us):=by
 intro i G1 H1 s1 s2;have hH:SqL K H1 p xs:=SqL.of (s2 _ _ (s1 _ _ h));have hH':SqL K H1 p' ys:=SqL.of (s2 _ _ (s1 _ _ h'));refine⟨λt ht=> ?_,λh1 h2=>⟨xs,ys,hH,hH',?_⟩⟩
 .obtain⟨tx,ty,e1,e2,e3⟩:=bh1 ht;subst e3;obtain⟨x,hx,rx⟩:=r.get e1;obtain⟨y,hy,ry⟩:=r'.get e2;refine⟨⟨xs,ys,x,y,hH,hH',hx,hy⟩,λv H2 hv=> ?_⟩;obtain⟨x',y',q,k1,k2,k3,k4,k5⟩:=hv;have z1:=k1 xs hH;have z2:=k2 ys hH';rw[hx]at z1;cases z1;rw[hy]at z2;cases z2;subst k4 k5;refine⟨_,Ext.new s2 k3 _,?_⟩;have sn:=K2 (s2.free k3) (HO.tup [x,y]);simp only[Rep];exact⟨q,[x,y],rfl,SqT.of t6,j8.cons ((rx.mono s1).mono sn) (j8.cons ((ry.mono s1).mono sn) j8.nil)⟩
 .rw[aN4]at h1;rw[r.length,r'.length];omega
theorem bd2:∀{xs:List T}{n i:Nat}{t:T},(J2 n xs)[i]?=some t->∃x,xs[i]?=some x/\t=.tup [.int ((n+i:Nat):Int),x]
 |[],_,_,_,h=>by simp[J2]at h
 |x::xs,n,0,t,h=>by simp[J2]at h;exact⟨x,by simp,by rw[<-h];simp⟩
 |x::xs,n,i+1,t,h=>by
  obtain⟨u,h1,h2⟩:=bd2 (xs:=xs) (n:=n+1) (i:=i) (t:=t) (by simpa[J2]using h);exact⟨u,by simpa using h1,by rw[h2];congr 3;omega⟩
theorem aJ1:∀(n:Nat) (xs:List T),(J2 n xs).length=xs.length
 |_,[]=>rfl
 |n,x::xs=>by simp[J2,aJ1 (n+1) xs]
theorem bB4{K:cO5}{G:Hp}{p:Addr}{xs:List V}{ts:List T}(h:G p=some (.lst xs))(r:j8 K G ts xs):ba1 K G (Ite K p) (J2 0 ts):=by
 intro i G1 H1 s1 s2;have hH:SqL K H1 p xs:=SqL.of (s2 _ _ (s1 _ _ h));refine⟨λt ht=> ?_,λh1 h2=>⟨xs,hH,by rw[r.length];rw[aJ1]at h1;exact h1⟩⟩;obtain⟨tx,e1,e3⟩:=bd2 ht;subst e3;obtain⟨x,hx,rx⟩:=r.get e1;refine⟨⟨xs,x,hH,hx⟩,λv H2 hv=> ?_⟩;obtain⟨x',q,k1,k3,k4,k5⟩:=hv;have z1:=k1 xs hH;rw[hx]at z1;cases z1;subst k4 k5;refine⟨_,Ext.new s2 k3 _,?_⟩;have sn:=K2 (s2.free k3) (HO.tup [.int i,x]);simp only[Rep];exact⟨q,[.int i,x],rfl,SqT.of t6,j8.cons (by simp[Rep]) (j8.cons ((rx.mono s1).mono sn) j8.nil)⟩
theorem bv8{K:cO5}{G:Hp}{lo:Int}{n:Nat}:ba1 K G (Itr lo n) (G9 lo n):=by
 intro i G1 H1 s1 s2;refine⟨λt ht=> ?_,λh1 h2=> ?_⟩
 .unfold G9 at ht;rw[cI5]at ht;by_cases hi:i<n
  .rw[cI6 hi]at ht;cases ht;refine⟨hi,λx H2 hy=> ?_⟩;obtain⟨e,hy⟩:=hy;subst e hy;exact⟨G1,Ext.refl s2,by simp[Rep]⟩
  .rw[cI4 (by simpa using hi)]at ht;cases ht
 .unfold G9 at h1;rw[cJ3,cJ4]at h1;exact h1
theorem A0{g:L3.G}(h:Wd (PX X e g)):Wd (PXI X tg e (itL g)):=⟨have h:=h.run;PI.imp (cb0 h) λZ H R zz=>by
 obtain⟨G,U,ts,sG,hU,hg,q⟩:=zz;obtain⟨t,h1,h2⟩:=j5 hg;refine⟨G,U,t,sG,hU,h1,λv G1 H1 e1 r1=> ?_⟩;cases t<;>first |(cases h2;done)|skip
 cases h2;simp only[Rep]at r1;obtain⟨p,xs,k1,k2,k3⟩:=r1;exact⟨p,k1,⟨xs,SqL.of (e1.s _ _ k2)⟩,q _ G1 H1 e1 (ba9 k2 k3)⟩⟩
theorem S1{p tp:Pos}{es':List Expr}{k:Nat}{ga gb:L3.G}(hm:X.mg "zip"=none)(ha:Wd (PXA X [a,b] (gs [ga,gb])))(hg:Gl X "zip":=by rfl)(hs:starEach [a,b] X.env=[(false,eval a X.env),(false,eval b X.env)]:=by rfl)(hs2:starEach [b] X.env=[(false,eval b X.env)]:=by rfl):Wd (PXI X (.Tuple es' k tp) (.Call (.Name "zip" p) [a,b] [] pos) (itZ ga gb)):=⟨have ha:=ha.run;PI.imp (ci5 hg hm ha hs hs2) λZ H R zz=>by
 obtain⟨G,U,ts,sG,hU,hg,q⟩:=zz;obtain⟨xs,h1,hg⟩:=j5 hg;obtain⟨ys,h2,hg⟩:=j5 hg;cases hg;obtain⟨tx,k1,k2⟩:=j5 h1;obtain⟨ty,k3,k4⟩:=j5 h2;cases tx<;>first |(cases k2;done)|skip
 cases ty<;>first |(cases k4;done)|skip
 cases k2;cases k4;refine⟨G,U,[.lst xs,.lst ys],sG,hU,?_,λvs G1 H1 e1 r1=> ?_⟩
 .simp only[gs,k1,k3,cB2]
 .obtain⟨x,y,e,rx,ry⟩:=aA3 r1;simp only[Rep]at rx ry;obtain⟨p,vx,m1,m2,m3⟩:=rx;obtain⟨p',vy,n1,n2,n3⟩:=ry;subst m1 n1;exact⟨p,p',e,⟨vx,SqL.of (e1.s _ _ m2)⟩,⟨vy,SqL.of (e1.s _ _ n2)⟩,q _ G1 H1 e1 (bN1 m2 m3 n2 n3)⟩⟩
theorem ac2{p tp:Pos}{es':List Expr}{k:Nat}{ga:L3.G}(hm:X.mg "enumerate"=none)(ha:Wd (PXA X [a] (gs [ga])))(hg:Gl X "enumerate":=by rfl)(hs:starEach [a] X.env=[(false,eval a X.env)]:=by rfl):Wd (PXI X (.Tuple es' k tp) (.Call (.Name "enumerate" p) [a] [] pos) (itE ga)):=⟨have ha:=ha.run;PI.imp (cb1 hg hm ha hs) λZ H R zz=>by
 obtain⟨G,U,ts,sG,hU,hg,q⟩:=zz;obtain⟨xs,h1,hg⟩:=j5 hg;cases hg;obtain⟨tx,k1,k2⟩:=j5 h1;cases tx<;>first |(cases k2;done)|skip
 cases k2;refine⟨G,U,[.lst xs],sG,hU,?_,λvs G1 H1 e1 r1=> ?_⟩
 .simp only[gs,k1,cB2]
 .obtain⟨x,e,rx⟩:=ah2 r1;simp only[Rep]at rx;obtain⟨p,vx,m1,m2,m3⟩:=rx;subst m1;exact⟨p,e,⟨vx,SqL.of (e1.s _ _ m2)⟩,q _ G1 H1 e1 (bB4 m2 m3)⟩⟩
theorem J8(hm:X.mg "range"=none)(ha:Wd (PXA X [a] (gs [ga])))(hg:Gl X "range":=by rfl)(hs:starEach [a] X.env=[(false,eval a X.env)]:=by rfl):Wd (PXI X tg (.Call (.Name "range" p) [a] [] pos) (itR ga)):=⟨have ha:=ha.run;PI.imp (bF6 hg hm ha hs) λZ H R zz=>by
  obtain⟨G,U,ts,sG,hU,hg,q⟩:=zz;obtain⟨n,h1,hg⟩:=j5 hg;obtain⟨tx,k1,k2⟩:=j5 h1;cases tx<;>first |(cases k2;done)|skip
  cases k2;refine⟨G,U,[.int n],sG,hU,?_,λvs G1 H1 e1 r1=> ?_⟩
  .simp only[gs,k1,cB2]
  .obtain⟨x,e,rx⟩:=ah2 r1;simp only[Rep]at rx;subst rx;split at hg
   .rename_i hn;cases hg;have hl:(lim:Int)<2^62:=by decide
    exact⟨n,e,by omega,by omega,q _ G1 H1 e1 bv8⟩
   .cases hg⟩
end
def tGt(K:cO5)(is:List Nat)(st:St1):TG:=λv Z H Q=>∃G U t U',Sub G H/\K5 K G Z U/\Rep K G t v/\st t U=some U'/\
 ∀Z',K5 K G Z' U'->Z'.length=Z.length->(∀k,k∉is->Z'[k]?=Z[k]?)->Q Z' H
abbrev PXG(X:Cx)(tg:Expr)(is:List Nat)(st:St1):Prop:=PG X tg (tGt X.K is st)
section
theorem o6(i:Nat)(hN:ai0 X.N=true:=by rfl)(hi:X.N[i]?=some x:=by rfl)(hx:Loc X.env.scope x:=by first |exact .inl rfl|exact .inr rfl)(hf:LcF X x:=by first |exact .inl rfl|exact .inr rfl):Wd (PXG X (.Name x pos) [i] (stN i)):=⟨have hN:=O6 hN;PG.imp (au6 hN hi hx hf) λv Z H Q zz=>by
  obtain⟨G,U,t,U',sG,hU,r,hs,q⟩:=zz;cases hs;refine q _ (hU.set r) (by simp) λk hk=> ?_
  rw[cI8 (by simp at hk;omega)]⟩
theorem J7(i j:Nat)(hc:X.calm=true:=by rfl)(h1:PG X e1 (aq0 i):=by exact au6 (O6 rfl) rfl (by first |exact .inl rfl|exact .inr rfl))(h2:PG X e2 (aq0 j):=by exact au6 (O6 rfl) rfl (by first |exact .inl rfl|exact .inr rfl))(hs1:(assignEach [e1,e2] X.env).map (·.2)=assign e1 X.env::(assignEach [e2] X.env).map (·.2):=by rfl)(hs2:(assignEach [e2] X.env).map (·.2)=assign e2 X.env::(assignEach [] X.env).map (·.2):=by rfl)(hn:(assignEach [e1,e2] X.env).length=2:=by rfl)(hst:(assignEach [e1,e2] X.env).findIdx? (·.1)=none:=by rfl):Wd (PXG X (.Tuple [e1,e2] k pos) [i,j] (st2 i j)):=⟨PG.imp (bF7 hc (aw0 h1 (aw0 h2 bs4 hs2) hs1) hn hst) λv Z H Q zz=>by
  obtain⟨G,U,t,U',sG,hU,r,hs,q⟩:=zz
  match t,hs with
  |.tup [x,y],hs=>
   cases hs;simp only[Rep]at r;obtain⟨a,xs,e,hq,rr⟩:=r;obtain⟨vx,vy,e',rx,ry⟩:=aA3 rr;subst e';refine⟨a,_,e,seqT sG hq,rfl,vx,[vy],rfl,vy,[],rfl,rfl,?_⟩;refine q _ ((hU.set rx).set ry) (by simp) λk hk=> ?_
   simp at hk;rw[cI8 (by omega),cI8 (by omega)]⟩
theorem aD7(i j l:Nat)(hc:X.calm=true:=by rfl)(h1:PG X e1 (aq0 i):=by exact au6 (O6 rfl) rfl (by first |exact .inl rfl|exact .inr rfl))(h2:PG X e2 (aq0 j):=by exact au6 (O6 rfl) rfl (by first |exact .inl rfl|exact .inr rfl))(h3:PG X e3 (aq0 l):=by exact au6 (O6 rfl) rfl (by first |exact .inl rfl|exact .inr rfl))(hs1:(assignEach [e1,e2,e3] X.env).map (·.2)=assign e1 X.env::(assignEach [e2,e3] X.env).map (·.2):=by rfl)(hs2:(assignEach [e2,e3] X.env).map (·.2)=assign e2 X.env::(assignEach [e3] X.env).map (·.2):=by rfl)(hs3:(assignEach [e3] X.env).map (·.2)=assign e3 X.env::(assignEach [] X.env).map (·.2):=by rfl)(hn:(assignEach [e1,e2,e3] X.env).length=3:=by rfl)(hst:(assignEach [e1,e2,e3] X.env).findIdx? (·.1)=none:=by rfl):Wd (PXG X (.Tuple [e1,e2,e3] k pos) [i,j,l] (st3 i j l)):=⟨PG.imp (bF7 hc (aw0 h1 (aw0 h2 (aw0 h3 bs4 hs3) hs2) hs1) hn hst) λv Z H Q zz=>by
  obtain⟨G,U,t,U',sG,hU,r,hs,q⟩:=zz
  match t,hs with
  |.tup [x,y,z],hs=>
   cases hs;simp only[Rep]at r;obtain⟨a,xs,e,hq,rr⟩:=r;simp only[j8]at rr;obtain⟨vx,r1,q1,rx,vy,r2,q2,ry,vz,r3,q3,rz,q4⟩:=rr;subst q4 q3 q2 q1;refine⟨a,_,e,seqT sG hq,rfl,vx,_,rfl,vy,_,rfl,vz,_,rfl,rfl,?_⟩;refine q _ (((hU.set rx).set ry).set rz) (by simp) λk hk=> ?_
   simp at hk;rw[cI8 (by omega),cI8 (by omega),cI8 (by omega)]⟩
end
def tnm:Expr->List Str
 |.Name x _=>[x]
 |.Tuple es _ _=>es.filterMap λe=>match e with |.Name x _=>some x|_=>none
 |_=>[]
def cN(X:Cx)(t:Expr)(aC:List Nat):List Str:=tnm t++aC.map λi=>X.N.getD i ""
section
abbrev aA0(X:Cx)(ifs:List Expr)(g:GB):Prop:=aS0 X ifs (tXB X.K g)
theorem r9:Wd (aA0 X [] t9):=⟨λaA s Z H Q I zz=>by
 obtain⟨G,U,t,sG,hU,hg,q⟩:=zz;cases hg;exact bR5 aA s Z H Q I (q G H (Ext.refl sG))⟩
theorem aH6(h:Wd (PXB X c g)):Wd (aA0 X [c] g):=⟨have h:=h.run;bR4 h⟩
theorem aB5{K:cO5}{it:GL}{is:List Nat}{st:St1}{gc:GB}{ge:L3.G}{nT:Nat}{aC:List Nat}(his:is.all (λi=>decide (i<nT))=true):
  ∀Z H Q,tX K (l9 it nT aC st gc ge) Z H Q->tLC (tI K it) (tGt K is st) (tXB K gc) (tX K ge) nT aC Z H Q:=λZ H Q zz=>by
 obtain⟨G,U,t,sG,hU,hg,q⟩:=zz;obtain⟨ts,h1,hg⟩:=j5 hg;split at hg
 case isFalse=>cases hg
 case isTrue hlim=>
 obtain⟨rs,h2,hg⟩:=j5 hg;cases hg;refine⟨G,U,ts,sG,hU,h1,λJ G' H' e1 wk a ha=> ?_⟩;have hGa:G' a=none:=e1.s.free ha;refine⟨λi m ys H1=>m=ts.length-i/\i<=ts.length/\ys.length<=i/\∃G1 r1 r2,D6 G' G1/\Sub G1 H1/\R8 H' H1/\(∀b,H' b≠none->G' b=none->G1 b=none)/\G1 a=none/\H1 a=some (.lst ys)/\j8 K G1 r1 ys/\
   Y4 (X7 nT aC U) st gc ge (ts.drop i)=some r2/\rs=r1++r2,⟨ts.length,by simp,cO2 _,cM3 _,G',[],rs,D6.refl _,?_,bf3 (K2 ha _),λ_ _ z=>z,hGa,t6,j8.nil,by simpa using h2,by simp⟩,?_⟩
 .exact⟨λb o z=>by rw[l8 (A9 z hGa)];exact e1.s b o z,e1.s.t.new ha,e1.s.n⟩
 rintro i m ys H1 ⟨rfl,hi,hyl,G1,r1,r2,s1,s2,s3,fr,g1a,h1a,rl,hgo,hrs⟩;have hU1:K5 K G1 (X4 nT aC Z) (X7 nT aC U):=(hU.cap nT aC).mono (e1.g.trans s1);by_cases hlt:i<ts.length
 .right;have ht:ts[i]?=some ts[i]:=cI3 hlt;obtain⟨go,yl⟩:=(wk i G1 H1 s1 s2).1 _ ht;refine⟨go,λx H2 hy=> ?_⟩;obtain⟨G2,e2,r2'⟩:=yl x H2 hy;rw[cH2 hlt]at hgo;obtain⟨U1,k1,hgo⟩:=j5 hgo;obtain⟨bq,k2,hgo⟩:=j5 hgo;refine⟨G2,X7 nT aC U,ts[i],U1,e2.s,hU1.mono e2.g,r2',k1,λZ2 hU2 hl2 hk2=>⟨⟨hl2,λj v ej=> ?_⟩,?_⟩⟩
  .by_cases hj:j∈is
   .exfalso;have hjn:j<nT:=by
     have :=List.all_eq_true.mp his j hj;simpa using this
    unfold X4 at ej;rw[cI1 (by simpa using hjn),cI7,cP2 hjn]at ej;cases ej
   .rw[hk2 j hj];exact ej
  .refine⟨G2,U1,bq,e2.s,hU2,k2,λG3 H3 e3=> ?_⟩;have E13:=e2.trans e3;cases bq with
   |true=>
    obtain⟨t1,k3,hgo⟩:=j5 hgo;obtain⟨r3,k4,hgo⟩:=j5 hgo;cases hgo;refine as2 ⟨G3,U1,t1,e3.s,hU2.mono e3.g,k3,λv G4 H4 e4 rv=> ?_⟩;have E14:=E13.trans e4;have h4a:H4 a=some (.lst ys):=E14.h.lst h1a;have g4a:G4 a=none:=E14.fr a (by rw[h1a];simp) g1a;refine⟨h4a,?_,ts.length-(i+1),by omega,rfl,hlt,by rw[cJ2,cJ7];omega,G4,r1++[t1],r3,s1.trans E14.g,?_,?_,?_,g4a,t6,(rl.mono E14.g).append (j8.cons rv j8.nil),k4,by rw[hrs];simp⟩
    .have :(lim:Nat)<sizeLine:=by decide
     omega
    .exact⟨λb o z=>by rw[l8 (A9 z g4a)];exact E14.s b o z,E14.s.t.lst h4a,E14.s.n⟩
    .exact(s3.trans E14.h).upd ha
    .intro b hb hgb;have h5:H1 b≠none:=s3.ne hb;exact E14.fr b h5 (fr b hb hgb)
   |false=>
    refine as3 ⟨ts.length-(i+1),by omega,rfl,hlt,by omega,G3,r1,r2,s1.trans E13.g,e3.s,s3.trans E13.h,?_,E13.fr a (by rw[h1a];simp) g1a,E13.h.lst h1a,rl.mono E13.g,hgo,hrs⟩;intro b hb hgb;have h5:H1 b≠none:=s3.ne hb;exact E13.fr b h5 (fr b hb hgb)
 .left;have ei:i=ts.length:=by omega
  subst ei;refine⟨(wk _ G1 H1 s1 s2).2 (cM3 _) (cM3 _),?_⟩;rw[cH3]at hgo;cases hgo;rw[cH0]at hrs;subst hrs;have sn:=K2 g1a (HO.lst ys);refine q _ (upd G1 a (.lst ys)) H1 (e1.trans ⟨s1.trans sn,⟨λb o z=> ?_,s2.t,aB0 s2.n rfl⟩,s3,λb hb hgb=> ?_⟩) ?_
  .by_cases hb:b=a
   .subst hb;rw[t6]at z;cases z;exact h1a
   .rw[l8 hb]at z;exact s2 b o z
  .rw[l8 (λz=>hb (by rw[z];exact ha))];exact fr b hb hgb
  .simp only[Rep];exact⟨a,ys,rfl,t6,rl.mono sn⟩
theorem C9{it:GL}{is:List Nat}{st:St1}{gc:GB}{ge:L3.G}{nT:Nat}{aC:List Nat}(hi:Wd (PXI X target iter it))(hg:∀{cl C sd Ho fp},Wd (PXG (K8 X scope cl C (cN X target aC) sd Ho fp) target is st))(hc:∀{cl C sd Ho fp},Wd (aA0 (K8 X scope cl C (cN X target aC) sd Ho fp) ifs gc))(he:∀{cl C sd Ho fp},Wd (PX (K8 X scope cl C (cN X target aC) sd Ho fp) elt ge))(hcalm:X.calm=true:=by rfl)(chk:ah6 X.env.scope X.N scope (cN X target aC) nT aC=true:=by rfl)(his:is.all (λi=>decide (i<nT))=true:=by rfl)(hs:NFo X iter:=by intro _;rfl):Wd (PX X (.ListComp elt [⟨target,iter,ifs,0⟩] scope pos) (l9 it nT aC st gc ge)):=⟨have hi:=hi.run;have hg:=λx0 x1 x2 x3 x4=>(@hg x0 x1 x2 x3 x4).run;have hc:=λx0 x1 x2 x3 x4=>(@hc x0 x1 x2 x3 x4).run;have he:=λx0 x1 x2 x3 x4=>(@he x0 x1 x2 x3 x4).run;PE.imp (bV9 (g:=tGt X.K is st) (tc:=tXB X.K gc) (te:=tX X.K ge) _ nT aC hcalm chk hi hg hc he hs) (aB5 his)⟩
end
def aC7(K:cO5)(G H:Hp)(D:an0):Out->Prop
 |.nx U=>∀Z' G' H',Ext G H G' H'->K5 K G' Z' U->D.nx Z' H'
 |.bk U=>∀Z' G' H',Ext G H G' H'->K5 K G' Z' U->D.bk Z' H'
 |.ct U=>∀Z' G' H',Ext G H G' H'->K5 K G' Z' U->D.ct Z' H'
 |.ret t=>∀v G' H',Ext G H G' H'->Rep K G' t v->D.rt v H'
theorem aC7.ext{K:cO5}{G H G1 H1:Hp}{D:an0}{o:Out}(e:Ext G H G1 H1)(h:aC7 K G H D o):aC7 K G1 H1 D o:=by
 cases o with
 |nx U=>exact λZ' G' H' e' r=>h Z' G' H' (e.trans e') r
 |bk U=>exact λZ' G' H' e' r=>h Z' G' H' (e.trans e') r
 |ct U=>exact λZ' G' H' e' r=>h Z' G' H' (e.trans e') r
 |ret t=>exact λv G' H' e' r=>h v G' H' (e.trans e') r
def tXS(K:cO5)(g:GS):TS:=λD Z H=>∃G U o,Sub G H/\K5 K G Z U/\g U=some o/\aC7 K G H D o
abbrev PXS(X:Cx)(st:Stmt)(g:GS):Prop:=PS X st (tXS X.K g)
abbrev ap3(X:Cx)(st:List Stmt)(g:GS):Prop:=PSs X st (tXS X.K g)
section
variable {st:Stmt}
theorem K3:Wd (ap3 X [] A2):=⟨PSs.imp aL8 λD Z H zz=>by
 obtain⟨G,U,o,sG,hU,hg,q⟩:=zz;cases hg;exact q Z G H (Ext.refl sG) hU⟩
theorem m6{g1 g2:GS}(h1:Wd (PXS X st g1))(h2:Wd (ap3 X rest g2)):Wd (ap3 X (st::rest) (n9 g1 g2)):=⟨have h1:=h1.run;have h2:=h2.run;PSs.imp (P2 h1 h2) λD Z H zz=>by
 obtain⟨G,U,o,sG,hU,hg,q⟩:=zz;obtain⟨o1,k1,hg⟩:=j5 hg;refine⟨G,U,o1,sG,hU,k1,?_⟩;cases o1 with
 |nx U1=>exact λZ' G' H' e' r=>⟨G',U1,o,e'.s,r,hg,q.ext e'⟩
 |bk U1=>cases hg;exact q
 |ct U1=>cases hg;exact q
 |ret t=>cases hg;exact q⟩
theorem j9{g1:GS}(h1:Wd (PXS X st g1)):Wd (ap3 X [st] g1):=⟨have h1:=h1.run;aj9 h1⟩
theorem m9(h:Wd (PX X e g)):Wd (PXS X (.Return (some e) pos) (t8 g)):=⟨have h:=h.run;PS.imp (aT0 h) λD Z H zz=>by
 obtain⟨G,U,o,sG,hU,hg,q⟩:=zz;obtain⟨t,k1,hg⟩:=j5 hg;cases hg;exact⟨G,U,t,sG,hU,k1,λv G1 H1 e1 r1=>q v G1 H1 e1 r1⟩⟩
def bH1:Expr->Bool
 |.ListComp ..=>false
 |.SetComp ..=>false
 |.DictComp ..=>false
 |_=>true
theorem bN7(h:bH1 e=true):swapsWith e t n env=pure false:=by
 cases e<;>first |rfl|cases h
theorem y8(i:Nat)(h:Wd (PX X e g))(hN:ai0 X.N=true:=by rfl)(hi:X.N[i]?=some x:=by rfl)(hx:Loc X.env.scope x:=by first |exact .inl rfl|exact .inr rfl)(hs:bH1 e=true:=by rfl)(hf:LcF X x:=by first |exact .inl rfl|exact .inr rfl):Wd (PXS X (.Assign [.Name x pos'] e pos) (u7 i g)):=⟨have hN:=O6 hN;have h:=h.run;PS.imp (aA7 hN hi hx h (bN7 hs) hf) λD Z H zz=>by
 obtain⟨G,U,o,sG,hU,hg,q⟩:=zz;obtain⟨t,k1,hg⟩:=j5 hg;cases hg;exact⟨G,U,t,sG,hU,k1,λv G1 H1 e1 r1=>q _ G1 H1 e1 ((hU.mono e1.g).set r1)⟩⟩
theorem aP6(h:Wd (PX X e g))(hg:Wd (PXG X tg is s1))(hs:swapsWithSole [tg] e pos.line X.env=pure false:=by rfl)(hw:swappedStores [tg] e X.env=pure none:=by rfl)(h1:(assignEach [tg] X.env).map (·.2)=[assign tg X.env]:=by rfl):Wd (PXS X (.Assign [tg] e pos) (sSt s1 g)):=⟨have h:=h.run;have hg:=hg.run;PS.imp (aT1 h hg hs hw h1) λD Z H zz=>by
 obtain⟨G,U,o,sG,hU,hg,q⟩:=zz;obtain⟨t,k1,hg⟩:=j5 hg;obtain⟨U',k2,hg⟩:=j5 hg;cases hg;exact⟨G,U,t,sG,hU,k1,λv G1 H1 e1 r1=>⟨G1,U,t,U',e1.s,hU.mono e1.g,r1,k2,λZ' r _ _=>q Z' G1 H1 e1 r⟩⟩⟩
theorem M6(hc:Wd (PXB X c gc))(ha:Wd (ap3 X a ga))(hb:Wd (ap3 X b gb)):Wd (PXS X (.If c a b pos) (sIf gc ga gb)):=⟨have hc:=hc.run;have ha:=ha.run;have hb:=hb.run;PS.imp (bf7 hc ha hb) λD Z H zz=>by
 obtain⟨G,U,o,sG,hU,hg,q⟩:=zz;obtain⟨k,k1,hg⟩:=j5 hg;refine⟨G,U,k,sG,hU,k1,λG1 H1 e1=> ?_⟩;cases k with
 |true=>exact as2 ⟨G1,U,o,e1.s,hU.mono e1.g,hg,q.ext e1⟩
 |false=>exact as3 ⟨G1,U,o,e1.s,hU.mono e1.g,hg,q.ext e1⟩⟩
theorem N9(hi:Wd (PXI X tg iter it))(hg:Wd (PXG X tg is s1))(hb:Wd (ap3 X body gb))(hp:PassesOwn (model X.prog X.w) X.A X.env X.xe:=by exact PassesOwn.never)(hc:X.calm=true:=by rfl)(hs:NFo X iter:=by intro _;rfl):Wd (PXS X (.For tg iter body [] pos) (N6 it s1 gb)):=⟨have hi:=hi.run;have hg:=hg.run;have hb:=hb.run;PS.imp (bF4 hp hc hi hg hb hs) λD Z H zz=>by
 obtain⟨G,U,o,sG,hU,hg,q⟩:=zz;obtain⟨ts,h1,hg⟩:=j5 hg;refine⟨G,U,ts,sG,hU,h1,λJ G' H' e1 wk=> ?_⟩;refine⟨λi m Z1 H1=>m=ts.length-i/\i<=ts.length/\∃G1 U1,Ext G' H' G1 H1/\K5 X.K G1 Z1 U1/\G8 s1 gb (ts.drop i) U1=some o,⟨ts.length,by simp,cO2 _,G',U,Ext.refl e1.s,hU.mono e1.g,by simpa using hg⟩,?_⟩;rintro i m Z1 H1 ⟨rfl,hi,G1,U1,x1,r1,hgo⟩;by_cases hlt:i<ts.length
 .right;have ht:ts[i]?=some ts[i]:=cI3 hlt;obtain⟨go,yl⟩:=(wk i G1 H1 x1.g x1.s).1 _ ht;rw[cH2 hlt]at hgo;obtain⟨U2,k1,hgo⟩:=j5 hgo;obtain⟨o2,k2,hgo⟩:=j5 hgo;refine⟨go,λZ' H2=>∃G2 U3,Ext G' H' G2 H2/\K5 X.K G2 Z' U3/\G8 s1 gb (ts.drop (i+1)) U3=some o,λZ' H2 ⟨G2,U3,x2,r2,h2⟩=>⟨ts.length-(i+1),by omega,rfl,hlt,G2,U3,x2,r2,h2⟩,λx H2 hy=> ?_⟩;obtain⟨G2,e2,rx⟩:=yl x H2 hy;refine⟨G2,U1,ts[i],U2,e2.s,r1.mono e2.g,rx,k1,λZ2 hU2 _ _=>⟨G2,U2,o2,e2.s,hU2,k2,?_⟩⟩;cases o2 with
  |nx U3=>exact λZ' G3 H3 e3 r3=>⟨G3,U3,x1.trans (e2.trans e3),r3,hgo⟩
  |ct U3=>exact λZ' G3 H3 e3 r3=>⟨G3,U3,x1.trans (e2.trans e3),r3,hgo⟩
  |bk U3=>cases hgo;exact λZ' G3 H3 e3 r3=>q Z' G3 H3 (e1.trans (x1.trans (e2.trans e3))) r3
  |ret t=>cases hgo;exact λv G3 H3 e3 r3=>q v G3 H3 (e1.trans (x1.trans (e2.trans e3))) r3
 .left;have ei:i=ts.length:=by omega
  subst ei;refine⟨(wk _ G1 H1 x1.g x1.s).2 (cM3 _) (cM3 _),?_⟩;rw[cH3]at hgo;cases hgo;exact q Z1 G1 H1 (e1.trans x1) r1⟩
theorem aS8(fuel:A7->Nat)(hc:Wd (PXB X c gc))(hb:Wd (ap3 X body gb))(hp:PassesOwn (model X.prog X.w) X.A X.env X.xe:=by exact PassesOwn.never):Wd (PXS X (.While c body [] pos) (λU=>N2 gc gb (fuel U) U)):=⟨have hc:=hc.run;have hb:=hb.run;PS.imp (bj8 hp hc hb) λD Z H zz=>by
 obtain⟨G,U,o,sG,hU,hg,q⟩:=zz;refine⟨λm Z1 H1=>∃G1 U1,Ext G H G1 H1/\K5 X.K G1 Z1 U1/\N2 gc gb m U1=some o,⟨fuel U,G,U,Ext.refl sG,hU,hg⟩,?_⟩;rintro m Z1 H1 ⟨G1,U1,x1,r1,hgo⟩;cases m with
 |zero=>cases hgo
 |succ n=>
  obtain⟨k,k1,hgo⟩:=j5 hgo;refine⟨G1,U1,k,x1.s,r1,k1,λG2 H2 e2=> ?_⟩;cases k with
  |false=>
   cases hgo;exact q Z1 G2 H2 (x1.trans e2) (r1.mono e2.g)
  |true=>
   obtain⟨o2,k2,hgo⟩:=j5 hgo;refine⟨λZ' H3=>∃G3 U3,Ext G H G3 H3/\K5 X.K G3 Z' U3/\N2 gc gb n U3=some o,λZ' H3 h3=>⟨n,cN0 n,h3⟩,⟨G2,U1,o2,e2.s,r1.mono e2.g,k2,?_⟩⟩;cases o2 with
   |nx U3=>exact λZ' G3 H3 e3 r3=>⟨G3,U3,x1.trans (e2.trans e3),r3,hgo⟩
   |ct U3=>exact λZ' G3 H3 e3 r3=>⟨G3,U3,x1.trans (e2.trans e3),r3,hgo⟩
   |bk U3=>cases hgo;exact λZ' G3 H3 e3 r3=>q Z' G3 H3 (x1.trans (e2.trans e3)) r3
   |ret t=>cases hgo;exact λv G3 H3 e3 r3=>q v G3 H3 (x1.trans (e2.trans e3)) r3⟩
theorem au0{elt target iter:Expr}{ifs:List Expr}{scope:Scope}{it:GL}{is:List Nat}{st:St1}{gc:GB}{ge:L3.G}{x:Str}{pos' spos:Pos}(i:Nat){nT:Nat}{aC:List Nat}(hi:Wd (PXI X target iter it))(hg:∀{cl C sd Ho fp},Wd (PXG (K8 X scope cl C (cN X target aC) sd Ho fp) target is st))(hc:∀{cl C sd Ho fp},Wd (aA0 (K8 X scope cl C (cN X target aC) sd Ho fp) ifs gc))(he:∀{cl C sd Ho fp},Wd (PX (K8 X scope cl C (cN X target aC) sd Ho fp) elt ge))(hN:ai0 X.N=true:=by rfl)(hcalm:X.calm=true:=by rfl)(chk:ah6 X.env.scope X.N scope (cN X target aC) nT aC=true:=by rfl)(his:is.all (λi=>decide (i<nT))=true:=by rfl)(hx:X.N[i]?=some x:=by rfl)(hl:X.env.scope.names.lookup x=some .local:=by rfl)(hsw:swapsWith (.ListComp elt [⟨target,iter,ifs,0⟩] scope pos) (some (.Name x pos')) spos.line X.env=pure true:=by rfl)(hs:NFo X iter:=by intro _;rfl):Wd (PXS X (.Assign [.Name x pos'] (.ListComp elt [⟨target,iter,ifs,0⟩] scope pos) spos) (u7 i (l9 it nT aC st gc ge))):=⟨have hN:=O6 hN;have hi:=hi.run;have hg:=λx0 x1 x2 x3 x4=>(@hg x0 x1 x2 x3 x4).run;have hc:=λx0 x1 x2 x3 x4=>(@hc x0 x1 x2 x3 x4).run;have he:=λx0 x1 x2 x3 x4=>(@he x0 x1 x2 x3 x4).run;PS.imp (aq8 (g:=tGt X.K is st) (tc:=tXB X.K gc) (te:=tX X.K ge) (i:=i) _ nT aC hcalm chk hi hg hc he hN hx hl hsw hs) λD Z H zz=>by
 obtain⟨G,U,o,sG,hU,hg,q⟩:=zz;obtain⟨t,k1,hg⟩:=j5 hg;cases hg;exact aB5 his Z H _ ⟨G,U,t,sG,hU,k1,λv G1 H1 e1 r1=>q _ G1 H1 e1 ((hU.mono e1.g).set r1)⟩⟩
end
section
variable {K:cO5}
theorem af5{N:List Str}{vs:List V}{ts:List T}{G:Hp}(r:j8 K G ts vs)(h:ts.length<=N.length):K5 K G (L2.start N vs) (o8 N.length ts):=by
 refine⟨by simp[L2.start,o8,r.length],λi t q=> ?_⟩;unfold o8 at q;unfold L2.start;by_cases hi:i<ts.length
 .rw[cI1 (by simpa using hi),cI5]at q;cases e:ts[i]? with
  |none=>rw[e]at q;cases q
  |some u=>
   rw[e]at q;cases q;obtain⟨x,hx,rx⟩:=r.get e;refine⟨x,?_,rx⟩;rw[cI1 (by rw[cJ3,r.length];exact hi),cI5,hx];rfl
 .rw[cI2 (by simpa using hi),cI7]at q;split at q<;>cases q
theorem fnT{x qual:Str}{st:Stmt}{f:Addr}{fd:FuncData}{N ps:List Str}{k:Nat}{g:GS}(F:Fun K x qual st f fd)(S:O8 N ps (r8 st))(np:ps.length<=N.length)
  (hb:∀(cdv:Value) (A:Around) (aE:List Env) (s:Shared) (H:Hp) (E:XK),J9 k (A.deeper (envOfC qual (r8 st) s.sz f cdv))->ap3 (F7 CX0 P w K mg aD N qual (r8 st) f cdv A aE s H E).nox (N8 st) g):
  P9 P w K mg aD CX0 (k+1) f fd ps (spT K ps.length (A6 ps.length N.length g)):=by
 refine F.ok S (λvs H Q E h=> ?_) (λcdv A aE s H vs Q E hr h=> ?_)
 .obtain⟨G,ts,t,sG,r,hl,_⟩:=h;rw[r.length,hl]
 .obtain⟨G,ts,t,sG,r,hl,hf,q⟩:=h;refine⟨_,hb cdv A aE s H E hr,?_⟩;unfold A6 at hf;rw[cP2 hl]at hf;have hU:=af5 (N:=N) r (by omega);cases hg:g (o8 N.length ts)with
  |none=>rw[hg]at hf;cases hf
  |some o=>
   rw[hg]at hf;refine⟨G,_,o,sG,hU,hg,?_⟩;cases o with
   |nx U=>cases hf;exact λZ' G' H' e' _=>q .non G' H' e' (by simp[Rep])
   |ret t'=>cases hf;exact λv G' H' e' rv=>q v G' H' e' rv
   |bk U=>cases hf
   |ct U=>cases hf
end
section
def Cal(P:Program)(w:World)(K:cO5)(mg:Str->Option Value)(aD:Heap)(x:Str)(k n:Nat)(F:List T->Option T):Prop:=
 ∃f fd ps,mg x=some (.ref f)/\W.keepIn K (.ref f)=true/\P6 K fd ps []/\P9 P w K mg aD CX0 k f fd ps (spT K n F)
theorem j7(h:Cal X.prog X.w X.K X.mg X.aD x k n F)(hr:J9 k' X.A)(ha:Wd (PXA X (e::es) (gs l)))(hk:k<=k':=by decide)(hg:Gl X x:=by rfl)(hn:l.length=n:=by rfl)(hdb:NoD x:=by decide)(he:StE X e es:=by rfl)(hpl:Bks X pos es:=by rfl):Wd (PX X (.Call (.Name x p) (e::es) [] pos) (gN F l)):=⟨by
 have ha:=ha.run;obtain⟨f,fd,ps,hm,kp,hb,H⟩:=h;exact ca6 n H (hr.mono hk) hg hm kp hb ha hn hdb he hpl⟩
theorem ac6(hm:∃t,X.mg x=some (.int i t))(hg:Gl X x:=by rfl)(hd:NoD x:=by decide):Wd (PX X (.Name x pos) (gC (.int i))):=⟨by
 obtain⟨t,hm⟩:=hm;exact bQ9 hg hm hd⟩
theorem aj0(hm:∃a,X.mg x=some (.ref a)/\∀G,Rep X.K G t (.ref a))(hg:Gl X x:=by rfl)(hd:NoD x:=by decide):Wd (PX X (.Name x pos) (gC t)):=⟨by
 obtain⟨a,hm,r⟩:=hm;exact ca5 hg hm r hd⟩
theorem bi8(i j:Nat)(ha:Wd (PXA X [a,b] (gs [ga,gb])))(hc:X.calm=true:=by rfl)(hN:ai0 X.N=true:=by rfl)(hi:X.N[i]?=some x:=by rfl)(hj:X.N[j]?=some y:=by rfl)(hij:i≠j:=by decide)(hx:X.env.scope.names.lookup x=some .local:=by rfl)(hy:X.env.scope.names.lookup y=some .local:=by rfl)(hw:swappedStores [.Tuple [.Name x px,.Name y py] kt pt] (.Tuple [a,b] k2 pt2) X.env=pure (some [x,y]):=by rfl)(hs:swapsWithSole [.Tuple [.Name x px,.Name y py] kt pt] (.Tuple [a,b] k2 pt2) pos.line X.env=pure false:=by rfl):Wd (PXS X (.Assign [.Tuple [.Name x px,.Name y py] kt pt] (.Tuple [a,b] k2 pt2) pos) (bi2 i j ga gb)):=⟨have hN:=O6 hN;have ha:=ha.run;PS.imp (ci3 hc hN hi hj hij hx hy ha hw hs) λD Z H zz=>by
 obtain⟨G,U,o,sG,hU,hg,q⟩:=zz;obtain⟨t,k1,hg⟩:=j5 hg;obtain⟨u,k2,hg⟩:=j5 hg;cases hg;refine⟨G,U,[t,u],sG,hU,by simp only[gs,k1,k2,cB2],λvs G1 H1 e1 r1=> ?_⟩;obtain⟨v,z,e,rv,rz⟩:=aA3 r1;exact⟨v,z,e,q _ G1 H1 e1 (((hU.mono e1.g).set rv).set rz)⟩⟩
end
theorem ag3(aB:List Nat):∀U:A7,(C7 aB U).length=U.length:=by
 unfold C7;induction aB with
 |nil=>intro U;rfl
 |cons i aB ih=>intro U;rw[cB6,ih,cJ6]
theorem ay4(i:Nat)(aB:List Nat)(U:A7):C7 (i::aB) U=C7 aB (U.set i none):=rfl
theorem ao6(aB:List Nat):∀(U:A7) (i:Nat) (o:Option T),i∉aB->C7 aB (U.set i o)=(C7 aB U).set i o:=by
 unfold C7;induction aB with
 |nil=>intro U i o _;rfl
 |cons j aB ih=>
  intro U i o h;have hij:i≠j:=λz=>h (by rw[z];exact cK7)
  rw[cB6,cB6,List.set_comm _ _ hij,ih _ _ _ λz=>h (cK6 _ z)]
theorem bc0(aB:List Nat):∀(U:A7) (i:Nat),C7 aB (U.set i none)=(C7 aB U).set i none:=by
 unfold C7;induction aB with
 |nil=>intro U i;rfl
 |cons j aB ih=>
  intro U i
  (rw[cB6,cB6]);by_cases h:i=j
  .subst h;rw[cL8,<-ih,cL8]
  .rw[List.set_comm _ _ h,ih]
theorem bl4(aB:List Nat):∀(U:A7) (i:Nat) (t:T),(C7 aB U)[i]?=some (some t)->U[i]?=some (some t)/\i∉aB:=by
 unfold C7;induction aB with
 |nil=>intro U i t h;exact⟨h,by simp⟩
 |cons j aB ih=>
  intro U i t h;rw[cB6]at h;obtain⟨h1,h2⟩:=ih _ _ _ h;by_cases e:j=i
  .subst e;by_cases hl:j<U.length
   .rw[cI9 hl]at h1;cases h1
   .rw[cI4 (by simpa using hl)]at h1;cases h1
  .rw[cI8 e]at h1;exact⟨h1,λz=>by rcases cA9 z with z|z;exact e z.symm;exact h2 z⟩
theorem ao9(aB:List Nat)(U:A7)(i:Nat)(t:T)(h:U[i]?=some (some t))(hn:i∉aB):(C7 aB U)[i]?=some (some t):=by
 revert U;unfold C7;induction aB with
 |nil=>intro U h;exact h
 |cons j aB ih=>
  intro U h;rw[cB6];refine ih (λz=>hn (cK6 _ z)) _ ?_;rw[cI8 λz=>hn (by rw[<-z];exact cK7)];exact h
theorem K5.setN{K:cO5}{G:Hp}{Z:L2.St}{U:A7}{i:Nat}{o:Option V}(h:K5 K G Z U):K5 K G (Z.set i o) (U.set i none):=by
 refine⟨by simpa using h.1,λj u q=> ?_⟩;by_cases e:i=j
 .subst e;by_cases hl:i<U.length
  .rw[cI9 hl]at q;cases q
  .rw[cI4 (by simpa using hl)]at q;cases q
 .rw[cI8 e]at q;obtain⟨w,h1,h2⟩:=h.2 j u q;exact⟨w,by rw[cI8 e];exact h1,h2⟩
inductive ag8(K:cO5)(G:Hp):T->HO->Prop where
 |lst {ts:List T}{xs:List V}(h:j8 K G ts xs):ag8 K G (.lst ts) (.lst xs)
def aL0:HO->Prop
 |.lst _=>True
 |.dK _=>True
 |_=>False
section
variable {K:cO5}{G G' H:Hp}
theorem ag8.mono(e:D6 G G')(h:ag8 K G t ho):ag8 K G' t ho:=by
 cases h with
 |lst h=>exact .lst (h.mono e)
theorem ag8.no(h:ag8 K G t ho):ah3 ho=true:=by cases h<;>rfl
theorem ag8.rep(h:ag8 K G t ho)(e:G a=some ho):Rep K G t (.ref a):=by
 cases h with
 |lst h=>simp only[Rep];exact⟨a,_,rfl,e,h⟩
theorem ag8.sl(h:ag8 K G t ho):aL0 ho:=by cases h<;>exact True.intro
theorem ag8.upd(h:ag8 K G t ho)(n:H a=some ho)(tb:Tbs H):Tbs (L2.upd H a o):=tb.upd λx e=>by
 rw[n]at e;cases e;cases h with
 |lst h=>exact⟨λ_ z=>HO.noConfusion z,λ_ _ z=>HO.noConfusion z⟩
end
structure RO(K:cO5)(G0 H0:Hp)(aB:List Nat)(G H:Hp)(Z:L2.St)(U:A7):Prop where
 x:Ext G0 H0 G H
 r:K5 K G Z (C7 aB U)
 o:∀i∈aB,∃a xs ts,U[i]?=some (some ts)/\Z[i]?=some (some (.ref a))/\H0 a=none/\G a=none/\H a=some xs/\ag8 K G ts xs
 d:∀i∈aB,∀j∈aB,∀a,Z[i]?=some (some (.ref a))->Z[j]?=some (some (.ref a))->i=j
section
variable {K:cO5}{G0 H0 G H G1 H1:Hp}
theorem RO.len(h:RO K G0 H0 aB G H Z U):Z.length=U.length:=by rw[h.r.1,ag3]
theorem RO.step(h:RO K G0 H0 aB G H Z U)(e:Ext G H G1 H1):RO K G0 H0 aB G1 H1 Z U where
 x:=h.x.trans e
 r:=h.r.mono e.g
 o:=λi hi=>by
  obtain⟨a,xs,ts,h1,h2,h3,h4,h5,h6⟩:=h.o i hi;exact⟨a,xs,ts,h1,h2,h3,e.fr a (by rw[h5];simp) h4,e.h.yes h5 h6.no,h6.mono e.g⟩
 d:=h.d
theorem RO.start(s:Sub G H)(r:K5 K G Z U):RO K G H [] G H Z U:=⟨Ext.refl s,r,λi hi=>absurd hi (by simp),λi hi=>absurd hi (by simp)⟩
theorem RO.set(h:RO K G0 H0 aB G H Z U)(hi:i∉aB)(r:Rep K G t v):RO K G0 H0 aB G H (Z.set i (some v)) (U.set i (some t)) where
 x:=h.x
 r:=by rw[ao6 aB U i _ hi];exact h.r.set r
 o:=λj hj=>by
  obtain⟨a,xs,ts,h1,h2,h3⟩:=h.o j hj;have hne:i≠j:=λz=>hi (by rw[z];exact hj)
  exact⟨a,xs,ts,by rw[cI8 hne];exact h1,by rw[cI8 hne];exact h2,h3⟩
 d:=λj hj k hk a h1 h2=>by
  rw[cI8 λz=>hi (by rw[z];exact hj)]at h1;rw[cI8 λz=>hi (by rw[z];exact hk)]at h2;exact h.d j hj k hk a h1 h2
theorem RO.newO(h:RO K G0 H0 aB G H Z U)(hi:i∉aB)(hl:i<Z.length)(hp:H p=none)(r:ag8 K G ts xs):
  RO K G0 H0 (i::aB) G (upd H p xs) (Z.set i (some (.ref p))) (U.set i (some ts)):=by
 have hGp:G p=none:=h.x.s.free hp;have hlU:i<U.length:=by rw[<-h.len];exact hl
 have fresh:∀j∈aB,Z[j]?≠some (some (.ref p)):=λj hj z=>by
  obtain⟨a,ys,us,h1,h2,h3,h4,h5,h6⟩:=h.o j hj;rw[z]at h2;cases h2;rw[hp]at h5;cases h5
 refine⟨⟨h.x.g,⟨λb o q=> ?_,h.x.s.t.new hp,h.x.s.n⟩,h.x.h.trans (bf3 (K2 hp _)),h.x.fr⟩,?_,λj hj=> ?_,λj hj k hk a h1 h2=> ?_⟩
 .rw[l8 (A9 q hGp)];exact h.x.s b o q
 .rw[ay4,cL8,bc0];exact h.r.setN
 .rcases cA9 hj with e|hj
  .subst e;exact⟨p,xs,ts,cI9 hlU,cI9 hl,h.x.h.free hp,hGp,t6,r⟩
  .obtain⟨a,ys,us,h1,h2,h3,h4,h5,h6⟩:=h.o j hj;have hne:i≠j:=λz=>hi (by rw[z];exact hj)
   exact⟨a,ys,us,by rw[cI8 hne];exact h1,by rw[cI8 hne];exact h2,h3,h4,by rw[l8 (A9 h5 hp)];exact h5,h6⟩
 .rcases cA9 hj with e|hj'<;>rcases cA9 hk with e'|hk'
  .rw[e,e']
  .subst e;rw[cI9 hl]at h1;cases h1;rw[cI8 λz=>hi (by rw[z];exact hk')]at h2;exact absurd h2 (fresh k hk')
  .subst e';rw[cI9 hl]at h2;cases h2;rw[cI8 λz=>hi (by rw[z];exact hj')]at h1;exact absurd h1 (fresh j hj')
  .rw[cI8 λz=>hi (by rw[z];exact hj')]at h1;rw[cI8 λz=>hi (by rw[z];exact hk')]at h2;exact h.d j hj' k hk' a h1 h2
theorem RO.new(h:RO K G0 H0 aB G H Z U)(hi:i∉aB)(hl:i<Z.length)(hp:H p=none)(r:j8 K G ts xs):
  RO K G0 H0 (i::aB) G (upd H p (.lst xs)) (Z.set i (some (.ref p))) (U.set i (some (.lst ts))):=h.newO hi hl hp (.lst r)
theorem RO.putO(h:RO K G0 H0 aB G H Z U)(hi:i∈aB)(ha:Z[i]?=some (some (.ref a)))(r:ag8 K G us ys):
  RO K G0 H0 aB G (upd H a ys) Z (U.set i (some us)):=by
 obtain⟨a',xs,ts',h1,h2,h3,h4,h5,h6⟩:=h.o i hi;rw[ha]at h2;cases h2;have hlU:i<U.length:=by
  rcases cM8 i U.length with q|q
  .exact q
  .rw[cI4 q]at h1;cases h1
 refine⟨⟨h.x.g,⟨λb o q=> ?_,h6.upd h5 h.x.s.t,h.x.s.n⟩,h.x.h.upd h3,h.x.fr⟩,?_,λj hj=> ?_,h.d⟩
 .rw[l8 (A9 q h4)];exact h.x.s b o q
 .have e:∀(aB:List Nat),i∈aB->∀U:A7,C7 aB (U.set i (some us))=C7 aB U:=by
   intro aB;unfold C7;induction aB with
   |nil=>intro hi;exact absurd hi (by simp)
   |cons j aB ih=>
    intro hi U
    (rw[cB6,cB6]);by_cases z:i=j
    .subst z;rw[cL8]
    .rw[List.set_comm _ _ z];exact ih ((cA9 hi).resolve_left z) _
  rw[e aB hi];exact h.r
 .by_cases z:i=j
  .subst z;exact⟨a,ys,us,cI9 hlU,ha,h3,h4,t6,r⟩
  .obtain⟨b,zs,vs,k1,k2,k3,k4,k5,k6⟩:=h.o j hj;have hab:b≠a:=λq=>z (h.d i hi j hj a ha (by rw[<-q];exact k2))
   exact⟨b,zs,vs,by rw[cI8 z];exact k1,k2,k3,k4,by rw[l8 hab];exact k5,k6⟩
theorem RO.put(h:RO K G0 H0 aB G H Z U)(hi:i∈aB)(ha:Z[i]?=some (some (.ref a)))(r:j8 K G us ys):
  RO K G0 H0 aB G (upd H a (.lst ys)) Z (U.set i (some (.lst us))):=h.putO hi ha (.lst r)
theorem RO.freeze(h:RO K G0 H0 aB G H Z U)(hi:i∈aB):∃G' a xs ts,D6 G G'/\RO K G0 H0 (aB.filter (· !=i)) G' H Z U/\U[i]?=some (some ts)/\Z[i]?=some (some (.ref a))/\Rep K G' ts (.ref a)/\G' a=some xs:=by
 obtain⟨a,xs,ts,h1,h2,h3,h4,h5,h6⟩:=h.o i hi;have sn:=K2 h4 xs;have rep:Rep K (upd G a xs) ts (.ref a):=(h6.mono sn).rep t6;refine⟨upd G a xs,a,xs,ts,sn,⟨⟨h.x.g.trans sn,⟨λb o q=> ?_,h.x.s.t,aB0 h.x.s.n h6.no⟩,h.x.h,λb hb hg=> ?_⟩,⟨?_,λj u q=> ?_⟩,λj hj=> ?_,λj hj k hk b e1 e2=> ?_⟩,h1,h2,rep,t6⟩
 .by_cases z:b=a
  .subst z;rw[t6]at q;cases q;exact h5
  .rw[l8 z]at q;exact h.x.s b o q
 .rw[l8 λz=>hb (by rw[z];exact h3)];exact h.x.fr b hb hg
 .rw[ag3];exact h.len
 .obtain⟨q1,q2⟩:=bl4 _ _ _ _ q;by_cases z:j=i
  .subst z;rw[h1]at q1;cases q1;exact⟨.ref a,h2,rep⟩
  .have hj:j∉aB:=λw=>q2 (List.mem_filter.mpr ⟨w,by simpa using z⟩)
   obtain⟨v,k1,k2⟩:=h.r.2 j u (ao9 _ _ _ _ q1 hj);exact⟨v,k1,k2.mono sn⟩
 .obtain⟨hj,hji⟩:=List.mem_filter.mp hj;have hji:j≠i:=by simpa using hji
  obtain⟨b,zs,vs,k1,k2,k3,k4,k5,k6⟩:=h.o j hj;have hba:b≠a:=λz=>hji (h.d j hj i hi b k2 (by rw[z];exact h2))
  exact⟨b,zs,vs,k1,k2,k3,by rw[l8 hba];exact k4,k5,k6.mono sn⟩
 .exact h.d j (List.mem_filter.mp hj).1 k (List.mem_filter.mp hk).1 b e1 e2
mutual
theorem Rep.del{as:List Addr}(hl:∀a∈as,∃xs,G a=some xs/\aL0 xs):∀{t:T}{v:V},al9 t=true->Rep K G t v->Rep K (λb=>if b∈as then none else G b) t v
 |.non,_,_,h=>by simpa[Rep]using h
 |.bl _,_,_,h=>by simpa[Rep]using h
 |.int _,_,_,h=>by simpa[Rep]using h
 |.str _,_,_,h=>by simpa[Rep]using h
 |.ref _,_,_,h=>by simpa[Rep]using h
 |.lst _,_,hf,_=>by simp[al9]at hf
 |.scr _,_,hf,_=>by simp[al9]at hf
 |.obj _ _,_,hf,_=>by simp[al9]at hf
 |.tup ts,_,hf,h=>by
  simp only[Rep]at h⊢;simp only[al9]at hf;obtain⟨a,xs,h1,h2,h3⟩:=h;refine⟨a,xs,h1,?_,j8.del hl hf h3⟩;rcases h2 with(h2|⟨o,h2⟩)|h2
  .refine .inl (.inl ?_);show(if a∈as then none else G a)=_;rw[cP1 λz=>by obtain⟨ys,q,n⟩:=hl a z;rw[h2]at q;cases q;exact n];exact h2
  .refine .inl (.inr ⟨o,?_⟩);show(if a∈as then none else G a)=_;rw[cP1 λz=>by obtain⟨ys,q,n⟩:=hl a z;rw[h2]at q;cases q;exact n];exact h2
  .exact .inr h2
theorem j8.del{as:List Addr}(hl:∀a∈as,∃xs,G a=some xs/\aL0 xs):∀{ts:List T}{xs:List V},aE8 ts=true->j8 K G ts xs->j8 K (λb=>if b∈as then none else G b) ts xs
 |[],_,_,h=>by simpa[j8]using h
 |t::ts,_,hf,h=>by
  simp only[j8]at h⊢;simp only[aE8,cC7]at hf;obtain⟨x,r,h1,h2,h3⟩:=h;exact⟨x,r,h1,Rep.del hl hf.1 h2,j8.del hl hf.2 h3⟩
end
theorem j8.set(r:Rep K G t v):∀{ts:List T}{xs:List V}(n:Nat),j8 K G ts xs->j8 K G (ts.set n t) (xs.set n v)
 |[],xs,n,h=>by simp only[j8]at h;subst h;simp[j8]
 |u::ts,xs,0,h=>by
  simp only[j8]at h;obtain⟨x,q,e,h1,h2⟩:=h;subst e;exact j8.cons r h2
 |u::ts,xs,n+1,h=>by
  simp only[j8]at h;obtain⟨x,q,e,h1,h2⟩:=h;subst e;exact j8.cons h1 (j8.set r n h2)
def Y8(Z:L2.St)(aB:List Nat):List Addr:=aB.filterMap λi=>match(Z[i]?).join with |some (V.ref a)=>some a|_=>none
theorem RO.mem(h:RO K G0 H0 aB G H Z U)(hb:b∈Y8 Z aB):∃i∈aB,∃xs ts,U[i]?=some (some ts)/\Z[i]?=some (some (.ref b))/\H0 b=none/\G b=none/\H b=some xs/\ag8 K G ts xs:=by
 obtain⟨i,hi,e⟩:=List.mem_filterMap.mp hb;obtain⟨a,xs,ts,h1,h2,h3⟩:=h.o i hi;rw[h2]at e;cases e;exact⟨i,hi,xs,ts,h1,h2,h3⟩
theorem RO.of_mem(hi:i∈aB)(ha:Z[i]?=some (some (.ref a))):a∈Y8 Z aB:=
 List.mem_filterMap.mpr ⟨i,hi,by rw[ha];rfl⟩
theorem RO.peek(h:RO K G0 H0 aB G H Z U):∃Gp,Sub Gp H/\K5 K Gp Z U/\Ext G0 H0 Gp H/\∀G1 H1,Ext Gp H G1 H1->∃G2,D6 G G2/\RO K G0 H0 aB G2 H1 Z U/\∀t v,(al9 t=true\/∃p ts,v=.ref p/\t=.lst ts/\aE8 ts=true/\H p=none)->Rep K G1 t v->Rep K G2 t v:=by
 have sG:D6 G (λb=>if b∈Y8 Z aB then H b else G b):=λb o q=>by
  show(if b∈Y8 Z aB then H b else G b)=_;rw[cP1 λz=>by obtain⟨_,_,_,_,_,_,_,z4,_⟩:=h.mem z;rw[q]at z4;cases z4];exact q
 have sP:D6 (λb=>if b∈Y8 Z aB then H b else G b) H:=λb o q=>by
  have q:(if b∈Y8 Z aB then H b else G b)=some o:=q;split at q
  .exact q
  .exact h.x.s b o q
 have nP:∀b ps,(λb=>if b∈Y8 Z aB then H b else G b) b≠some (.tbl ps):=λb ps q=>by
  have q:(if b∈Y8 Z aB then H b else G b)=some (.tbl ps):=q;split at q
  .rename_i z;obtain⟨_,_,xs,_,_,_,_,_,z5,z6⟩:=h.mem z;rw[z5]at q;cases q;exact absurd z6.no (by simp[ah3])
  .exact h.x.s.n b ps q
 refine⟨λb=>if b∈Y8 Z aB then H b else G b,⟨sP,h.x.s.t,nP⟩,⟨h.len,λi t q=> ?_⟩,⟨h.x.g.trans sG,⟨sP,h.x.s.t,nP⟩,h.x.h,λb hb hg=> ?_⟩,λG1 H1 e=> ?_⟩
 .by_cases hi:i∈aB
  .obtain⟨a,xs,ts,h1,h2,h3,h4,h5,h6⟩:=h.o i hi;rw[h1]at q;cases q;refine⟨.ref a,h2,(h6.mono sG).rep ?_⟩;show(if a∈Y8 Z aB then H a else G a)=_;rw[cP2 (RO.of_mem hi h2)];exact h5
  .obtain⟨v,k1,k2⟩:=h.r.2 i t (ao9 _ _ _ _ q hi);exact⟨v,k1,k2.mono sG⟩
 .show(if b∈Y8 Z aB then H b else G b)=none;rw[cP1 λz=>by obtain⟨_,_,_,_,_,_,z3,_⟩:=h.mem z;exact hb z3];exact h.x.fr b hb hg
 .have g1:∀a∈Y8 Z aB,∃xs,G1 a=some xs/\aL0 xs:=λa ha=>by
   obtain⟨i,hi,xs,ts,_,_,_,_,h5,h6⟩:=h.mem ha;exact⟨xs,e.g a _ (by show(if a∈Y8 Z aB then H a else G a)=_;rw[cP2 ha];exact h5),h6.sl⟩
  have s2:D6 G (λb=>if b∈Y8 Z aB then none else G1 b):=λb o q=>by
   show(if b∈Y8 Z aB then none else G1 b)=_;rw[cP1 λz=>by obtain⟨_,_,_,_,_,_,_,z4,_⟩:=h.mem z;rw[q]at z4;cases z4];exact e.g b o (sG b o q)
  have n2:∀b ps,(λb=>if b∈Y8 Z aB then none else G1 b) b≠some (.tbl ps):=λb ps q=>by
   have q:(if b∈Y8 Z aB then none else G1 b)=some (.tbl ps):=q;split at q
   .cases q
   .exact e.s.n b ps q
  refine⟨λb=>if b∈Y8 Z aB then none else G1 b,s2,⟨⟨h.x.g.trans s2,⟨λb o q=> ?_,e.s.t,n2⟩,h.x.h.trans e.h,λb hb hg=> ?_⟩,h.r.mono s2,λi hi=> ?_,h.d⟩,λt v hf r=> ?_⟩
  .have q:(if b∈Y8 Z aB then none else G1 b)=some o:=q;split at q
   .cases q
   .exact e.s b o q
  .show(if b∈Y8 Z aB then none else G1 b)=none;split
   .rfl
   .rename_i z;refine e.fr b ?_ ?_
    .exact h.x.h.ne hb
    .show(if b∈Y8 Z aB then H b else G b)=none;rw[cP1 z];exact h.x.fr b hb hg
  .obtain⟨a,xs,ts,h1,h2,h3,h4,h5,h6⟩:=h.o i hi;refine⟨a,xs,ts,h1,h2,h3,?_,e.h.yes h5 h6.no,h6.mono s2⟩;rw[cP2 (RO.of_mem hi h2)]
  .rcases hf with hf|⟨p,ts,rfl,rfl,hf,hp⟩
   .exact Rep.del g1 hf r
   .simp only[Rep]at r⊢;obtain⟨a,xs,e1,e2,e3⟩:=r;cases e1;refine⟨p,xs,rfl,?_,j8.del g1 hf e3⟩;rw[cP1 λz=>by obtain⟨_,_,_,_,_,_,_,_,z5,_⟩:=h.mem z;rw[hp]at z5;cases z5];exact e2
end
theorem al4{α:Type}{xs:List α}{i:Nat}{x:α}(h:xs[i]?=some x):i<xs.length:=by
 rcases cM8 i xs.length with q|q
 .exact q
 .rw[cI4 q]at h;cases h
def bg8(K:cO5)(G0 H0 G:Hp)(aB:List Nat)(D:an0):Out->Prop
 |.nx U=>∀Z' G' H',D6 G G'->RO K G0 H0 aB G' H' Z' U->D.nx Z' H'
 |.ret t=>∀v G' H',Ext G0 H0 G' H'->Rep K G' t v->D.rt v H'
 |_=>False
theorem bg8.mono{K:cO5}{G0 H0 G G1:Hp}{aB:List Nat}{D:an0}{o:Out}(s:D6 G G1)(h:bg8 K G0 H0 G aB D o):bg8 K G0 H0 G1 aB D o:=by
 cases o with
 |nx U=>exact λZ' G' H' s' R=>h Z' G' H' (s.trans s') R
 |ret t=>exact h
 |bk U=>exact h
 |ct U=>exact h
def tXO(K:cO5)(G0 H0:Hp)(aB aB':List Nat)(g:GS):TS:=λD Z H=>∃G U o,RO K G0 H0 aB G H Z U/\g U=some o/\bg8 K G0 H0 G aB' D o
def NB(g:GS):Prop:=∀U o,g U=some o->(∀U',o≠.bk U')/\∀U',o≠.ct U'
theorem aT7(h:∀U o,g U=some o->∃U',o=.nx U'):NB g:=λU o e=>by
 obtain⟨U',rfl⟩:=h U o e;exact⟨λ_ z=>(nomatch z),λ_ z=>(nomatch z)⟩
theorem aT6:NB (u7 i g):=aT7 λU o e=>by
 obtain⟨t,_,e⟩:=j5 e;cases e;exact⟨_,rfl⟩
theorem cl3:NB (aD3 i g):=aT7 λU o e=>by
 obtain⟨t,_,e⟩:=j5 e;split at e
 .split at e
  .cases e;exact⟨_,rfl⟩
  .cases e
 .cases e
theorem ck9:NB (aX6 i gi g):=aT7 λU o e=>by
 obtain⟨t,_,e⟩:=j5 e;obtain⟨k,_,e⟩:=j5 e;split at e
 .obtain⟨n,_,e⟩:=j5 e;cases e;exact⟨_,rfl⟩
 .cases e
theorem ck8:NB (t8 g):=λU o e=>by
 obtain⟨t,_,e⟩:=j5 e;cases e;exact⟨λ_ z=>(nomatch z),λ_ z=>(nomatch z)⟩
theorem bs9:NB A2:=aT7 λU o e=>by cases e;exact⟨_,rfl⟩
theorem ck7(ha:NB a)(hb:NB b):NB (n9 a b):=λU o e=>by
 obtain⟨o1,k1,e⟩:=j5 e;cases o1 with
 |nx U1=>exact hb _ _ e
 |ret t=>cases e;exact⟨λ_ z=>(nomatch z),λ_ z=>(nomatch z)⟩
 |bk U1=>exact absurd rfl ((ha _ _ k1).1 _)
 |ct U1=>exact absurd rfl ((ha _ _ k1).2 _)
theorem cr6(ha:NB a)(hb:NB b):NB (sIf c a b):=λU o e=>by
 obtain⟨k,_,e⟩:=j5 e;cases k with
 |true=>exact ha _ _ e
 |false=>exact hb _ _ e
theorem bW4{st:St1}{b:GS}(hb:NB b):∀xs,NB (G8 st b xs)
 |[]=>bs9
 |x::xs=>λU o e=>by
  obtain⟨U1,_,e⟩:=j5 e;obtain⟨o1,k1,e⟩:=j5 e;cases o1 with
  |nx U2=>exact bW4 hb xs _ _ e
  |ret t=>cases e;exact⟨λ_ z=>(nomatch z),λ_ z=>(nomatch z)⟩
  |bk U2=>exact absurd rfl ((hb _ _ k1).1 _)
  |ct U2=>exact absurd rfl ((hb _ _ k1).2 _)
theorem cl1{it:GL}{st:St1}{b:GS}(hb:NB b):NB (N6 it st b):=λU o e=>by
 obtain⟨xs,_,e⟩:=j5 e;exact bW4 hb xs _ _ e
structure PXO(X:Cx)(aB aB':List Nat)(st:Stmt)(g:GS):Prop where
 nb:NB g
 ps:∀G0 H0,PS X st (tXO X.K G0 H0 aB aB' g)
structure az9(X:Cx)(aB aB':List Nat)(st:List Stmt)(g:GS):Prop where
 nb:NB g
 ps:∀G0 H0,PSs X st (tXO X.K G0 H0 aB aB' g)
section
variable {st:Stmt}
theorem aD8:az9 X aB aB [] A2:=⟨bs9,λG0 H0=>PSs.imp aL8 λD Z H zz=>by
 obtain⟨G,U,o,R,hg,q⟩:=zz;cases hg;exact q Z G H (D6.refl _) R⟩
theorem E8{g1 g2:GS}(h1:PXO X aB aB' st g1)(h2:az9 X aB' aB2 rest g2):az9 X aB aB2 (st::rest) (n9 g1 g2):=⟨ck7 h1.nb h2.nb,λG0 H0=>PSs.imp (P2 (h1.ps G0 H0) (h2.ps G0 H0)) λD Z H zz=>by
 obtain⟨G,U,o,R,hg,q⟩:=zz;obtain⟨o1,k1,hg⟩:=j5 hg;refine⟨G,U,o1,R,k1,?_⟩;cases o1 with
 |nx U1=>exact λZ' G' H' s' R'=>⟨G',U1,o,R',hg,q.mono s'⟩
 |bk U1=>exact absurd rfl ((h1.nb _ _ k1).1 _)
 |ct U1=>exact absurd rfl ((h1.nb _ _ k1).2 _)
 |ret t=>cases hg;exact q⟩
theorem Q2{g1:GS}(h1:PXO X aB aB' st g1):az9 X aB aB' [st] g1:=⟨h1.nb,λG0 H0=>aj9 (h1.ps G0 H0)⟩
theorem an9(h:Wd (PX X e g)):PXO X aB aB' (.Return (some e) pos) (t8 g):=have h:=h.run;⟨ck8,λG0 H0=>PS.imp (aT0 h) λD Z H zz=>by
 obtain⟨G,U,o,R,hg,q⟩:=zz;obtain⟨t,k1,hg⟩:=j5 hg;cases hg;obtain⟨Gp,s,r,x,_⟩:=R.peek;exact⟨Gp,U,t,s,r,k1,λv G1 H1 e1 r1=>q v G1 H1 (x.trans e1) r1⟩⟩
theorem Y7(i:Nat)(h:Wd (PX X e g))(hN:ai0 X.N=true:=by rfl)(hm:i∉aB:=by decide)(hi:X.N[i]?=some x:=by rfl)(hx:Loc X.env.scope x:=by first |exact .inl rfl|exact .inr rfl)(hs:swapsWith e (some (.Name x pos')) pos.line X.env=pure false:=by rfl)(hf:LcF X x:=by first |exact .inl rfl|exact .inr rfl):PXO X aB aB (.Assign [.Name x pos'] e pos) (u7 i (gM aB g)):=have hN:=O6 hN;have h:=h.run;⟨aT6,λG0 H0=>PS.imp (aA7 hN hi hx h hs hf) λD Z H zz=>by
 obtain⟨G,U,o,R,hg,q⟩:=zz;obtain⟨t,k1,hg⟩:=j5 hg;cases hg;exact⟨G,C7 aB U,t,R.x.s,R.r,k1,λv G1 H1 e1 r1=>q _ G1 H1 e1.g ((R.step e1).set hm r1)⟩⟩
theorem aD9{x:Str}{pos' lp:Pos}(i:Nat)(hN:ai0 X.N=true:=by rfl)(hm:i∉aB:=by decide)(hi:X.N[i]?=some x:=by rfl)(hx:Loc X.env.scope x:=by first |exact .inl rfl|exact .inr rfl)(hs:swapsWith (.List [] lp) (some (.Name x pos')) pos.line X.env=pure false:=by rfl)(hf:LcF X x:=by first |exact .inl rfl|exact .inr rfl):PXO X aB (i::aB) (.Assign [.Name x pos'] (.List [] lp) pos) (u7 i (gC (.lst []))):=have hN:=O6 hN;⟨aT6,λG0 H0 aA s Z H D I zz=>by
 obtain⟨G,U,o,R,hg,q⟩:=zz;cases hg;refine aA7 hN hi hx (bF9 ab3) hs hf aA s Z H D I ⟨cO2 _,λp hp=> ?_⟩;exact q _ G _ (D6.refl _) (R.new hm (by rw[I.len];exact al4 hi) hp j8.nil)⟩
theorem au8{K:cO5}{G0 H0 G H:Hp}{Z:L2.St}{U:A7}{i:Nat}(R:RO K G0 H0 aB G H Z U)(hi:i∈aB){ts:List T}(e:(U[i]?).join=some (.lst ts)):∃a xs,Z[i]?=some (some (.ref a))/\H a=some (.lst xs)/\j8 K G ts xs:=by
 obtain⟨a,xs,ts',h1,h2,_,_,h5,h6⟩:=R.o i hi;rw[h1]at e;cases e;cases h6 with
 |lst h6=>exact⟨a,_,h2,h5,h6⟩
theorem bj5{x:Str}{p apos cpos:Pos}{g:L3.G}(i:Nat)(he:Wd (PX X e g))(hm:i∈aB:=by decide)(hi:X.N[i]?=some x:=by rfl)(hv:Vis X.env.scope x:=by first |exact .inl rfl|exact .inr (.inl rfl)|exact .inr (.inr rfl))(hd:NoD x:=by decide)(hcd:(x==("__classdict__":Str))=false:=by decide)(hbase:attributeBase (.Name x p) "append" X.env (eval (.Name x p) X.env)=eval (.Name x p) X.env:=by rfl)(hfew:((backTo cpos (starEach [e] X.env)).all (λx=> !x.1)&&(backToKw cpos (keywordEach [] X.env)).all (λx=>x.1.isSome)
   &&decide ([e].length+([]:List Keyword).length+(if([]:List Keyword).isEmpty then 0 else 1)<30))=true:=by rfl) (hline:(apos.endLine==cpos.line)=true:=by rfl) (hs:StE X e []:=by rfl) (hplain:Bks X cpos []:=by rfl) (hsw:swapsWith (.Call (.Attribute (.Name x p) "append" apos) [e] [] cpos) none pos.line X.env=pure false:=by rfl):PXO X aB aB (.Expr (.Call (.Attribute (.Name x p) "append" apos) [e] [] cpos) pos) (aD3 i (gM aB g)):=have he:=he.run;⟨cl3,λG0 H0 aA s Z H D I zz=>by
 obtain⟨G,U,o,R,hg,q⟩:=zz;obtain⟨t,k1,hg⟩:=j5 hg;cases hq:(U[i]?).join with
 |none=>rw[hq]at hg;cases hg
 |some tl=>
  rw[hq]at hg
  match tl,hq,hg with
  |.lst ts,hq,hg=>
   dsimp only at hg;split at hg
   case isFalse=>cases hg
   case isTrue hlen=>
   cases hg;obtain⟨a,xs,h1,h2,h3⟩:=au8 R hm hq;refine ao2 (bf8 PySem.F.plainAttrs_list PySem.F.slot_list_append PySem.F.type_list_append aI2 (aq9 hi hv hd hcd) (T0 he ab3 hs) hbase hfew hline hs hplain) hsw aA s Z H D I ⟨.ref a,h1,.inl ⟨rfl,xs,SqL.of h2⟩,G,C7 aB U,t,R.x.s,R.r,k1,λv G1 H1 e1 r1=> ?_⟩;have R1:=R.step e1;obtain⟨a',xs',h1',h2',h3'⟩:=au8 R1 hm hq;rw[h1]at h1';cases h1';refine⟨a,xs',v,rfl,rfl,h2',?_,?_⟩
   .rw[h3'.length];exact cM7 hlen (by decide)
   .exact q Z G1 _ e1.g (R1.put hm h1 (h3'.append (j8.cons r1 j8.nil)))⟩
theorem bQ6{x:Str}{p tpos:Pos}{ix:Expr}{g gi:L3.G}(i:Nat)(he:Wd (PX X e g))(hix:Wd (PX X ix gi))(hm:i∈aB:=by decide)(hi:X.N[i]?=some x:=by rfl)(hv:Vis X.env.scope x:=by first |exact .inl rfl|exact .inr (.inl rfl)|exact .inr (.inr rfl))(hd:NoD x:=by decide)(hcd:(x==("__classdict__":Str))=false:=by decide)(ha:∀v,assign (.Subscript (.Name x p) ix tpos) X.env v=(do
   let ov<-holding [v] (eval (.Name x p) X.env)
   let iv<-holding [v,ov] (eval ix X.env)
   standAt tpos
   holding [v,ov,iv] (setItem ov iv v)
   release [v,ov,iv] []):=by intro _;rfl) (hs:swapsWithSole [.Subscript (.Name x p) ix tpos] e pos.line X.env=pure false:=by rfl) (hw:swappedStores [.Subscript (.Name x p) ix tpos] e X.env=pure none:=by rfl) (h1:(assignEach [.Subscript (.Name x p) ix tpos] X.env).map (·.2)=[assign (.Subscript (.Name x p) ix tpos) X.env]:=by rfl):PXO X aB aB (.Assign [.Subscript (.Name x p) ix tpos] e pos) (aX6 i gi (gF g)):=have he:=he.run;have hix:=hix.run;⟨ck9,λG0 H0 aA s Z H D I zz=>by
 obtain⟨G,U,o,R,hg,q⟩:=zz;obtain⟨t,k1,hg⟩:=j5 hg;obtain⟨tk,k2,hg⟩:=j5 hg;obtain⟨t',k3,k1⟩:=j5 k1;split at k1
 case isFalse=>cases k1
 case isTrue hfl=>
 cases k1;cases hq:(U[i]?).join with
 |none=>rw[hq]at hg;cases hg
 |some tl=>
  rw[hq]at hg
  match tl,tk,hq,k2,hg with
  |.lst ts,.int k,hq,k2,hg=>
   dsimp only at hg;obtain⟨n,hn,hg⟩:=j5 hg;cases hg;obtain⟨Gp,sp,rp,_,un⟩:=R.peek;refine aT1 he (bk0 (aq9 hi hv hd hcd) hix aP2 ha) hs hw h1 aA s Z H D I ⟨Gp,U,t,sp,rp,k3,λv G1 H1 e1 r1=> ?_⟩;obtain⟨G2,s2,R2,fl⟩:=un G1 H1 e1;have rv:=fl t v (.inl hfl) r1;obtain⟨a,xs,a1,a2,a3⟩:=au8 R2 hm hq;obtain⟨Gq,sq,rq,_,un2⟩:=R2.peek;refine⟨.ref a,a1,Gq,U,.int k,sq,rq,k2,λu G3 H3 e3 r3=> ?_⟩;obtain⟨G4,s4,R4,fl4⟩:=un2 G3 H3 e3;simp only[Rep]at r3;obtain⟨a',xs',b1,b2,b3⟩:=au8 R4 hm hq;rw[a1]at b1;cases b1;refine⟨a,xs',k,n,rfl,r3,b2,by rw[b3.length];exact hn,?_⟩;exact q Z G4 _ (s2.trans s4) (R4.put hm a1 (b3.set (rv.mono s4) n))⟩
theorem aL6(hc:Wd (PXB X c gc))(ha:az9 X aB aB' a ga)(hb:az9 X aB aB' b gb):PXO X aB aB' (.If c a b pos) (sIf gc ga gb):=have hc:=hc.run;⟨cr6 ha.nb hb.nb,λG0 H0=>PS.imp (bf7 hc (ha.ps G0 H0) (hb.ps G0 H0)) λD Z H zz=>by
 obtain⟨G,U,o,R,hg,q⟩:=zz;obtain⟨k,k1,hg⟩:=j5 hg;obtain⟨Gp,s,r,_,un⟩:=R.peek;refine⟨Gp,U,k,s,r,k1,λG1 H1 e1=> ?_⟩;obtain⟨G2,s2,R2,_⟩:=un G1 H1 e1;cases k with
 |true=>exact as2 ⟨G2,U,o,R2,hg,q.mono s2⟩
 |false=>exact as3 ⟨G2,U,o,R2,hg,q.mono s2⟩⟩
theorem RO.stored{K:cO5}{G0 H0 G H:Hp}{Z Z':L2.St}{U U':A7}{is:List Nat}{st:St1}{t:T}(R:RO K G0 H0 aB G H Z U)(hn:∀i∈is,i∉aB)(hk:∀U U',st t U=some U'->∀i,i∉is->U'[i]?=U[i]?)
  (e:st t U=some U') (r:K5 K G Z' (C7 aB U')) (hs:∀k,k∉is->Z'[k]?=Z[k]?):RO K G0 H0 aB G H Z' U' where
 x:=R.x
 r:=r
 o:=λi hi=>by
  obtain⟨a,xs,ts,h1,h2,h3⟩:=R.o i hi;have hni:i∉is:=λz=>hn i z hi
  exact⟨a,xs,ts,by rw[hk _ _ e i hni];exact h1,by rw[hs i hni];exact h2,h3⟩
 d:=λi hi j hj a h1 h2=>by
  rw[hs i λz=>hn i z hi]at h1;rw[hs j λz=>hn j z hj]at h2;exact R.d i hi j hj a h1 h2
structure bU9(is:List Nat)(st:St1):Prop where
 m:∀aB,(∀i∈is,i∉aB)->∀t U,(st t U).map (C7 aB)=st t (C7 aB U)
 k:∀t U U',st t U=some U'->∀i,i∉is->U'[i]?=U[i]?
theorem cg2(i:Nat):bU9 [i] (stN i):=⟨λaB h t U=>by
  show some (C7 aB (U.set i (some t)))=some ((C7 aB U).set i (some t));rw[ao6 aB U i _ (h i (by simp))],λt U U' e j hj=>by
  cases e;rw[cI8 (by simp at hj;omega)]⟩
theorem cg3(i j:Nat):bU9 [i,j] (st2 i j):=⟨λaB h t U=>by
  match t with
  |.tup [x,y]=>
   show some (C7 aB ((U.set i (some x)).set j (some y)))=some (((C7 aB U).set i (some x)).set j (some y));rw[ao6 aB _ j _ (h j (by simp)),ao6 aB U i _ (h i (by simp))]
  |.non=>rfl
  |.bl _=>rfl
  |.int _=>rfl
  |.str _=>rfl
  |.lst _=>rfl
  |.ref _=>rfl
  |.scr _=>rfl
  |.obj _ _=>rfl
  |.tup []=>rfl
  |.tup [_]=>rfl
  |.tup (_::_::_::_)=>rfl,λt U U' e k hk=>by
  match t,e with
  |.tup [x,y],e=>
   cases e;simp at hk;rw[cI8 (by omega),cI8 (by omega)]⟩
theorem ao0{tg iter:Expr}{body:List Stmt}{it:GL}{is:List Nat}{s1:St1}{gb:GS}(hi:Wd (PXI X tg iter it))(hg:Wd (PXG X tg is s1))(hb:az9 X aB aB body gb)(hp:PassesOwn (model X.prog X.w) X.A X.env X.xe:=by exact PassesOwn.never)(hc:X.calm=true:=by rfl)(so:bU9 is s1:=by first |exact cg2 _|exact cg3 _ _)(hn:is.all (λi=> !(aB.contains i))=true:=by decide)(hs:NFo X iter:=by intro _;rfl):PXO X aB aB (.For tg iter body [] pos) (N6 (gLM aB it) s1 gb):=have hi:=hi.run;have hg:=hg.run;⟨cl1 hb.nb,λG0 H0=>PS.imp (bF4 hp hc hi hg (hb.ps G0 H0) hs) λD Z H zz=>by
 obtain⟨G,U,o,R,hg,q⟩:=zz;have hno:∀i∈is,i∉aB:=λi hi=>by
  have :=List.all_eq_true.mp hn i hi;simpa using this
 obtain⟨ts,h1,hg⟩:=j5 hg;refine⟨G,C7 aB U,ts,R.x.s,R.r,h1,λJ G' H' e1 wk=> ?_⟩;refine⟨λi m Z1 H1=>m=ts.length-i/\i<=ts.length/\∃G1 U1,D6 G' G1/\RO X.K G0 H0 aB G1 H1 Z1 U1/\G8 s1 gb (ts.drop i) U1=some o,⟨ts.length,by simp,cO2 _,G',U,D6.refl _,R.step e1,by simpa using hg⟩,?_⟩;rintro i m Z1 H1 ⟨rfl,hi,G1,U1,sg,R1,hgo⟩;by_cases hlt:i<ts.length
 .right;have ht:ts[i]?=some ts[i]:=cI3 hlt;obtain⟨go,yl⟩:=(wk i G1 H1 sg R1.x.s).1 _ ht;rw[cH2 hlt]at hgo;obtain⟨U2,k1,hgo⟩:=j5 hgo;obtain⟨o2,k2,hgo⟩:=j5 hgo;refine⟨go,λZ' H2=>∃G2 U3,D6 G' G2/\RO X.K G0 H0 aB G2 H2 Z' U3/\G8 s1 gb (ts.drop (i+1)) U3=some o,λZ' H2 ⟨G2,U3,x2,r2,h2⟩=>⟨ts.length-(i+1),by omega,rfl,hlt,G2,U3,x2,r2,h2⟩,λx H2 hy=> ?_⟩;obtain⟨G2,e2,rx⟩:=yl x H2 hy;have R2:=R1.step e2;have mk:s1 ts[i] (C7 aB U1)=some (C7 aB U2):=by rw[<-so.m aB hno,k1];rfl
  refine⟨G2,C7 aB U1,ts[i],C7 aB U2,e2.s,R2.r,rx,mk,λZ2 hU2 _ hk=>⟨G2,U2,o2,R2.stored hno (so.k _) k1 hU2 hk,k2,?_⟩⟩;cases o2 with
  |nx U3=>exact λZ' G3 H3 s3 R3=>⟨G3,U3,sg.trans (e2.g.trans s3),R3,hgo⟩
  |ct U3=>exact absurd rfl ((hb.nb _ _ k2).2 _)
  |bk U3=>exact absurd rfl ((hb.nb _ _ k2).1 _)
  |ret t=>cases hgo;exact λv G3 H3 e3 r3=>q v G3 H3 e3 r3
 .left;have ei:i=ts.length:=by omega
  subst ei;refine⟨(wk _ G1 H1 sg R1.x.s).2 (cM3 _) (cM3 _),?_⟩;rw[cH3]at hgo;cases hgo;exact q Z1 G1 H1 (e1.g.trans sg) R1⟩
end
section
variable {K:cO5}
theorem fnO{x qual:Str}{st:Stmt}{f:Addr}{fd:FuncData}{N ps:List Str}{k:Nat}{g:GS}{aB:List Nat}(F:Fun K x qual st f fd)(S:O8 N ps (r8 st))(np:ps.length<=N.length)
  (hb:∀(cdv:Value) (A:Around) (aE:List Env) (s:Shared) (H:Hp) (E:XK),J9 k (A.deeper (envOfC qual (r8 st) s.sz f cdv))->az9 (F7 CX0 P w K mg aD N qual (r8 st) f cdv A aE s H E).nox [] aB (N8 st) g):
  P9 P w K mg aD CX0 (k+1) f fd ps (spT K ps.length (A6 ps.length N.length g)):=by
 refine F.ok S (λvs H Q E h=> ?_) (λcdv A aE s H vs Q E hr h=> ?_)
 .obtain⟨G,ts,t,sG,r,hl,_⟩:=h;rw[r.length,hl]
 .obtain⟨G,ts,t,sG,r,hl,hf,q⟩:=h;refine⟨_,(hb cdv A aE s H E hr).ps G H,?_⟩;unfold A6 at hf;rw[cP2 hl]at hf;have hU:=af5 (N:=N) r (by omega);cases hg:g (o8 N.length ts)with
  |none=>rw[hg]at hf;cases hf
  |some o=>
   rw[hg]at hf;refine⟨G,_,o,RO.start sG hU,hg,?_⟩;cases o with
   |nx U=>cases hf;exact λZ' G' H' _ R=>q .non G' H' R.x (by simp[Rep])
   |ret t'=>cases hf;exact λv G' H' e' rv=>q v G' H' e' rv
   |bk U=>cases hf
   |ct U=>cases hf
end
theorem cs4(o:Obj)(f):(o.mapFields f).dict=o.dict:=by
 unfold Obj.mapFields;split<;>rfl
structure Fly(B:Heap)(l:List Env)(e:Addr)(C fl:Value)(h:Heap):Prop where
 st:B.StaysIn h
 new:B.get? e=none
 fr:h.FunFrames B l
 ob:∃oe vs T oT ts,h.get? e=some oe/\(oe.cls=C/\oe.dict=none)/\oe.data=.fields vs/\vs[1]?=some (.ref T)/\vs[2]?=some .none/\B.get? T=none/\T≠e/\h.get? T=some oT/\oT.data=.fields ts/\ts[3]?=some fl
section
variable {L e:Addr}
theorem aE6(F:Fly B l e C fl s.heap)
  (k:∀h',Fly B l e C (g.elim .none λf=>rawInt f) h'->s.heap.UpToSlots h'->Q () {s with heap:=h'}):wpAny M A (setFlight (.ref e) g) Q E s:=by
 obtain⟨oe,vs,T,oT,ts,he,hc,hd,h1,h2,hB,hne,hT,hdT,h3⟩:=F.ob;have sz:3<ts.size:=(Array.getElem?_eq_some_iff.mp h3).1;have away:∀b,b≠T->(s.heap.update T (Obj.mapFields (·.setIfInBounds 3 (g.elim .none λf=>rawInt f)))).get? b=s.heap.get? b:=λb hb=>cD7 _ _ (Ne.symm hb)
 have plain:∀b o,s.heap.get? b=some o->(∀ws,o.data≠.fields ws)->b≠T:=λb o hb hn z=>by
  rw[z,hT]at hb;cases hb;exact hn ts hdT
 unfold setFlight
 (refine cP3 (cP5 he hd h1 ?_));rw[cP2 (by simp :(Value.ref T !=Value.none)=true)]
 refine wpAny_setField hT hdT sz (k _ ⟨λb o hb=> ?_,F.new,F.fr.of_keeps λb o hb hn=>⟨o,?_,rfl⟩,oe,vs,T,_,_,?_,hc,hd,h1,h2,hB,hne,cD8 _ hT (Obj.isFreed_of_fields (Obj.data_mapFields hdT _)),Obj.data_mapFields hdT _,?_⟩ λb o hb hn=>⟨o.slots,?_⟩)
 .rw[away b λz=>by rw[z,hB]at hb;cases hb];exact F.st b o hb
 .rw[away b (plain b o hb hn)];exact hb
 .rw[away e (Ne.symm hne)];exact he
 .simp[sz]
 .rw[away b (plain b o hb hn)];exact hb
theorem bc7(hA:A.frames=some (env::aE))(hL:env.frame=some L)(hfr:s.heap.FunFrames B (env::aE))(hst:B.StaysIn s.heap)(hnew:B.get? e=none)
  (he:s.heap.get? e=some oe) (hd:oe.data=.fields vs) (h2:vs[2]?=some .none) (hdi:oe.dict=none)
  (k:∀h',Fly B (env::aE) e oe.cls (rawInt L) h'->s.heap.UpToSlots h'->Q () {s with heap:=h'}):
  wpAny M A (do let a<-frameOf env;let pl<-entryPlaceOf L more;let b<-EntryCells.newEntry hd0 a .none (rawInt L) .none pl;setField (.ref e) 1 b) Q E s:=by
 have sz:1<vs.size:=by have :=(Array.getElem?_eq_some_iff.mp h2).1;omega
 have notFrame:e∉(env::aE).filterMap (·.frame):=λz=>by
  obtain⟨_,o,ho,hn⟩:=hfr.mem z;rw[he]at ho;cases ho;exact hn vs hd
 refine cP3 (wpAny_frameOf_fun hA hfr hL λh1 so=>cP3 (wpAny_entryPlaceOf λpl hpl=> ?_))
 (unfold EntryCells.newEntry newFields);(refine cP3 (cP7 ?_ (hpl.sizeOk5 _ _ _ _ _)));have he1:h1.get? e=some oe:=(so.2.1 e notFrame).trans he
 have st1:B.StaysIn h1:=λb o hb=>(so.2.1 b λz=>by rw[(hfr.mem z).1]at hb;cases hb).trans (hst b o hb)
 generalize hTo:({cls:=.type "traceback",dict:=none,data:=.fields ([hd0,.ref L,.none,rawInt L,.none]++(if pl.isEmpty then List.replicate 6 Value.none else pl)).toArray}:Obj)=oT;have dT:oT.data=.fields ([hd0,.ref L,.none,rawInt L,.none]++(if pl.isEmpty then List.replicate 6 Value.none else pl)).toArray:=by rw[<-hTo]
 have fT:oT.isFreed=false:=Obj.isFreed_of_fields dT;have he2:=cD5 (h:=h1) oT he1;have nT:h1.objs.size≠e:=cN4 (cD9 he1);refine wpAny_setField he2 hd sz (k _ ⟨λb o hb=> ?_,hnew,hfr.of_keeps λb o hb hn=> ?_,_,_,h1.objs.size,oT,_,cD8 _ he2 (Obj.isFreed_of_fields (Obj.data_mapFields hd _)),⟨Obj.cls_mapFields _ _,(cs4 _ _).trans hdi⟩,Obj.data_mapFields hd _,?_,?_,st1.fresh,nT,?_,dT,?_⟩ λb o hb hn=> ?_)
 .have hbe:b≠e:=λz=>by rw[z,hnew]at hb;cases hb
  (rw[cD7 _ _ (Ne.symm hbe)]);exact cD5 _ (st1 b o hb)
 .have hbe:b≠e:=λz=>by rw[z,he]at hb;cases hb;exact hn vs hd
  obtain⟨sl,q⟩:=so.2.2 b o hb;exact⟨{o with slots:=sl},by rw[cD7 _ _ (Ne.symm hbe)];exact cD5 _ q,rfl⟩
 .simp[sz]
 .rw[Array.getElem?_setIfInBounds_ne (by decide)];exact h2
 .rw[cD7 _ _ (Ne.symm nT)];exact cD6 h1 fT
 .rcases hpl with rfl|⟨_,_,_,_,_,_,_,rfl⟩<;>simp
 .have hbe:b≠e:=λz=>by rw[z,he]at hb;cases hb;exact hn vs hd
  obtain⟨sl,q⟩:=so.2.2 b o hb;exact⟨sl,by rw[cD7 _ _ (Ne.symm hbe)];exact cD5 _ q⟩
theorem bJ0(hA:A.frames=some (env::aE))(hL:env.frame=some L)(hfr:s.heap.FunFrames B (env::aE))(hst:B.StaysIn s.heap)(hnew:B.get? e=none)
  (he:s.heap.get? e=some oe) (hd:oe.data=.fields vs) (h1:vs[1]?=some .none) (h2:vs[2]?=some .none) (hdi:oe.dict=none)
  (k:∀h',Fly B (env::aE) e oe.cls (rawInt L) h'->s.heap.UpToSlots h'->Q () {s with heap:=h'}):wpAny M A (noteFrame (.ref e) env) Q E s:=by
 unfold noteFrame;simp only[hL]
 (refine cP3 (cP5 he hd h1 ?_));rw[cP1 (by decide)]
 exact bc7 hA hL hfr hst hnew he hd h2 hdi k
theorem bm5(hA:A.frames=some (env::aE))(hL:env.frame=some L)(F:Fly B (env::aE) e C .none s.heap)
  (k:∀h',Fly B (env::aE) e C (rawInt L) h'->s.heap.UpToSlots h'->Q () {s with heap:=h'}):wpAny M A (noteFrame (.ref e) env) Q E s:=by
 obtain⟨oe,vs,T,oT,ts,he,hc,hd,h1,h2,hB,hne,hT,hdT,h3⟩:=F.ob;obtain⟨hc,hdi⟩:=hc;subst hc;have sz:3<ts.size:=(Array.getElem?_eq_some_iff.mp h3).1;have away:∀b,b≠T->(s.heap.update T (Obj.mapFields (·.setIfInBounds 3 Value.none))).get? b=s.heap.get? b:=λb hb=>cD7 _ _ (Ne.symm hb)
 have plain:∀b o,s.heap.get? b=some o->(∀ws,o.data≠.fields ws)->b≠T:=λb o hb hn z=>by
  rw[z,hT]at hb;cases hb;exact hn ts hdT
 unfold noteFrame;simp only[hL]
 (refine cP3 (cP5 he hd h1 ?_));rw[cP2 (by simp :(Value.ref T !=Value.none)=true)]
 (refine cP3 (cP5 hT hdT h3 ?_));rw[cP1 (by simp[rawInt]:¬((Value.none==rawInt L)=true))]
 refine cP3 (wpAny_setField hT hdT sz ?_);refine bc7 hA hL (F.fr.of_keeps λb o hb hn=>⟨o,(away b (plain b o hb hn)).trans hb,rfl⟩) (λb o hb=>(away b λz=>by rw[z,hB]at hb;cases hb).trans (F.st b o hb)) F.new ((away e (Ne.symm hne)).trans he) hd h2 hdi
  λh' F' u=>k h' F' λb o hb hn=>u b o ((away b (plain b o hb hn)).trans hb) hn
theorem Fly.pop(F:Fly B (env::aE) e C fl h):Fly B aE e C fl h:=⟨F.st,F.new,F.fr.2.2,F.ob⟩
theorem by9(hA:A.frames=some (env::aE))(hL:env.frame=some L)(hfr:s.heap.FunFrames B (env::aE))(hst:B.StaysIn s.heap)(hnew:B.get? e=none)
  (he:s.heap.get? e=some oe) (hd:oe.data=.fields vs) (h1:vs[1]?=some .none) (h2:vs[2]?=some .none) (hdi:oe.dict=none)
  (k:∀h',Fly B aE e oe.cls .none h'->s.heap.UpToSlots h'->Q () {s with heap:=h'}):wpAny M A (leaving env (.ref e)) Q E s:=by
 unfold leaving;exact cP3 (bJ0 hA hL hfr hst hnew he hd h1 h2 hdi λh' F u=>aE6 (g:=none) F λh2 F2 u2=>k h2 F2.pop (u.trans u2))
theorem bc6(hA:A.frames=some (env::aE))(hL:env.frame=some L)(F:Fly B (env::aE) e C .none s.heap)
  (k:∀h',Fly B aE e C .none h'->s.heap.UpToSlots h'->Q () {s with heap:=h'}):wpAny M A (leaving env (.ref e)) Q E s:=by
 unfold leaving;exact cP3 (bm5 hA hL F λh' F u=>aE6 (g:=none) F λh2 F2 u2=>k h2 F2.pop (u.trans u2))
end
structure ag7(P:Program)(w:World)(aE:List Env)(H:Hp)(s:Shared)(B:Heap)(ea:Addr)(C fl:Value)(H':Hp)(s':Shared):Prop where
 os:s'.os=s.os
 bare:AllBare s'.gens
 un:Un (frs aE) [] H H' s.heap s'.heap
 hok:HOk P w H' s'.heap
 ne:H' ea=none
 fly:Fly B aE ea C fl s'.heap
 old:∀b o,s'.heap.get? b=some o->(∃u,s.heap.get? b=some u)->b∉frs aE->B.get? b=some o
 trk:∀b,H' b≠none->∃o,B.get? b=some o
def CX1(P:Program)(w:World):CXT:=λaE H s E e s'=>∃ea C H' B,e=.ref ea/\ag7 P w aE H s B ea C .none H' s'/\E C none H'
section
theorem aE3(x:HOk P w H h)(k:∀b,H b≠none->∃o,h.get? b=some o/\h'.get? b=some o):HOk P w H h':=λa o e=>
 (x a o e).stay (λb u hb q=>by
  have hn:H b≠none:=by
   rcases hb with z|z
   .rw[z,e];simp
   .rw[z];simp
  obtain⟨o',q1,q2⟩:=k b hn;rw[q1]at q;cases q;exact q2) (λ_ z=>z) λ_ _ z=>z
theorem bG7(x:ad3 P w H h a o):∃ob,h.get? a=some ob:=by
 cases o with
 |lst xs=>obtain⟨_,_,_,_,e⟩:=x;exact⟨_,e⟩
 |tup xs=>obtain⟨_,_,_,ob,e,_⟩:=x;exact⟨_,e⟩
 |dK kvs=>obtain⟨_,_,_,_,o,_,_,e,_⟩:=x;exact⟨_,e⟩
 |dT kvs=>obtain⟨_,_,_,_,o,_,_,e,_⟩:=x;exact⟨_,e⟩
 |set S n=>obtain⟨o,_,_,_,e,_⟩:=x;exact⟨_,e⟩
 |ins C dx fs=>obtain⟨_,_,_,e,_⟩:=x;exact⟨_,e⟩
 |aB y=>obtain⟨_,e⟩:=x;exact⟨_,e⟩
 |xd fs=>obtain⟨_,⟨_,_,_,e,_⟩,_⟩:=x;exact⟨_,e⟩
 |rng lo hi=>obtain⟨_,_,_,e⟩:=x;exact⟨_,e⟩
 |frz ob u=>obtain⟨e,_⟩:=x;exact⟨_,e⟩
 |tbl ps=>exact⟨_,(show h.get? a=some _ from x)⟩
 |met f y=>exact⟨_,(show h.get? a=some _ from x)⟩
 |ext φ=>obtain⟨_,⟨_,e⟩,_⟩:=x;exact⟨_,e⟩
theorem ag7.turn(T:ag7 P w aE H s B ea C fl H' s')(F:Fly B aE ea C fl' h')(u:s'.heap.UpToSlots h'):ag7 P w aE H s B ea C fl' H' {s' with heap:=h'}:=by
 have same:∀b o,s'.heap.get? b=some o->(∃v,s.heap.get? b=some v)->b∉frs aE->h'.get? b=some o:=λb o q v nb=>F.st b o (T.old b o q v nb)
 have isT:∀b,H' b≠none->∃o,s'.heap.get? b=some o/\h'.get? b=some o:=λb q=>by
  obtain⟨o,z⟩:=T.trk b q;exact⟨o,T.fly.st b o z,F.st b o z⟩
 refine⟨T.os,T.bare,⟨λb o q n nb hx=> ?_,λb o q n nb hx=> ?_,λb o q n hx=>T.un.free b o q n hx,λb o q hx=> ?_,T.un.tups,T.un.frzs,T.un.tbls⟩,aE3 T.hok isT,T.ne,F,λb o q v nb=> ?_,T.trk⟩
 .exact same b o (T.un.keep b o q n nb hx) ⟨o,q⟩ nb
 .obtain⟨sl,z⟩:=T.un.slot b o q n nb hx;have nf:∀vs,o.data≠.fields vs:=λvs y=>by
   obtain⟨_,o2,z2,z3⟩:=T.fly.fr.mem nb;rw[z]at z2;cases z2;exact z3 vs y
  obtain⟨sl2,z2⟩:=u b _ z nf;exact⟨sl2,z2⟩
 .obtain⟨o',z⟩:=T.un.there b o q hx;by_cases nb:b∈frs aE
  .obtain⟨_,o2,z2,z3⟩:=T.fly.fr.mem nb;obtain⟨sl,z4⟩:=u b o2 z2 z3;exact⟨_,z4⟩
  .exact⟨o',same b o' z ⟨o,q⟩ nb⟩
 .obtain⟨v,q'⟩:=v;obtain⟨o',z⟩:=T.un.there b v q' (by simp);have z2:=T.old b o' z ⟨v,q'⟩ nb;have z3:=F.st b o' z2;rw[z3]at q;cases q;exact z2
end
section
theorem ag7.inv(T:ag7 X.prog X.w X.stack H s B ea C fl H' s')(I:Inv X aA Z H s):Inv X aA Z H' s':=by
 obtain⟨h',g',d',t',os'⟩:=s';obtain rfl:os'=s.os:=T.os;exact I.call (h':=h') (g':=g') (d':=d') (t':=t') (ch:=[]) T.un T.hok T.bare (λ_ z=>absurd z (by simp))
theorem au7{P:Program}{w:World}{K:cO5}{mg:Str->Option Value}{aD:Heap}{N:List Str}{qual:Str}{scope:Scope}{f:Addr}{cd:Value}{A:Around}{aE:List Env}{sd:Shared}{Ho:Hp}{E:XK}:
  ab8 (CX1 P w) (F7 (CX1 P w) P w K mg aD N qual scope f cd A aE sd Ho E) E:=λaA Z H s e s' I h=>by
 obtain⟨ea,C,H',B,rfl,T,q⟩:=h;have hL:∀b o,sd.heap.get? b=some o->b≠sd.sz:=λb o z=>cN5 (cD9 z)
 refine bc6 (env:=envOfC qual scope sd.sz f cd) (aE:=aE) (L:=sd.sz) I.ok.frames rfl T.fly λh' F u=> ?_
 have T2:ag7 P w (envOfC qual scope sd.sz f cd::aE) H s B ea C .none H' s':=T;have isT:∀b,H' b≠none->∃o,s'.heap.get? b=some o/\h'.get? b=some o:=λb q=>by
  obtain⟨o,z⟩:=T.trk b q;exact⟨o,T.fly.st b o z,F.st b o z⟩
 have nfr:∀b,b∉frs aE->(∃o,sd.heap.get? b=some o)->b∉frs (envOfC qual scope sd.sz f cd::aE):=λb nb ⟨o,z⟩ y=>by
  rcases cA9 (show b∈sd.sz::frs aE from y)with y|y
  .exact hL b o z y
  .exact nb y
 have same:∀b o,s'.heap.get? b=some o->(∃v,sd.heap.get? b=some v)->b∉frs aE->B.get? b=some o:=λb o q v nb=>by
  obtain⟨v,hv⟩:=v;obtain⟨v2,hv2⟩:=I.aD.there b v hv (by simp[F7]);exact T.old b o q ⟨v2,hv2⟩ (nfr b nb ⟨v,hv⟩)
 refine⟨ea,C,H',B,rfl,⟨T.os.trans I.os,T.bare,⟨λb o z n nb hx=> ?_,λb o z n nb hx=> ?_,λb o z n hx=> ?_,λb o z hx=> ?_,λb xs z=>T.un.tups b xs (I.aD.tups b xs z),λb o xs z=>T.un.frzs b o xs (I.aD.frzs b o xs z),λb ps z=> ?_⟩,aE3 T.hok isT,T.ne,F,λb o z v nb=> ?_,T.trk⟩,q⟩
 .have z1:=I.aD.keep b o z n nb (by simp[F7]);have n1:=I.aD.free b o z n (by simp[F7]);have z2:=T.un.keep b o z1 n1 (nfr b nb ⟨o,z⟩) (by simp);exact F.st b o (same b o z2 ⟨o,z⟩ nb)
 .obtain⟨sl,z1⟩:=I.aD.slot b o z n nb (by simp[F7]);have n1:=I.aD.free b o z n (by simp[F7]);obtain⟨sl2,z2⟩:=T.un.any z1 n1 (by simp);have nf:∀vs,o.data≠.fields vs:=λvs y=>by
   obtain⟨_,o2,z3,z4⟩:=T.fly.fr.mem (show b∈(envOfC qual scope sd.sz f cd::aE).filterMap (·.frame)from cK6 _ nb);rw[z2]at z3;cases z3;exact z4 vs y
  obtain⟨sl3,z3⟩:=u b _ z2 nf;exact⟨sl3,z3⟩
 .obtain⟨o',z1⟩:=I.aD.there b o z (by simp[F7]);exact T.un.free b o' z1 (I.aD.free b o z n (by simp[F7])) (by simp)
 .obtain⟨o1,z1⟩:=I.aD.there b o z (by simp[F7]);obtain⟨o2,z2⟩:=T.un.there b o1 z1 (by simp);by_cases nb:b∈frs aE
  .obtain⟨_,o3,z3,z4⟩:=T.fly.fr.mem (show b∈(envOfC qual scope sd.sz f cd::aE).filterMap (·.frame)from cK6 _ nb);obtain⟨sl,z5⟩:=u b o3 z3 z4;exact⟨_,z5⟩
  .exact⟨o2,F.st b o2 (same b o2 z2 ⟨o,z⟩ nb)⟩
 .obtain⟨m1,z1⟩:=I.aD.tbls b ps z;obtain⟨m2,z2⟩:=T.un.tbls b _ z1;exact⟨m1++m2,by rw[z2,Array.append_assoc]⟩
 .obtain⟨v,hv⟩:=v;obtain⟨o1,z1⟩:=I.aD.there b v hv (by simp[F7]);obtain⟨o2,z2⟩:=T.un.there b o1 z1 (by simp);have z3:=same b o2 z2 ⟨v,hv⟩ nb;have z4:=F.st b o2 z3;rw[z4]at z;cases z;exact z3
end
theorem ce5{K:cO5}{h:Heap}{C:Addr}{bmB:List Value}{newId:String}(X:K.In h)(q:W.excIn K C bmB newId=true):
  ∃bm N nm qn bs hdct sn sub ab col dd k0 k1 k2 k3 k5 mN,h.get? C=some (excClassObj nm qn C N bs bm hdct sn sub ab col dd k0 k1 k2 k3 k5 newId)/\h.Ns N mN/\mN "__init__"=none/\OwnTail h bmB bm:=by
 unfold W.excIn at q;split at q
 case h_2=>cases q
 case h_1 dd cd sl ho=>
 split at q
 case h_2=>cases q
 case h_1 C' bm k0 k1 k2 k3 n k5 hm hs=>
 (simp only[cC7,beq_iff_eq,cD2]at q);(obtain⟨⟨⟨⟨⟨rfl,rfl⟩,hdel⟩,ht⟩,hok⟩,hni⟩:=q);(obtain⟨nm,bs,mro,ns,qn,hd,sn,sub,ab,col,del⟩:=cd);dsimp only at hm hdel hok hni
 subst hm hdel;obtain rfl:sl=#[k0,k1,k2,k3,some (.builtin n),k5]:=by
  obtain⟨l⟩:=sl;simp only at hs;rw[hs]
 exact⟨bm,ns,nm,qn,bs,hd,sn,sub,ab,col,dd,k0,k1,k2,k3,k5,_,X _ _ ho,.of_isNs (W.isNs_of_in X hok),W.nsMap_none_of_in X hok hni,W.tail_of_in X ht⟩
section
variable {K:cO5}
def cg1(E:XK)(C:Value):TS:=λ_ _ H=>E C none H
theorem bR2{x:Str}{np cpos pos:Pos}{m:Str}{k:Nat}{mp:Pos}{C:Addr}{bmB:List Value}{Bn newId initId:String}(hm:mg x=some (.ref C))(hx:W.excIn K C bmB newId=true)(FB:ExcBaseFacts Bn newId initId bmB)
  (hg:Gl (F7 (CX1 P w) P w K mg aD N qual scope f cd A aE sd Ho E) x) (hd:NoD x)
  (he:starEach [.Constant (.str m) k mp] (F7 (CX1 P w) P w K mg aD N qual scope f cd A aE sd Ho E).env=[(false,eval (.Constant (.str m) k mp) (F7 (CX1 P w) P w K mg aD N qual scope f cd A aE sd Ho E).env)]):
  PS (F7 (CX1 P w) P w K mg aD N qual scope f cd A aE sd Ho E) (.Raise (some (.Call (.Name x np) [.Constant (.str m) k mp] [] cpos)) none pos) (cg1 E (.ref C)):=by
 intro aA s Z H D I q;obtain⟨bm,Nn,nm,qn,bs,hdct,sn,sub,ab,col,dd,k0,k1,k2,k3,k5,mN,hC,hN,hni,T⟩:=ce5 I.mod.kin hx;refine wpAny_Raise_call_subT (C:=C) (nm:=nm) (q:=qn) (N:=Nn) (bs:=bs) (bm:=bm) (hdct:=hdct) (sn:=sn) (sub:=sub) (ab:=ab) (col:=col) (dd:=dd) (k0:=k0) (k1:=k1) (k2:=k2) (k3:=k3) (k5:=k5) FB (mN:=mN) (T.hasType FB.hasBase) (I.ok.hd rfl) ?_ hni (ao7 I hg hm ⟨rfl,?_⟩ hd)
 .rw[he];rfl
 rw[he];refine Calls.evalArgs_plain (thn (T0 (X:=F7 (CX1 P w) P w K mg aD N qual scope f cd A aE sd Ho E) bF8 ab3 he cpos aA s Z H (λvs H1=>∃y,vs=[y]/\E (.ref C) none H1) I ⟨_,rfl,q⟩) λus s1 ⟨vs,H1,I1,r1,y,ey,q1⟩=> ?_);subst ey;obtain⟨u,rfl,_⟩:=ap8 r1;refine⟨rfl,by show 1<=sizeLine;decide,I1.bk _ _ hC,hN.keeps I1.bk,T.keeps I1.bk,λh' e M=> ?_⟩;obtain⟨t,he1,_,_⟩:=M.there;have frm:∀b∈frs (envOfC qual scope sd.sz f cd::aE),H1 b=none:=I1.stkFree;have stk:s1.heap.FunFrames aD (envOfC qual scope sd.sz f cd::aE):=I1.stack;have hin:∀env∈(envOfC qual scope sd.sz f cd::aE),∀b,env.frame=some b->b∈frs (envOfC qual scope sd.sz f cd::aE):=λenv hv b hb=>List.mem_filterMap.mpr ⟨env,hv,hb⟩
 have nw:(W.hideAll s1.heap (frs (envOfC qual scope sd.sz f cd::aE))).get? e=none:=by
  cases z:(W.hideAll s1.heap (frs (envOfC qual scope sd.sz f cd::aE))).get? e with
  |none=>rfl
  |some o=>
   have :=W.of_hideAll _ z;rw[M.new]at this;cases this
 have hL:∀b o,sd.heap.get? b=some o->b≠sd.sz:=λb o z=>cN5 (cD9 z)
 have nfr:∀b,b∉frs aE->(∃o,sd.heap.get? b=some o)->b∉frs (envOfC qual scope sd.sz f cd::aE):=λb nb ⟨o,z⟩ y=>by
  rcases cA9 (show b∈sd.sz::frs aE from y)with y|y
  .exact hL b o z y
  .exact nb y
 refine by9 (s:={s1 with heap:=h'}) (B:=W.hideAll s1.heap (frs (envOfC qual scope sd.sz f cd::aE))) (env:=envOfC qual scope sd.sz f cd) (aE:=aE) (L:=sd.sz) I1.ok.frames rfl
  ((W.funFrames_hide stk hin).of_keeps λb o z _=>⟨o,M.keeps b o z,rfl⟩) (λb o z=>M.keeps b o (W.of_hideAll _ z)) nw he1 rfl rfl rfl rfl λh2 F u2=> ?_
 have isB:∀b o,s1.heap.get? b=some o->b∉frs (envOfC qual scope sd.sz f cd::aE)->(W.hideAll s1.heap (frs (envOfC qual scope sd.sz f cd::aE))).get? b=some o:=λb o z nb=>W.hideAll_get _ z nb
 have trk:∀b,H1 b≠none->∃o,(W.hideAll s1.heap (frs (envOfC qual scope sd.sz f cd::aE))).get? b=some o:=λb z=>by
  cases y:H1 b with
  |none=>exact absurd y z
  |some ho=>
   obtain⟨o,yo⟩:=bG7 (I1.hok _ _ y);exact⟨o,isB b o yo λnb=>z (frm b nb)⟩
 refine⟨e,.ref C,H1,_,rfl,⟨I1.os,I1.bare,⟨λb o z n nb hx=> ?_,λb o z n nb hx=> ?_,λb o z n hx=>I1.aD.free b o z n (by simp[F7]),λb o z hx=> ?_,I1.aD.tups,I1.aD.frzs,I1.aD.tbls⟩,aE3 I1.hok λb z=> ?_,?_,F,λb o z v nb=> ?_,trk⟩,q1⟩
 .have z1:=I1.aD.keep b o z n nb (by simp[F7]);exact F.st b o (isB b o z1 (nfr b nb ⟨o,z⟩))
 .obtain⟨sl,z1⟩:=I1.aD.slot b o z n nb (by simp[F7]);have nf:∀vs,o.data≠.fields vs:=λvs y=>by
   obtain⟨_,o2,z3,z4⟩:=stk.mem (show b∈(envOfC qual scope sd.sz f cd::aE).filterMap (·.frame)from cK6 _ nb);rw[z1]at z3;cases z3;exact z4 vs y
  obtain⟨sl3,z3⟩:=u2 b _ (M.keeps _ _ z1) nf;exact⟨sl3,z3⟩
 .obtain⟨o1,z1⟩:=I1.aD.there b o z (by simp[F7]);by_cases nb:b∈frs aE
  .obtain⟨_,o3,z3,z4⟩:=stk.mem (show b∈(envOfC qual scope sd.sz f cd::aE).filterMap (·.frame)from cK6 _ nb);obtain⟨sl,z5⟩:=u2 b o3 (M.keeps _ _ z3) z4;exact⟨_,z5⟩
  .exact⟨o1,F.st b o1 (isB b o1 z1 (nfr b nb ⟨o,z⟩))⟩
 .obtain⟨o,y⟩:=trk b z;exact⟨o,W.of_hideAll _ y,F.st b o y⟩
 .cases y:H1 e with
  |none=>rfl
  |some ho=>
   obtain⟨o,yo⟩:=bG7 (I1.hok _ _ y);rw[M.new]at yo;cases yo
 .obtain⟨v,hv⟩:=v;obtain⟨o1,z1⟩:=I1.aD.there b v hv (by simp[F7]);have z2:=isB b o1 z1 (nfr b nb ⟨v,hv⟩);have z3:=F.st b o1 z2;rw[z3]at z;cases z;exact z2
end
def aM4(mg:Str->Option Value)(c:Str):Value:=(mg c).getD .none
def bg7(K:cO5)(mg:Str->Option Value)(E:XK)(G H:Hp)(D:an0):bA1->Prop
 |.o o=>aC7 K G H D o
 |.exc c=>∀G' H',Ext G H G' H'->E (aM4 mg c) none H'
theorem bg7.ext{K:cO5}{mg:Str->Option Value}{E:XK}{G H G1 H1:Hp}{D:an0}{r:bA1}(e:Ext G H G1 H1)(h:bg7 K mg E G H D r):bg7 K mg E G1 H1 D r:=by
 cases r with
 |o o=>exact aC7.ext e h
 |exc c=>exact λG' H' e'=>h G' H' (e.trans e')
def tXR(K:cO5)(mg:Str->Option Value)(E:XK)(g:GR):TS:=λD Z H=>∃G U r,Sub G H/\K5 K G Z U/\g U=some r/\bg7 K mg E G H D r
abbrev PXR(X:Cx)(E:XK)(st:Stmt)(g:GR):Prop:=PS X st (tXR X.K X.mg E g)
abbrev aJ4(X:Cx)(E:XK)(st:List Stmt)(g:GR):Prop:=PSs X st (tXR X.K X.mg E g)
def spR(K:cO5)(mg:Str->Option Value)(n:Nat)(F:List T->Option Res):Sp:=λvs H Q E=>∃G ts r,Sub G H/\j8 K G ts vs/\ts.length=n/\F ts=some r/\
 match r with
 |.val t=>∀v G' H',Ext G H G' H'->Rep K G' t v->Q v H'
 |.exc c=>∀G' H',Ext G H G' H'->E (aM4 mg c) none H'
def bB2(P:Program)(w:World)(K:cO5)(mg:Str->Option Value)(aD:Heap)(x:Str)(k n:Nat)(F:List T->Option Res):Prop:=
 ∃f fd ps,mg x=some (.ref f)/\W.keepIn K (.ref f)=true/\P6 K fd ps []/\P9 P w K mg aD (CX1 P w) k f fd ps (spR K mg n F)
def tRE(K:cO5)(mg:Str->Option Value)(E:XK)(F:List T->Option Res)(l:List L3.G):TE:=λZ H Q=>∃G U xs r,Sub G H/\K5 K G Z U/\gs l U=some xs/\F xs=some r/\
 match r with
 |.val t=>∀v G' H',Ext G H G' H'->Rep K G' t v->Q v H'
 |.exc c=>∀G' H',Ext G H G' H'->E (aM4 mg c) none H'
section
variable {st:Stmt}
theorem bI6:∀{l:List L3.G}{U:A7}{xs:List T},gs l U=some xs->xs.length=l.length
 |[],_,_,hz=>by cases hz;rfl
 |a::l,U,xs,h=>by
  obtain⟨x,_,h⟩:=j5 h;obtain⟨ys,h2,h⟩:=j5 h;cases h;simp[bI6 h2]
theorem aj6(h:bB2 X.prog X.w X.K X.mg X.aD x k n F)(hx:ab8 (CX1 X.prog X.w) X E)(hr:J9 k' X.A)(hk:k<=k')(hg:Gl X x)
  (ha:PXA X (e::es) (gs l)) (hn:l.length=n:=by rfl) (hdb:NoD x:=by decide) (he:StE X e es:=by rfl) (hpl:Bks X pos es:=by rfl):
  PE X (.Call (.Name x p) (e::es) [] pos) (tRE X.K X.mg E F l):=by
 obtain⟨f,fd,ps,hm,kp,hb,H⟩:=h;refine PE.imp (aL9 H (hr.mono hk) hg hm kp hb .nil hx ha hdb he hpl) λZ H Q ⟨G,U,xs,r,sG,hU,hgs,hf,q⟩=> ?_
 refine⟨G,U,xs,sG,hU,hgs,λvs G1 H1 e1 r1=> ?_⟩;refine⟨G1,xs,r,e1.s,by rw[cH0];exact r1,by rw[bI6 hgs];exact hn,hf,?_⟩;cases r with
 |val t=>exact λv G' H' e' rv=>q v G' H' (e1.trans e') rv
 |exc c=>exact λG' H' e'=>q G' H' (e1.trans e')
theorem an6(h:bB2 X.prog X.w X.K X.mg X.aD x k n F)(hr:J9 k' X.A)(ha:Wd (PXA X (e::es) (gs l)))(hk:k<=k':=by decide)(hg:Gl X x:=by rfl)(hn:l.length=n:=by rfl)(hdb:NoD x:=by decide)(he:StE X e es:=by rfl)(hpl:Bks X pos es:=by rfl):Wd (PX X (.Call (.Name x p) (e::es) [] pos) (gN (ae2 F) l)):=⟨have ha:=ha.run;PE.imp (aj6 (E:=λ_ _ _=>False) h (λ_ _ _ _ _ _ _ ⟨_,_,_,_,_,_,z⟩=>z.elim) hr hk hg ha hn hdb he hpl) λZ H Q zz=>by
  obtain⟨G,U,t,sG,hU,hgg,q⟩:=zz;obtain⟨xs,h1,hgg⟩:=j5 hgg;obtain⟨r,h2,hgg⟩:=j5 hgg;refine⟨G,U,xs,r,sG,hU,h1,h2,?_⟩;cases r with
  |val u=>cases hgg;exact q
  |exc c=>cases hgg⟩
theorem br2:aJ4 X E [] (at4 A2):=PSs.imp aL8 λD Z H zz=>by
 obtain⟨G,U,r,sG,hU,hg,q⟩:=zz;cases hg;exact q Z G H (Ext.refl sG) hU
theorem an3{g1 g2:GR}(h1:PXR X E st g1)(h2:aJ4 X E rest g2):aJ4 X E (st::rest) (av6 g1 g2):=PSs.imp (P2 h1 h2) λD Z H zz=>by
 obtain⟨G,U,r,sG,hU,hg,q⟩:=zz;obtain⟨r1,k1,hg⟩:=j5 hg;refine⟨G,U,r1,sG,hU,k1,?_⟩;cases r1 with
 |exc c=>cases hg;exact q
 |o o1=>
  cases o1 with
  |nx U1=>exact λZ' G' H' e' r=>⟨G',U1,_,e'.s,r,hg,q.ext e'⟩
  |bk U1=>cases hg;exact q
  |ct U1=>cases hg;exact q
  |ret t=>cases hg;exact q
theorem aj5{g1:GR}(h1:PXR X E st g1):aJ4 X E [st] g1:=aj9 h1
theorem aD4(h:PXS X st g):PXR X E st (at4 g):=PS.imp h λD Z H zz=>by
 obtain⟨G,U,r,sG,hU,hg,q⟩:=zz;obtain⟨o,k1,hg⟩:=j5 hg;cases hg;exact⟨G,U,o,sG,hU,k1,q⟩
theorem bD1(hc:PXB X c gc)(ha:aJ4 X E a ga)(hb:aJ4 X E b gb):PXR X E (.If c a b pos) (rIf gc ga gb):=PS.imp (bf7 hc ha hb) λD Z H zz=>by
 obtain⟨G,U,r,sG,hU,hg,q⟩:=zz;obtain⟨k,k1,hg⟩:=j5 hg;refine⟨G,U,k,sG,hU,k1,λG1 H1 e1=> ?_⟩;cases k with
 |true=>exact as2 ⟨G1,U,r,e1.s,hU.mono e1.g,hg,q.ext e1⟩
 |false=>exact as3 ⟨G1,U,r,e1.s,hU.mono e1.g,hg,q.ext e1⟩
theorem an4(h:PE X (.Call (.Name x p) (e::es) [] cpos) (tRE X.K X.mg E F l))(hs:swapsWith (.Call (.Name x p) (e::es) [] cpos) none pos.line X.env=pure false:=by rfl):
  PXR X E (.Expr (.Call (.Name x p) (e::es) [] cpos) pos) (al0 F l):=PS.imp (ao2 h hs) λD Z H zz=>by
 obtain⟨G,U,r,sG,hU,hg,q⟩:=zz;obtain⟨xs,h1,hg⟩:=j5 hg;obtain⟨r1,h2,hg⟩:=j5 hg;refine⟨G,U,xs,r1,sG,hU,h1,h2,?_⟩;cases r1 with
 |val t=>cases hg;exact λv G1 H1 e1 _=>q Z G1 H1 e1 (hU.mono e1.g)
 |exc c=>cases hg;exact q
end
section
variable {K:cO5}
theorem bb3(hm:∃C,mg x=some (.ref C)/\W.excIn K C bmB newId=true)(FB:ExcBaseFacts Bn newId initId bmB)
  (hg:Gl (F7 (CX1 P w) P w K mg aD N qual scope f cd A aE sd Ho E) x) (hd:NoD x:=by decide)
  (he:starEach [.Constant (.str m) k mp] (F7 (CX1 P w) P w K mg aD N qual scope f cd A aE sd Ho E).env=[(false,eval (.Constant (.str m) k mp) (F7 (CX1 P w) P w K mg aD N qual scope f cd A aE sd Ho E).env)]:=by rfl):
  PXR (F7 (CX1 P w) P w K mg aD N qual scope f cd A aE sd Ho E) E (.Raise (some (.Call (.Name x np) [.Constant (.str m) k mp] [] cpos)) none pos) (bQ3 x):=by
 obtain⟨C,hm,hx⟩:=hm;refine PS.imp (bR2 hm hx FB hg hd he) λD Z H ⟨G,U,r,sG,hU,hg,q⟩=> ?_
 cases hg;have :=q G H (Ext.refl sG);rw[aM4,show(F7 (CX1 P w) P w K mg aD N qual scope f cd A aE sd Ho E).mg x=some (.ref C)from hm]at this;exact this
theorem fnR{x qual:Str}{st:Stmt}{f:Addr}{fd:FuncData}{N ps:List Str}{k:Nat}{g:GR}(F:Fun K x qual st f fd)(S:O8 N ps (r8 st))(np:ps.length<=N.length)
  (hb:∀(cdv:Value) (A:Around) (aE:List Env) (s:Shared) (H:Hp) (E:XK),J9 k (A.deeper (envOfC qual (r8 st) s.sz f cdv))->aJ4 (F7 (CX1 P w) P w K mg aD N qual (r8 st) f cdv A aE s H E) E (N8 st) g):
  P9 P w K mg aD (CX1 P w) (k+1) f fd ps (spR K mg ps.length (aD5 ps.length N.length g)):=by
 obtain⟨oc,od,kV,doc,pm,an,cdv,ct,osl,rfl,lk,hcd⟩:=F.ex;refine by8 lk hcd S (λvs H Q E h=> ?_) λA aE s H vs Q E hr h=> ?_
 .obtain⟨G,ts,r,sG,rr,hl,_⟩:=h;rw[rr.length,hl]
 .obtain⟨G,ts,r,sG,rr,hl,hf,q⟩:=h;refine⟨_,hb cdv A aE s H E hr,?_⟩;unfold aD5 at hf;rw[cP2 hl]at hf;have hU:=af5 (N:=N) rr (by omega);cases hg:g (o8 N.length ts)with
  |none=>rw[hg]at hf;cases hf
  |some o=>
   rw[hg]at hf;refine⟨G,_,o,sG,hU,hg,?_⟩;cases o with
   |exc c=>cases hf;exact q
   |o o=>
    cases o with
    |nx U=>cases hf;exact λZ' G' H' e' _=>q .non G' H' e' (by simp[Rep])
    |ret t'=>cases hf;exact λv G' H' e' rv=>q v G' H' e' rv
    |bk U=>cases hf
    |ct U=>cases hf
end
def aA1(h:Heap)(e:Addr):Prop:=∃o vs,h.get? e=some o/\o.data=.fields vs/\vs[2]?=some .none
theorem bf1:entryFor table "proto.unchain"=some Builtin.«proto.unchain»:=entryFor_of_fast (by kernel_rfl)
section
theorem aO8(ho:s.heap.get? a=some o)(hd:o.data=.fields vs)(hi:i<vs.size)
  (k:Q () {s with heap:=s.heap.update a (Obj.mapFields (·.setIfInBounds i v))}):wpAny M A (updateField a i v) Q E s:=by
 unfold updateField
 (refine cP3 (wpAny_load ho ?_));rw[hd]
 dsimp only;rw[cP2 hi];exact wpAny_update ho k
theorem aY0(hh:A.handled=some (.ref x))(L:aA1 s.heap x)(he:s.heap.get? e=some oe)(hde:oe.data=.fields ws)(hsz:2<ws.size)(hne:x≠e)
  (k:E (.ref e) {s with heap:=s.heap.update e (Obj.mapFields (·.setIfInBounds 2 (.ref x)))}):wpAny (model prog w) A (raiseNew (.ref e):Sem α) Q E s:=by
 obtain⟨o,vs,ho,hd,h2⟩:=L;unfold raiseNew
 (refine cP3 (wpAny_handled ?_));rw[hh]
 dsimp only;have hq:(Value.ref x !=Value.ref e)=true:=by
  rw[bne_iff_ne];exact λz=>hne (Value.ref.inj z)
 rw[cP2 hq];refine cP3 (wpAny_holding (wpAny_runValue (codeAny_builtin bf1 ?_)));unfold Builtin.«proto.unchain»;refine cP3 (cP5 ho hd h2 ?_);rw[cP2 (by decide)];exact cP8 (cP3 (aO8 he hde hsz (wpAny_throw k)))
theorem aA1.keeps(L:aA1 h e)(k:∀o,h.get? e=some o->h'.get? e=some o):aA1 h' e:=
 let⟨o,vs,a,b,c⟩:=L;⟨o,vs,k o a,b,c⟩
theorem aB3(hh:A.handled=some (.ref x))(L:aA1 s.heap x)(hx:x≠it)
  (I:s.heap.IsListIter it l i) (hl:s.heap.IsList l items) (hn:items[i]?=none) (k:∀h',Heap.ExtBut it s.heap h'->Q none {s with heap:=h'}):wpAny (model prog w) A (pyNext (.ref it)) Q E s:=by
 obtain⟨o,ho,hc,hd⟩:=id I
 (obtain⟨ol,hol,_,nl,hdl⟩:=hl);unfold pyNext
 refine cP3 (wpAny_attempt (wpAny_callSpecial?_slot (name:=Str.ofString "__next__") I.typeIs slot_listiter_next (cP4 slot_listiter_next I.typeIs entry_listiter_next ?_ (args_listiter_next _))))
 (show wpAny _ _ (field (.ref it) 0>>=_) _ _ s);(refine cP3 (cP5 ho hd (x:=.ref l) rfl ?_));(show wpAny _ _ (if(Value.ref l==Value.none)=true then _ else _) _ _ s);rw[cP1 (λz=>Bool.noConfusion z:¬((Value.ref l==Value.none)=true))]
 (show wpAny _ _ (field (.ref it) 1>>=_) _ _ s);(refine cP3 (cP5 ho hd (x:=.int i 0) rfl ?_));(show wpAny _ _ (seqItems? (.ref l)>>=_) _ _ s);(refine cP3 (cQ0 hol hdl ?_));simp only[cG2,hn]
 (refine cP3 (wpAny_rule (cP3 (wpAny_setField ho hd (by simp) ?_))));(show wpAny _ _ (newExc (.type "StopIteration") []>>=_) _ _ _);refine cP3 ?_
 simp only[newExc,newTuple]
 (refine cP3 (cP7 ?_ (by size_fits)));(refine cP3 (m:=firstArgMember _ _) (wpAny_of_eq (a:=Value.none) (by first |rfl|(simp only[firstArgMember];rfl)) ?_));(refine cP7 ?_ (by size_fits));have e1:Heap.ExtBut it s.heap (s.heap.update it (Obj.mapFields (·.setIfInBounds 0 .none))):=(Heap.SameBut.update ..).extBut
 have xs:x<s.sz:=by obtain⟨_,_,a,_⟩:=L;exact cD9 a
 refine aY0 (ws:=_) (show A.in1.handled=some (.ref x)from hh) ?_ (cD6 _ rfl) rfl (by simp;omega) ?_ ?_
 .exact L.keeps λo' q=>cD5 _ (cD5 _ (e1 x o' hx q))
 .rw[cE0,Heap.size_after_update];exact cN5 (cM9 xs)
 refine cP3 (wpAny_isInstance (T:="StopIteration") (b:=true) ⟨_,cD8 _ (cD6 _ rfl) rfl,rfl⟩ isSubtype_stop ?_);refine cP8 (k _ λb ob hb q=> ?_);rw[cD7]
 .exact cD5 _ (cD5 _ (e1 b ob hb q))
 .rw[cE0,Heap.size_after_update];exact Ne.symm (cN5 (cM9 (cD9 q)))
theorem bq0(I ax x:Addr)(hne:ax≠I)(hx:x≠I)(hh:A.handled=some (.ref x))(items:Array Value):
  Walks prog w A I [I,ax,x] [I] items.size (λi v=>items[i]?=some v) (λi h=>(h.IsListIter I ax i/\h.IsList ax items)/\aA1 h x) where
 sub:=λc hc=>by simp at hc;simp[hc]
 frame:=λ_ _ _ st hk=>⟨⟨st.1.1.at λo e=>hk I (by simp) o e,st.1.2.at λo e=>hk ax (by simp) o e⟩,st.2.keeps λo e=>hk x (by simp) o e⟩
 item:=λj s0 Q0 E0 hj st hQ=>by
  refine wpAny_pyNext_list_item st.1.1 st.1.2 (x:=items[j]) (by simp[hj]) λh' hit' hs'=> ?_
  exact hQ _ h' s0.toks (by simp[hj]) ⟨⟨hit',st.1.2.extBut hs'.extBut hne⟩,st.2.keeps λo e=>hs'.extBut x o hx e⟩ λb o hb e=>hs'.extBut b o (λh=>hb (by simp[h])) e
 done:=λs Q E st hQ=>aB3 hh st.2 hx st.1.1 st.1.2 (by simp) λh' he'=>hQ h' s.toks λb o hb e=>he' b o (λh=>hb (by simp[h])) e
 self:=λ_ _ _ _ st hQ=>wpAny_pyIter_listiter st.1.1 hQ
end
section
variable {K:cO5}
open PySem.W in
theorem bJ4(X:K.In s.heap)(I:InstAt s.heap x ox D none)(hga:findIn K (.ref D) "__getattribute__"=some (some (.builtin "BaseException.__getattribute__")))(hk:findIn K (.ref D) "__getattr__"=some none)
  (hf:findObj K D none "__class__"=some (.bind (.builtin "getset_descriptor.__get__") (.builtin "object.__class__"))) (hm:mroIn K D (.type "object")=some true) (hb:mroIn K D (.type "BaseException")=some true)
  (k:Q (some (.ref D)) {s with toks:=s.toks+1}):wpAny (model prog w) A (getAttr? (.ref x) "__class__") Q E s:=by
 obtain⟨hh,g,d,t,os⟩:=s
 (have L0:=I.type (M:=model prog w));(have L1:=looks_findIn (M:=model prog w) X hga);(have L2:=looks_findIn (M:=model prog w) X hk);have L3:=looks_find (M:=model prog w) X I hf
 have L4:Looks (model prog w) hh (isInstance (.ref x) (.type "BaseException")) true:=L0.andThen (looks_mroIn (M:=model prog w) X hb);have n2:(Value.builtin "BaseException.__getattribute__"==Value.builtin "object.__getattribute__")=false:=by decide +kernel
 (unfold getAttr? getAttrBy? getAttrBy);(refine cP3 (wpAny_mkText (cP3 (wpAny_attempt (wpAny_holding (cP3 (L0.at (cP3 (L1.at ?_)))))))));dsimp only
 rw[n2];simp only[Bool.and_false,cD0,if_false]
 (unfold getAttrByItsOwn hookBefore callGetattribute boundAndCalled);rw[cP2 (show onTheHeap (Value.ref D)=true from rfl)]
 refine cP3 (L2.at (cP3 (wpAny_attempt (wpAny_holding ?_))));simp only[cC9,cD0,if_false];refine cP3 (wpAny_of_eq (PySem.F.excAttr_ValueError.ga.bind (.ref x)) ?_);refine wpAny_call (codeAny_call_builtin PySem.F.excAttr_ValueError.ga.plain PySem.F.entry_bexc_ga ?_);have hkd:builtinKind "BaseException.__getattribute__"=some .slot:=by decide +kernel
 (have hsplit:splitId "BaseException.__getattribute__"=some ("BaseException","__getattribute__"):=by decide +kernel);have ha:=PySem.F.args_bexc_ga (.ref x) (.str "__class__" t)
 simp only[checkBuiltinCall,hkd,hsplit];refine cP3 (L4.at ?_)
 (simp only[Bool.not_true,cD0,if_false]);repeat(any_goals (first |assumption|with_reducible refine L0.at ?_|with_reducible refine L3.at ?_|wp_step))
 refine class_get (od:=none) X I hm ?_;exact cP8 (handed_on rfl (cP8 k))
open PySem.W in
structure aN2(K:Frag)(D:Addr):Prop where
 ga:findIn K (.ref D) "__getattribute__"=some (some (.builtin "BaseException.__getattribute__"))
 hk:findIn K (.ref D) "__getattr__"=some none
 fo:findObj K D none "__class__"=some (.bind (.builtin "getset_descriptor.__get__") (.builtin "object.__class__"))
 mo:mroIn K D (.type "object")=some true
 mb:mroIn K D (.type "BaseException")=some true
 cl:(clsIn K D).isSome=true
open PySem.W in
theorem cd4(L:aN2 K D):KitX K (.ref x) (.ref D) (λh=>∃ox,InstAt h x ox D none) where
 ty:=λ_ _ _ ⟨_,I⟩=>I.type
 it:=λM h X _=>by
  have z:=L.cl;unfold clsIn at z;split at z
  .rename_i c' d' cd' sl' ho;intro A' Q' E' s' k q;unfold isType loadHead
   (exact cP3 (wpAny_loadPart (k _ _ (X _ _ ho)) (cP8 q)))
  .cases z
 ne:=λh tq dd its n sl X hq=>by
  (refine Bool.eq_false_iff.mpr λq=> ?_);(have e:D=tq:=Value.ref.inj (beq_iff_eq.mp q));subst e
  have z:=L.cl;unfold clsIn at z;split at z
  .rename_i c' d' cd' sl' ho;have z2:=(X _ _ ho).symm.trans hq;cases z2
  .cases z
 ca:=λX ⟨_,I⟩ k=>bJ4 X I L.ga L.hk L.fo L.mo L.mb k
end
structure HX(x:Addr)(X:Cx):Prop where
 hh:X.A.handled=some (.ref x)
 lone:aA1 X.sd.heap x
 un:X.Ho x=none
 nf:x∉X.fs
 ns:x∉frs X.stack
 ne:x∉X.ex
section
theorem HX.keep(h:HX x X)(I:Inv X aA Z H s)(e:X.sd.heap.get? x=some o):s.heap.get? x=some o/\H x=none:=⟨I.aD.keep x o e h.un h.nf h.ne,I.aD.free x o e h.un h.ne⟩
theorem HX.at(h:HX x X)(I:Inv X aA Z H s):aA1 s.heap x/\H x=none:=by
 obtain⟨o,vs,e,r⟩:=h.lone;obtain⟨k1,k2⟩:=h.keep I e;exact⟨⟨o,vs,k1,r⟩,k2⟩
theorem HX.lt(h:HX x X):x<X.sd.sz:=by
 obtain⟨o,vs,e,r⟩:=h.lone;exact cD9 e
theorem HX.comp(h:HX x X)(I:Inv X aA Z H s)(hf:∀b∈fp,b∈X.ex\/X.sd.sz<=b):HX x (K8 X scope cl C N' s H fp):=by
 obtain⟨k1,k2⟩:=h.at I;refine⟨h.hh,k1,k2,h.ns,h.ns,λz=> ?_⟩;rcases hf x z with q|q
 .exact h.ne q
 .exact absurd (cM7 h.lt q) (cM6 _)
end
theorem bv9{x:Addr}{P:Program}{w:World}{K:cO5}{tg:Expr}(a it:Addr):bX4 (HX x) P w K tg (Itl K a) [it] it (λi h=>h.IsListIter it a i) where
 mem:=(aq5 (P:=P) (w:=w) (K:=K) (tg:=tg) a it).mem
 obj:=(aq5 (P:=P) (w:=w) (K:=K) (tg:=tg) a it).obj
 keep:=(aq5 (P:=P) (w:=w) (K:=K) (tg:=tg) a it).keep
 item:=by
  intro X hP hw hK hc i aA s Z H E I hf st hg;subst hP hw hK;obtain⟨xs,y,hq,hx⟩:=hg;obtain⟨its,rv,p,hz⟩:=I.list hq;obtain⟨u,hu,ru⟩:=rv.get hx;obtain⟨f0,f1,f2,f3,f4,f5⟩:=hf it (by simp);refine wpAny_pyNext_list_item st p.isList (x:=u) (by simpa using hu) λh' st' sb=> ?_
  have I1:Inv X aA Z H {s with heap:=h'}:=I.turned (t':=s.toks) (λb o hb e=>(sb.2 b hb).trans e) f0 f1 f3 f4 f5;obtain⟨o,e,c,d⟩:=id st';exact⟨u,rfl,by3 (s:={s with heap:=h'}) e c d (by decide) ⟨y,H,I1,ru,⟨rfl,λys hy=>by rw[I.list_inj hy hq];exact hx⟩,st',λb hb=>(hf b hb).1⟩⟩
 done:=by
  intro X hP hw hK hc i aA s Z H E I hf st hg;subst hP hw hK;obtain⟨xs,hq,hx⟩:=hg;obtain⟨its,rv,p,hz⟩:=I.list hq;obtain⟨f0,f1,f2,f3,f4,f5⟩:=hf it (by simp);have hl:=rv.length;have hxi:x≠it:=λz=>by
   rcases f3 with q|q
   .exact hc.ne (by rw[z];exact q)
   .have :=hc.lt;rw[z]at this;exact absurd (cM7 this q) (cM6 _)
  exact aB3 hc.hh (hc.at I).1 hxi st p.isList (by simp;omega) λh' eb=>⟨rfl,I.turned (t':=s.toks) (λb o hb e=>eb b o hb e) f0 f1 f3 f4 f5⟩
 self:=(aq5 (P:=P) (w:=w) (K:=K) (tg:=tg) a it).self
section
theorem bR3{l:Expr}{tl:TE}(hl:PE X l tl):PIx (HX x) X tg l (bW9 X.K tl):=by
 intro aA s Z H R I h;refine thn (hl aA s Z H _ I h) λv s1 ⟨y,H1,I1,r1,q1⟩=> ?_
 obtain⟨a,e,⟨xs,hq⟩,q⟩:=q1;subst e;cases r1;obtain⟨its,rv,p,hz⟩:=I1.list hq;refine cP9 p.isList ?_;refine⟨s1.sz,[s1.sz],_,_,H1,rfl,I1.kept (t':=s1.toks) λb o e=>cD5 _ e,bv9 a _,⟨_,cD6 _ rfl,rfl,rfl⟩,λb hb=> ?_,q⟩;have e:b=s1.sz:=by simpa using hb
 subst e;exact I1.fpOk (cM3 _) (I1.hok.fresh (cM3 _))
theorem bK3(hx:HX x X):ad8 X (.builtin "sum") (λvs H Q=>∃(p:Addr) (ns:List Int),vs=[.ref p]/\H p=some (.lst (ns.map V.int))/\(ns.all λn=>decide (0<=n)&&decide (n<=1))=true/\ns.length<=1000/\Q (.int ns.sum) H):=by
 intro aA s Z H vs us Q I r h;obtain⟨p,ns,rfl,hp,hb,hn,q⟩:=h;obtain⟨u,rfl,ru⟩:=ap8 r;cases ru;obtain⟨its,rv,pl,hz⟩:=I.list (SqL.of hp);have hl:=rv.length;rw[cJ3]at hl;have lt:p<s.sz:=by obtain⟨o,e,_⟩:=pl.isList;exact cD9 e
 obtain⟨L,hxn⟩:=hx.at I;have ltx:x<s.sz:=by obtain⟨o,vs,e,_⟩:=L;exact cD9 e
 have pre:∀j,j<=ns.length->preSum (λi=>ns.getD i 0) j=(ns.take j).sum:=by
  intro j;induction j with
  |zero=>intro _;rfl
  |succ j ih=>
   intro hj;rw[preSum,ih (by omega),List.take_succ,List.sum_append];have :ns[j]?=some ns[j]:=cI3 (by omega);simp[this]
 have bd:∀n∈ns,0<=n/\n<=1:=λn hm=>by
  have :=List.all_eq_true.mp hb n hm;simpa using this
 have sb:∀l:List Int,(∀n∈l,0<=n/\n<=1)->0<=l.sum/\l.sum<=l.length:=by
  intro l;induction l with
  |nil=>intro _;simp
  |cons a l ih=>
   intro h;have h1:=h a cK7;have h2:=ih λn hn=>h n (cK6 _ hn)
   (rw[List.sum_cons,cB8]);omega
 refine call_sum_walk (cP9 pl.isList ?_);refine⟨s.sz,_,_,_,_,_,λi=>ns.getD i 0,rfl,bq0 (A:=X.A.in1) s.sz p x (cN5 lt) (cN5 ltx) hx.hh its.toArray,
  ⟨⟨⟨_,cD6 _ rfl,rfl,rfl⟩,pl.isList.push _⟩,L.keeps λo e=>cD5 _ e⟩,λb hb=> ?_,λi v hv=> ?_,λj hj=> ?_,λh' tk t' k=> ?_⟩
 .show b<(s.heap.push _).objs.size;rw[cE0]
  (simp only[cK5,List.not_mem_nil,or_false]at hb);(rcases hb with rfl|rfl|rfl)
  .exact cN0 _
  .exact cM9 lt
  .exact cM9 ltx
 .have hi:i<ns.length:=by
   have hv':its[i]?=some v:=by simpa using hv
   have :=al4 hv';omega
  obtain⟨u,hu,ru⟩:=rv.get (i:=i) (x:=.int ns[i]) (by rw[cI5,cI3 hi];rfl);have hv':its[i]?=some v:=by simpa using hv
  rw[hu]at hv';cases hv';obtain⟨t,e⟩:=ru;refine⟨t,?_⟩;rw[e];simp[hi]
 .have hj':j<ns.length:=by simpa[<-hl]using hj
  have e1:ns.getD j 0=ns[j]:=by simp[hj']
  have b1:=bd ns[j] (cJ1 hj');have b2:=sb (ns.take (j+1)) λn hn=>bd n (cL1 hn)
  rw[pre (j+1) (by omega)];have b3:(ns.take (j+1)).length<=1000:=by rw[cJ8];omega
  show InLong (ns.getD j 0)/\_;rw[e1];exact⟨⟨by omega,by omega⟩,⟨by omega,by omega⟩⟩
 .have e:preSum (λi=>ns.getD i 0) its.toArray.size=ns.sum:=by
   rw[cL9,<-hl,pre _ (cM3 _),List.take_length]
  rw[e];refine⟨.int ns.sum,H,?_,⟨t',rfl⟩,q⟩;exact I.kept λb o e=>k b o (λz=>cN5 (cD9 e) (by simpa using z)) (cD5 _ e)
end
section
theorem bF2(h:PX X e g):PIx (HX x) X tg e (tI X.K (itL g)):=λaA s Z H R I q=>by
 refine bR3 h aA s Z H R I ?_;obtain⟨G,U,ts,sG,hU,hg,q⟩:=q;obtain⟨t,h1,h2⟩:=j5 hg;refine⟨G,U,t,sG,hU,h1,λv G1 H1 e1 r1=> ?_⟩;cases t<;>first |(cases h2;done)|skip
 cases h2;simp only[Rep]at r1;obtain⟨p,xs,k1,k2,k3⟩:=r1;exact⟨p,k1,⟨xs,SqL.of (e1.s _ _ k2)⟩,q _ G1 H1 e1 (ba9 k2 k3)⟩
theorem ca1{elt target iter:Expr}{ifs:List Expr}{scope:Scope}{it:GL}{is:List Nat}{st:St1}{gc:GB}{ge:L3.G}(hx:HX x X)(N':List Str)(nT:Nat)(aC:List Nat)(chk:ah6 X.env.scope X.N scope N' nT aC=true)(hi:PIx (HX x) X target iter (tI X.K it))(his:is.all (λi=>decide (i<nT))=true)(hg:∀cl C sd Ho fp,Wd (PXG (K8 X scope cl C N' sd Ho fp) target is st))(hc:∀cl C sd Ho fp,Wd (aA0 (K8 X scope cl C N' sd Ho fp) ifs gc))(he:∀cl C sd Ho fp,Wd (PX (K8 X scope cl C N' sd Ho fp) elt ge))(hs:NFo X iter:=by intro _;rfl):Wd (PX X (.ListComp elt [⟨target,iter,ifs,0⟩] scope pos) (l9 it nT aC st gc ge)):=⟨have hg:=λx0 x1 x2 x3 x4=>(hg x0 x1 x2 x3 x4).run;have hc:=λx0 x1 x2 x3 x4=>(hc x0 x1 x2 x3 x4).run;have he:=λx0 x1 x2 x3 x4=>(he x0 x1 x2 x3 x4).run;PE.imp (cj0 (g:=tGt X.K is st) (tc:=tXB X.K gc) (te:=tX X.K ge) N' nT aC (ok:=HX x) (λ_ _ _ _ _ _ _ I hf=>hx.comp I hf) chk hi hg hc he hs) (aB5 his)⟩
theorem bO3{K:cO5}:am3 K (λvs H Q=>∃(p:Addr) (ns:List Int),vs=[.ref p]/\H p=some (.lst (ns.map V.int))/\(ns.all λn=>decide (0<=n)&&decide (n<=1))=true/\ns.length<=1000/\Q (.int ns.sum) H) aU6:=by
 intro G H ts xs tz Q sG r hf q
 match ts,hf with
 |[.lst us],hf=>
  obtain⟨ns,h1,h2⟩:=j5 hf;split at h2
  case isFalse=>cases h2
  case isTrue hb=>
  cases h2;rw[cC7,cP0]at hb;obtain⟨y,e,rx⟩:=ah2 r;simp only[Rep]at rx;obtain⟨p,ys,k1,k2,k3⟩:=rx;subst k1;have z:=av0 h1 k3;subst z;exact⟨p,ns,e,sG _ _ k2,hb.1,hb.2,q _ G H (Ext.refl sG) (by simp[Rep])⟩
theorem bQ4(hx:HX x X)(hg:Gl X "sum")(hm:X.mg "sum"=none)(ha:Wd (PXA X [e] (gs [g])))(he:StE X e []:=by rfl)(hpl:Bks X pos []:=by rfl):Wd (PX X (.Call (.Name "sum" p) [e] [] pos) (gN aU6 [g])):=⟨have ha:=ha.run;ag0 (bK3 hx) bO3 hg hm boot_sum ha (by decide) (by decide) he hpl⟩
theorem bO7{K:cO5}:N1 K rNe bz1:=by
 intro G H tx ty u v tz Q sG rx ry hf q
 match tx,ty,hf with
 |.int i,.int j,hf=>
  cases hf;simp only[Rep]at rx ry;subst rx ry;refine⟨rfl,?_⟩;rw[show decide (V.int i=V.int j)=decide (i=j) by rw[bu2];rfl];exact q _ G H (Ext.refl sG) (by simp[Rep])
theorem ca3(ha:Wd (PX X a ga))(hb:Wd (PX X b gb)):Wd (PXB X (.Compare a [.NotEq] [b] pos) (bOf (g2 bz1 ga gb))):=⟨have ha:=ha.run;have hb:=hb.run;ai3 cr3 bO7 ha hb (W8 _)⟩
theorem aL4(hx:HX x X)(ho:X.sd.heap.get? x=some o)(hc:o.cls=.ref D)(hd:o.dict=none)(L:aN2 X.K D)(hcls:W.notCls o=true)(hg:Gl X "isinstance")(hm:X.mg "isinstance"=none)(hn:PE X (.Name c p') (tC cv))(hr:∀u,D0 cv u->u=cu)(hone:W.kitOne X.K (.ref D) cu=some t)(ha:Wd (PX X e g))(hs1:starEach [e,.Name c p'] X.env=(false,eval e X.env)::starEach [.Name c p'] X.env:=by rfl)(hs2:starEach [Expr.Name c p'] X.env=(false,eval (.Name c p') X.env)::starEach [] X.env:=by rfl)(hpl:(backTo pos (starEach [Expr.Name c p'] X.env)).any (·.1)=false:=by rfl):Wd (PX X (.Call (.Name "isinstance" p) [e,.Name c p'] [] pos) (aZ4 x t g)):=⟨by
 have ha:=ha.run;have cr:ad8 X (.builtin "isinstance") (λvs H Q=>vs=[.ref x,cv]/\Q (.bl t) H):=by
  intro aA s Z H vs us Q I r h;obtain⟨rfl,q⟩:=h;obtain⟨u,w',rfl,r1,r2⟩:=bf2 r;cases r1;have hwc:=hr _ r2;subst hwc;obtain⟨k1,_⟩:=hx.keep I ho;refine W.kia_one (cd4 L) I.kIn ⟨o,⟨k1,hc,hcls,by rw[hd];trivial⟩⟩ hone (λz=>nomatch z) λtk=>⟨.bl t,H,I.tok _,rfl,q⟩
 refine PE.imp (aQ1 cr hg hm boot_isinstance (T0 ha (T0 hn ab3 hs2) hs1) (by decide) (by decide) hs1 hpl) λZ H Q ⟨G,U,t',sG,hU,hgg,q⟩=> ?_
 obtain⟨tv,h1,h2⟩:=j5 hgg
 match tv,h1,h2 with
 |.ref a,h1,h2=>
  dsimp only at h2;split at h2
  case isFalse=>cases h2
  case isTrue ea=>
  cases h2;subst ea;refine⟨G,U,.ref a,sG,hU,h1,λv G1 H1 e1 r1=> ?_⟩;simp only[Rep]at r1;subst r1;exact⟨rfl,q _ G1 H1 e1 (by simp[Rep])⟩⟩
theorem bH3:MtM X "list.index" (λy vs H Q=>∃(l:Addr) (bs:List Bool) (j:Nat),y=.ref l/\vs=[.bl true]/\H l=some (.lst (bs.map V.bl))/\bs.findIdx? id=some j/\bs.length<=1000/\Q (.int j) H):=by
 intro aA s Z H y vs v us Q I rx rv h;obtain⟨l,bs,j,rfl,rfl,hH,hj,hl,q⟩:=h;cases rx;obtain⟨u,rfl,ru⟩:=rv.one;cases ru;obtain⟨z,its,n,r,hln,e⟩:=I.lstM hH;rw[cJ3]at hln;have item:∀(m:Nat) (hm:m<its.length),its[m]=.bool (bs[m]'(by omega)):=λm hm=>by
  obtain⟨w1,h1,h2⟩:=r.get (i:=m) (x:=.bl (bs[m]'(by omega))) (by rw[cI5,cI3 (by omega)];rfl);rw[cI3 hm]at h1;cases h1;exact h2
 obtain⟨hjl,hj1,hj2⟩:=List.findIdx?_eq_some_iff_getElem.mp hj;refine call_meets F.slot_list_index ⟨_,e,rfl⟩ F.entry_list_index (F.args_list_index_2 _ _) (SeqAt.list_indexAt l its.toArray n none #[] (.bool true) (λv=>match v with |.bool k=>k==true|_=>false) j (by simp;omega) (by omega) ?_ ?_) ⟨e,?_,?_⟩
 .have :its.toArray[j]'(by simp;omega)=.bool bs[j]:=by simpa using item j (by omega)
  rw[this];simpa using hj1
 .intro m hm hmj;have hm':m<its.length:=by simpa using hm
  have :its.toArray[m]'hm=.bool (bs[m]'(by omega)):=by simpa using item m hm'
  rw[this];have :=hj2 m hmj;simpa using this
 .intro y hy;have hy':y∈its:=by simpa using hy
  obtain⟨m,hm,rfl⟩:=List.getElem_of_mem hy';rw[item m hm];exact SeqAt.EqAt.bool_bool _ _
 .exact⟨.int j,H,I.tok _,⟨_,rfl⟩,q⟩
theorem bw7(h:Wd (PX X o g))(hbase:attributeBase o "index" X.env (eval o X.env)=eval o X.env:=by rfl)(hfew:((backTo cpos (starEach [.Constant (.bool true) k p] X.env)).all (λx=> !x.1)&&(backToKw cpos (keywordEach [] X.env)).all (λx=>x.1.isSome)
   &&decide (([Expr.Constant (.bool true) k p]).length+([]:List Keyword).length+(if([]:List Keyword).isEmpty then 0 else 1)<30))=true:=by rfl) (hline:(apos.endLine==cpos.line)=true:=by rfl) (hs:starEach [.Constant (.bool true) k p] X.env=(false,eval (.Constant (.bool true) k p) X.env)::starEach [] X.env:=by rfl) (hplain:Bks X cpos []:=by rfl):Wd (PX X (.Call (.Attribute o "index" apos) [.Constant (.bool true) k p] [] cpos) (g1 aZ7 g)):=⟨by
 have h:=h.run;refine PE.imp (bf8 PySem.F.plainAttrs_list PySem.F.slot_list_index PySem.F.type_list_index bH3 h (T0 bx2 ab3 hs) hbase hfew hline hs hplain) λZ H Q ⟨G,U,t,sG,hU,hg,q⟩=> ?_
 obtain⟨tv,h1,h2⟩:=j5 hg;refine⟨G,U,tv,sG,hU,h1,λv G1 H1 e1 r1=> ?_⟩;cases tv<;>first |(cases h2;done)|skip
 rename_i us;obtain⟨bs,h3,h2⟩:=j5 h2;obtain⟨j,h4,h2⟩:=j5 h2;split at h2
 case isFalse=>cases h2
 case isTrue hb=>
 cases h2;simp only[Rep]at r1;obtain⟨l,xs,k1,k2,k3⟩:=r1;subst k1;have z:=aF7 h3 k3;subst z;refine⟨.inl ⟨rfl,_,SqL.of (e1.s _ _ k2)⟩,⟨l,bs,j,rfl,rfl,e1.s _ _ k2,h4,hb,q _ G1 H1 e1 (by simp[Rep])⟩⟩⟩
end
section
variable {K:cO5}
theorem by1
  (S:O8 N ps scope) (hd:b=true->A.handled=none) (e0:ap5 P w K mg aD A aE s H) (hl:vs.length=ps.length) (r:B6 vs us)
  (x:InCallC s s.sz (bindL (envOfC qual scope s.sz f cd).kindOf (ps.zip us) λ_=>none) (cellsFrom (s.sz+1) scope.names []) (bindC (envOfC qual scope s.sz f cd).kindOf (ps.zip us) λ_=>none) s1):
  Inv {F7 CX P w K mg aD N qual scope f cd A aE s H E with calm:=b} [] (start N vs) H s1:=by
 have e1:ap5 P w K mg aD {A with handled:=none} aE s H:=⟨e0.frames,e0.mod,e0.bs,e0.bsz,e0.funs,e0.frf,e0.hok,e0.bare⟩
 have I:=bc1 (CX:=CX) (E:=E) S rfl e1 hl r x;obtain⟨o,i1,i2,i3,i4,i5,i6,i7,i8,i9,i10⟩:=I;exact⟨⟨o.mod,o.kind,o.glob,o.blt,o.above,o.inj,o.has,o.cab,hd,Around.frames_deeper e0.frames,o.stk,o.exf,o.bs,o.bsz,o.noex,o.exfs,o.funs,o.frf⟩,i1,i2,i3,i4,i5,i6,i7,i8,i9,i10⟩
theorem bI9{b:Bool}{CX:CXT}{x qual:Str}{st:Stmt}{f:Addr}{fd:FuncData}{N ps:List Str}{A:Around}{aE:List Env}{s:Shared}{H:Hp}{args:Args}{us:List Value}{vs:List V}{Q:VK}{E:XK}
  (F:Fun K x qual st f fd) (S:O8 N ps (r8 st)) (hd:b=true->A.handled=none) (hdp:A.depth<recursionLimit) (e0:ap5 P w K mg aD A aE s H) (hl:vs.length=ps.length) (hb:BindsTo s fd args (ps.zip us)) (r:B6 vs us)
  (hbody:∀cdv s1,Inv {F7 CX P w K mg aD N qual (r8 st) f cdv A aE s H E with calm:=b} [] (start N vs) H s1->wpAny (model P w) (A.deeper (envOfC qual (r8 st) s.sz f cdv)) (execs (N8 st) (envOfC qual (r8 st) s.sz f cdv)) (SP {F7 CX P w K mg aD N qual (r8 st) f cdv A aE s H E with calm:=b} [] {nx:=λ_ H'=>Q .non H',rt:=Q}) (F7 CX P w K mg aD N qual (r8 st) f cdv A aE s H E).xe s1):
  codeAny (model P w) A (.call (.ref f) args) (CR CX aE P w H s Q E) s:=by
 obtain⟨oc,od,kV,doc,pm,an,cdv,ct,osl,rfl,lk,hcd⟩:=F.ex;have KX:K.In s.heap:=e0.mod.kin.keeps λb o e=>(e0.bs b o e).1
 have lim:s.heap.NoLimit:=e0.mod.nolimit.keeps λb o e=>(e0.bs b o e).1
 have hkind:∀y∈ps.zip us,(r8 st).names.lookup y.1=some .local\/((r8 st).names.lookup y.1=some .cell/\((cellsFrom (s.sz+1) (r8 st).names []).lookup y.1).isSome=true):=λ⟨n,v⟩ hy=>by
  rcases S.par n (cL3 hy).1 with q|q
  .exact .inl q
  .exact .inr ⟨q,W.cellsFrom_some _ _ _ (.inl q)⟩
 refine codeAny_call_function hdp (KX _ _ lk) rfl S.co S.gen rfl (W.codeRec_of KX hcd) (hb _ _ _ _ ?_);refine wpAny_newFunctionEnv_cells S.kind hkind λenv he s1 x=> ?_
 subst he;refine⟨lim.keeps x.toInCall.keep,codeAny_func ?_⟩;have I:=by1 (CX:=CX) (E:=E) S hd e0 hl r x;refine cP6 (hbody cdv s1 I) (λfl s' hs=> ?_) λe s' hs=>hs
 have fin:∀{Z':L2.St}{H':Hp}{v:V}{u:Value},Inv {F7 CX P w K mg aD N qual (r8 st) f cdv A aE s H E with calm:=b} [] Z' H' s'->D0 v u->Q v H'->CE aE P w H s Q u s':=
  λ{Z' H' v u} J rv q=>⟨v,H',J.os,J.bare,J.aD,J.hok,rv,q⟩
 cases fl with
 |ret u=>
  obtain⟨v,Z',H',J,rv,q⟩:=hs;exact fin J rv q
 |next=>
  obtain⟨Z',H',J,q⟩:=hs;exact fin (v:=V.non) (u:=Value.none) J rfl q
 |brk=>
  obtain⟨_,_,_,q⟩:=hs;exact False.elim q
 |cont=>
  obtain⟨_,_,_,q⟩:=hs;exact False.elim q
theorem cs1{b:Bool}{CX:CXT}{x qual:Str}{st:Stmt}{f:Addr}{fd:FuncData}{N ps:List Str}{A:Around}{aE:List Env}{s:Shared}{H:Hp}{args:Args}{us:List Value}{vs:List V}{Q:VK}{E:XK}
  (F:Fun K x qual st f fd) (S:O8 N ps (r8 st)) (hd:b=true->A.handled=none) (hdp:A.depth<recursionLimit) (e0:ap5 P w K mg aD A aE s H) (hl:vs.length=ps.length) (hb:BindsTo s fd args (ps.zip us)) (r:B6 vs us)
  (hbody:∀cdv,∃t,PSs {F7 CX P w K mg aD N qual (r8 st) f cdv A aE s H E with calm:=b} (N8 st) t/\t {nx:=λ_ H'=>Q .non H',rt:=Q} (start N vs) H):
  codeAny (model P w) A (.call (.ref f) args) (CR CX aE P w H s Q E) s:=
 bI9 F S hd hdp e0 hl hb r λcdv s1 I=>let⟨_,ht,hq⟩:=hbody cdv;ht [] s1 (start N vs) H _ I hq
theorem cm8{b:Bool}{CX:CXT}{x qual:Str}{st:Stmt}{f:Addr}{fd:FuncData}{N ps:List Str}{A:Around}{aE:List Env}{s:Shared}{H G:Hp}{args:Args}{us:List Value}{vs:List V}{ts:List T}{t:T}{Q:VK}{E:XK}{g:GS}
  (F:Fun K x qual st f fd) (S:O8 N ps (r8 st)) (hd:b=true->A.handled=none) (hdp:A.depth<recursionLimit) (e0:ap5 P w K mg aD A aE s H) (hb:BindsTo s fd args (ps.zip us)) (r:B6 vs us) (np:ps.length<=N.length)
  (hbody:∀cdv,ap3 {F7 CX P w K mg aD N qual (r8 st) f cdv A aE s H E with calm:=b} (N8 st) g)
  (sG:Sub G H) (rr:j8 K G ts vs) (hl:ts.length=ps.length) (hf:az4 (g (o8 N.length ts))=some t) (q:∀v G' H',Ext G H G' H'->Rep K G' t v->Q v H'):
  codeAny (model P w) A (.call (.ref f) args) (CR CX aE P w H s Q E) s:=by
 refine cs1 (b:=b) F S hd hdp e0 (by rw[rr.length,hl]) hb r λcdv=>⟨_,hbody cdv,?_⟩
 have hU:=af5 (N:=N) rr (by omega);cases hg:g (o8 N.length ts)with
 |none=>rw[hg]at hf;cases hf
 |some o=>
  rw[hg]at hf;refine⟨G,_,o,sG,hU,hg,?_⟩;cases o with
  |nx U=>cases hf;exact λZ' G' H' e' _=>q .non G' H' e' (by simp[Rep])
  |ret t'=>cases hf;exact λv G' H' e' rv=>q v G' H' e' rv
  |bk U=>cases hf
  |ct U=>cases hf
theorem HX.start(hh:A.handled=some (.ref x))(L:aA1 s.heap x)(un:H x=none)(nf:x∉frs aE):
  HX x {F7 CX P w K mg aD N qual scope f cd A aE s H E with calm:=b}:=by
 refine⟨hh,L,un,nf,λz=> ?_,λz=>absurd (show x∈([]:List Addr)from z) (by simp)⟩;rcases cA9 (show x∈s.sz::frs aE from z)with e|e
 .obtain⟨o,vs,h,_⟩:=L;exact absurd (cD9 h) (by rw[e];exact cM6 _)
 .exact nf e
end
theorem ad2(f:Str×NameKind->List (Str×Addr)->Sem (ForInStep (List (Str×Addr))))(hf:f=λx cs=>(do let r<-(if(x.2==NameKind.free)=true then do let c<-cellOf env x.1;pure ((x.1,c)::cs)else pure cs);pure (ForInStep.yield r))):∀(names:List (Str×NameKind)) (acc:List (Str×Addr)),(∀x,(x,NameKind.free)∈names->∃c,env.cells.lookup x=some c)->(∀x c,acc.lookup x=some c->env.cells.lookup x=some c)->
  ∃cl:List (Str×Addr),forIn names acc f=(pure cl:Sem _)/\(∀x c,cl.lookup x=some c->env.cells.lookup x=some c)/\(∀x,(x,NameKind.free)∈names->∃c,cl.lookup x=some c)/\∀x c,acc.lookup x=some c->∃c',cl.lookup x=some c'
 |[],acc,_,h2=>⟨acc,rfl,h2,λx hx=>absurd hx (by simp),λx c h=>⟨c,h⟩⟩
 |(n,k)::r,acc,h1,h2=>by
  by_cases hk:(k==NameKind.free)=true
  .obtain⟨c,hc⟩:=h1 n (by rw[eq_of_beq hk];exact cK7);have h2':∀x c',((n,c)::acc).lookup x=some c'->env.cells.lookup x=some c':=λx c' h=>by
    rw[cJ9]at h;by_cases e:(x==n)=true
    .rw[e]at h;cases h;rw[eq_of_beq e];exact hc
    .rw[Bool.not_eq_true]at e;rw[e]at h;exact h2 x c' h
   obtain⟨cl,e,q1,q2,q3⟩:=ad2 f hf r ((n,c)::acc) (λx hx=>h1 x (cK6 _ hx)) h2';refine⟨cl,?_,q1,λx hx=> ?_,λx c' h=> ?_⟩
   .rw[cI0];have :f (n,k) acc=pure (ForInStep.yield ((n,c)::acc)):=by
     subst hf;dsimp only;rw[cP2 hk];simp only[cellOf,hc,pure_bind]
    rw[this,pure_bind];exact e
   .rcases cA9 hx with z|z
    .cases z;exact q3 _ c (by rw[cJ9,cO7])
    .exact q2 x z
   .by_cases en:(x==n)=true
    .exact q3 x c (by rw[cJ9,en])
    .rw[Bool.not_eq_true]at en;exact q3 x c' (by rw[cJ9,en];exact h)
  .obtain⟨cl,e,q1,q2,q3⟩:=ad2 f hf r acc (λx hx=>h1 x (cK6 _ hx)) h2;refine⟨cl,?_,q1,λx hx=> ?_,q3⟩
   .rw[cI0];have :f (n,k) acc=pure (ForInStep.yield acc):=by
     subst hf;dsimp only;rw[cP1 hk,pure_bind]
    rw[this,pure_bind];exact e
   .rcases cA9 hx with z|z
    .cases z;exact absurd rfl hk
    .exact q2 x z
theorem aV2(h:∀x,(x,NameKind.free)∈scope.names->∃c,env.cells.lookup x=some c):
  ∃cl:List (Str×Addr),closureFor scope env=pure cl/\(∀x c,cl.lookup x=some c->env.cells.lookup x=some c)/\∀x,(x,NameKind.free)∈scope.names->∃c,cl.lookup x=some c:=by
 obtain⟨cl,e,q1,q2,_⟩:=ad2 (env:=env) _ rfl scope.names [] h (λx c z=>by cases z);refine⟨cl,?_,q1,q2⟩;unfold closureFor;have :∀(g g':Str×NameKind->List (Str×Addr)->Sem (ForInStep (List (Str×Addr)))),g=g'->forIn scope.names [] g=forIn scope.names [] g':=λg g' z=>by rw[z]
 refine Eq.trans (congrArg (λm:Sem (List (Str×Addr))=>m>>=λcs=>pure cs) (this _ _ ?_)) ((congrArg (λm:Sem (List (Str×Addr))=>m>>=λcs=>pure cs) e).trans (by rw[pure_bind]))
 funext x cs
 obtain⟨n,k⟩:=x;dsimp only;split<;>simp
theorem cb5(hstk:X.stack=X.env::X.aE)(hfr:X.env.frame=some X.env.locals)(hex:X.ex=[])
  (hxe:X.xe=λe s'=>wpAny (model X.prog X.w) X.A (leaving X.env e) (λ_ s''=>CX1 X.prog X.w X.aE X.Ho X.sd E e s'') (λe' s''=>CX1 X.prog X.w X.aE X.Ho X.sd E e' s'') s'):
  ab8 (CX1 X.prog X.w) X E:=λaA Z H s e s' I h=>by
 obtain⟨ea,C,H',B,rfl,T,q⟩:=h;have hL:∀b o,X.sd.heap.get? b=some o->b≠X.env.locals:=λb o z=>cN5 (cM7 (cD9 z) I.ok.above)
 rw[hxe];rw[hstk]at T;refine bc6 (env:=X.env) (aE:=X.aE) (L:=X.env.locals) (by rw[<-hstk];exact I.ok.frames) hfr T.fly λh' F u=> ?_
 have T2:ag7 X.prog X.w (X.env::X.aE) H s B ea C .none H' s':=T;have isT:∀b,H' b≠none->∃o,s'.heap.get? b=some o/\h'.get? b=some o:=λb q=>by
  obtain⟨o,z⟩:=T.trk b q;exact⟨o,T.fly.st b o z,F.st b o z⟩
 have nfr:∀b,b∉frs X.aE->(∃o,X.sd.heap.get? b=some o)->b∉frs (X.env::X.aE):=λb nb ⟨o,z⟩ y=>by
  rcases cA9 (show b∈X.env.locals::frs X.aE by simpa[frs,hfr]using y)with y|y
  .exact hL b o z y
  .exact nb y
 have same:∀b o,s'.heap.get? b=some o->(∃v,X.sd.heap.get? b=some v)->b∉frs X.aE->B.get? b=some o:=λb o q v nb=>by
  obtain⟨v,hv⟩:=v;obtain⟨v2,hv2⟩:=I.aD.there b v hv (by rw[hex];simp);exact T.old b o q ⟨v2,hv2⟩ (nfr b nb ⟨v,hv⟩)
 refine⟨ea,C,H',B,rfl,⟨T.os.trans I.os,T.bare,⟨λb o z n nb hx=> ?_,λb o z n nb hx=> ?_,λb o z n hx=> ?_,λb o z hx=> ?_,λb xs z=>T.un.tups b xs (I.aD.tups b xs z),λb o xs z=>T.un.frzs b o xs (I.aD.frzs b o xs z),λb ps z=> ?_⟩,aE3 T.hok isT,T.ne,F,λb o z v nb=> ?_,T.trk⟩,q⟩
 .have z1:=I.aD.keep b o z n nb (by rw[hex];simp);have n1:=I.aD.free b o z n (by rw[hex];simp);have z2:=T.un.keep b o z1 n1 (nfr b nb ⟨o,z⟩) (by simp);exact F.st b o (same b o z2 ⟨o,z⟩ nb)
 .obtain⟨sl,z1⟩:=I.aD.slot b o z n nb (by rw[hex];simp);have n1:=I.aD.free b o z n (by rw[hex];simp);obtain⟨sl2,z2⟩:=T.un.any z1 n1 (by simp);have nf:∀vs,o.data≠.fields vs:=λvs y=>by
   obtain⟨_,o2,z3,z4⟩:=T.fly.fr.mem (show b∈(X.env::X.aE).filterMap (·.frame) by simp[hfr];exact .inr (by simpa[frs]using nb));rw[z2]at z3;cases z3;exact z4 vs y
  obtain⟨sl3,z3⟩:=u b _ z2 nf;exact⟨sl3,z3⟩
 .obtain⟨o',z1⟩:=I.aD.there b o z (by rw[hex];simp);exact T.un.free b o' z1 (I.aD.free b o z n (by rw[hex];simp)) (by simp)
 .obtain⟨o1,z1⟩:=I.aD.there b o z (by rw[hex];simp);obtain⟨o2,z2⟩:=T.un.there b o1 z1 (by simp);by_cases nb:b∈frs X.aE
  .obtain⟨_,o3,z3,z4⟩:=T.fly.fr.mem (show b∈(X.env::X.aE).filterMap (·.frame) by simp[hfr];exact .inr (by simpa[frs]using nb));obtain⟨sl,z5⟩:=u b o3 z3 z4;exact⟨_,z5⟩
  .exact⟨o2,F.st b o2 (same b o2 z2 ⟨o,z⟩ nb)⟩
 .obtain⟨m1,z1⟩:=I.aD.tbls b ps z;obtain⟨m2,z2⟩:=T.un.tbls b _ z1;exact⟨m1++m2,by rw[z2,Array.append_assoc]⟩
 .obtain⟨v,hv⟩:=v;obtain⟨o1,z1⟩:=I.aD.there b v hv (by rw[hex];simp);obtain⟨o2,z2⟩:=T.un.there b o1 z1 (by simp);have z3:=same b o2 z2 ⟨v,hv⟩ nb;have z4:=F.st b o2 z3;rw[z4]at z;cases z;exact z3
noncomputable def aT9(X:Cx)(E:XK)(qual:Str)(scope:Scope)(fa c':Addr)(cl:List (Str×Addr))(N:List Str)(s:Shared)(H:Hp):Cx where
 prog:=X.prog
 w:=X.w
 K:=X.K
 mg:=X.mg
 aD:=X.aD
 A:=X.A.deeper (W.envX qual scope s.sz fa (.ref c') cl)
 N:=N
 sd:=s
 Ho:=H
 env:=W.envX qual scope s.sz fa (.ref c') cl
 aE:=X.stack
 stack:=W.envX qual scope s.sz fa (.ref c') cl::X.stack
 ex:=[]
 fn:=λ_=>false
 calm:=true
 pn:=[]
 xe:=λe s'=>wpAny (model X.prog X.w) (X.A.deeper (W.envX qual scope s.sz fa (.ref c') cl)) (leaving (W.envX qual scope s.sz fa (.ref c') cl) e) (λ_ s''=>CX1 X.prog X.w X.stack H s E e s'') (λe' s''=>CX1 X.prog X.w X.stack H s E e' s'') s'
structure co9(scope:Scope)(cl:List (Str×Addr))(N:List Str)(vs:List V)(H:Hp)(h:Heap):Prop where
 inj:∀x y c,cl.lookup x=some c->cl.lookup y=some c->x=y
 has:∀x,(scope.names.lookup x=some .cell\/scope.names.lookup x=some .free)->∃c,cl.lookup x=some c
 cell:∀x c,cl.lookup x=some c->(∃v,h.IsCell c v)/\H c=none
 val:∀(i:Nat) (x:Str) (v:V),N[i]?=some x->vs[i]?=some v->scope.names.lookup x=some .free/\∃c u,cl.lookup x=some c/\h.IsCell c (some u)/\D0 v u
 len:vs.length=N.length
theorem by0:ab8 (CX1 X.prog X.w) (aT9 X E qual scope fa c' cl N s H) E:=
 cb5 rfl rfl rfl rfl
section
theorem cd3(I:Inv X aA Z H s)(hd:X.A.handled=none)(C:co9 scope cl N vs H s.heap)(hk:scope.kind=.function)(hns:h1.Ns s.sz m)(hk1:∀b o,s.heap.get? b=some o->h1.get? b=some o):
  Inv (aT9 X E qual scope fa c' cl N s H) [] (vs.map some) H {s with heap:=h1,toks:=tk}:=by
 have noA:∀b:Addr,b∉(aT9 X E qual scope fa c' cl N s H).ex:=λb z=>absurd (show b∈([]:List Addr)from z) (by simp)
 have e0:=I.env0;refine⟨⟨e0.mod,hk,rfl,rfl,cM3 _,C.inj,C.has,λy c z=>absurd (show false=true from z) (by simp),λ_=>hd,Around.frames_deeper e0.frames,.inr ⟨rfl,rfl⟩,λb z=>absurd z (noA b),e0.bs,e0.bsz,λb _ _=>noA b,λb z=>absurd z (noA b),e0.funs,e0.frf⟩,
  rfl,e0.bare,Un.kept hk1,⟨_,hns,λi y v q1 q2 q3=> ?_⟩,λy c h=> ?_,e0.hok.fresh (cM3 _),λy c h=>(C.cell y c h).2,λp hp=>absurd (show p∈([]:List (Addr×Obj))from hp) (by simp),e0.hok.kept hk1,?_⟩
 .have q2':vs[i]?=some v:=by
   rw[cI5]at q2;cases z:vs[i]? with
   |none=>rw[z]at q2;cases q2
   |some a=>rw[z]at q2;cases q2;rfl
  obtain⟨kf,c,u,k1,k2,k3⟩:=C.val i y v q1 q2';refine⟨u,k3,.inr ⟨.inr kf,c,k1,?_⟩⟩;obtain⟨o,z1,z2⟩:=k2;exact⟨o,hk1 _ _ z1,z2⟩
 .obtain⟨⟨v,o,z1,z2⟩,_⟩:=C.cell y c h;exact⟨v,o,hk1 _ _ z1,z2⟩
 .rw[cJ3];exact C.len
theorem bJ7(I:Inv X aA Z H s)(hd:X.A.handled=none)(hdp:X.A.depth<recursionLimit)
  (ho:s.heap.get? fa=some (W.kla_obj "<lambda>" qual params body scope cl pm c' ctv)) (hcd:s.heap.CodeRec (.ref c') qual)
  (hbind:bindArgs (W.kla_fn "<lambda>" qual params body scope cl pm (.ref c') ctv) ⟨[],[]⟩=pure []) (C:co9 scope cl N vs H s.heap)
  (hk:scope.kind=.function) (hco:scope.isCoroutine=false) (hgen:scope.isGenerator=false) (hcell:∀x∈scope.names,x.2≠.cell)
  (hbody:PE (aT9 X E qual scope fa c' cl N s H) body t) (ht:t (vs.map some) H Q) (hx:ab8 (CX1 X.prog X.w) X E):
  wpAny (model X.prog X.w) X.A (call (.ref fa) []) (EP X aA Z Q) X.xe s:=by
 have e0:=I.env0;have lim:s.heap.NoLimit:=e0.mod.nolimit.keeps λb o e=>(e0.bs b o e).1
 have main:codeAny (model X.prog X.w) X.A (.call (.ref fa) ⟨[],[]⟩) (CR (CX1 X.prog X.w) X.stack X.prog X.w H s Q E) s:=by
  refine W.kla_callFunE hdp ho rfl hco hgen rfl hcd ?_;rw[hbind];refine cP8 (wpAny_newFunctionEnv hcell (λy hy=>absurd hy (by simp)) (λh1 hns hsb=>⟨lim.fresh _ hsb,?_⟩) hk);show codeAny _ _ (.expr body (W.envX qual scope s.sz fa (.ref c') cl)) _ _;have hk1:∀b o,s.heap.get? b=some o->h1.get? b=some o:=λb o e=>hsb.extBut b o (cN5 (cD9 e)) (cD5 _ e)
  have J:=cd3 (E:=E) (qual:=qual) (fa:=fa) (c':=c') (tk:=s.toks+0) I hd C hk hns hk1;refine W.kla_codeExpr (cP6 (hbody [] _ _ H Q J ht) (λv s' ⟨v',H',J',r,q⟩=> ?_) λe s' h=> ?_)
  .exact⟨v',H',J'.os,J'.bare,J'.aD,J'.hok,r,q⟩
  .exact cP6 h (λ_ _ z=>z) λ_ _ z=>z
 refine wpAny_call (codeAny_mono main λr s' hq=> ?_);cases r with
 |error e=>exact hx aA Z H s e s' I hq
 |ok fl=>
  cases fl with
  |ret u=>exact I.after hq
  |next=>exact False.elim hq
  |brk=>exact False.elim hq
  |cont=>exact False.elim hq
end
section
theorem cd7(I:Inv X aA Z H s)(hN:X.N.Nodup)(hi:X.N[i]?=some x)(hk:X.env.scope.names.lookup x=some .local)
  (h:∀s',Inv X aA (Z.set i none) H s'->Q () s'):wpAny M A (do bindName X.env x .none;unbindBehindTheSuite X.env x pos) Q E s:=by
 obtain⟨m,hn,hl⟩:=id I.loc;have hcls:(X.env.scope.kind==.class||(X.env.scope.kind==.module&&X.env.locals !=X.env.globals))=false:=by rw[I.ok.kind];rfl
 have hiZ:i<Z.length:=by rw[I.len];exact(List.getElem?_eq_some_iff.mp hi).1
 have cne:=I.cne;refine wpAny_nameGoes_keeps hk hn hcls λh' v hn' hs=> ?_
 obtain⟨oL,_,_,hoL,_⟩:=id hn;have away:∀b o,X.sd.heap.get? b=some o->h'.get? b=s.heap.get? b:=λb o e=>hs.2 b (cN5 (cM7 (cD9 e) I.ok.above))
 have tr:HOk X.prog X.w H h':=λb ob e=>by
  refine(I.hok b ob e).stay (λc w' hc q=>(hs.2 c ?_).trans q) (λ_ q=>q) λ_ _ q=>q
  rintro rfl;rcases hc with rfl|hc
  .rw[I.free]at e;cases e
  .rw[I.free]at hc;cases hc
 refine h _ ⟨I.ok,I.os,I.bare,⟨λb o e n hb hx=> ?_,λb o e n hb hx=> ?_,I.aD.free,λb o e hx=> ?_,I.aD.tups,I.aD.frzs,I.aD.tbls⟩,⟨_,hn',λj y v' e1 e2 e3=> ?_⟩,λy c e=> ?_,I.free,I.freeC,λp hp=> ?_,tr,by simpa using I.len⟩
 .exact(away b o e).trans (I.aD.keep b o e n hb hx)
 .obtain⟨sl,e1⟩:=I.aD.slot b o e n hb hx;exact⟨sl,(away b o e).trans e1⟩
 .obtain⟨o',e1⟩:=I.aD.there b o e hx;exact⟨o',(away b o e).trans e1⟩
 .by_cases hj:j=i
  .subst hj;rw[cI9 hiZ]at e2;cases e2
  .rw[cI8 (Ne.symm hj)]at e2;obtain⟨u',r',q⟩:=hl j y v' e1 e2 e3;refine⟨u',r',?_⟩;rcases q with⟨k,e⟩|⟨k,c,e,z⟩
   .refine .inl ⟨k,?_⟩;have :y≠x:=λe=>hj (aQ3 hN e1 (e▸hi))
    simp[this,e]
   .exact .inr ⟨k,c,e,z.sameBut hs (cne y c e)⟩
 .obtain⟨w',z⟩:=I.cell y c e;exact⟨w',z.sameBut hs (cne y c e)⟩
 .obtain⟨e,n,ne,nf,d⟩:=I.pin p hp;exact⟨(hs.2 p.1 ne).trans e,n,ne,nf,d⟩
noncomputable abbrev aw3(X:Cx)(e:Value)(xe:Value->Shared->Prop):Cx:={X with A:=X.A.mark (some e),calm:=false,xe:=xe}
theorem Inv.mark(I:Inv X aA Z H s)(e:Value)(xe:Value->Shared->Prop):Inv (aw3 X e xe) aA Z H s:=
 ⟨⟨I.ok.mod,I.ok.kind,I.ok.glob,I.ok.blt,I.ok.above,I.ok.inj,I.ok.has,I.ok.cab,λz=>absurd (show false=true from z) (by simp),I.ok.frames,I.ok.stk,I.ok.exf,I.ok.bs,I.ok.bsz,I.ok.noex,I.ok.exfs,I.ok.funs,I.ok.frf⟩,I.os,I.bare,I.aD,I.loc,I.cell,I.free,I.freeC,I.pin,I.hok,I.len⟩
theorem Inv.unmark(ok:X.Ok)(I:Inv (aw3 X e xe) aA Z H s):Inv X aA Z H s:=
 ⟨ok,I.os,I.bare,I.aD,I.loc,I.cell,I.free,I.freeC,I.pin,I.hok,I.len⟩
end
noncomputable def cA4(X:Cx)(fa:Addr)(dsp:Hp->VK->XK->Prop):Prop:=∀xe aA s Z H Q E,Inv (X.wish xe) aA Z H s->ab8 (CX1 X.prog X.w) (X.wish xe) E->dsp H Q E->W.FnAt fa s.heap/\
 wpAny (model X.prog X.w) X.A (call (.ref fa) []) (EP (X.wish xe) aA Z Q) xe s
noncomputable def bU8(P:Program)(w:World)(K:cO5)(mg:Str->Option Value)(aD:Heap)(fwd:Addr)(wd:Addr->Str->Prop):Prop:=
 ∀(A:Around) (aE:List Env) (s:Shared) (H G:Hp) (ea D:Addr) (c:Str) (o:Obj) (Q:VK) (E:XK),A.handled=some (.ref ea)->A.depth<recursionLimit->ap5 P w K mg aD A aE s H->s.heap.get? ea=some o->o.cls=.ref D->o.dict=none->W.notCls o=true->
  aA1 s.heap ea->H ea=none->ea∉frs aE->Sub G H->wd D c->(∀v G' H',Ext G H G' H'->Rep K G' (.str c) v->Q v H')->codeAny (model P w) A (.call (.ref fwd) ⟨[.ref ea],[]⟩) (CR CX0 aE P w H s Q E) s
section
noncomputable def cp4(K:cO5)(i0:Nat)(fa:Addr)(dsp:Hp->VK->XK->Prop)(wd:Addr->Str->Prop):TS:=λD Z H=>Z[i0]?=some (some (.ref fa))/\
 dsp H D.rt (λC _ H'=>∃D' c,C=.ref D'/\wd D' c/\∃G',Sub G' H'/\∀v G2 H2,Ext G' H' G2 H2->Rep K G2 (.str c) v->D.rt v H2)
theorem bN6{s:Shared}{Z:L2.St}{H:Hp}{D:an0}{dn en wn fw:Str}{i0 i1:Nat}{fa W fwd:Addr}{dsp:Hp->VK->XK->Prop}{wd:Addr->Str->Prop}{p1 p2 p3 p4 p5 p6 p7 p8 p9 p10:Pos}(hstk:X.stack=X.env::X.aE)(hfr:X.env.frame=some X.env.locals)(hdp:X.A.depth<recursionLimit)
  (hN:X.N.Nodup) (h0:X.N[i0]?=some dn) (hn1:X.N[i1]?=some en) (hk0:X.env.scope.names.lookup dn=some .local) (hk1:X.env.scope.names.lookup en=some .local)
  (hgW:Gl X wn) (hmW:X.mg wn=some (.ref W)) (hgF:Gl X fw) (hmF:X.mg fw=some (.ref fwd)) (hkF:PySem.W.keepIn X.K (.ref fwd)=true) (word:bU8 X.prog X.w X.K X.mg X.aD fwd wd)
  (hex:∀D c,wd D c->PySem.W.exmOne X.K (.ref D) (.ref W)=some true) (deed:cA4 X fa dsp)
  (hd1:NoD dn) (hd2:(dn==("__classdict__":Str))=false) (hd3:NoD wn) (hd4:NoD fw)
  (hd5:NoD en) (hd6:(en==("__classdict__":Str))=false) (hs:starEach [.Name en p6] X.env=(false,eval (.Name en p6) X.env)::starEach [] X.env):
  Inv X [] Z H s->cp4 X.K i0 fa dsp wd D Z H->wpAny (model X.prog X.w) X.A (execs [.Try [.Return (some (.Call (.Name dn p1) [] [] p2)) p3] [.ExceptHandler (some (.Name wn p4)) (some en) [.Return (some (.Call (.Name fw p5) [.Name en p6] [] p7)) p8] p9] [] [] p10] X.env) (SP X [] D) X.xe s:=by
 intro I ⟨hZ,hq⟩;have ok:=I.ok;refine wpAny_execs_cons (thn (Q:=SP X [] D) ?_ λf s1 q=>by cases f with |next=>exact wpAny_execs_nil q|ret v=>exact q|brk=>exact q|cont=>exact q);refine wpAny_Try_except ?_;generalize hxe:(λ(e:Value) (se:Shared)=>wpAny (model X.prog X.w) X.A (noteFrame e X.env) (λ_ sf=>wpAny (model X.prog X.w) X.A (setFlight e none) (λ_ sw=>wpAny (model X.prog X.w) X.A (handleBy e X.env [.ExceptHandler (some (.Name wn p4)) (some en) [.Return (some (.Call (.Name fw p5) [.Name en p6] [] p7)) p8] p9]) (SP X [] D) X.xe sw) X.xe sf) X.xe se)=xe;have hpass:ab8 (CX1 X.prog X.w) (X.wish xe) (λC _ H'=>∃D' c,C=.ref D'/\wd D' c/\∃G',Sub G' H'/\∀v G2 H2,Ext G' H' G2 H2->Rep X.K G2 (.str c) v->D.rt v H2):=by
  intro aA' Z' H1 s1 e s2 I1 ⟨ea,C,H',B,he,T,D',c,hC,hwd,G',sG,q⟩;subst he hC;show xe _ _;rw[<-hxe];dsimp only;have T':ag7 X.prog X.w (X.env::X.aE) H1 s1 B ea (.ref D') .none H' s2:=by rw[<-hstk];exact T
  have ok2:=ok;have hA:X.A.frames=some (X.env::X.aE):=by rw[<-hstk];exact ok.frames
  refine bm5 (env:=X.env) (aE:=X.aE) (L:=X.env.locals) hA hfr T'.fly λh1 F1 u1=> ?_
  refine aE6 (g:=none) (s:={s2 with heap:=h1}) F1 λh2 F2 u2=> ?_
  have T2:=T'.turn F2 (u1.trans u2);have I2:Inv X [] Z' H' {s2 with heap:=h2}:=((by rw[hstk];exact T2:ag7 X.prog X.w X.stack H1 s1 B ea (.ref D') .none H' {s2 with heap:=h2}).inv I1.unwish).pins_of (λp hp=>absurd hp (by simp));refine wpAny_handleBy_cons (codeAny_handlers_test ?_) (by intro z;cases z);have IM:=Inv.mark I2 (.ref ea) (λ_ _=>False);refine ao7 (X:=aw3 X (.ref ea) λ_ _=>False) IM hgW hmW ?_ hd3;obtain⟨oe,vs,Tb,oT,ts,z1,⟨z2,zd⟩,z3,z4,z5,z6⟩:=F2.ob;have LT:PySem.W.Looks (model X.prog X.w) h2 (typeOf (.ref ea)) (.ref D'):=(⟨z1,z2,by unfold PySem.W.notCls;rw[z3],by rw[zd];trivial⟩:PySem.W.InstAt h2 ea oe D' none).type;refine(PySem.W.exm_one (M:=model X.prog X.w) (show X.K.In h2 from I2.kIn) LT (hex D' c hwd)).here ?_
  (refine codeAny_handlers_suite_as ?_);refine aE6 (g:=none) (s:={s2 with heap:=h2}) F2 λh3 F3 u3=> ?_
  have T3:=T2.turn F3 u3;have I3:Inv X [] Z' H' {s2 with heap:=h3}:=((by rw[hstk];exact T3:ag7 X.prog X.w X.stack H1 s1 B ea (.ref D') .none H' {s2 with heap:=h3}).inv I1.unwish).pins_of (λp hp=>absurd hp (by simp));obtain⟨oe,vs,Tb,oT,ts,z1,⟨z2,zd⟩,z3,z4,z5,z6⟩:=F3.ob;refine aG9 I3 hN hn1 (.inl hk1) (v:=.ref ea) rfl (λs4 I4 ⟨a,same,ha⟩=> ?_) (.inr hk1);have nea:ea≠a:=λz=>by
   rcases ha with y|y
   .obtain⟨m,⟨o,es,ep,e,hdd,_⟩,_⟩:=I3.loc;rw[<-y,<-z]at e;rw[show h3.get? ea=some o from e]at z1;cases z1;rw[z3]at hdd;cases hdd
   .obtain⟨v,o,e,hdd⟩:=I3.cell _ _ y;rw[<-z]at e;rw[show h3.get? ea=some o from e]at z1;cases z1;rw[z3]at hdd;cases hdd
  have e4:s4.heap.get? ea=some oe:=(same.2 ea nea).trans z1;have nfs:ea∉frs X.stack:=λz=>by
   obtain⟨_,o,y1,y2⟩:=F3.fr.mem (show ea∈(X.env::X.aE).filterMap (·.frame) by rw[<-hstk];exact z);rw[y1]at z1;cases z1;exact y2 vs z3
  have nel:ea≠X.env.locals:=λz=>nfs (by rw[hstk];show ea∈(X.env::X.aE).filterMap (·.frame);simp[hfr,z])
  have IM4:Inv (aw3 X (.ref ea) λ_ _=>False) [(ea,oe)] _ H' s4:=(Inv.mark I4 (.ref ea) (λ_ _=>False)).pins_of λp hp=>by
   rw[cL2]at hp;subst hp;exact⟨e4,T3.ne,nel,λz=>nfs (by rw[hstk];show ea∈(X.env::X.aE).filterMap (·.frame);rw[cH6,hfr];exact cK6 _ z),λv z=>by rw[z3]at z;cases z⟩
  refine wpAny_execs_cons (wpAny_Return_some (cP6 (E:=λ_ _=>False) (Q:=EP (aw3 X (.ref ea) λ_ _=>False) [(ea,oe)] (Z'.set i1 (some (.ref ea))) D.rt) ?_ (λu s5 ⟨v,H5,I5,r5,q5⟩=> ?_) (λ_ _ z=>z.elim)))
  .refine wpAny_Call_Name_kw (ao7 (X:=aw3 X (.ref ea) λ_ _=>False) IM4 hgF hmF ?_ hd4);have hi1:i1<Z'.length:=by rw[I3.len];exact(List.getElem?_eq_some_iff.mp hn1).1
   refine PySem.W.callWith_K (h₀:=X.aD) ok.mod.kin hkF (thn (T0 (X:=aw3 X (.ref ea) λ_ _=>False) (aq9 hn1 (.inl hk1) hd5 hd6) ab3 hs p7 [(ea,oe)] s4 _ H' (λvs H2=>vs=[.ref ea]/\H2=H') IM4 ⟨.ref ea,by rw[cI9 hi1],rfl,rfl⟩) λus s5 ⟨vs',H5,I5,r5,ev,eH⟩=>⟨I5.kIn,?_⟩) hs;subst ev eH;obtain⟨u,eu,ru⟩:=ap8 r5;cases ru;subst eu;obtain⟨e5,n5,_⟩:=I5.pin (ea,oe) (by simp);refine wpAny_call (codeAny_mono (word (X.A.mark (some (.ref ea))) X.stack s5 H5 G' ea D' c oe D.rt E0 rfl hdp I5.env0 e5 z2 zd (by unfold PySem.W.notCls;rw[z3]) ⟨oe,vs,e5,z3,z5⟩ n5 nfs sG hwd q) λr s' hq=> ?_);cases r with
   |error e=>exact False.elim hq
   |ok fl=>
    cases fl with
    |ret u=>exact I5.after hq
    |next=>exact False.elim hq
    |brk=>exact False.elim hq
    |cont=>exact False.elim hq
  .exact cd7 ((Inv.unmark ok I5).pins_of (aA':=[]) λp hp=>absurd hp (by simp)) hN hn1 hk1 λs' I'=>⟨v,_,H5,I',r5,q5⟩
 have key:PSs (X.wish xe) [.Return (some (.Call (.Name dn p1) [] [] p2)) p3] (λD' Z' H'=>D'.rt=D.rt/\Z'=Z/\H'=H):=by
  refine aj9 (aT0 (te:=λZ' H' Q=>Q=D.rt/\Z'=Z/\H'=H) ?_);intro aA' s' Z' H' Q I' ⟨e1,e2,e3⟩;subst e1 e2 e3;refine wpAny_Call_Name_kw ?_;refine thn (aq9 (X:=X.wish xe) h0 (.inl hk0) hd1 hd2 aA' s' Z' H' (λv H1=>v=.ref fa/\H1=H') I' ⟨.ref fa,hZ,rfl,rfl⟩) λu s1 ⟨v,H1,I1,r1,ev,eH⟩=> ?_
  subst ev eH;cases r1;obtain⟨hfn,hc⟩:=deed xe aA' s1 Z' H1 D.rt _ I1 hpass hq;exact PySem.W.callWith_F0 hfn hc
 refine cP6 (key [] s Z H D (I.wish xe) ⟨rfl,rfl,rfl⟩) (λf s1 q=> ?_) (λe s1 z=>z);have q':=q.unwish;cases f with
 |next=>exact wpAny_execs_nil q'
 |ret v=>exact q'
 |brk=>exact q'
 |cont=>exact q'
end
section
theorem Inv.table(I:Inv X aA Z H s)(hP:H P=some (.tbl ps))(hge:s.sz<=c')(hx:∀b o,b≠P->s.heap.get? b=some o->h'.get? b=some o)
  (hrec:h'.CodeRec (.ref c') q) (htb:h'.get? P=some {cls:=.none,data:=.fields (ps++more)}):
  Inv X aA Z (upd (upd H c' (ad1 c' q)) P (.tbl (ps++more))) {s with heap:=h',toks:=t'}:=by
 have hc:H c'=none:=I.hok.fresh hge;have nPc:c'≠P:=λz=>by rw[z,hP]at hc;cases hc
 have old:∀b o,s.heap.get? b=some o->b≠c':=λb o e z=>by rw[z]at e;exact absurd (cD9 e) (Nat.not_lt.mpr hge)
 have nP:∀b,H b=none->b≠P:=λb e z=>by rw[z,hP]at e;cases e
 have get:∀b,b≠P->b≠c'->upd (upd H c' (ad1 c' q)) P (.tbl (ps++more)) b=H b:=λb h1 h2=>by rw[l8 h1,l8 h2]
 have getS:∀b x,H b=some x->b≠P->upd (upd H c' (ad1 c' q)) P (.tbl (ps++more)) b=some x:=λb x e h1=>by
  rw[get b h1 (A9 e hc)];exact e
 refine I.un ⟨λb o e n _ _=>hx b o (nP b n) e,λb o e n _ _=>⟨o.slots,hx b o (nP b n) e⟩,λb o e n _=> ?_,λb o e _=> ?_,λb xs e=> ?_,λb o u e=> ?_,λb p e=> ?_⟩ λa o e=> ?_
 .rw[get b (nP b n) (old b o e)];exact n
 .by_cases z:b=P
  .rw[z];exact⟨_,htb⟩
  .exact⟨o,hx b o z e⟩
 .exact getS b _ e λz=>by rw[z,hP]at e;cases e
 .exact getS b _ e λz=>by rw[z,hP]at e;cases e
 .by_cases z:b=P
  .subst z;rw[hP]at e;cases e;exact⟨more,t6⟩
  .exact⟨#[],by rw[getS b _ e z,Array.append_empty]⟩
 .by_cases z:a=P
  .subst z;rw[t6]at e;cases e;exact htb
  .rw[l8 z]at e;by_cases z2:a=c'
   .subst z2;rw[t6]at e;cases e;refine⟨hrec,?_,λh1 h2 x k=> ?_⟩
    .obtain⟨c,o,vs,t,e1,e2,_⟩:=hrec;cases e1;exact⟨o,e2⟩
    .obtain⟨c,o,vs,t,e1,e2,e3⟩:=x;cases e1;exact⟨_,o,vs,t,rfl,k o e2,e3⟩
   .rw[l8 z2]at e;refine(I.hok a o e).stay (λb u hb y=>hx b u (λw=> ?_) y) (λb y=>getS b _ y λw=>by rw[w,hP]at y;cases y) λb xs y=>getS b _ y λw=>by rw[w,hP]at y;cases y
    rcases hb with w1|w1
    .exact z (w1.symm.trans w)
    .rw[w,hP]at w1;cases w1
def BM(mg:Str->Option Value)(aD:Heap):Prop:=∃bm o,mg "__builtins__"=some (.ref bm)/\bm≠builtinsNs/\bm≠mainGlobals/\aD.get? bm=some o/\o.cls=.type "module"/\o.dict=some builtinsNs/\o.data=.plain
theorem bl8(I:Inv X aA Z H s)(B:BM X.mg X.aD)(hT:Tbs H)(hp:(P,q)∈af3)(hq:X.env.qual++"<lambda>"=q)
  (hcode:X.env.code=.ref c) (hcd:W.codeHdIn X.K c P=true) (hcl:closureFor scope X.env=pure clos) (hdef:defaultsOf params X.env=([],[]))
  (k:∀fa c' pm ctv H1 s1,Inv X aA Z H1 s1->Tbs H1->R8 H H1->s1.heap.get? fa=some (W.kla_obj "<lambda>" q params body scope clos pm c' ctv)->H1 c'=some (ad1 c' q)->H1 fa=none->s.sz<=fa->
   (∀b o,s.heap.get? b=some o->H b=none->s1.heap.get? b=some o/\H1 b=none)->(∀b o,H b=some o->ah3 o=true->H1 b=some o)->(∀b,b∈frs X.stack->fa≠b)->Q (.ref fa) s1):
  wpAny (model X.prog X.w) A (eval (.Lambda params body scope pos) X.env) Q E s:=by
 obtain⟨ps,hP,tr⟩:=hT (P,q) hp;have hPh:s.heap.get? P=some (W.tabObj ps):=I.hok P _ hP;have hgs:s.heap.Ns mainGlobals X.mg:=I.mod.glob.keeps I.bk;have gfree:H mainGlobals=none:=by
  obtain⟨o,es,ep,e,_⟩:=I.mod.glob;exact(I.bs _ _ e).2
 have hgP:mainGlobals≠P:=λz=>by rw[<-z]at hP;dsimp only at hP;rw[gfree]at hP;cases hP
 obtain⟨bm,ob,b1,b2,b3,b4,b5⟩:=B;have hbP:bm≠P:=λz=>by
  have :=(I.bs _ _ b4).2;rw[z]at this;dsimp only at hP;rw[this]at hP;cases hP
 have hB:s.heap.BuiltinsAt X.mg P:=⟨bm,ob,b1,b2,b3,hbP,I.bk _ _ b4,b5⟩
 have C:=W.codeHd_of_K I.kIn hcd;have frl:∀b∈frs X.stack,b<s.sz:=λb hb=>by
  obtain⟨_,o,e,_⟩:=I.stack.mem hb;exact cD9 e
 refine W.kla_eval hdef ?_;rw[hq];cases hca:codeAmong pos ps.toList with
 |none=>
  refine W.kla_makeFunction hcl I.ok.glob hgs hcode C hPh tr.triples hca hgP hB λc' ctv h' tk hx hge hlt hrec htb=> ?_
  have J:=Inv.table (t':=tk) (h':=h'.push (W.kla_obj "<lambda>" q params body scope clos ((X.mg "__name__").getD .none) c' ctv)) I hP hge (λb o n e=>cD5 _ (hx b o n e)) (hrec.push _) (cD5 _ htb);have hc:H c'=none:=I.hok.fresh hge;have nPc:c'≠P:=λz=>by rw[z]at hc;dsimp only at hP;rw[hP]at hc;cases hc
  have old:∀b o,s.heap.get? b=some o->b≠c':=λb o e z=>by rw[z]at e;exact absurd (cD9 e) (Nat.not_lt.mpr hge)
  have nP:∀b,H b=none->b≠P:=λb e z=>by rw[z]at e;dsimp only at hP;rw[hP]at e;cases e
  have hsz:s.sz<=h'.objs.size:=Nat.le_of_lt (Nat.lt_of_le_of_lt hge hlt);have nt:∀b o,H b=some o->ah3 o=true->upd (upd H c' (ad1 c' q)) P (.tbl (ps++ #[rawInt pos.line,rawInt pos.col,.ref c'])) b=some o:=λb o e n=>by
   rw[l8 (λz=>by rw[z]at e;dsimp only at hP;rw[hP]at e;cases e;cases n),l8 (A9 e hc)];exact e
  refine k _ c' _ ctv _ _ J (λp hpp=> ?_) (λb o e=> ?_) (cD6 _ rfl) (by rw[l8 nPc,t6]) ?_ hsz (λb o e n=>⟨cD5 _ (hx b o (nP b n) e),?_⟩) nt λb hb=>cN4 (cM7 (frl b hb) hsz)
  .obtain⟨ps',hP',tr'⟩:=hT p hpp;have mono:∀a,H a=some (ad1 a p.2)->upd (upd H c' (ad1 c' q)) P (.tbl (ps++ #[rawInt pos.line,rawInt pos.col,.ref c'])) a=some (ad1 a p.2):=λa e=>nt a _ e rfl
   by_cases z:p.1=P
   .rw[z];have pq:p.2=q:=bY6 p hpp (P,q) hp z;rw[z]at hP';dsimp only at hP;rw[hP]at hP';cases hP';refine⟨_,t6,?_⟩;rw[Array.toList_append];refine U0.more ?_ (tr'.mono mono);rw[pq,l8 nPc,t6]
   .refine⟨ps',?_,tr'.mono mono⟩;rw[l8 z,l8 (A9 hP' hc)];exact hP'
  .by_cases n:ah3 o=true
   .exact⟨o,nt b o e n,λ_=>rfl⟩
   .by_cases z:b=P
    .rw[z];exact⟨_,t6,λw=>absurd w n⟩
    .exact⟨o,by rw[l8 z,l8 (A9 e hc)];exact e,λ_=>rfl⟩
  .rw[l8 (λz=>by have z':h'.objs.size=P:=z;exact absurd (cD9 hPh) (Nat.not_lt.mpr (by rw[<-z'];exact hsz))),l8 (cN4 hlt)];exact I.hok.fresh hsz
  .rw[l8 (nP b n),l8 (old b o e)];exact n
 |some cv=>
  obtain⟨c',ecv,hc'⟩:=tr.hit hca;subst ecv;obtain⟨hrec,_⟩:=I.hok c' _ hc';refine W.kla_makeFunctionHit hcl I.ok.glob hgs hcode C hPh tr.triples hca hB λctv h' tk hk hsz=> ?_
  have hk2:∀b o,s.heap.get? b=some o->(h'.push (W.kla_obj "<lambda>" q params body scope clos ((X.mg "__name__").getD .none) c' ctv)).get? b=some o:=λb o e=>cD5 _ (hk b o e)
  exact k _ c' _ ctv H _ (I.kept (t':=tk) hk2) hT (R8.refl _) (cD6 _ rfl) hc' (I.hok.fresh hsz) hsz (λb o e n=>⟨hk2 b o e,n⟩) (λb o e _=>e) λb hb=>cN4 (cM7 (frl b hb) hsz)
end
noncomputable def bl9(sc:Scope)(N:List Str)(scope:Scope)(NL:List Str)(aC:List Nat):Bool:=
 (match scope.kind with |.function=>true|_=>false)&& !scope.isCoroutine&& !scope.isGenerator&&
 scope.names.all (λy=>y.2 !=.cell&&(y.2 !=.free||sc.names.lookup y.1==some .cell))&&NL.length==aC.length&&
 (aC.zip NL).all (λy=>N[y.1]?==some y.2&&sc.names.lookup y.2==some .cell&&scope.names.lookup y.2==some .free)
structure ct1(sc:Scope)(N:List Str)(scope:Scope)(NL:List Str)(aC:List Nat):Prop where
 kind:scope.kind=.function
 co:scope.isCoroutine=false
 gen:scope.isGenerator=false
 nocell:∀x∈scope.names,x.2≠.cell
 free:∀x,(x,NameKind.free)∈scope.names->sc.names.lookup x=some .cell
 len:NL.length=aC.length
 cap:∀(i:Nat) (j:Nat) (x:Str),aC[i]?=some j->NL[i]?=some x->N[j]?=some x/\sc.names.lookup x=some .cell/\scope.names.lookup x=some .free
theorem cl7(h:bl9 sc N scope NL aC=true):ct1 sc N scope NL aC:=by
 unfold bl9 at h
 (simp only[cC7]at h);obtain⟨⟨⟨⟨⟨h1,h2⟩,h3⟩,h4⟩,h5⟩,h6⟩:=h
 refine⟨?_,by simpa using h2,by simpa using h3,λx hx=> ?_,λx hx=> ?_,by simpa using h5,λi j x e1 e2=> ?_⟩
 .split at h1
  .assumption
  .cases h1
 .have :=List.all_eq_true.mp h4 x hx;simp only[cC7]at this;simpa using this.1
 .have :=List.all_eq_true.mp h4 _ hx;simp only[cC7,cD3]at this;rcases this.2 with z|z
  .simp at z
  .simpa using z
 .have hz:(j,x)∈aC.zip NL:=by
   have :(aC.zip NL)[i]?=some (j,x):=by
    rw[cJ0];exact⟨e1,e2⟩
   exact cK9 this
  have :=List.all_eq_true.mp h6 _ hz;simp only[cC7,beq_iff_eq]at this;exact⟨this.1.1,this.1.2,this.2⟩
theorem bd5{K:cO5}{G:Hp}{Z:L2.St}{U:A7}(hU:K5 K G Z U):∀{aC:List Nat}{xs:List T},gs (aC.map M9) U=some xs->
  ∃vs,j8 K G xs vs/\vs.length=aC.length/\xs.length=aC.length/\∀(i j:Nat) (v:V),aC[i]?=some j->vs[i]?=some v->Z[j]?=some (some v)
 |[],xs,h=>by cases h;exact⟨[],j8.nil,rfl,rfl,λi j v e=>by simp at e⟩
 |c::aC,xs,h=>by
  obtain⟨x,h1,h⟩:=j5 h;obtain⟨ys,h2,h⟩:=j5 h;cases h;obtain⟨v,e1,e2⟩:=hU.2 c x (aI6 h1);obtain⟨vs,r,l1,l2,k⟩:=bd5 hU h2;refine⟨v::vs,j8.cons e2 r,by simp[l1],by simp[l2],λi j w ei ej=> ?_⟩;cases i with
  |zero=>simp at ei ej;subst ei ej;exact e1
  |succ i=>exact k i j w (by simpa using ei) (by simpa using ej)
theorem bZ3{K:cO5}{G:Hp}{xs:List T}{vs:List V}(r:j8 K G xs vs):K5 K G (vs.map some) (xs.map some):=by
 refine⟨by simp[r.length],λi t e=> ?_⟩;rw[cI5]at e;cases z:xs[i]? with
 |none=>rw[z]at e;cases e
 |some y=>
  rw[z]at e;cases e;obtain⟨v,h1,h2⟩:=r.get z;exact⟨v,by rw[cI5,h1];rfl,h2⟩
structure bo1(P:Program)(w:World)(K:cO5)(mg:Str->Option Value)(aD:Heap)(tn:Str)(wd:Addr->Str->Prop):Prop where
 ex:∃(tst:Stmt) (ft W fwd:Addr) (fdT:FuncData) (dn en wn fw:Str) (p1 p2 p3 p4 p5 p6 p7 p8 p9 p10:Pos),Fun K tn tn tst ft fdT/\mg tn=some (.ref ft)/\O8 [dn,en] [dn] (r8 tst)/\P6 K fdT [dn] []/\
  N8 tst=[.Try [.Return (some (.Call (.Name dn p1) [] [] p2)) p3] [.ExceptHandler (some (.Name wn p4)) (some en) [.Return (some (.Call (.Name fw p5) [.Name en p6] [] p7)) p8] p9] [] [] p10]/\
  (r8 tst).names.lookup dn=some .local/\(r8 tst).names.lookup en=some .local/\(r8 tst).names.lookup wn=some .globalImplicit/\(r8 tst).names.lookup fw=some .globalImplicit/\mg wn=some (.ref W)/\mg fw=some (.ref fwd)/\PySem.W.keepIn K (.ref fwd)=true/\
  bU8 P w K mg aD fwd wd/\(∀D c,wd D c->PySem.W.exmOne K (.ref D) (.ref W)=some true)/\
  NoD dn/\(dn==("__classdict__":Str))=false/\NoD wn/\NoD fw/\NoD en/\(en==("__classdict__":Str))=false
 cls:∀c∈aF0,∃D,mg c=some (.ref D)/\wd D c
 bm:BM mg aD
noncomputable def cx8(K:cO5)(mg:Str->Option Value)(G H:Hp)(Q:VK)(E:XK):Res->Prop
 |.val t=>∀v G' H',Ext G H G' H'->Rep K G' t v->Q v H'
 |.exc c=>∀G' H',Ext G H G' H'->E (aM4 mg c) none H'
section
theorem aP7{tn fn:Str}{wd:Addr->Str->Prop}{P c:Addr}{q:Str}{params:Arguments}{a0:Expr}{as:List Expr}{scope:Scope}{pt pf bp lpos cpos:Pos}{k kk n:Nat}{F:List T->Option Res}{l:List L3.G}(NL:List Str)(aC:List Nat)(Te:bo1 X.prog X.w X.K X.mg X.aD tn wd)(hr:J9 kk X.A)(hkk:k+2<=kk)(hgT:Gl X tn)(hp:(P,q)∈af3)(hq:X.env.qual++"<lambda>"=q)(hcode:X.env.code=.ref c)(hcd:PySem.W.codeHdIn X.K c P=true)(hdef:defaultsOf params X.env=([],[]))(chk:bl9 X.env.scope X.N scope NL aC=true)(hbind:∀(qual:Str) (cl:List (Str×Addr)) (pm cv ctv:Value),bindArgs (PySem.W.kla_fn "<lambda>" qual params (.Call (.Name fn pf) (a0::as) [] bp) scope cl pm cv ctv) ⟨[],[]⟩=pure [])(hF:bB2 X.prog X.w X.K X.mg X.aD fn k n F)(hgl:scope.names.lookup fn=some .globalImplicit)(hargs:∀(Y:Cx) (E:XK) (fa c':Addr) (cl:List (Str×Addr)) (s:Shared) (H:Hp),Wd (PXA (aT9 Y E q scope fa c' cl NL s H) (a0::as) (gs l)))(hn:l.length=n:=by rfl)(hdT:NoD tn:=by decide)(hdF:NoD fn:=by decide)(he:∀env,starEach (a0::as) env=(false,eval a0 env)::starEach as env:=by intro _;rfl)(hpl:∀env,(backTo bp (starEach as env)).any (·.1)=false:=by intro _;rfl)(he2:starEach [.Lambda params (.Call (.Name fn pf) (a0::as) [] bp) scope lpos] X.env=(false,eval (.Lambda params (.Call (.Name fn pf) (a0::as) [] bp) scope lpos) X.env)::starEach [] X.env:=by rfl)(hpl2:Bks X cpos []:=by rfl):Wd (PX X (.Call (.Name tn pt) [.Lambda params (.Call (.Name fn pf) (a0::as) [] bp) scope lpos] [] cpos) (gN (aK8 F l) (aC.map M9))):=⟨by
 have hargs:=λx0 x1 x2 x3 x4 x5 x6=>(hargs x0 x1 x2 x3 x4 x5 x6).run
 intro aA s Z H Q I ⟨G,U,t,sG,hU,hg,q1⟩;obtain⟨xs,hgs,ht⟩:=j5 hg;obtain⟨ys,hys,ht⟩:=j5 (show(gs l (xs.map some)).bind (aC9 F)=some t from ht);obtain⟨r,hr1,ht⟩:=j5 ht;obtain⟨vs,rep,lv,lx,hZ⟩:=bd5 hU hgs;obtain⟨⟨tst,ft,W,fwd,fdT,dn,en,wn,fw,p1,p2,p3,p4,p5,p6,p7,p8,p9,p10,FT,hmT,ST,bT,hbT,k1,k2,k3,k4,mW,mF,kF,word,hex,d1,d2,d3,d4,d5,d6⟩,hcls,bm⟩:=Te;have LO:=cl7 chk;have kinds:∀x,X.env.scope.names.lookup x=some .cell->∃c,X.env.cells.lookup x=some c:=λx e=>I.ok.has x (.inl e)
 obtain⟨clos,hcl,hsub,hall⟩:=aV2 (env:=X.env) (scope:=scope) λx hx=>kinds x (LO.free x hx)
 refine wpAny_Call_Name_kw (ao7 I hgT hmT ?_ hdT);refine PySem.W.callWith_K (h₀:=X.aD) I.ok.mod.kin FT.kp ?_ he2 hpl2;rw[he2];show wpAny _ _ (spliced ((false,eval (.Lambda params (.Call (.Name fn pf) (a0::as) [] bp) scope lpos) X.env)::backTo cpos (starEach [] X.env))) _ _ s;refine Calls.spliced_cons (bl8 I bm sG.t hp hq hcode hcd hcl hdef λfa c' pm ctv H1 s1 I1 T1 n1 ho hc1 hfa hsz keep nt nfr=>Calls.spliced_nil ⟨I1.kIn,?_⟩);have E01:Ext G H G H1:=⟨D6.refl _,⟨λb o e=>nt b o (sG b o e) (by cases o with |tbl ps=>exact absurd e (sG.n b ps)|_=>rfl),T1,sG.n⟩,n1,λ_ _ z=>z⟩
 show wpAny _ _ (call (.ref ft) [.ref fa]) _ _ s1;refine wpAny_call (codeAny_mono (bI9 (b:=true) (CX:=CX0) (E:=E0) (Q:=Q) (vs:=[.ref fa]) (us:=[.ref fa]) (args:=⟨[.ref fa],[]⟩) FT ST (λ_=>hr.hd) (by have :=hr.dp;omega) I1.env0 rfl (bT s1 [.ref fa] I1.kIn rfl) (.cons rfl .nil) λcdv s2 I2=> ?_) λr s' hq=> ?_)
 .rw[hbT];refine bN6 (X:={F7 CX0 X.prog X.w X.K X.mg X.aD [dn,en] tn (r8 tst) ft cdv X.A X.stack s1 H1 E0 with calm:=true}) (i0:=0) (i1:=1) (fa:=fa) (W:=W) (fwd:=fwd) (wd:=wd)
   (dsp:=λH' Q E=>H'=H1/\cx8 X.K X.mg G H1 Q E r)
   rfl rfl (by have :=hr.dp;show X.A.depth+1<_;omega) ST.nd rfl rfl k1 k2 k3 mW k4 mF kF word hex ?_ d1 d2 d3 d4 d5 d6 rfl I2 ⟨rfl,rfl,?_⟩
  .intro xe aA' s3 Z3 H3 Q3 E3 I3 pass ⟨eH,hm⟩;subst eH;have ho3:=I3.aD.keep fa _ ho hfa (λz=>nfr fa z rfl) (by simp[F7]);have hrec3:s3.heap.CodeRec (.ref c') q:=(I3.hok c' _ hc1).1;have cellK:∀x c,X.env.cells.lookup x=some c->∀v,s.heap.IsCell c v->s3.heap.IsCell c v/\H3 c=none:=λx c e v zz=>by
    obtain⟨o,z1,z2⟩:=zz;obtain⟨z3,z4⟩:=keep c o z1 (I.freeC x c e);obtain⟨sl,z5⟩:=I3.aD.any z3 z4 (by simp[F7]);exact⟨⟨_,z5,z2⟩,z4⟩
   refine⟨⟨_,_,_,_,ho3⟩,bJ7 (N:=NL) (vs:=vs) (t:=tRE X.K X.mg E3 F l) I3 hr.hd (by have :=hr.dp;show X.A.depth+1<_;omega) ho3 hrec3 (hbind _ _ _ _ _) ?_ LO.kind LO.co LO.gen LO.nocell
    (aj6 hF by0 (((hr.mono hkk).deeper _).deeper _) (cM3 k) hgl (hargs _ _ _ _ _ _ _) hn hdF (he _) (hpl _)) ⟨G,xs.map some,ys,r,E01.s,bZ3 rep,hys,hr1,by cases r<;>exact hm⟩ pass⟩
   refine⟨λx y c h1 h2=>I.ok.inj x y c (hsub _ _ h1) (hsub _ _ h2),λx hx=> ?_,λx c h=> ?_,λi x v e1 e2=> ?_,by rw[lv];exact LO.len.symm⟩
   .rcases hx with z|z
    .exact absurd rfl (LO.nocell _ (cO6 z))
    .exact hall x (cO6 z)
   .obtain⟨v,z⟩:=I.cell x c (hsub x c h);obtain⟨z1,z2⟩:=cellK x c (hsub x c h) v z;exact⟨⟨v,z1⟩,z2⟩
   .have hi:i<aC.length:=by rw[<-lv];exact al4 e2
    obtain⟨j1,j2,j3⟩:=LO.cap i aC[i] x (cI3 hi) e1;have hs:=hZ i aC[i] v (cI3 hi) e2;obtain⟨m,_,loc⟩:=I.loc;obtain⟨u,ru,lk⟩:=loc aC[i] x v j1 hs (.inr (.inl j2));refine⟨j3,?_⟩;rcases lk with⟨z,_⟩|⟨_,c,z1,z2⟩
    .rw[show X.env.kindOf x=X.env.scope.names.lookup x from rfl,j2]at z;cases z
    .obtain⟨c2,z3⟩:=hall x (cO6 j3);have z4:=hsub x c2 z3;rw[z1]at z4;cases z4;exact⟨c,u,z3,(cellK x c z1 _ z2).1,ru⟩
  .cases r with
   |val u=>
    cases ht;exact λv G' H' e rv=>q1 v G' H' (E01.trans e) rv
   |exc c0=>
    dsimp only at ht;split at ht
    case isFalse=>cases ht
    case isTrue hc0=>
    cases ht;intro G' H' e;obtain⟨D',m1,w1⟩:=hcls c0 hc0;exact⟨D',c0,by rw[aM4,m1];rfl,w1,G',e.s,λv G2 H2 e2 rv=>q1 v G2 H2 ((E01.trans e).trans e2) rv⟩
 .cases r with
  |error e=>exact False.elim hq
  |ok fl=>
   cases fl with
   |ret u=>exact I1.after hq
   |next=>exact False.elim hq
   |brk=>exact False.elim hq
   |cont=>exact False.elim hq⟩
end
structure bA3(K:cO5)(x qual:Str)(st:Stmt)(f:Addr)(fd:FuncData)(c:Addr):Prop where
 ex:∃(oc:Value) (od:Option Addr) (kV doc pm:Value) (an:Option Addr) (ct:Value) (osl:Array (Option Value)),
  fd=W.fnOf x qual (aC0 st) (N8 st) (r8 st) .none kV doc pm an (.ref c) ct/\K.lookup f=some ⟨oc,od,.func fd,osl⟩/\W.codeIn K (.ref c) qual=true
 kp:W.keepIn K (.ref f)=true
theorem bA3.toFun{K:cO5}{x qual:Str}{st:Stmt}{f:Addr}{fd:FuncData}{c:Addr}(F:bA3 K x qual st f fd c):Fun K x qual st f fd:=
 ⟨let⟨oc,od,kV,doc,pm,an,ct,osl,h1,h2,h3⟩:=F.ex;⟨oc,od,kV,doc,pm,an,.ref c,ct,osl,h1,h2,h3⟩,F.kp⟩
section
variable {K:cO5}
theorem cm9{x qual:Str}{st:Stmt}{f:Addr}{fd:FuncData}{c:Addr}{N ps:List Str}{k:Nat}{g:GS}(F:bA3 K x qual st f fd c)(S:O8 N ps (r8 st))(np:ps.length<=N.length)
  (hb:∀(A:Around) (aE:List Env) (s:Shared) (H:Hp) (E:XK),J9 k (A.deeper (envOfC qual (r8 st) s.sz f (.ref c)))->ap3 (F7 CX0 P w K mg aD N qual (r8 st) f (.ref c) A aE s H E).nox (N8 st) g):
  P9 P w K mg aD CX0 (k+1) f fd ps (spT K ps.length (A6 ps.length N.length g)):=by
 obtain⟨oc,od,kV,doc,pm,an,ct,osl,rfl,lk,hcd⟩:=F.ex;refine by8 lk hcd S (λvs H Q E h=> ?_) λA aE s H vs Q E hr h=> ?_
 .obtain⟨G,ts,t,sG,r,hl,_⟩:=h;rw[r.length,hl]
 .obtain⟨G,ts,t,sG,r,hl,hf,q⟩:=h;refine⟨_,(hb A aE s H E hr).nox,?_⟩;unfold A6 at hf;rw[cP2 hl]at hf;have hU:=af5 (N:=N) r (by omega);cases hg:g (o8 N.length ts)with
  |none=>rw[hg]at hf;cases hf
  |some o=>
   rw[hg]at hf;refine⟨G,_,o,sG,hU,hg,?_⟩;cases o with
   |nx U=>cases hf;exact λZ' G' H' e' _=>q .non G' H' e' (by simp[Rep])
   |ret t'=>cases hf;exact λv G' H' e' rv=>q v G' H' e' rv
   |bk U=>cases hf
   |ct U=>cases hf
end
noncomputable def ac9(b:Addr):Bool:=af3.any λp=>p.1==b
theorem ar2(h:ac9 b=true):∃p∈af3,p.1=b:=by
 unfold ac9 at h;obtain⟨p,h1,h2⟩:=List.any_eq_true.mp h;exact⟨p,h1,by simpa using h2⟩
theorem bH6(h:p∈af3):ac9 p.1=true:=List.any_eq_true.mpr ⟨p,h,by simp⟩
noncomputable def P0(Hs:Hp):Hp:=λb=>if ac9 b=true then some (.tbl #[])else Hs b
theorem bH9{P:Program}{w:World}{K:cO5}{mg mb:Str->Option Value}{k:Nat}{fa a:Addr}{fd:FuncData}{x:Str}{se:Shared}{vs:List Value}{ns:List Int}{FL:List T->Option T}
  (KX:K.In se.heap) (hns:se.heap.Ns mainGlobals mg) (hb:se.heap.Ns builtinsNs mb) (hbb:∀x:Str,x≠"__name__"->mb x=bootBuiltins x) (hlim:se.heap.NoLimit) (hg:se.gens=#[])
  (ha:se.heap.get? a=some {cls:=.type "list",data:=.seq vs.toArray}) (hi:IntsAre vs ns) (hl:ns.length<=sizeLine) (hr:J9 k callerA)
  (hT:∀p∈af3,se.heap.get? p.1=some (W.tabObj #[])) (hTc:∀p∈af3,∃c,W.CodeHd se.heap c p.1) (hnt:W.noTabs K=true)
  (hbm:∃bm ob,mg "__builtins__"=some (.ref bm)/\bm≠builtinsNs/\se.heap.get? bm=some ob/\ob.cls=.type "module"/\ob.dict=some builtinsNs/\ob.data=.plain)
  (F:∀aD:Heap,K.In aD->aD.Ns mainGlobals mg->BM mg aD->P9 P w K mg aD CX0 k fa fd [x] (spT K 1 FL)) (hbind:∀(s:Shared) (u:Value),BindsTo s fd ⟨[u],[]⟩ [(x,u)])
  (hF:FL [.scr ns]=some (.bl true)):
  codeAny (model P w) callerA (.call (.ref fa) ⟨[.ref a],[]⟩) (λr s'=>r=.ok (.ret (.bool true))/\OldK se.heap s'.heap/\s'.os=se.os/\AllBare s'.gens) se:=by
 have rv:=bb0 hi;have lenV:=hi.length;have aT:ac9 a=false:=by
  cases e:ac9 a with
  |false=>rfl
  |true=>
   obtain⟨p,h1,h2⟩:=ar2 e;have :=hT p h1;rw[h2,ha]at this;cases this
 have core:∀Hs:Hp,cy0 Hs->SqL K Hs a (ns.map V.int)->HOk P w Hs se.heap->(∀b,Hs b≠none->b=a)->(Hs a≠none->K.lookup a=none)->
   codeAny (model P w) callerA (.call (.ref fa) ⟨[.ref a],[]⟩) (λr s'=>r=.ok (.ret (.bool true))/\OldK se.heap s'.heap/\s'.os=se.os/\AllBare s'.gens) se:=by
  intro Hs hO hS hok hA hK;have notT:∀b,ac9 b=false->P0 Hs b=Hs b:=λb e=>by unfold P0;rw[e];rfl
  have isT:∀b,ac9 b=true->P0 Hs b=some (.tbl #[]):=λb e=>by unfold P0;rw[e];rfl
  have same:D6 Hs (P0 Hs):=λb o e=>by
   have eb:b=a:=hA b (by rw[e];simp);rw[notT b (by rw[eb];exact aT)];exact e
  have hokT:HOk P w (P0 Hs) se.heap:=λb o e=>by
   cases z:ac9 b with
   |true=>
    rw[isT b z]at e;cases e;obtain⟨p,h1,h2⟩:=ar2 z;have :=hT p h1;rw[h2]at this;exact this
   |false=>
    rw[notT b z]at e;exact(hok b o e).stay (λ_ _ _ q=>q) (λc q=>same c _ q) λc xs q=>same c _ q
  have plainN:∀{b:Addr}{o:Obj},se.heap.get? b=some o->(∀xs n,o.data≠.seq xs n)->(∀vs,o.data≠.fields vs)->P0 Hs b=none:=λ{b o} e d1 d2=>by
   cases z:ac9 b with
   |true=>
    obtain⟨p,h1,h2⟩:=ar2 z;have :=hT p h1;rw[h2,e]at this;cases this;exact absurd rfl (d2 _)
   |false=>
    rw[notT b z];cases q:Hs b with
    |none=>rfl
    |some u=>
     have e':b=a:=hA b (by rw[q];simp);subst e';rw[ha]at e;cases e;exact absurd rfl (d1 _ _)
  have nsK:∀{b:Addr}{m:Str->Option Value},se.heap.Ns b m->(aE4 se.heap (P0 Hs)).Ns b m:=λ{b m} ⟨o,es,ep,e,d,r⟩=>⟨o,es,ep,aR1 e (plainN e (λ_ _ z=>by rw[d]at z;cases z) λ_ z=>by rw[d]at z;cases z),d,r⟩
  have hKb:K.In (aE4 se.heap (P0 Hs)):=λb o e=>aR1 (KX b o e) (by
   cases z:ac9 b with
   |true=>
    obtain⟨p,h1,h2⟩:=ar2 z;have y:=hT p h1;rw[h2,KX b o e]at y;cases y;have y2:=List.all_eq_true.mp hnt (b,_) (W.mem_of_lookupK e);exact absurd (show false=true from y2) cD1
   |false=>
    rw[notT b z];cases q:Hs b with
    |none=>rfl
    |some u=>
     have e':b=a:=hA b (by rw[q];simp);subst e';rw[hK (by rw[q];simp)]at e;cases e)
  have hM:Mod K mg (aE4 se.heap (P0 Hs)):=⟨hKb,nsK hns,⟨mb,nsK hb,hbb⟩,let⟨mc,h1,h2⟩:=hlim;⟨mc,nsK h1,h2⟩⟩
  have hB:BM mg (aE4 se.heap (P0 Hs)):=by
   obtain⟨bm,ob,b1,b2,b3,b4,b5,b6⟩:=hbm;refine⟨bm,ob,b1,b2,λz=> ?_,aR1 b3 (plainN b3 (λ_ _ z=>by rw[b6]at z;cases z) λ_ z=>by rw[b6]at z;cases z),b4,b5,b6⟩;obtain⟨o,es,ep,e,d,_⟩:=hns;rw[<-z,b3]at e;cases e;rw[b6]at d;cases d
  have e0:ap5 P w K mg (aE4 se.heap (P0 Hs)) callerA [] se (P0 Hs):=⟨rfl,hM,λb o e=>cc2 e,Nat.le_of_eq (bI3 _ _),trivial,λb hb=>absurd (show b∈([]:List Addr)from hb) (by simp),hokT,.of_eq hg⟩
  have sub:Sub Hs (P0 Hs):=⟨same,λp hp=>⟨#[],isT _ (bH6 hp),trivial⟩,λb ps z=>by
   rcases hO b with y|⟨o,xs,y⟩
   .rw[y]at z;cases z
   .rw[y]at z;cases z⟩
  refine codeAny_mono ((F _ hKb (nsK hns) hB).run callerA [] se (P0 Hs) ⟨[.ref a],[]⟩ [.ref a] [.ref a] (λv _=>v=.bl true) E0 hr e0 (hbind se (.ref a)) (.cons rfl .nil) ⟨Hs,[.scr ns],.bl true,sub,j8.cons (by simp only[Rep];exact⟨a,rfl,hS⟩) j8.nil,rfl,hF,λv G' H' _ r=>by simpa[Rep]using r⟩) λr s' h=> ?_
  cases r with
  |error e=>exact False.elim h
  |ok fl=>
   cases fl with
   |next=>exact False.elim h
   |brk=>exact False.elim h
   |cont=>exact False.elim h
   |ret u=>
    obtain⟨v,H',os,bare,un,hok',r',q⟩:=h;have q':v=.bl true:=q;subst q';obtain rfl:u=Value.bool true:=r';have old:∀b o,se.heap.get? b=some o->ac9 b=false->s'.heap.get? b=some o:=λb o e z=>by
     cases q:P0 Hs b with
     |none=>exact un.keep b o e q (by intro z;exact absurd (show b∈([]:List Addr)from z) (by simp)) (by simp)
     |some u=>
      have q0:=q;rw[notT b z]at q0;rcases hO b with y|⟨ob,xs,y⟩
      .rw[q0]at y;cases y
      .have y2:=un.frzs b ob _ (by rw[notT b z];exact y);obtain⟨e1,_⟩:=hokT b _ (by rw[notT b z];exact y);obtain⟨e2,_⟩:=hok' b _ y2;rw[e]at e1;cases e1;exact e2
    have tb:∀b o,se.heap.get? b=some o->ac9 b=true->o=W.tabObj #[]/\(∃c,W.CodeHd se.heap c b)/\∃more,s'.heap.get? b=some (W.tabObj (#[]++more)):=λb o e z=>by
     obtain⟨p,h1,h2⟩:=ar2 z;have y:=hT p h1;rw[h2,e]at y;cases y;obtain⟨more,y2⟩:=un.tbls b _ (isT b z);exact⟨rfl,by rw[<-h2];exact hTc p h1,more,hok' b _ y2⟩
    refine⟨rfl,⟨λb o e=> ?_,λb o e=> ?_⟩,os,bare⟩
    .cases z:ac9 b with
     |false=>exact .inl (old b o e z)
     |true=>
      obtain⟨eo,⟨c,oc,cvs,file,tf,flags,tg,inF,text,tt,c1,c2,c3,c4,_⟩,more,y⟩:=tb b o e z;subst eo;exact .inr (.inl ⟨⟨c,oc,cvs,c1,c2,c3,c4⟩,rfl,#[],more,rfl,y⟩)
    .cases z:ac9 b with
     |false=>exact⟨o,old b o e z⟩
     |true=>
      obtain⟨_,_,more,y⟩:=tb b o e z;exact⟨_,y⟩
 cases hk:K.lookup a with
 |some o=>
  have e:=KX a o hk;rw[ha]at e;cases e;refine core (λ_=>none) (λ_=>.inl rfl) (.inr ⟨_,vs.toArray,_,hk,rfl,rfl,rfl,by rw[cL9,lenV];exact hl,by simpa using rv⟩) (λb u z=>by have z':(none:Option HO)=some u:=z;cases z') (λb z=>absurd rfl z) λz=>absurd rfl z
 |none=>
  refine core (λb=>if b=a then some (.frz {cls:=.type "list",data:=.seq vs.toArray} (.lst (ns.map V.int)))else none) (λb=> ?_) (.inl (.inr ⟨{cls:=.type "list",data:=.seq vs.toArray},cP2 rfl⟩)) (λb u z=> ?_) (λb z=> ?_) λ_=>hk
  .by_cases hb:b=a
   .exact .inr ⟨_,_,cP2 hb⟩
   .exact .inl (cP1 hb)
  .by_cases hb:b=a
   .have z':=(cP2 hb).symm.trans z;cases z';subst hb;exact⟨ha,by rw[cJ3];exact hl,vs,_,rv,ha⟩
   .have z':=(cP1 hb).symm.trans z;cases z'
  .by_cases hb:b=a
   .exact hb
   .exact absurd (cP1 hb) z
theorem cp2{l:W.OpenLaw}{n k:Nat}{q:Program}{loose:List Str}{XP:(Str->Option Value)->Heap->Prop}{YP:World->Heap->Prop}{d:DefRec}{K:Params->cO5}{x:Str}{FL:List T->Option T}
  (hn:l.most=some n) (hn2:n<=sizeLine) (hdf:d.params.defaults=[]) (hr:J9 k callerA)
  (hY:∀(w:World) (h:Heap),YP w h->(K w.params).In h)
  (F:∀(w:World) (mg:Str->Option Value) (fa:Addr) (h:Heap),(K w.params).In h->h.Ns mainGlobals mg->mg d.name=some (.ref fa)->YP w h->
   W.noTabs (K w.params)=true/\(∀p∈af3,h.get? p.1=some (W.tabObj #[]))/\(∀p∈af3,∃c,W.CodeHd h c p.1)/\∃fd:FuncData,(∀(s:Shared) (u:Value),BindsTo s fd ⟨[u],[]⟩ [(x,u)])/\
    ∀aD:Heap,(K w.params).In aD->aD.Ns mainGlobals mg->BM mg aD->P9 l.prog w (K w.params) mg aD CX0 k fa fd [x] (spT (K w.params) 1 FL))
  (hsp:∀ns:List Int,ns.length<=n->FL [.scr ns]=some (.bl true)):
  W.WalkO q loose XP YP l.row.toRowW d [] (λf vs=>PySem.call f vs):=by
 refine Att.attach_call hn hdf λw sd se mg mb fa o pm cd doc a vs ns G Y ho hd hcd hmg hobj hints hlen hg=> ?_
 have KX:=hY w _ Y;obtain⟨nt,hT,hTc,fd,hb,hF⟩:=F w mg fa _ KX G.T.g hmg Y;exact bH9 KX G.T.g G.T.b G.T.builtins G.T.nolimit hg hobj hints (cM5 hlen hn2) hr hT hTc nt G.T.bmain hF hb (hsp ns hlen)
def tXf(K:cO5)(g:L3.G):TE:=λZ H Q=>∃G U ts,Sub G H/\K5 K G Z U/\g U=some (.lst ts)/\∀a xs G' H',H a=none->G' a=none->Ext G H G' H'->H' a=some (.lst xs)->j8 K G' ts xs->Q (.ref a) H'
abbrev PXf(X:Cx)(e:Expr)(g:L3.G):Prop:=PE X e (tXf X.K g)
theorem cm7(h:gFr g U=some t):∃ts,g U=some (.lst ts)/\t=.lst ts:=by
 obtain⟨u,h1,h2⟩:=j5 h;cases u<;>first |(cases h2;done)|skip
 cases h2;exact⟨_,h1,rfl⟩
theorem aQ8{K:cO5}{it:GL}{is:List Nat}{st:St1}{gc:GB}{ge:L3.G}{nT:Nat}{aC:List Nat}(his:is.all (λi=>decide (i<nT))=true):
  ∀Z H Q,tXf K (l9 it nT aC st gc ge) Z H Q->tLC (tI K it) (tGt K is st) (tXB K gc) (tX K ge) nT aC Z H Q:=λZ H Q zz=>by
 obtain⟨G,U,t,sG,hU,hg,q⟩:=zz;obtain⟨ts,h1,hg⟩:=j5 hg;split at hg
 case isFalse=>cases hg
 case isTrue hlim=>
 obtain⟨rs,h2,hg⟩:=j5 hg;obtain rfl:rs=t:=by cases hg;rfl
 refine⟨G,U,ts,sG,hU,h1,λJ G' H' e1 wk a ha=> ?_⟩;have hGa:G' a=none:=e1.s.free ha;refine⟨λi m ys H1=>m=ts.length-i/\i<=ts.length/\ys.length<=i/\∃G1 r1 r2,D6 G' G1/\Sub G1 H1/\R8 H' H1/\(∀b,H' b≠none->G' b=none->G1 b=none)/\G1 a=none/\H1 a=some (.lst ys)/\j8 K G1 r1 ys/\
   Y4 (X7 nT aC U) st gc ge (ts.drop i)=some r2/\rs=r1++r2,⟨ts.length,by simp,cO2 _,cM3 _,G',[],rs,D6.refl _,?_,bf3 (K2 ha _),λ_ _ z=>z,hGa,t6,j8.nil,by simpa using h2,by simp⟩,?_⟩
 .exact⟨λb o z=>by rw[l8 (A9 z hGa)];exact e1.s b o z,e1.s.t.new ha,e1.s.n⟩
 rintro i m ys H1 ⟨rfl,hi,hyl,G1,r1,r2,s1,s2,s3,fr,g1a,h1a,rl,hgo,hrs⟩;have hU1:K5 K G1 (X4 nT aC Z) (X7 nT aC U):=(hU.cap nT aC).mono (e1.g.trans s1);by_cases hlt:i<ts.length
 .right;have ht:ts[i]?=some ts[i]:=cI3 hlt;obtain⟨go,yl⟩:=(wk i G1 H1 s1 s2).1 _ ht;refine⟨go,λx H2 hy=> ?_⟩;obtain⟨G2,e2,r2'⟩:=yl x H2 hy;rw[cH2 hlt]at hgo;obtain⟨U1,k1,hgo⟩:=j5 hgo;obtain⟨bq,k2,hgo⟩:=j5 hgo;refine⟨G2,X7 nT aC U,ts[i],U1,e2.s,hU1.mono e2.g,r2',k1,λZ2 hU2 hl2 hk2=>⟨⟨hl2,λj v ej=> ?_⟩,?_⟩⟩
  .by_cases hj:j∈is
   .exfalso;have hjn:j<nT:=by
     have :=List.all_eq_true.mp his j hj;simpa using this
    unfold X4 at ej;rw[cI1 (by simpa using hjn),cI7,cP2 hjn]at ej;cases ej
   .rw[hk2 j hj];exact ej
  .refine⟨G2,U1,bq,e2.s,hU2,k2,λG3 H3 e3=> ?_⟩;have E13:=e2.trans e3;cases bq with
   |true=>
    obtain⟨t1,k3,hgo⟩:=j5 hgo;obtain⟨r3,k4,hgo⟩:=j5 hgo;cases hgo;refine as2 ⟨G3,U1,t1,e3.s,hU2.mono e3.g,k3,λv G4 H4 e4 rv=> ?_⟩;have E14:=E13.trans e4;have h4a:H4 a=some (.lst ys):=E14.h.lst h1a;have g4a:G4 a=none:=E14.fr a (by rw[h1a];simp) g1a;refine⟨h4a,?_,ts.length-(i+1),by omega,rfl,hlt,by rw[cJ2,cJ7];omega,G4,r1++[t1],r3,s1.trans E14.g,?_,?_,?_,g4a,t6,(rl.mono E14.g).append (j8.cons rv j8.nil),k4,by rw[hrs];simp⟩
    .have :(lim:Nat)<sizeLine:=by decide
     omega
    .exact⟨λb o z=>by rw[l8 (A9 z g4a)];exact E14.s b o z,E14.s.t.lst h4a,E14.s.n⟩
    .exact(s3.trans E14.h).upd ha
    .intro b hb hgb;have h5:H1 b≠none:=s3.ne hb;exact E14.fr b h5 (fr b hb hgb)
   |false=>
    refine as3 ⟨ts.length-(i+1),by omega,rfl,hlt,by omega,G3,r1,r2,s1.trans E13.g,e3.s,s3.trans E13.h,?_,E13.fr a (by rw[h1a];simp) g1a,E13.h.lst h1a,rl.mono E13.g,hgo,hrs⟩;intro b hb hgb;have h5:H1 b≠none:=s3.ne hb;exact E13.fr b h5 (fr b hb hgb)
 .left;have ei:i=ts.length:=by omega
  subst ei;refine⟨(wk _ G1 H1 s1 s2).2 (cM3 _) (cM3 _),?_⟩;rw[cH3]at hgo;cases hgo;rw[cH0]at hrs;subst hrs;exact q a ys G1 H1 (e1.h.free ha) g1a (e1.trans ⟨s1,s2,s3,fr⟩) h1a rl
section
theorem bE3{elt target iter:Expr}{ifs:List Expr}{scope:Scope}{it:GL}{is:List Nat}{st:St1}{gc:GB}{ge:L3.G}{nT:Nat}{aC:List Nat}(hi:Wd (PXI X target iter it))(hg:∀{cl C sd Ho fp},Wd (PXG (K8 X scope cl C (cN X target aC) sd Ho fp) target is st))(hc:∀{cl C sd Ho fp},Wd (aA0 (K8 X scope cl C (cN X target aC) sd Ho fp) ifs gc))(he:∀{cl C sd Ho fp},Wd (PX (K8 X scope cl C (cN X target aC) sd Ho fp) elt ge))(hcalm:X.calm=true:=by rfl)(chk:ah6 X.env.scope X.N scope (cN X target aC) nT aC=true:=by rfl)(his:is.all (λi=>decide (i<nT))=true:=by rfl)(hs:NFo X iter:=by intro _;rfl):Wd (PXf X (.ListComp elt [⟨target,iter,ifs,0⟩] scope pos) (l9 it nT aC st gc ge)):=⟨have hi:=hi.run;have hg:=λx0 x1 x2 x3 x4=>(@hg x0 x1 x2 x3 x4).run;have hc:=λx0 x1 x2 x3 x4=>(@hc x0 x1 x2 x3 x4).run;have he:=λx0 x1 x2 x3 x4=>(@he x0 x1 x2 x3 x4).run;PE.imp (bV9 (g:=tGt X.K is st) (tc:=tXB X.K gc) (te:=tX X.K ge) _ nT aC hcalm chk hi hg hc he hs) (aQ8 his)⟩
theorem RO.add{K:cO5}{G0 H0 G H:Hp}{Z:L2.St}{U:A7}{i:Nat}{p:Addr}{xs:HO}{ts:T}(h:RO K G0 H0 aB G H Z U)(hi:i∉aB)(hl:i<Z.length)(h0:H0 p=none)(hg:G p=none)(hp:H p=some xs)(fresh:∀j∈aB,Z[j]?≠some (some (.ref p)))(r:ag8 K G ts xs):
  RO K G0 H0 (i::aB) G H (Z.set i (some (.ref p))) (U.set i (some ts)):=by
 have hlU:i<U.length:=by rw[<-h.len];exact hl
 refine⟨h.x,?_,λj hj=> ?_,λj hj k hk a h1 h2=> ?_⟩
 .rw[ay4,cL8,bc0];exact h.r.setN
 .rcases cA9 hj with e|hj
  .subst e;exact⟨p,xs,ts,cI9 hlU,cI9 hl,h0,hg,hp,r⟩
  .obtain⟨a,ys,us,h1,h2,h3⟩:=h.o j hj;have hne:i≠j:=λz=>hi (by rw[z];exact hj)
   exact⟨a,ys,us,by rw[cI8 hne];exact h1,by rw[cI8 hne];exact h2,h3⟩
 .rcases cA9 hj with e|hj'<;>rcases cA9 hk with e'|hk'
  .rw[e,e']
  .subst e;rw[cI9 hl]at h1;cases h1;rw[cI8 λz=>hi (by rw[z];exact hk')]at h2;exact absurd h2 (fresh k hk')
  .subst e';rw[cI9 hl]at h2;cases h2;rw[cI8 λz=>hi (by rw[z];exact hj')]at h1;exact absurd h1 (fresh j hj')
  .rw[cI8 λz=>hi (by rw[z];exact hj')]at h1;rw[cI8 λz=>hi (by rw[z];exact hk')]at h2;exact h.d j hj' k hk' a h1 h2
theorem RO.other{K:cO5}{G0 H0 G H:Hp}{Z:L2.St}{U:A7}{p:Addr}(h:RO K G0 H0 aB G H Z U)(hp:H p=none):∀j∈aB,Z[j]?≠some (some (.ref p)):=λj hj z=>by
 obtain⟨a,ys,us,h1,h2,h3,h4,h5,h6⟩:=h.o j hj;rw[z]at h2;cases h2;rw[hp]at h5;cases h5
theorem bb6{elt target iter:Expr}{ifs:List Expr}{scope:Scope}{it:GL}{is:List Nat}{st:St1}{gc:GB}{ge:L3.G}{x:Str}{pos' spos:Pos}(i:Nat){nT:Nat}{aC:List Nat}(hi:Wd (PXI X target iter it))(hg:∀{cl C sd Ho fp},Wd (PXG (K8 X scope cl C (cN X target aC) sd Ho fp) target is st))(hc:∀{cl C sd Ho fp},Wd (aA0 (K8 X scope cl C (cN X target aC) sd Ho fp) ifs gc))(he:∀{cl C sd Ho fp},Wd (PX (K8 X scope cl C (cN X target aC) sd Ho fp) elt ge))(hN:ai0 X.N=true:=by rfl)(hcalm:X.calm=true:=by rfl)(chk:ah6 X.env.scope X.N scope (cN X target aC) nT aC=true:=by rfl)(his:is.all (λi=>decide (i<nT))=true:=by rfl)(hm:i∉aB:=by decide)(hx:X.N[i]?=some x:=by rfl)(hl:X.env.scope.names.lookup x=some .local:=by rfl)(hsw:swapsWith (.ListComp elt [⟨target,iter,ifs,0⟩] scope pos) (some (.Name x pos')) spos.line X.env=pure true:=by rfl)(hs:NFo X iter:=by intro _;rfl):PXO X aB (i::aB) (.Assign [.Name x pos'] (.ListComp elt [⟨target,iter,ifs,0⟩] scope pos) spos) (u7 i (gFr (gM aB (l9 it nT aC st gc ge)))):=have hN:=O6 hN;have hi:=hi.run;have hg:=λx0 x1 x2 x3 x4=>(@hg x0 x1 x2 x3 x4).run;have hc:=λx0 x1 x2 x3 x4=>(@hc x0 x1 x2 x3 x4).run;have he:=λx0 x1 x2 x3 x4=>(@he x0 x1 x2 x3 x4).run;⟨aT6,λG0 H0 aA s Z H D I zz=>by
 obtain⟨G,U,o,R,hgo,q⟩:=zz;obtain⟨t,k1,hgo⟩:=j5 hgo;cases hgo;obtain⟨ts,k2,rfl⟩:=cm7 k1;refine aq8 (g:=tGt X.K is st) (tc:=tXB X.K gc) (te:=tX X.K ge) (i:=i) _ nT aC hcalm chk hi hg hc he hN hx hl hsw hs aA s Z H D I (aQ8 his Z H _ ⟨G,C7 aB U,ts,R.x.s,R.r,k2,λp xs G1 H1 hp gp e1 h1 r1=> ?_⟩);exact q _ G1 H1 e1.g ((R.step e1).add hm (by rw[I.len];exact al4 hx) (R.x.h.free hp) gp h1 (R.other hp) (.lst r1))⟩
theorem bE6{elt target iter:Expr}{ifs:List Expr}{scope:Scope}{it:GL}{is:List Nat}{st:St1}{gc:GB}{ge:L3.G}{x:Str}{pos' spos:Pos}(i:Nat){nT:Nat}{aC:List Nat}(hi:Wd (PXI X target iter it))(hg:∀{cl C sd Ho fp},Wd (PXG (K8 X scope cl C (cN X target aC) sd Ho fp) target is st))(hc:∀{cl C sd Ho fp},Wd (aA0 (K8 X scope cl C (cN X target aC) sd Ho fp) ifs gc))(he:∀{cl C sd Ho fp},Wd (PX (K8 X scope cl C (cN X target aC) sd Ho fp) elt ge))(hN:ai0 X.N=true:=by rfl)(hcalm:X.calm=true:=by rfl)(chk:ah6 X.env.scope X.N scope (cN X target aC) nT aC=true:=by rfl)(his:is.all (λi=>decide (i<nT))=true:=by rfl)(hm:i∉aB:=by decide)(hx:X.N[i]?=some x:=by rfl)(hl:X.env.scope.names.lookup x=some .local:=by rfl)(hsw:swapsWith (.ListComp elt [⟨target,iter,ifs,0⟩] scope pos) (some (.Name x pos')) spos.line X.env=pure true:=by rfl)(hs:NFo X iter:=by intro _;rfl):PXO X aB aB (.Assign [.Name x pos'] (.ListComp elt [⟨target,iter,ifs,0⟩] scope pos) spos) (u7 i (gM aB (l9 it nT aC st gc ge))):=have hN:=O6 hN;have hi:=hi.run;have hg:=λx0 x1 x2 x3 x4=>(@hg x0 x1 x2 x3 x4).run;have hc:=λx0 x1 x2 x3 x4=>(@hc x0 x1 x2 x3 x4).run;have he:=λx0 x1 x2 x3 x4=>(@he x0 x1 x2 x3 x4).run;⟨aT6,λG0 H0 aA s Z H D I zz=>by
 obtain⟨G,U,o,R,hgo,q⟩:=zz;obtain⟨t,k1,hgo⟩:=j5 hgo;cases hgo;exact aq8 (g:=tGt X.K is st) (tc:=tXB X.K gc) (te:=tX X.K ge) (i:=i) _ nT aC hcalm chk hi hg hc he hN hx hl hsw hs aA s Z H D I (aB5 his Z H _ ⟨G,C7 aB U,t,R.x.s,R.r,k1,λv G1 H1 e1 r1=>q _ G1 H1 e1.g ((R.step e1).set hm r1)⟩)⟩
end
section
variable {X:Cx}{a b e c:Expr}{pos:Pos}{aB aB':List Nat}
theorem RO.unown{K:cO5}{G0 H0 G H:Hp}{Z:L2.St}{U:A7}{i:Nat}(h:RO K G0 H0 aB G H Z U)(hi:i∈aB)(ho:aB.filter (· !=i)=aB'):∃G',D6 G G'/\RO K G0 H0 aB' G' H Z U:=by
 obtain⟨G',_,_,_,s,R,_⟩:=h.freeze hi;subst ho;exact⟨G',s,R⟩
end
def del(H:Hp)(a:Addr):Hp:=λb=>if b=a then none else H b
theorem am0(h:b≠a):del H a b=H b:=cP1 h
theorem bm8:del H a a=none:=cP2 rfl
section
variable {X:Cx}{a b e c:Expr}{pos:Pos}{aB aB':List Nat}
end
section
variable {P:Program}{w:World}{K:cO5}{mg:Str->Option Value}{aD:Heap}
end
section
variable {P:Program}{w:World}{K:cO5}{mg:Str->Option Value}{aD:Heap}
end
theorem bD0(n d:Nat)(o:Option Int):HT.sIx n d o=aP3 n d o:=by cases o<;>rfl
theorem bO2{K:cO5}{G:Hp}{ts:List T}{xs:List V}(r:j8 K G ts xs)(l h:Option Int):j8 K G (Z4 ts l h) (as5 xs l h):=by
 unfold as5 Z4;rw[bD0,bD0,r.length];exact(r.drop _).take _
def PXP(X:Cx):Option Expr->Option L3.G->Prop
 |none,none=>True
 |some e,some g=>PX X e g
 |_,_=>False
def tPt(K:cO5)(g:Option L3.G):TO:=λZ H Q=>∃G U o,Sub G H/\K5 K G Z U/\gPt g U=some o/\∀G' H',Ext G H G' H'->Q o H'
section
theorem bV8{e:Option Expr}{g:Option L3.G}(h:PXP X e g):PO X e (tPt X.K g):=by
 intro aA s Z H Q I ⟨G,U,o,sG,hU,hg,q⟩
 match e,g,h,hg with
 |none,none,_,hg=>
  cases hg;exact bs3 aA s Z H Q I (q G H (Ext.refl sG))
 |some e,some g,h,hg=>
  obtain⟨t,k1,hg⟩:=j5 hg;obtain⟨i,k2,hg⟩:=j5 hg;cases hg;have h:PX X e g:=h;refine bs2 h aA s Z H Q I ⟨G,U,t,sG,hU,k1,λv G1 H1 e1 r1=> ?_⟩;cases t<;>first |(cases k2;done)|skip
  cases k2;simp only[Rep]at r1;exact⟨_,r1,q G1 H1 e1⟩
theorem bw9{lo hi:Option Expr}{p2:Pos}{ga:L3.G}{gl gh:Option L3.G}(ha:PX X a ga)(hl:PXP X lo gl)(hh:PXP X hi gh):PX X (.Subscript a (.Slice lo hi none p2) pos) (gSl ga gl gh):=
 PE.imp (bk1 bq8 ha (bV8 hl) (bV8 hh)) λZ H Q zz=>by
  obtain⟨G,U,t,sG,hU,hg,q⟩:=zz;obtain⟨x,k1,hg⟩:=j5 hg;obtain⟨l,k2,hg⟩:=j5 hg;obtain⟨h,k3,hg⟩:=j5 hg;refine⟨G,U,x,sG,hU,k1,λv G1 H1 e1 r1=>⟨G1,U,l,e1.s,hU.mono e1.g,k2,λG2 H2 e2=>⟨G2,U,h,e2.s,hU.mono (e1.g.trans e2.g),k3,λG3 H3 e3=> ?_⟩⟩⟩;cases x<;>first |(cases hg;done)|skip
  cases hg;simp only[Rep]at r1;obtain⟨p,xs,m1,m2,m3⟩:=r1;have E:=e2.trans e3;refine⟨p,xs,m1,SqL.of (E.s _ _ (E.g _ _ m2)),λp' hp=>q _ _ _ ((e1.trans E).trans (Ext.new E.s hp _)) ?_⟩;simp only[Rep];refine⟨p',_,rfl,t6,?_⟩;exact bO2 ((m3.mono E.g).mono (K2 (E.s.free hp) (HO.lst (as5 xs l h)))) l h
theorem cl2:NB (az2 i g):=aT7 λU o e=>by
 obtain⟨t,_,e⟩:=j5 e;split at e
 .split at e
  .cases e;exact⟨_,rfl⟩
  .cases e
 .cases e
theorem aP8(i:Nat)(he:Wd (PX X e g))(hm:i∈aB:=by decide)(hi:X.N[i]?=some x:=by rfl)(hv:Vis X.env.scope x:=by first |exact .inl rfl|exact .inr (.inl rfl)|exact .inr (.inr rfl))(hd:NoD x:=by decide)(hcd:(x==("__classdict__":Str))=false:=by decide)(hbase:attributeBase (.Name x p) "extend" X.env (eval (.Name x p) X.env)=eval (.Name x p) X.env:=by rfl)(hfew:((backTo cpos (starEach [e] X.env)).all (λx=> !x.1)&&(backToKw cpos (keywordEach [] X.env)).all (λx=>x.1.isSome)
   &&decide ([e].length+([]:List Keyword).length+(if([]:List Keyword).isEmpty then 0 else 1)<30))=true:=by rfl) (hline:(apos.endLine==cpos.line)=true:=by rfl) (hs:StE X e []:=by rfl) (hplain:Bks X cpos []:=by rfl) (hsw:swapsWith (.Call (.Attribute (.Name x p) "extend" apos) [e] [] cpos) none pos.line X.env=pure false:=by rfl):PXO X aB aB (.Expr (.Call (.Attribute (.Name x p) "extend" apos) [e] [] cpos) pos) (az2 i (gM aB g)):=have he:=he.run;⟨cl2,λG0 H0 aA s Z H D I zz=>by
 obtain⟨G,U,o,R,hg,q⟩:=zz;obtain⟨t,k1,hg⟩:=j5 hg;cases hq:(U[i]?).join with
 |none=>rw[hq]at hg;cases hg
 |some tl=>
  rw[hq]at hg
  match tl,t,hq,k1,hg with
  |.lst ts,.lst us,hq,k1,hg=>
   dsimp only at hg;split at hg
   case isFalse=>cases hg
   case isTrue hlen=>
   cases hg;obtain⟨a,xs,h1,h2,h3⟩:=au8 R hm hq;refine ao2 (bf8 PySem.F.plainAttrs_list PySem.F.slot_list_extend PySem.F.type_list_extend bH4 (aq9 hi hv hd hcd) (T0 he ab3 hs) hbase hfew hline hs hplain) hsw aA s Z H D I ⟨.ref a,h1,.inl ⟨rfl,xs,SqL.of h2⟩,G,C7 aB U,.lst us,R.x.s,R.r,k1,λv G1 H1 e1 r1=> ?_⟩;have R1:=R.step e1;obtain⟨a',xs',h1',h2',h3'⟩:=au8 R1 hm hq;rw[h1]at h1';cases h1';simp only[Rep]at r1;obtain⟨p',zs,m1,m2,m3⟩:=r1;subst m1;refine⟨a,p',xs',zs,rfl,rfl,h2',e1.s _ _ m2,?_,?_⟩
   .rw[h3'.length,m3.length];exact cM5 hlen (by decide)
   .exact q Z G1 _ e1.g (R1.put hm h1 (h3'.append m3))⟩
end
section
variable {K:cO5}{G:Hp}
theorem bk6{f:Str}{t:T}{fl:List (Str×V)}:∀{fs:List Str}{ts:List T}{xs:List V},fs.map (λf=>fl.lookup f)=xs.map some->j8 K G ts xs->aQ2 f fs ts=some t->f∈fs/\∃x,fl.lookup f=some x/\Rep K G t x
 |[],_,_,_,_,h=>by simp[aQ2]at h
 |k::ks,[],_,_,_,h=>by simp[aQ2]at h
 |k::ks,u::ts,xs,hl,r,h=>by
  simp only[j8]at r;obtain⟨x,q,e,r1,r2⟩:=r;subst e;rw[cB4,cB4,List.cons.injEq]at hl;by_cases hk:f=k
  .subst hk;simp only[aQ2,if_true]at h;cases h;exact⟨cK7,x,hl.1,r1⟩
  .simp only[aQ2,cP1 hk]at h;obtain⟨m,y,h1,h2⟩:=bk6 hl.2 r2 h;exact⟨cK6 _ m,y,h1,h2⟩
end
section
theorem M8(h:Wd (PX X e g))(hb:attributeBase e f X.env (eval e X.env)=eval e X.env:=by rfl):Wd (PX X (.Attribute e f pos) (g1 (J6 f) g)):=⟨have h:=h.run;PE.imp (bk2 h hb) λZ H Q zz=>by
  obtain⟨G,U,t,sG,hU,hg,q⟩:=zz;obtain⟨x,k1,hg⟩:=j5 hg;refine⟨G,U,x,sG,hU,k1,λv G1 H1 e1 r1=> ?_⟩;cases x<;>first |(cases hg;done)|skip
  simp only[Rep]at r1;obtain⟨a,C,dx,fl,xs,m1,m2,m3,⟨c,n⟩,m4⟩:=r1;obtain⟨m,y,h1,h2⟩:=bk6 m3 m4 hg;exact⟨a,C,dx,_,y,m1,e1.s _ _ m2,c,n f m,h1,q y G1 H1 e1 h2⟩⟩
end
def ai2(o:HO):Prop:=(∀ps,o≠.tbl ps)/\∀c q,o≠ad1 c q
theorem aH8:ai2 (.lst xs):=⟨λ_ z=>HO.noConfusion z,λ_ _ z=>HO.noConfusion z⟩
theorem ac4:ai2 (.ins C d fs):=⟨λ_ z=>HO.noConfusion z,λ_ _ z=>HO.noConfusion z⟩
theorem ai2.no(h:ai2 o):ah3 o=true:=by
 cases o<;>first |rfl|exact absurd rfl (h.1 _)
def del2(H:Hp)(a b:Addr):Hp:=λc=>if c=a\/c=b then none else H c
section
variable {H H1 G G1:Hp}
theorem R5(h1:c≠a)(h2:c≠b):del2 H a b c=H c:=cP1 λz=>z.elim h1 h2
theorem V7(h:del2 H a b c=some o):c≠a/\c≠b/\H c=some o:=by
 unfold del2 at h;split at h
 .cases h
 .rename_i z;exact⟨λe=>z (.inl e),λe=>z (.inr e),h⟩
theorem Tbs.del2(h:Tbs H)(n:H a=some o)(p:ai2 o)(n':H b=some o')(p':ai2 o'):Tbs (L3.del2 H a b):=λt ht=>by
 obtain⟨ps,e,r⟩:=h t ht;have n1:t.1≠a:=λz=>by rw[z,n]at e;cases e;exact p.1 _ rfl
 have n2:t.1≠b:=λz=>by rw[z,n']at e;cases e;exact p'.1 _ rfl
 refine⟨ps,by rw[R5 n1 n2];exact e,r.mono λc hc=> ?_⟩;rw[R5 (λz=>by rw[z,n]at hc;cases hc;exact p.2 _ _ rfl) (λz=>by rw[z,n']at hc;cases hc;exact p'.2 _ _ rfl)];exact hc
theorem Ext.del2(e:Ext G H G1 H1)(n:H a=some o)(p:ai2 o)(n':H b=some o')(p':ai2 o')(ga:G a=none)(gb:G b=none):
  Ext G (L3.del2 H a b) G1 (L3.del2 H1 a b)/\G1 a=none/\G1 b=none/\H1 a=some o/\H1 b=some o':=by
 have g1a:G1 a=none:=e.fr a (by rw[n];simp) ga;have g1b:G1 b=none:=e.fr b (by rw[n'];simp) gb;have h1a:=e.h.yes n p.no;have h1b:=e.h.yes n' p'.no;refine⟨⟨e.g,⟨λc u z=> ?_,e.s.t.del2 h1a p h1b p',e.s.n⟩,λc u z=> ?_,λc hc hg=> ?_⟩,g1a,g1b,h1a,h1b⟩
 .rw[R5 (λy=>by rw[y,g1a]at z;cases z) (λy=>by rw[y,g1b]at z;cases z)];exact e.s c u z
 .obtain⟨c1,c2,z⟩:=V7 z;rw[R5 c1 c2];exact e.h c u z
 .refine e.fr c (λz=>hc ?_) hg;unfold L3.del2;split
  .rfl
  .exact z
end
structure BdH(K:cO5)(G H:Hp)(C a d b:Addr)(t:T):Prop where
 ex:∃q rows os u p xs ys,t=bdT q rows os u/\H a=some (.ins C d [("sought",.int q),("rows",.ref p),("owners",.ref b),("under",.int u)])/\G p=some (.lst xs)/\j8 K G rows xs/\H b=some (.lst ys)/\j8 K G os ys
 ga:G a=none
 gb:G b=none
 ab:a≠b
 cl:Cls K C
 na:∀f∈fsB,O9 K C f
section
variable {K:cO5}{G H G1 H1 G0 H0:Hp}
theorem BdH.step(B:BdH K G H C a d b t)(e:Ext G H G1 H1):BdH K G1 H1 C a d b t/\Ext G (L3.del2 H a b) G1 (L3.del2 H1 a b):=by
 obtain⟨q,rows,os,u,p,xs,ys,h1,h2,h3,h4,h5,h6⟩:=B.ex;obtain⟨x,g1a,g1b,h1a,h1b⟩:=e.del2 h2 ac4 h5 aH8 B.ga B.gb;exact⟨⟨⟨q,rows,os,u,p,xs,ys,h1,h1a,e.g _ _ h3,h4.mono e.g,h1b,h6.mono e.g⟩,g1a,g1b,B.ab,B.cl,B.na⟩,x⟩
def aa4(G H:Hp)(a b:Addr):Hp:=λc=>if c=a\/c=b then H c else G c
theorem BdH.same(B:BdH K G H C a d b t):D6 G (aa4 G H a b):=λc o z=>by
 unfold aa4;rw[cP1 λy=>by
  rcases y with y|y
  .rw[y,B.ga]at z;cases z
  .rw[y,B.gb]at z;cases z]
 exact z
theorem BdH.rep(B:BdH K G H C a d b t):Rep K (aa4 G H a b) t (.ref a):=by
 obtain⟨q,rows,os,u,p,xs,ys,rfl,h2,h3,h4,h5,h6⟩:=B.ex;have s:=B.same;unfold bdT;simp only[Rep];refine⟨a,C,d,[("sought",.int q),("rows",.ref p),("owners",.ref b),("under",.int u)],[.int q,.ref p,.ref b,.int u],rfl,?_,rfl,⟨B.cl,B.na⟩,j8.cons (by simp[Rep]) (j8.cons ?_ (j8.cons ?_ (j8.cons (by simp[Rep]) j8.nil)))⟩
 .show aa4 G H a b a=_;unfold aa4;rw[cP2 (.inl rfl)];exact h2
 .simp only[Rep];exact⟨p,xs,rfl,s _ _ h3,h4.mono s⟩
 .simp only[Rep];exact⟨b,ys,rfl,by unfold aa4;rw[cP2 (.inr rfl)];exact h5,h6.mono s⟩
theorem BdH.sub(B:BdH K G H C a d b t)(sG:D6 G H)(tb:Tbs H)(nt:∀c ps,G c≠some (.tbl ps)):Sub (aa4 G H a b) H:=by
 obtain⟨q,rows,os,u,p,xs,ys,_,h2,_,_,h5,_⟩:=B.ex;refine⟨λc o z=> ?_,tb,λc ps z=> ?_⟩
 .unfold aa4 at z;split at z
  .exact z
  .exact sG c o z
 .unfold aa4 at z;split at z
  .rename_i y;rcases y with y|y
   .rw[y,h2]at z;cases z
   .rw[y,h5]at z;cases z
  .exact nt c ps z
mutual
theorem Rep.delB(ha:G a=some o)(hs:∀zs,o≠.tup zs/\∀u,o≠.frz u (.tup zs))(hb:G b=some (.lst ys)):∀{t:T}{v:V},al9 t=true->Rep K G t v->Rep K (L3.del2 G a b) t v
 |.non,_,_,h=>by simpa[Rep]using h
 |.bl _,_,_,h=>by simpa[Rep]using h
 |.int _,_,_,h=>by simpa[Rep]using h
 |.str _,_,_,h=>by simpa[Rep]using h
 |.ref _,_,_,h=>by simpa[Rep]using h
 |.lst _,_,hf,_=>by simp[al9]at hf
 |.scr _,_,hf,_=>by simp[al9]at hf
 |.obj _ _,_,hf,_=>by simp[al9]at hf
 |.tup ts,_,hf,h=>by
  simp only[Rep]at h⊢;simp only[al9]at hf;obtain⟨c,xs,h1,h2,h3⟩:=h;refine⟨c,xs,h1,?_,j8.delB ha hs hb hf h3⟩;rcases h2 with(h2|⟨u,h2⟩)|h2
  .refine .inl (.inl ?_);rw[R5 (λz=>by rw[z,ha]at h2;cases h2;exact(hs _).1 rfl) (λz=>by rw[z,hb]at h2;cases h2)];exact h2
  .refine .inl (.inr ⟨u,?_⟩);rw[R5 (λz=>by rw[z,ha]at h2;cases h2;exact(hs _).2 _ rfl) (λz=>by rw[z,hb]at h2;cases h2)];exact h2
  .exact .inr h2
theorem j8.delB(ha:G a=some o)(hs:∀zs,o≠.tup zs/\∀u,o≠.frz u (.tup zs))(hb:G b=some (.lst ys)):∀{ts:List T}{xs:List V},aE8 ts=true->j8 K G ts xs->j8 K (L3.del2 G a b) ts xs
 |[],_,_,h=>by simpa[j8]using h
 |t::ts,_,hf,h=>by
  simp only[j8]at h⊢;simp only[aE8,cC7]at hf;obtain⟨x,r,h1,h2,h3⟩:=h;exact⟨x,r,h1,Rep.delB ha hs hb hf.1 h2,j8.delB ha hs hb hf.2 h3⟩
end
end
structure RB(K:cO5)(G0 H0:Hp)(i:Nat)(C a d b:Addr)(G H:Hp)(Z:L2.St)(U:A7):Prop where
 x:Ext G0 (L3.del2 H0 a b) G (L3.del2 H a b)
 tb:Tbs H
 r:K5 K G Z (C7 [i] U)
 v:Z[i]?=some (some (.ref a))
 B:∃t,U[i]?=some (some t)/\BdH K G H C a d b t
section
variable {K:cO5}{G H G1 H1 G0 H0:Hp}
theorem RB.subG(R:RB K G0 H0 i C a d b G H Z U):D6 G H:=λc o z=>(V7 (R.x.s c o z)).2.2
theorem RB.set{j:Nat}{v:V}{t:T}(R:RB K G0 H0 i C a d b G H Z U)(hj:j≠i)(r:Rep K G t v):RB K G0 H0 i C a d b G H (Z.set j (some v)) (U.set j (some t)):=by
 obtain⟨t0,e,B⟩:=R.B;exact⟨R.x,R.tb,by rw[ao6 _ _ _ _ (by simpa using hj)];exact R.r.set r,by rw[cI8 hj];exact R.v,t0,by rw[cI8 hj];exact e,B⟩
theorem RB.step(R:RB K G0 H0 i C a d b G H Z U)(e:Ext G H G1 H1):RB K G0 H0 i C a d b G1 H1 Z U:=by
 obtain⟨t0,e0,B⟩:=R.B;obtain⟨B1,x1⟩:=B.step e;exact⟨R.x.trans x1,e.s.t,R.r.mono e.g,R.v,t0,e0,B1⟩
theorem RB.peek(R:RB K G0 H0 i C a d b G H Z U):∃Gp,Sub Gp H/\K5 K Gp Z U/\∀G1 H1,Ext Gp H G1 H1->∃G2,D6 G G2/\RB K G0 H0 i C a d b G2 H1 Z U/\∀t v,al9 t=true->Rep K G1 t v->Rep K G2 t v:=by
 obtain⟨t0,e0,B⟩:=R.B;have sG:=B.same;refine⟨aa4 G H a b,B.sub R.subG R.tb R.x.s.n,⟨by rw[R.r.1,ag3],λj t z=> ?_⟩,λG1 H1 e=> ?_⟩
 .by_cases hj:j=i
  .subst hj;rw[e0]at z;cases z;exact⟨.ref a,R.v,B.rep⟩
  .obtain⟨v,k1,k2⟩:=R.r.2 j t (ao9 _ _ _ _ z (by simpa using hj));exact⟨v,k1,k2.mono sG⟩
 .obtain⟨q,rows,os,u,p,xs,ys,h1,h2,h3,h4,h5,h6⟩:=B.ex;have ga:G1 a=some _:=e.g a _ (by unfold aa4;rw[cP2 (.inl rfl)];exact h2);have gb:G1 b=some _:=e.g b _ (by unfold aa4;rw[cP2 (.inr rfl)];exact h5);have s2:D6 G (L3.del2 G1 a b):=λc o z=>by
   rw[R5 (λy=>by rw[y,B.ga]at z;cases z) (λy=>by rw[y,B.gb]at z;cases z)];exact e.g c o (sG c o z)
  have x2:Ext G H (L3.del2 G1 a b) H1:=by
   refine⟨s2,⟨λc o z=>e.s c o (V7 z).2.2,e.s.t,λc ps z=>e.s.n c ps (V7 z).2.2⟩,e.h,λc hc hg=> ?_⟩;unfold L3.del2;split
   .rfl
   .rename_i y;refine e.fr c hc ?_;unfold aa4;rw[cP1 y];exact hg
  exact⟨_,s2,R.step x2,λt v hf r=>Rep.delB ga (λzs=>⟨(λz=>HO.noConfusion z),λu z=>HO.noConfusion z⟩) gb hf r⟩
end
def bg9(K:cO5)(G0 H0:Hp)(i:Nat)(C a d b:Addr)(G:Hp)(D:an0):Out->Prop
 |.nx U=>∀Z' G' H',D6 G G'->RB K G0 H0 i C a d b G' H' Z' U->D.nx Z' H'
 |_=>False
theorem bg9.mono{K:cO5}{G0 H0 G G1:Hp}{i:Nat}{C a d b:Addr}{D:an0}{o:Out}(s:D6 G G1)(h:bg9 K G0 H0 i C a d b G D o):bg9 K G0 H0 i C a d b G1 D o:=by
 cases o with
 |nx U=>exact λZ' G' H' s' R=>h Z' G' H' (s.trans s') R
 |_=>exact h
def tXD(K:cO5)(G0 H0:Hp)(i:Nat)(C a d b:Addr)(g:GS):TS:=λD Z H=>∃G U o,RB K G0 H0 i C a d b G H Z U/\g U=some o/\bg9 K G0 H0 i C a d b G D o
def NX(g:GS):Prop:=∀U o,g U=some o->∃U',o=.nx U'
structure PXD(X:Cx)(i:Nat)(C:Addr)(st:Stmt)(g:GS):Prop where
 nx:NX g
 ps:∀G0 H0 a d b,PS X st (tXD X.K G0 H0 i C a d b g)
structure aG1(X:Cx)(i:Nat)(C:Addr)(st:List Stmt)(g:GS):Prop where
 nx:NX g
 ps:∀G0 H0 a d b,PSs X st (tXD X.K G0 H0 i C a d b g)
def spB(K:cO5)(C:Addr)(n:Nat)(F:List T->Option T):Sp:=λvs H Q _=>∃G ts t t' a d b vs0,vs=V.ref a::vs0/\Sub G (L3.del2 H a b)/\Tbs H/\BdH K G H C a d b t/\j8 K G ts vs0/\ts.length+1=n/\F (t::ts)=some t'/\
 ∀G' H',Ext G (L3.del2 H a b) G' (L3.del2 H' a b)->Tbs H'->BdH K G' H' C a d b t'->Q .non H'
theorem bG8:NX (u7 i g):=λU o e=>by
 obtain⟨t,_,e⟩:=j5 e;cases e;exact⟨_,rfl⟩
theorem ck3{i:Nat}{F:List T->Option T}{g1 g2:L3.G}:NX (aX7 i F g1 g2):=λU o e=>by
 obtain⟨x,_,e⟩:=j5 e;obtain⟨y,_,e⟩:=j5 e;obtain⟨t,_,e⟩:=j5 e;obtain⟨t',_,e⟩:=j5 e;cases e;exact⟨_,rfl⟩
theorem ck2{g1 g2:GS}(h1:NX g1)(h2:NX g2):NX (n9 g1 g2):=λU o e=>by
 obtain⟨o1,k1,e⟩:=j5 e;obtain⟨U1,rfl⟩:=h1 _ _ k1;exact h2 _ _ e
theorem bk7(hb:NX b):∀n,NX (N2 c b n)
 |0=>λU o e=>by cases e
 |n+1=>λU o e=>by
  obtain⟨k,_,e⟩:=j5 e;cases k with
  |false=>cases e;exact⟨_,rfl⟩
  |true=>
   obtain⟨o1,k1,e⟩:=j5 e;obtain⟨U1,rfl⟩:=hb _ _ k1;exact bk7 hb n _ _ e
section
variable {K:cO5}{G H G1 H1 G0 H0:Hp}
theorem RB.put(R:RB K G0 H0 i C a d b G H Z U)(x:Ext G (L3.del2 H a b) G1 (L3.del2 H1 a b))(tb:Tbs H1)(B:BdH K G1 H1 C a d b t):RB K G0 H0 i C a d b G1 H1 Z (U.set i (some t)):=by
 obtain⟨t0,e0,_⟩:=R.B;refine⟨R.x.trans x,tb,?_,R.v,t,cI9 (al4 e0),B⟩;rw[ay4,cL8,<-ay4];exact R.r.mono x.g
end
section
variable {st:Stmt}
theorem aj8{g1 g2:GS}(h1:PXD X i C st g1)(h2:aG1 X i C rest g2):aG1 X i C (st::rest) (n9 g1 g2):=⟨ck2 h1.nx h2.nx,λG0 H0 a d b=>PSs.imp (P2 (h1.ps G0 H0 a d b) (h2.ps G0 H0 a d b)) λD Z H zz=>by
 obtain⟨G,U,o,R,hg,q⟩:=zz;obtain⟨o1,k1,hg⟩:=j5 hg;obtain⟨U1,rfl⟩:=h1.nx _ _ k1;exact⟨G,U,_,R,k1,λZ' G' H' s' R'=>⟨G',U1,o,R',hg,q.mono s'⟩⟩⟩
theorem av8{g1:GS}(h1:PXD X i C st g1):aG1 X i C [st] g1:=⟨h1.nx,λG0 H0 a d b=>aj9 (h1.ps G0 H0 a d b)⟩
theorem ay3(j:Nat)(h:Wd (PX X e g))(hN:ai0 X.N=true:=by rfl)(hm:j≠i:=by decide)(hi:X.N[j]?=some x:=by rfl)(hx:Loc X.env.scope x:=by first |exact .inl rfl|exact .inr rfl)(hs:swapsWith e (some (.Name x pos')) pos.line X.env=pure false:=by rfl)(hf:LcF X x:=by first |exact .inl rfl|exact .inr rfl):PXD X i C (.Assign [.Name x pos'] e pos) (u7 j (gF g)):=have hN:=O6 hN;have h:=h.run;⟨bG8,λG0 H0 a d b=>PS.imp (aA7 hN hi hx h hs hf) λD Z H zz=>by
 obtain⟨G,U,o,R,hg,q⟩:=zz;obtain⟨t,k1,hg⟩:=j5 hg;cases hg;obtain⟨t',k2,k1⟩:=j5 k1;split at k1
 case isFalse=>cases k1
 case isTrue hfl=>
 cases k1;obtain⟨Gp,s,r,un⟩:=R.peek;refine⟨Gp,U,t,s,r,k2,λv G1 H1 e1 r1=> ?_⟩;obtain⟨G2,s2,R2,fl⟩:=un G1 H1 e1;exact q _ G2 H1 s2 (R2.set hm (fl t v hfl r1))⟩
theorem aS9(fuel:A7->Nat)(hc:Wd (PXB X c gc))(hb:aG1 X i C body gb)(hp:PassesOwn (model X.prog X.w) X.A X.env X.xe:=by exact PassesOwn.never):PXD X i C (.While c body [] pos) (λU=>N2 gc gb (fuel U) U):=have hc:=hc.run;⟨λU o e=>bk7 hb.nx _ U o e,λG0 H0 a d b=>PS.imp (bj8 hp hc (hb.ps G0 H0 a d b)) λD Z H zz=>by
 obtain⟨G,U,o,R,hg,q⟩:=zz;refine⟨λm Z1 H1=>∃G1 U1,D6 G G1/\RB X.K G0 H0 i C a d b G1 H1 Z1 U1/\N2 gc gb m U1=some o,⟨fuel U,G,U,D6.refl _,R,hg⟩,?_⟩;rintro m Z1 H1 ⟨G1,U1,s1,R1,hgo⟩;cases m with
 |zero=>cases hgo
 |succ n=>
  obtain⟨k,k1,hgo⟩:=j5 hgo;obtain⟨Gp,sp,rp,un⟩:=R1.peek;refine⟨Gp,U1,k,sp,rp,k1,λG2 H2 e2=> ?_⟩;obtain⟨G3,s3,R3,_⟩:=un G2 H2 e2;cases k with
  |false=>
   cases hgo;exact q Z1 G3 H2 (s1.trans s3) R3
  |true=>
   obtain⟨o2,k2,hgo⟩:=j5 hgo;obtain⟨U4,rfl⟩:=hb.nx _ _ k2;exact⟨λZ' H4=>∃G4 U4,D6 G G4/\RB X.K G0 H0 i C a d b G4 H4 Z' U4/\N2 gc gb n U4=some o,λZ' H4 h4=>⟨n,cN0 n,h4⟩,⟨G3,U1,_,R3,k2,λZ' G4 H4 s4 R4=>⟨G4,U4,s1.trans (s3.trans s4),R4,hgo⟩⟩⟩⟩
theorem bj7{x m:Str}{p apos cpos:Pos}{g1 g2:L3.G}{k k':Nat}{f:Addr}{fd:FuncData}{ps:List Str}{F:List T->Option T}{pl:Sem Bool}(cl:Cls X.K C)(me:ba3 X.K C m f)(Hf:P9 X.prog X.w X.K X.mg X.aD CX0 k f fd ps (spB X.K C 3 F))(hb:P6 X.K fd ps [])(hr:J9 k' X.A)(h1:Wd (PX X e1 g1))(h2:Wd (PX X e2 g2))(hk:k<=k':=by decide)(hnm:∀q v2 v3 v4:V,([("sought",q),("rows",v2),("owners",v3),("under",v4)]:List (Str×V)).lookup m=none:=by intro _ _ _ _;rfl)(hi:X.N[i]?=some x:=by rfl)(hv:Vis X.env.scope x:=by first |exact .inl rfl|exact .inr (.inl rfl)|exact .inr (.inr rfl))(hd:NoD x:=by decide)(hcd:(x==("__classdict__":Str))=false:=by decide)(hs1:starEach [e1,e2] X.env=(false,eval e1 X.env)::starEach [e2] X.env:=by rfl)(hs2:StE X e2 []:=by rfl)(hpl:(backTo cpos (starEach [e2] X.env)).any (·.1)=false:=by rfl)(ht:eval (.Call (.Attribute (.Name x p) m apos) [e1,e2] [] cpos) X.env=(do
   let ov<-eval (.Name x p) X.env
   standAt apos.atName
   let(f,f1)<-holding [ov] (getMethod ov m pl)
   callWith cpos f f1 (backTo cpos (starEach [e1,e2] X.env)) (backToKw cpos (keywordEach [] X.env))):=by rfl) (hsw:swapsWith (.Call (.Attribute (.Name x p) m apos) [e1,e2] [] cpos) none pos.line X.env=pure false:=by rfl):PXD X i C (.Expr (.Call (.Attribute (.Name x p) m apos) [e1,e2] [] cpos) pos) (aX7 i F (gF g1) (gF g2)):=have h1:=h1.run;have h2:=h2.run;⟨ck3,λG0 H0 a d b aA s Z H D I zz=>by
 obtain⟨G,U,o,R,hg,q⟩:=zz;obtain⟨t1,n1,hg⟩:=j5 hg;obtain⟨t2,n2,hg⟩:=j5 hg;obtain⟨t,n3,hg⟩:=j5 hg;obtain⟨t',n4,hg⟩:=j5 hg;cases hg;obtain⟨t1',k1,n1⟩:=j5 n1;split at n1
 case isFalse=>cases n1
 case isTrue f1=>
 cases n1;obtain⟨t2',k2,n2⟩:=j5 n2;split at n2
 case isFalse=>cases n2
 case isTrue f2=>
 cases n2;obtain⟨t0,e0,B⟩:=R.B;have e0':t0=t:=by rw[e0]at n3;cases n3;rfl
 subst e0';obtain⟨q',rows,os,u,p',xs,ys,_,b2,_⟩:=B.ex;refine ao2 (cb2 (aq9 hi hv hd hcd) cl me Hf (hr.mono hk) hb .nil aT2 (T0 h1 (T0 h2 ab3 hs2) hs1) hs1 hpl ht) hsw aA s Z H D I ?_;obtain⟨Gp,sp,rp,un⟩:=R.peek;refine⟨.ref a,R.v,a,d,_,rfl,b2,hnm _ _ _ _,Gp,U,t1,sp,rp,k1,λv1 G1 H1 x1 r1=> ?_⟩;obtain⟨G2,s2,R2,fl2⟩:=un G1 H1 x1;have w1:=fl2 _ _ f1 r1;obtain⟨Gq,sq,rq,un2⟩:=R2.peek;refine⟨Gq,U,t2,sq,rq,k2,λv2 G3 H3 x3 r3=> ?_⟩;obtain⟨G4,s4,R4,fl4⟩:=un2 G3 H3 x3;have w2:=fl4 _ _ f2 r3;obtain⟨t4,e4,B4⟩:=R4.B;have e4':t4=t0:=by rw[e0]at e4;cases e4;rfl
 subst e4';refine⟨G4,[t1,t2],t4,t',a,d,b,[v1,v2],rfl,R4.x.s,R4.tb,B4,j8.cons (w1.mono s4) (j8.cons w2 j8.nil),rfl,n4,λG5 H5 x5 tb5 B5=> ?_⟩;exact q Z G5 H5 (s2.trans (s4.trans x5.g)) (R4.put x5 tb5 B5)⟩
end
section
variable {K:cO5}
theorem fnB{x qual:Str}{st:Stmt}{f:Addr}{fd:FuncData}{N ps:List Str}{k:Nat}{g:GS}{C:Addr}(F:Fun K x qual st f fd)(S:O8 N ps (r8 st))(np:ps.length<=N.length)
  (hb:∀(cdv:Value) (A:Around) (aE:List Env) (s:Shared) (H:Hp) (E:XK),J9 k (A.deeper (envOfC qual (r8 st) s.sz f cdv))->aG1 (F7 CX0 P w K mg aD N qual (r8 st) f cdv A aE s H E).nox 0 C (N8 st) g):
  P9 P w K mg aD CX0 (k+1) f fd ps (spB K C ps.length (aP4 N.length g)):=by
 refine F.ok S (λvs H Q E h=> ?_) (λcdv A aE s H vs Q E hr h=> ?_)
 .obtain⟨G,ts,t,t',a,d,b,vs0,rfl,_,_,_,r,hl,_⟩:=h;rw[cB8,r.length,hl]
 .obtain⟨G,ts,t,t',a,d,b,vs0,rfl,sG,tb,B,r,hl,hf,q⟩:=h;refine⟨_,(hb cdv A aE s H E hr).ps G H a d b,?_⟩;obtain⟨o,hg,hf⟩:=j5 hf;obtain⟨U',rfl⟩:=(hb cdv A aE s H E hr).nx _ _ hg;have r0:j8 K G (.ref a::ts) (.ref a::vs0):=j8.cons (by simp[Rep]) r;have h0:=af5 (N:=N) r0 (by rw[cB8];omega);have R:RB K G H 0 C a d b G H (L2.start N (.ref a::vs0)) (o8 N.length (t::ts)):=by
   refine⟨Ext.refl sG,tb,?_,?_,t,?_,B⟩
   .have h1:=h0.setN (i:=0) (o:=some (.ref a));have e1:(L2.start N (V.ref a::vs0)).set 0 (some (V.ref a))=L2.start N (V.ref a::vs0):=by simp[L2.start]
    have e2:(o8 N.length (T.ref a::ts)).set 0 none=C7 [0] (o8 N.length (t::ts)):=by simp[C7,o8]
    rw[e1,e2]at h1;exact h1
   .simp[L2.start]
   .simp[o8]
  refine⟨G,_,_,R,hg,λZ' G' H' _ R'=> ?_⟩;obtain⟨t2,e2,B2⟩:=R'.B;have hf:(U'[0]?).join=some t':=hf;rw[e2]at hf;cases hf;exact q G' H' R'.x R'.tb B2
end
section
variable {K:cO5}{G H G1 H1 G0 H0:Hp}
theorem Del.seqL(ha:G a=some (.ins C d fs))(h:SqL K G c xs):SqL K (L3.del G a) c xs:=by
 rcases h with(h|⟨u,h⟩)|h
 .exact .inl (.inl (by rw[am0 λz=>by rw[z,ha]at h;cases h];exact h))
 .exact .inl (.inr ⟨u,by rw[am0 λz=>by rw[z,ha]at h;cases h];exact h⟩)
 .exact .inr h
theorem Del.seqT(ha:G a=some (.ins C d fs))(h:SqT K G c xs):SqT K (L3.del G a) c xs:=by
 rcases h with(h|⟨u,h⟩)|h
 .exact .inl (.inl (by rw[am0 λz=>by rw[z,ha]at h;cases h];exact h))
 .exact .inl (.inr ⟨u,by rw[am0 λz=>by rw[z,ha]at h;cases h];exact h⟩)
 .exact .inr h
mutual
theorem Rep.delA(ha:G a=some (.ins C d fs)):∀{t:T}{v:V},as0 t=true->Rep K G t v->Rep K (L3.del G a) t v
 |.non,_,_,h=>by simpa[Rep]using h
 |.bl _,_,_,h=>by simpa[Rep]using h
 |.int _,_,_,h=>by simpa[Rep]using h
 |.str _,_,_,h=>by simpa[Rep]using h
 |.ref _,_,_,h=>by simpa[Rep]using h
 |.scr _,_,_,h=>by
  simp only[Rep]at h⊢;obtain⟨c,h1,h2⟩:=h;exact⟨c,h1,Del.seqL ha h2⟩
 |.obj _ _,_,hf,_=>by simp[as0]at hf
 |.lst ts,_,hf,h=>by
  simp only[Rep]at h⊢;simp only[as0]at hf;obtain⟨c,xs,h1,h2,h3⟩:=h;refine⟨c,xs,h1,?_,j8.delA ha hf h3⟩;rw[am0 λz=>by rw[z,ha]at h2;cases h2];exact h2
 |.tup ts,_,hf,h=>by
  simp only[Rep]at h⊢;simp only[as0]at hf;obtain⟨c,xs,h1,h2,h3⟩:=h;exact⟨c,xs,h1,Del.seqT ha h2,j8.delA ha hf h3⟩
theorem j8.delA(ha:G a=some (.ins C d fs)):∀{ts:List T}{xs:List V},at5 ts=true->j8 K G ts xs->j8 K (L3.del G a) ts xs
 |[],_,_,h=>by simpa[j8]using h
 |t::ts,_,hf,h=>by
  simp only[j8]at h⊢;simp only[at5,cC7]at hf;obtain⟨x,r,h1,h2,h3⟩:=h;exact⟨x,r,h1,Rep.delA ha hf.1 h2,j8.delA ha hf.2 h3⟩
end
theorem RB.peekV(R:RB K G0 H0 i C a d b G H Z U):∃Gp,Sub Gp H/\K5 K Gp Z (vw i U)/\∀G1 H1,Ext Gp H G1 H1->∃G2,D6 G G2/\RB K G0 H0 i C a d b G2 H1 Z U/\(∀t v,as0 t=true->Rep K G1 t v->Rep K G2 t v)/\(∀ts xs,at5 ts=true->j8 K G1 ts xs->j8 K G2 ts xs)/\∀c,G1 c=none->G2 c=none:=by
 obtain⟨t0,e0,B⟩:=R.B;obtain⟨q,rows,os,u,p,xs,ys,h1,h2,h3,h4,h5,h6⟩:=B.ex;have sG:D6 G (upd G a (.ins C d [("sought",.int q),("rows",.ref p),("owners",.ref b),("under",.int u)])):=K2 B.ga _;have ev:vw i U=U.set i (some (.obj fsV [.int q,.lst rows,.int u])):=by
  unfold vw;rw[e0];subst h1;rfl
 refine⟨upd G a (.ins C d [("sought",.int q),("rows",.ref p),("owners",.ref b),("under",.int u)]),⟨λc o z=> ?_,R.tb,λc ps z=> ?_⟩,⟨?_,λj t z=> ?_⟩,λG1 H1 e=> ?_⟩
 .by_cases y:c=a
  .subst y;rw[t6]at z;cases z;exact h2
  .rw[l8 y]at z;exact R.subG c o z
 .by_cases y:c=a
  .subst y;rw[t6]at z;cases z
  .rw[l8 y]at z;exact R.x.s.n c ps z
 .rw[ev,cJ6,R.r.1,ag3]
 .rw[ev]at z;by_cases hj:i=j
  .subst hj;rw[cI9 (al4 e0)]at z;cases z;refine⟨.ref a,R.v,?_⟩;simp only[Rep];refine⟨a,C,d,[("sought",.int q),("rows",.ref p),("owners",.ref b),("under",.int u)],[.int q,.ref p,.int u],rfl,t6,rfl,⟨B.cl,λf hf=>B.na f ?_⟩,j8.cons (by simp[Rep]) (j8.cons ?_ (j8.cons (by simp[Rep]) j8.nil))⟩
   .simp only[fsV,cK5,List.not_mem_nil,or_false]at hf;simp only[fsB,cK5,List.not_mem_nil,or_false];rcases hf with z|z|z
    .exact .inl z
    .exact .inr (.inl z)
    .exact .inr (.inr (.inr z))
   .simp only[Rep];exact⟨p,xs,rfl,sG _ _ h3,h4.mono sG⟩
  .rw[cI8 hj]at z;obtain⟨v,k1,k2⟩:=R.r.2 j t (ao9 _ _ _ _ z (by simpa using Ne.symm hj));exact⟨v,k1,k2.mono sG⟩
 .have ga:G1 a=some _:=e.g a _ t6;have s2:D6 G (L3.del G1 a):=λc o z=>by
   rw[am0 λy=>by rw[y,B.ga]at z;cases z];exact e.g c o (sG c o z)
  have x2:Ext G H (L3.del G1 a) H1:=by
   refine⟨s2,⟨λc o z=> ?_,e.s.t,λc ps z=> ?_⟩,e.h,λc hc hg=> ?_⟩
   .by_cases y:c=a
    .subst y;rw[bm8]at z;cases z
    .rw[am0 y]at z;exact e.s c o z
   .by_cases y:c=a
    .subst y;rw[bm8]at z;cases z
    .rw[am0 y]at z;exact e.s.n c ps z
   .by_cases y:c=a
    .subst y;exact bm8
    .rw[am0 y];exact e.fr c hc (by rw[l8 y];exact hg)
  refine⟨_,s2,R.step x2,λt v hf r=>Rep.delA ga hf r,λts xs hf r=>j8.delA ga hf r,λc z=> ?_⟩;unfold L3.del;split
  .rfl
  .exact z
end
section
theorem bQ7:aG1 X i C [] A2:=⟨λU o e=>by cases e;exact⟨_,rfl⟩,λG0 H0 a d b=>PSs.imp aL8 λD Z H zz=>by
 obtain⟨G,U,o,R,hg,q⟩:=zz;cases hg;exact q Z G H (D6.refl _) R⟩
theorem bj6(j:Nat)(h:Wd (PX X e g))(hN:ai0 X.N=true:=by rfl)(hm:j≠i:=by decide)(hi:X.N[j]?=some x:=by rfl)(hx:Loc X.env.scope x:=by first |exact .inl rfl|exact .inr rfl)(hs:swapsWith e (some (.Name x pos')) pos.line X.env=pure false:=by rfl)(hf:LcF X x:=by first |exact .inl rfl|exact .inr rfl):PXD X i C (.Assign [.Name x pos'] e pos) (u7 j (gV i g)):=have hN:=O6 hN;have h:=h.run;⟨bG8,λG0 H0 a d b=>PS.imp (aA7 hN hi hx h hs hf) λD Z H zz=>by
 obtain⟨G,U,o,R,hg,q⟩:=zz;obtain⟨t,k1,hg⟩:=j5 hg;cases hg;obtain⟨t',k2,k1⟩:=j5 k1;split at k1
 case isFalse=>cases k1
 case isTrue hfl=>
 cases k1;obtain⟨Gp,s,r,un⟩:=R.peekV;refine⟨Gp,_,t,s,r,k2,λv G1 H1 e1 r1=> ?_⟩;obtain⟨G2,s2,R2,fl,_⟩:=un G1 H1 e1;exact q _ G2 H1 s2 (R2.set hm (fl t v hfl r1))⟩
theorem cr5{c:GB}{a b:GS}(ha:NX a)(hb:NX b):NX (sIf c a b):=λU o e=>by
 obtain⟨k,_,e⟩:=j5 e;cases k with
 |true=>exact ha _ _ e
 |false=>exact hb _ _ e
theorem ca4(hc:Wd (PXB X c gc))(ha:aG1 X i C sa ga)(hb:aG1 X i C sb gb):PXD X i C (.If c sa sb pos) (sIf gc ga gb):=have hc:=hc.run;⟨cr5 ha.nx hb.nx,λG0 H0 a d b=>PS.imp (bf7 hc (ha.ps G0 H0 a d b) (hb.ps G0 H0 a d b)) λD Z H zz=>by
 obtain⟨G,U,o,R,hg,q⟩:=zz;obtain⟨k,k1,hg⟩:=j5 hg;obtain⟨Gp,s,r,un⟩:=R.peek;refine⟨Gp,U,k,s,r,k1,λG1 H1 e1=> ?_⟩;obtain⟨G2,s2,R2,_⟩:=un G1 H1 e1;cases k with
 |true=>exact as2 ⟨G2,U,o,R2,hg,q.mono s2⟩
 |false=>exact as3 ⟨G2,U,o,R2,hg,q.mono s2⟩⟩
end
theorem bB9(h:toL t=some ts):t=.lst ts:=by cases t<;>cases h;rfl
theorem bh6(h:toI t=some i):t=.int i:=by cases t<;>cases h;rfl
theorem bq7(h:bw1 U t tb tc to tk=some o):∃ts fs q rows os u ch co ks n n' m u',t=.lst ts/\tb=.obj fs [.int q,.lst rows,.lst os,.int u]/\tc=.int ch/\to=.int co/\tk=.lst ks/\ixT ts.length ch=some n/\ixT os.length ch=some n'/\ixT ks.length co=some m/\ks[m]?=some (.int u')/\
  o=.nx ((U.set 4 (some (.lst (ts.set n (.lst ks))))).set 0 (some (bdT q (ts.set n (.lst ks)) (os.set n' (.int co)) u'))):=by
 obtain⟨ts,a1,h⟩:=j5 h;obtain⟨x,a2,h⟩:=j5 h;obtain⟨ch,a3,h⟩:=j5 h;obtain⟨co,a4,h⟩:=j5 h;obtain⟨ks,a5,h⟩:=j5 h;obtain⟨n,k1,h⟩:=j5 h;obtain⟨n',k2,h⟩:=j5 h;obtain⟨m,k3,h⟩:=j5 h;obtain⟨k,k4,h⟩:=j5 h;obtain⟨u',k5,h⟩:=j5 h;cases bB9 a1;cases bh6 a3;cases bh6 a4;cases bB9 a5;cases bh6 k5;cases h;unfold bdP at a2;split at a2<;>cases a2;exact⟨_,_,_,_,_,_,_,_,_,n,n',m,_,rfl,rfl,rfl,rfl,rfl,k1,k2,k3,k4,rfl⟩
theorem cc3:NX (bf4 gc):=λU o e=>by
 obtain⟨t,_,e⟩:=j5 e;obtain⟨_,_,e⟩:=j5 e;obtain⟨_,_,e⟩:=j5 e;obtain⟨_,_,e⟩:=j5 e;obtain⟨_,_,e⟩:=j5 e;obtain⟨_,_,_,_,_,_,_,_,_,_,_,_,_,_,_,_,_,_,_,_,_,_,rfl⟩:=bq7 e;exact⟨_,rfl⟩
theorem RB.val{K:cO5}{G H G0 H0:Hp}{C a d b:Addr}{i j:Nat}{Z:L2.St}{U:A7}{t:T}(R:RB K G0 H0 i C a d b G H Z U)(hj:j≠i)(h:M9 j U=some t):∃v,Z[j]?=some (some v)/\Rep K G t v:=by
 have h:(U[j]?).join=some t:=h;refine R.r.2 j t (ao9 _ _ _ _ ?_ (by simpa using hj));cases e:U[j]? with
 |none=>rw[e]at h;cases h
 |some o=>rw[e]at h;cases o<;>first |(cases h;done)|(cases h;rfl)
theorem X8(h:t {D with nx:=u D} Z H):cg0 t u D Z H:=h
theorem aX1(h:te Z H λx H1=>g x Z H1 D.nx):aX2 te g D Z H:=h
theorem RB.tail{K:cO5}{G2 H1 H5 G0 H0:Hp}{C a d b p1:Addr}{Z:L2.St}{U:A7}{zs ys:List V}{ts os:List T}{q u:Int}(R2:RB K G0 H0 0 C a d b G2 H1 Z U)(hp0:L3.del2 H0 a b p1=none)(g2p:G2 p1=none)(pa:p1≠a)(pb:p1≠b)(h45:4<U.length)
  (ha:H5 a=some (.ins C d [("sought",.int q),("rows",.ref p1),("owners",.ref b),("under",.int u)])) (hb:H5 b=some (.lst ys)) (hp:H5 p1=some (.lst zs)) (ho:∀c,c≠a->c≠b->c≠p1->H5 c=H1 c) (tb:Tbs H5) (rz:j8 K G2 ts zs) (ro:j8 K G2 os ys):
  RB K G0 H0 0 C a d b (upd G2 p1 (.lst zs)) H5 (Z.set 4 (some (.ref p1))) ((U.set 4 (some (.lst ts))).set 0 (some (bdT q ts os u))):=by
 obtain⟨t0,e0,B⟩:=R2.B;have sn:=K2 g2p (HO.lst zs);have x':Ext G0 (L3.del2 H0 a b) (upd G2 p1 (.lst zs)) (L3.del2 H5 a b):=by
  refine⟨R2.x.g.trans sn,⟨λc o z=> ?_,tb.del2 ha ac4 hb aH8,aB0 R2.x.s.n rfl⟩,λc o z=> ?_,λc hc hg=> ?_⟩
  .by_cases y:c=p1
   .subst y;rw[t6]at z;cases z;rw[R5 pa pb];exact hp
   .rw[l8 y]at z;obtain⟨c1,c2,c3⟩:=V7 (R2.x.s c o z);rw[R5 c1 c2,ho c c1 c2 y];exact c3
  .have y:c≠p1:=λy=>by rw[y,hp0]at z;cases z
   obtain⟨c1,c2,_⟩:=V7 z;obtain⟨o',k1,k2⟩:=R2.x.h c o z;rw[R5 c1 c2]at k1;exact⟨o',by rw[R5 c1 c2,ho c c1 c2 y];exact k1,k2⟩
  .rw[l8 λy=>hc (by rw[y];exact hp0)];exact R2.x.fr c hc hg
 have hl:0<U.length:=al4 e0;refine⟨x',tb,⟨?_,λj t z=> ?_⟩,by rw[cI8 (by omega)];exact R2.v,_,cI9 (by rw[cJ6];exact hl),⟨⟨q,ts,os,u,p1,zs,ys,rfl,ha,t6,rz.mono sn,hb,ro.mono sn⟩,by rw[l8 (Ne.symm pa)];exact B.ga,by rw[l8 (Ne.symm pb)];exact B.gb,B.ab,B.cl,B.na⟩⟩
 .rw[ag3,cJ6,cJ6,cJ6,R2.r.1,ag3]
 .obtain⟨z1,z2⟩:=bl4 _ _ _ _ z;have j0:j≠0:=by simpa using z2
  rw[cI8 (Ne.symm j0)]at z1;by_cases y:4=j
  .subst y;rw[cI9 h45]at z1;cases z1;refine⟨.ref p1,cI9 (by rw[R2.r.1,ag3];exact h45),?_⟩;simp only[Rep];exact⟨p1,zs,rfl,t6,rz.mono sn⟩
  .rw[cI8 y]at z1;obtain⟨v,k1,k2⟩:=R2.r.2 j t (ao9 _ _ _ _ z1 (by simpa using j0));exact⟨v,by rw[cI8 y];exact k1,k2.mono sn⟩
section
theorem bE8{elt target iter e0 e0' e0'' e1 e1' e2 e2' e3 e3' e4 e4':Expr}{ifs:List Expr}{scope:Scope}{it:GL}{is:List Nat}{st:St1}{gc:GB}{ge:L3.G}{x4:Str}{pos pos' spos p43 p5 p5' p6 p62 p64 p7 p7' p74 p8:Pos}{nT:Nat}{aC:List Nat}(cl:Cls X.K C)(na:∀f∈fsB,O9 X.K C f)(k4:PE X e4 (aa8 4))(k1:PE X e1 (aa8 1))(k3:PE X e3 (aa8 3))(k0:PE X e0 (aa8 0))(k4':PE X e4' (aa8 4))(k0':PE X e0' (aa8 0))(k1':PE X e1' (aa8 1))(k2:PE X e2 (aa8 2))(k0'':PE X e0'' (aa8 0))(k3':PE X e3' (aa8 3))(k2':PE X e2' (aa8 2))(hi:Wd (PXI X target iter it))(hg:∀{cl C sd Ho fp},Wd (PXG (K8 X scope cl C (cN X target aC) sd Ho fp) target is st))(hc:∀{cl C sd Ho fp},Wd (aA0 (K8 X scope cl C (cN X target aC) sd Ho fp) ifs gc))(he:∀{cl C sd Ho fp},Wd (PX (K8 X scope cl C (cN X target aC) sd Ho fp) elt ge))(hN:ai0 X.N=true:=by rfl)(hcalm:X.calm=true:=by rfl)(chk:ah6 X.env.scope X.N scope (cN X target aC) nT aC=true:=by rfl)(his:is.all (λi=>decide (i<nT))=true:=by rfl)(h4:X.N[4]?=some x4:=by rfl)(hl4:X.env.scope.names.lookup x4=some .local:=by rfl)(hsw:swapsWith (.ListComp elt [⟨target,iter,ifs,0⟩] scope pos) (some (.Name x4 pos')) spos.line X.env=pure true:=by rfl)(hfs:NFo X iter:=by intro _;rfl)(a4:∀v,assign (.Subscript e4 e1 p43) X.env v=(do
   let ov<-holding [v] (eval e4 X.env)
   let iv<-holding [v,ov] (eval e1 X.env)
   standAt p43
   holding [v,ov,iv] (setItem ov iv v)
   release [v,ov,iv] []):=by intro _;rfl) (w4:swapsWithSole [.Subscript e4 e1 p43] e3 p5.line X.env=pure false:=by rfl) (u4:swappedStores [.Subscript e4 e1 p43] e3 X.env=pure none:=by rfl) (q4:(assignEach [.Subscript e4 e1 p43] X.env).map (·.2)=[assign (.Subscript e4 e1 p43) X.env]:=by rfl) (w5:swapsWith e4' (some (.Attribute e0 "rows" p5')) p6.line X.env=pure false:=by rfl) (b6:attributeBase e0' "owners" X.env (eval e0' X.env)=eval e0' X.env:=by rfl) (a6:∀v,assign (.Subscript (.Attribute e0' "owners" p62) e1' p64) X.env v=(do
   let ov<-holding [v] (eval (.Attribute e0' "owners" p62) X.env)
   let iv<-holding [v,ov] (eval e1' X.env)
   standAt p64
   holding [v,ov,iv] (setItem ov iv v)
   release [v,ov,iv] []):=by intro _;rfl) (w6:swapsWithSole [.Subscript (.Attribute e0' "owners" p62) e1' p64] e2 p7.line X.env=pure false:=by rfl) (u6:swappedStores [.Subscript (.Attribute e0' "owners" p62) e1' p64] e2 X.env=pure none:=by rfl) (q6:(assignEach [.Subscript (.Attribute e0' "owners" p62) e1' p64] X.env).map (·.2)=[assign (.Subscript (.Attribute e0' "owners" p62) e1' p64) X.env]:=by rfl) (w7:swapsWith (.Subscript e3' e2' p74) (some (.Attribute e0'' "under" p7')) p8.line X.env=pure false:=by rfl) (i7:aM6 e2':=by intro _ _;rfl):aG1 X 0 C [.Assign [.Name x4 pos'] (.ListComp elt [⟨target,iter,ifs,0⟩] scope pos) spos,.Assign [.Subscript e4 e1 p43] e3 p5,.Assign [.Attribute e0 "rows" p5'] e4' p6,.Assign [.Subscript (.Attribute e0' "owners" p62) e1' p64] e2 p7,.Assign [.Attribute e0'' "under" p7'] (.Subscript e3' e2' p74) p8]
   (bf4 (l9 it nT aC st gc ge)):=by
 have hN:=O6 hN;have hi:=hi.run;have hg:=λx0 x1 x2 x3 x4=>(@hg x0 x1 x2 x3 x4).run;have hc:=λx0 x1 x2 x3 x4=>(@hc x0 x1 x2 x3 x4).run;have he:=λx0 x1 x2 x3 x4=>(@he x0 x1 x2 x3 x4).run
 refine⟨cc3,λG0 H0 a d b aA s Z H D I ⟨G,U,o,R,hgo,q⟩=> ?_⟩;refine P2 (aq8 (g:=tGt X.K is st) (tc:=tXB X.K gc) (te:=tX X.K ge) (i:=4) _ nT aC hcalm chk hi hg hc he hN h4 hl4 hsw hfs)
  (P2 (aT1 k3 (bk0 k4 k1 aP2 a4) w4 u4 q4) (P2 (aA8 k0 k4' w5) (P2 (aT1 k2 (bk0 (bk2 k0' b6) k1' aP2 a6) w6 u6 q6) (aj9 (aA8 k0'' (bW0 bt5 k3' k2' i7) w7))))) aA s Z H D I ?_
 obtain⟨t,m0,hgo⟩:=j5 hgo;obtain⟨tb,m1,hgo⟩:=j5 hgo;obtain⟨tc,m2,hgo⟩:=j5 hgo;obtain⟨to,m3,hgo⟩:=j5 hgo;obtain⟨tk,m4,hgo⟩:=j5 hgo;obtain⟨ts,fs,q0,rows,os,u,ch,co,ks,n,n',m,u',rfl,rfl,rfl,rfl,rfl,x1,x2,x3,x4,rfl⟩:=bq7 hgo;obtain⟨t',m5,m0⟩:=j5 m0;split at m0
 case isFalse=>cases m0
 case isTrue hno=>
 cases m0;have nl:at5 ts=true:=by simpa only[as0]using hno
 have hl4':4<Z.length:=by rw[I.len];exact al4 h4
 have hl4'':4<U.length:=by rw[R.r.1,ag3]at hl4';exact hl4'
 obtain⟨Gp,sp,rp,un⟩:=R.peekV;refine X8 (aX1 ?_);refine aQ8 his Z H _ ⟨Gp,vw 0 U,ts,sp,rp,m5,λp1 xs G1 H1 hp gp e1 h1 r1=> ?_⟩;obtain⟨G2,s2,R2,fl,fL,f0⟩:=un G1 H1 e1;have rx:=fL _ _ nl r1;have g2p:=f0 p1 gp;obtain⟨v1,e11,w1⟩:=R2.val (j:=1) (by decide) m2;obtain⟨v2,e21,w2⟩:=R2.val (j:=2) (by decide) m3;obtain⟨v3,e31,w3⟩:=R2.val (j:=3) (by decide) m4;simp only[Rep]at w1 w2;subst w1 w2;have w3':=w3;simp only[Rep]at w3;obtain⟨pk,zs,rfl,gk,rk⟩:=w3;obtain⟨tB,eB,B⟩:=R2.B;have eB':tB=.obj fs [.int q0,.lst rows,.lst os,.int u]:=by
  have m1:(U[0]?).join=some (.obj fs [.int q0,.lst rows,.lst os,.int u]):=m1;rw[eB]at m1;cases m1;rfl
 subst eB';obtain⟨q1,rows1,os1,u1,p,xs0,ys,hB,b2,b3,b4,b5,b6'⟩:=B.ex;unfold bdT at hB;cases hB;have pa:p1≠a:=λz=>by rw[z,b2]at h1;cases h1
 have pb:p1≠b:=λz=>by
  have hb0:=R.B;obtain⟨tB0,_,B0⟩:=hb0;obtain⟨_,_,_,_,_,_,_,_,_,_,_,k5,_⟩:=B0.ex;rw[<-z,hp]at k5;cases k5
 have pkp:pk≠p1:=λz=>by rw[z,g2p]at gk;cases gk
 have pka:pk≠a:=λz=>by rw[z,B.ga]at gk;cases gk
 have pkb:pk≠b:=λz=>by rw[z,B.gb]at gk;cases gk
 have hk1:H1 pk=some (.lst zs):=R2.subG _ _ gk;have s41:(Z.set 4 (some (V.ref p1)))[4]?=some (some (V.ref p1)):=cI9 hl4';have s11:(Z.set 4 (some (V.ref p1)))[1]?=some (some (V.int ch)):=by rw[cI8 (by omega)];exact e11
 have s21:(Z.set 4 (some (V.ref p1)))[2]?=some (some (V.int co)):=by rw[cI8 (by omega)];exact e21
 have s31:(Z.set 4 (some (V.ref p1)))[3]?=some (some (V.ref pk)):=by rw[cI8 (by omega)];exact e31
 have s01:(Z.set 4 (some (V.ref p1)))[0]?=some (some (V.ref a)):=by rw[cI8 (by omega)];exact R2.v
 have na1:O9 X.K C "rows":=na _ (by simp[fsB]);have na2:O9 X.K C "owners":=na _ (by simp[fsB]);have na3:O9 X.K C "under":=na _ (by simp[fsB]);have rc:Rep X.K G2 (.int co) (.int co):=by simp[Rep]
 refine X8 ⟨.ref pk,s31,.ref p1,s41,.int ch,s11,p1,xs,ch,n,rfl,rfl,h1,by rw[rx.length];exact x1,?_⟩;refine X8 ⟨.ref p1,s41,.ref a,s01,a,C,d,_,rfl,by rw[l8 (Ne.symm pa)];exact b2,cl,na1,(by show(4:Nat)<1000;decide),?_⟩;refine X8 ⟨.int co,s21,.ref a,s01,a,C,d,_,.ref b,rfl,t6,cl,na2,rfl,.int ch,s11,b,ys,ch,n',rfl,rfl,by rw[l8 (Ne.symm B.ab),l8 (Ne.symm pb)];exact b5,by rw[b6'.length];exact x2,?_⟩;refine⟨.ref pk,s31,.int co,s21,pk,zs,co,.int u',rfl,rfl,SqL.of (by rw[l8 pkb,l8 pka,l8 pkp];exact hk1),?_,.ref a,s01,a,C,d,_,rfl,by rw[l8 B.ab];exact t6,cl,na3,(by show(4:Nat)<1000;decide),?_⟩
 .unfold atI;rw[rk.length,show ixN ks.length co=some m from x3,cB2];obtain⟨y,hy,ry⟩:=rk.get x4;simp only[Rep]at ry;rw[hy,ry]
 .refine q _ (upd G2 p1 (.lst (xs.set n (.ref pk)))) _ (s2.trans (K2 g2p _)) (R2.tail (R.x.h.free ?_) g2p pa pb hl4'' t6 ?_ ?_ (λc c1 c2 c3=> ?_) ?_ (rx.set w3' n) (b6'.set rc n'))
  .unfold L3.del2;split
   .rfl
   .exact hp
  .rw[l8 (Ne.symm B.ab),t6]
  .rw[l8 pa,l8 pb,l8 pa,t6]
  .rw[l8 c1,l8 c2,l8 c1,l8 c3]
  .have t1:=R2.tb.lst (o:=.lst (xs.set n (.ref pk))) h1;have t2:=t1.upd (a:=a) (o:=.ins C d (ag1 "rows" (.ref p1) [("sought",.int q0),("rows",.ref p),("owners",.ref b),("under",.int u)])) λx e=>by
    rw[l8 (Ne.symm pa),b2]at e;cases e;exact ac4
   have t3:=t2.lst (a:=b) (xs:=ys) (o:=.lst (ys.set n' (.int co))) (by rw[l8 (Ne.symm B.ab),l8 (Ne.symm pb)];exact b5);exact t3.upd (a:=a) λx e=>by
    rw[l8 B.ab,t6]at e;cases e;exact ac4
end
structure EX(a:Addr)(G0 H0 G H:Hp):Prop where
 g:D6 G0 G
 s:∀c o,G c=some o->c≠a/\H c=some o
 n:∀c ps,G c≠some (.tbl ps)
 h:∀c o,c≠a->H0 c=some o->∃o',H c=some o'/\(ah3 o=true->o'=o)
 fr:∀c,c≠a->H0 c≠none->G0 c=none->G c=none
 tb:Tbs H
section
variable {G0 H0 G H G1 H1:Hp}
theorem EX.sub(E:EX a G0 H0 G H):Sub G H:=⟨λc o z=>(E.s c o z).2,E.tb,E.n⟩
theorem EX.ga(E:EX a G0 H0 G H):G a=none:=by
 cases e:G a with
 |none=>rfl
 |some o=>exact absurd rfl (E.s a o e).1
theorem EX.step(E:EX a G0 H0 G H)(ha:H a≠none)(e:Ext G H G1 H1):EX a G0 H0 G1 H1 where
 g:=E.g.trans e.g
 s:=λc o z=>⟨λy=>(by rw[y,e.fr a ha E.ga]at z;cases z),e.s c o z⟩
 n:=e.s.n
 h:=λc o hc z=>by
  obtain⟨o',k1,k2⟩:=E.h c o hc z;obtain⟨o2,k3,k4⟩:=e.h c o' k1;refine⟨o2,k3,λnt=> ?_⟩;have :=k2 nt;subst this;exact k4 nt
 fr:=λc hc hh hg=>by
  refine e.fr c (λz=> ?_) (E.fr c hc hh hg);cases e0:H0 c with
  |none=>exact hh e0
  |some o=>
   obtain⟨o',k1,_⟩:=E.h c o hc e0;rw[z]at k1;cases k1
 tb:=e.s.t
theorem EX.free(E:EX a G0 H0 G H)(hc:c≠a)(h:H c=none):H0 c=none:=by
 cases e0:H0 c with
 |none=>rfl
 |some o=>
  obtain⟨o',k1,_⟩:=E.h c o hc e0;rw[h]at k1;cases k1
theorem EX.upd(E:EX a G0 H0 G H)(gx:G x=none)(hx:x=a\/H0 x=none)(tb:Tbs (L2.upd H x o)):EX a G0 H0 G (L2.upd H x o) where
 g:=E.g
 s:=λc u z=>⟨(E.s c u z).1,by rw[l8 (A9 z gx)];exact(E.s c u z).2⟩
 n:=E.n
 h:=λc u hc z=>by
  obtain⟨o',k1,k2⟩:=E.h c u hc z;refine⟨o',?_,k2⟩;rw[l8 λy=>by
   rcases hx with hx|hx
   .exact hc (y.trans hx)
   .rw[y,hx]at z;cases z]
  exact k1
 fr:=E.fr
 tb:=tb
theorem EX.frz(E:EX a G0 H0 G H)(pa:p≠a)(hp:H p=some o)(h0:H0 p=none)(gp:G p=none)(no:ah3 o=true):EX a G0 H0 (L2.upd G p o) H where
 g:=E.g.trans (K2 gp o)
 s:=λc u z=>by
  by_cases y:c=p
  .subst y;rw[t6]at z;cases z;exact⟨pa,hp⟩
  .rw[l8 y]at z;exact E.s c u z
 n:=aB0 E.n no
 h:=E.h
 fr:=λc hc hh hg=>by
  rw[l8 λy=>hh (by rw[y];exact h0)];exact E.fr c hc hh hg
 tb:=E.tb
theorem EX.ext(E:EX a G0 H0 G H)(ha:H a=some o)(pa:ai2 o)(hb:H b=some o')(pb:ai2 o')(h0:H0 b=none)(gb:G b=none):Ext G0 (L3.del2 H0 a a) G (L3.del2 H a b) where
 g:=E.g
 s:=⟨λc u z=>by rw[R5 (E.s c u z).1 (A9 z gb)];exact(E.s c u z).2,E.tb.del2 ha pa hb pb,E.n⟩
 h:=λc u z=>by
  obtain⟨c1,_,z⟩:=V7 z;obtain⟨o',k1,k2⟩:=E.h c u c1 z;exact⟨o',by rw[R5 c1 λy=>by rw[y,h0]at z;cases z];exact k1,k2⟩
 fr:=λc hh hg=>by
  by_cases y:c=a
  .subst y;exact E.ga
  .exact E.fr c y (λz=>hh (by rw[R5 y y];exact z)) hg
end
def spN(K:cO5)(C:Addr)(n:Nat)(F:List T->Option T):Sp:=λvs H Q _=>∃G ts t' a d vs0,vs=V.ref a::vs0/\Sub G (L3.del2 H a a)/\Tbs H/\H a=some (.ins C d [])/\j8 K G ts vs0/\ts.length+1=n/\F ts=some t'/\
 ∀b G' H',H b=none->Ext G (L3.del2 H a a) G' (L3.del2 H' a b)->Tbs H'->BdH K G' H' C a d b t'->Q .non H'
def bL4(X:Cx)(C:Addr)(body:List Stmt)(gs gq gr ga go:L3.G):Prop:=∃tS:TS,PSs X body tS/\
 ∀(D:an0) (Z:L2.St) (H G:Hp) (U:A7) (a d:Addr) (t':T),4<Z.length->EX a G H G H->H a=some (.ins C d [])->K5 X.K G Z (C7 [0] U)->Z[0]?=some (some (.ref a))->by2 gs gq gr ga go U=some t'->
  (∀b Z' G' H',H b=none->Ext G (L3.del2 H a a) G' (L3.del2 H' a b)->Tbs H'->BdH X.K G' H' C a d b t'->D.nx Z' H')->tS D Z H
section
theorem bQ8{elt target iter:Expr}{ifs:List Expr}{scope:Scope}{it:GL}{is:List Nat}{st:St1}{gc:GB}{ge:L3.G}{x:Str}{pos pos' spos:Pos}(i:Nat){oc:Option Str}{nT:Nat}{aC:List Nat}(hi:Wd (PXI X target iter it))(hg:∀{cl C sd Ho fp},Wd (PXG (O7 oc X scope cl C (cN X target aC) sd Ho fp) target is st))(hc:∀{cl C sd Ho fp},Wd (aA0 (O7 oc X scope cl C (cN X target aC) sd Ho fp) ifs gc))(he:∀{cl C sd Ho fp},Wd (PX (O7 oc X scope cl C (cN X target aC) sd Ho fp) elt ge))(hN:ai0 X.N=true:=by rfl)(hcalm:X.calm=true:=by rfl)(chk:ax3 oc X.env.scope X.N scope (cN X target aC) nT aC=true:=by rfl)(his:is.all (λi=>decide (i<nT))=true:=by rfl)(hx:X.N[i]?=some x:=by rfl)(hl:X.env.scope.names.lookup x=some .local:=by rfl)(hsw:swapsWith (.ListComp elt [⟨target,iter,ifs,0⟩] scope pos) (some (.Name x pos')) spos.line X.env=pure true:=by rfl)(hfs:NFo X iter:=by intro _;rfl):PS X (.Assign [.Name x pos'] (.ListComp elt [⟨target,iter,ifs,0⟩] scope pos) spos) (aX2 (tLC (tI X.K it) (tGt X.K is st) (tXB X.K gc) (tX X.K ge) nT aC) (aq0 i)):=have hN:=O6 hN;have hi:=hi.run;have hg:=λx0 x1 x2 x3 x4=>(@hg x0 x1 x2 x3 x4).run;have hc:=λx0 x1 x2 x3 x4=>(@hc x0 x1 x2 x3 x4).run;have he:=λx0 x1 x2 x3 x4=>(@he x0 x1 x2 x3 x4).run;aq8 (g:=tGt X.K is st) (tc:=tXB X.K gc) (te:=tX X.K ge) (i:=i) _ nT aC hcalm chk hi hg hc he hN hx hl hsw hfs
end
section
theorem bE9{e1 eq er ea eo eu e0 e0' e0'' e0a e0b:Expr}{it:GL}{is:List Nat}{st:St1}{gc:GB}{ge gq gr ga go:L3.G}{nT:Nat}{aC:List Nat}{x4:Str}{pos' spos p2 p2' p3 p3' p4a apos cpos p4 p5 p5' p6 p6':Pos}(cl:Cls X.K C)(na:∀f∈fsB,O9 X.K C f)(k1:PS X (.Assign [.Name x4 pos'] e1 spos) (aX2 (tLC (tI X.K it) (tGt X.K is st) (tXB X.K gc) (tX X.K ge) nT aC) (aq0 4)))(kq:Wd (PX X eq gq))(kr:Wd (PXf X er gr))(ka:Wd (PX X ea ga))(ko:Wd (PXf X eo go))(ku:Wd (PX X eu e9))(k0:PE X e0 (aa8 0))(k0':PE X e0' (aa8 0))(k0'':PE X e0'' (aa8 0))(k0a:PE X e0a (aa8 0))(k0b:PE X e0b (aa8 0))(his:is.all (λi=>decide (i<nT))=true:=by rfl)(w2:swapsWith eq (some (.Attribute e0 "sought" p2)) p2'.line X.env=pure false:=by rfl)(w3:swapsWith er (some (.Attribute e0' "rows" p3)) p3'.line X.env=pure false:=by rfl)(b4:attributeBase e0'' "rows" X.env (eval e0'' X.env)=eval e0'' X.env:=by rfl)(hbase:attributeBase (.Attribute e0'' "rows" p4a) "append" X.env (eval (.Attribute e0'' "rows" p4a) X.env)=eval (.Attribute e0'' "rows" p4a) X.env:=by rfl)(hfew:((backTo cpos (starEach [ea] X.env)).all (λx=> !x.1)&&(backToKw cpos (keywordEach [] X.env)).all (λx=>x.1.isSome)
   &&decide ([ea].length+([]:List Keyword).length+(if([]:List Keyword).isEmpty then 0 else 1)<30))=true:=by rfl) (hline:(apos.endLine==cpos.line)=true:=by rfl) (hs:StE X ea []:=by rfl) (hplain:Bks X cpos []:=by rfl) (w4:swapsWith (.Call (.Attribute (.Attribute e0'' "rows" p4a) "append" apos) [ea] [] cpos) none p4.line X.env=pure false:=by rfl) (w5:swapsWith eo (some (.Attribute e0a "owners" p5)) p5'.line X.env=pure false:=by rfl) (w6:swapsWith eu (some (.Attribute e0b "under" p6)) p6'.line X.env=pure false:=by rfl):bL4 X C [.Assign [.Name x4 pos'] e1 spos,.Assign [.Attribute e0 "sought" p2] eq p2',.Assign [.Attribute e0' "rows" p3] er p3',.Expr (.Call (.Attribute (.Attribute e0'' "rows" p4a) "append" apos) [ea] [] cpos) p4,.Assign [.Attribute e0a "owners" p5] eo p5',.Assign [.Attribute e0b "under" p6] eu p6'] (l9 it nT aC st gc ge) gq gr ga go:=by
 have kq:=kq.run;have kr:=kr.run;have ka:=ka.run;have ko:=ko.run;have ku:=ku.run;refine⟨_,P2 k1
  (P2 (aA8 k0 kq w2) (P2 (aA8 k0' kr w3) (P2 (ao2 (bf8 PySem.F.plainAttrs_list PySem.F.slot_list_append PySem.F.type_list_append aI2 (bk2 k0'' b4) (T0 ka ab3 hs) hbase hfew hline hs hplain) w4) (P2 (aA8 k0a ko w5) (aj9 (aA8 k0b ku w6)))))),λD Z H G U a d t' hl E ha hU hZ hg0 q=> ?_⟩
 obtain⟨sp,m1,hg0⟩:=j5 hg0;obtain⟨tq,m2,hg0⟩:=j5 hg0;obtain⟨tr,m3,hg0⟩:=j5 hg0;obtain⟨l,m4,hg0⟩:=j5 hg0;obtain⟨to,m5,hg0⟩:=j5 hg0
 match tq,tr,to,m2,m3,m5,hg0 with
 |.int q0,.lst rs,.lst os,m2,m3,m5,hg0=>
 dsimp only at hg0;split at hg0
 case isFalse=>cases hg0
 case isTrue hlen=>
 cases hg0;have nne:∀{K':Hp}{fl:List (Str×V)},K' a=some (.ins C d fl)->K' a≠none:=λh=>by rw[h];simp
 refine X8 (aX1 (aB5 his Z H _ ⟨G,C7 [0] U,sp,E.sub,hU,m1,λv G1 H1 e1 r1=> ?_⟩));have E1:=E.step (nne ha) e1;have ha1:H1 a=some (.ins C d []):=e1.h.yes ha rfl;have hU1:K5 X.K G1 (Z.set 4 (some v)) (C7 [0] (U.set 4 (some sp))):=by
  rw[ao6 _ _ _ _ (by simp)];exact(hU.mono e1.g).set r1
 have s01:(Z.set 4 (some v))[0]?=some (some (V.ref a)):=by rw[cI8 (by omega)];exact hZ
 have na1:O9 X.K C "sought":=na _ (by simp[fsB]);have na2:O9 X.K C "rows":=na _ (by simp[fsB]);have na3:O9 X.K C "owners":=na _ (by simp[fsB]);have na4:O9 X.K C "under":=na _ (by simp[fsB]);have tins:∀{K':Hp}{fl:List (Str×V)}{o:HO},Tbs K'->K' a=some (.ins C d fl)->Tbs (L2.upd K' a o):=λtb h=>tb.upd λx e=>by rw[h]at e;cases e;exact ac4
 refine X8 ⟨G1,_,.int q0,E1.sub,hU1,m2,λv2 G2 H2 e2 r2=> ?_⟩;simp only[Rep]at r2;subst r2;have F2:=E1.step (nne ha1) e2;have ha2:H2 a=some (.ins C d []):=e2.h.yes ha1 rfl;refine⟨.ref a,s01,a,C,d,[],rfl,ha2,cl,na1,(by show(0:Nat)<1000;decide),?_⟩;have E2:=F2.upd (x:=a) (o:=.ins C d [("sought",.int q0)]) F2.ga (.inl rfl) (tins F2.tb ha2);have ha2':L2.upd H2 a (.ins C d [("sought",.int q0)]) a=some (.ins C d [("sought",.int q0)]):=t6;refine X8 ⟨G2,_,rs,E2.sub,hU1.mono e2.g,m3,λp1 xs G3 H3 hp gp e3 h3 r3=> ?_⟩;have F3:=E2.step (nne ha2') e3;have ha3:H3 a=some (.ins C d [("sought",.int q0)]):=e3.h.yes ha2' rfl;have pa:p1≠a:=λz=>by
  have hp':L2.upd H2 a (.ins C d [("sought",.int q0)]) p1=none:=hp;rw[z,ha2']at hp';cases hp'
 have p0:H p1=none:=E2.free pa hp;refine⟨.ref a,s01,a,C,d,_,rfl,ha3,cl,na2,(by show(1:Nat)<1000;decide),?_⟩;have E3:=F3.upd (x:=a) (o:=.ins C d [("sought",.int q0),("rows",.ref p1)]) F3.ga (.inl rfl) (tins F3.tb ha3);have ha3':L2.upd H3 a (.ins C d [("sought",.int q0),("rows",.ref p1)]) a=some (.ins C d [("sought",.int q0),("rows",.ref p1)]):=t6;have h3p:L2.upd H3 a (.ins C d [("sought",.int q0),("rows",.ref p1)]) p1=some (.lst xs):=by rw[l8 pa];exact h3
 refine X8 ⟨.ref a,s01,a,C,d,_,.ref p1,rfl,ha3',cl,na2,rfl,.inl ⟨rfl,xs,SqL.of h3p⟩,G3,_,l,E3.sub,hU1.mono (e2.g.trans e3.g),m4,λv4 G4 H4 e4 r4=> ?_⟩;have F4:=E3.step (nne ha3') e4;have ha4:H4 a=some (.ins C d [("sought",.int q0),("rows",.ref p1)]):=e4.h.yes ha3' rfl;have h4p:H4 p1=some (.lst xs):=e4.h.lst h3p;have g4p:G4 p1=none:=e4.fr p1 (λz=>nomatch h3p.symm.trans z) gp;refine⟨p1,xs,v4,rfl,rfl,h4p,by rw[r3.length];exact cM7 hlen (by decide),?_⟩;have E4:=F4.upd (x:=p1) (o:=.lst (xs++[v4])) g4p (.inr p0) (F4.tb.lst h4p);have ha4':L2.upd H4 p1 (.lst (xs++[v4])) a=some (.ins C d [("sought",.int q0),("rows",.ref p1)]):=by rw[l8 (Ne.symm pa)];exact ha4
 refine X8 ⟨G4,_,os,E4.sub,hU1.mono (e2.g.trans (e3.g.trans e4.g)),m5,λb ys G5 H5 hb gb e5 h5 r5=> ?_⟩;have F5:=E4.step (nne ha4') e5;have ha5:H5 a=some (.ins C d [("sought",.int q0),("rows",.ref p1)]):=e5.h.yes ha4' rfl;have ba:b≠a:=λz=>by rw[z,ha4']at hb;cases hb
 have bp:b≠p1:=λz=>by rw[z,t6]at hb;cases hb
 have b0:H b=none:=E4.free ba hb;have h5p:H5 p1=some (.lst (xs++[v4])):=e5.h.lst t6;have g5p:G5 p1=none:=e5.fr p1 (by rw[t6];simp) g4p;refine⟨.ref a,s01,a,C,d,_,rfl,ha5,cl,na3,(by show(2:Nat)<1000;decide),?_⟩;have E5:=F5.upd (x:=a) (o:=.ins C d [("sought",.int q0),("rows",.ref p1),("owners",.ref b)]) F5.ga (.inl rfl) (tins F5.tb ha5);have ha5':L2.upd H5 a (.ins C d [("sought",.int q0),("rows",.ref p1),("owners",.ref b)]) a=some (.ins C d [("sought",.int q0),("rows",.ref p1),("owners",.ref b)]):=t6;refine⟨G5,_,.int 1,E5.sub,hU1.mono (e2.g.trans (e3.g.trans (e4.g.trans e5.g))),rfl,λv6 G6 H6 e6 r6=> ?_⟩;simp only[Rep]at r6;subst r6;have F6:=E5.step (nne ha5') e6;have ha6:H6 a=some (.ins C d [("sought",.int q0),("rows",.ref p1),("owners",.ref b)]):=e6.h.yes ha5' rfl;refine⟨.ref a,s01,a,C,d,_,rfl,ha6,cl,na4,(by show(3:Nat)<1000;decide),?_⟩;have h5b:L2.upd H5 a (.ins C d [("sought",.int q0),("rows",.ref p1),("owners",.ref b)]) b=some (.lst ys):=by rw[l8 ba];exact h5
 have h6p:H6 p1=some (.lst (xs++[v4])):=e6.h.lst (by rw[l8 pa];exact h5p);have h6b:H6 b=some (.lst ys):=e6.h.lst h5b;have g6p:G6 p1=none:=e6.fr p1 (λz=>nomatch (show L2.upd H5 a (.ins C d [("sought",.int q0),("rows",.ref p1),("owners",.ref b)]) p1=some (.lst (xs++[v4])) by rw[l8 pa];exact h5p).symm.trans z) g5p;have g6b:G6 b=none:=e6.fr b (λz=>nomatch h5b.symm.trans z) gb;have E6:=F6.upd (x:=a) (o:=.ins C d [("sought",.int q0),("rows",.ref p1),("owners",.ref b),("under",.int 1)]) F6.ga (.inl rfl) (tins F6.tb ha6);have E7:=E6.frz (p:=p1) (o:=.lst (xs++[v4])) pa (by rw[l8 pa];exact h6p) p0 g6p rfl;have sn:=K2 g6p (HO.lst (xs++[v4]));have r3':j8 X.K G4 rs xs:=r3.mono e4.g;refine q b _ (L2.upd G6 p1 (.lst (xs++[v4]))) _ b0 (E7.ext t6 ac4 (by rw[l8 ba];exact h6b) aH8 b0 (by rw[l8 bp];exact g6b)) E7.tb
  ⟨⟨q0,rs++[l],os,1,p1,_,ys,rfl,t6,t6,((r3'.append (j8.cons r4 j8.nil)).mono (e5.g.trans e6.g)).mono sn,by rw[l8 ba];exact h6b,(r5.mono e6.g).mono sn⟩,E7.ga,by rw[l8 bp];exact g6b,Ne.symm ba,cl,na⟩
end
section
variable {K:cO5}
theorem fnI{x qual:Str}{st:Stmt}{f:Addr}{fd:FuncData}{N ps:List Str}{k:Nat}{gs gq gr ga go:L3.G}{C:Addr}(F:Fun K x qual st f fd)(S:O8 N ps (r8 st))(np:ps.length<=N.length)(h5:4<N.length)
  (hb:∀(cdv:Value) (A:Around) (aE:List Env) (s:Shared) (H:Hp) (E:XK),J9 k (A.deeper (envOfC qual (r8 st) s.sz f cdv))->
   bL4 (F7 CX0 P w K mg aD N qual (r8 st) f cdv A aE s H E).nox C (N8 st) gs gq gr ga go):
  P9 P w K mg aD CX0 (k+1) f fd ps (spN K C ps.length (bO0 N.length gs gq gr ga go)):=by
 refine F.ok S (λvs H Q E h=> ?_) (λcdv A aE s H vs Q E hr h=> ?_)
 .obtain⟨G,ts,t',a,d,vs0,rfl,_,_,_,r,hl,_⟩:=h;rw[cB8,r.length,hl]
 .obtain⟨G,ts,t',a,d,vs0,rfl,sG,tb,ha,r,hl,hf,q⟩:=h;obtain⟨tS,h1,h2⟩:=hb cdv A aE s H E hr;refine⟨tS,h1,?_⟩;have r0:j8 K G (.ref a::ts) (.ref a::vs0):=j8.cons (by simp[Rep]) r;have h0:=af5 (N:=N) r0 (by rw[cB8];omega);have lv:vs0.length+1<=N.length:=by rw[r.length];omega
  refine h2 _ _ H G (o8 N.length (.non::ts)) a d t' ?_ ⟨D6.refl _,λc o z=> ?_,sG.n,λc o _ z=>⟨o,z,λ_=>rfl⟩,λ_ _ _ z=>z,tb⟩ ha ?_ ?_ hf λb Z' G' H' hb0 x tb' B=>q b G' H' hb0 x tb' B
  .simp[L2.start];omega
  .obtain⟨c1,_,z⟩:=V7 (sG.s c o z);exact⟨c1,z⟩
  .have h1:=h0.setN (i:=0) (o:=some (.ref a));have e1:(L2.start N (V.ref a::vs0)).set 0 (some (V.ref a))=L2.start N (V.ref a::vs0):=by simp[L2.start]
   have e2:(o8 N.length (T.ref a::ts)).set 0 none=C7 [0] (o8 N.length (T.non::ts)):=by simp[C7,o8]
   rw[e1,e2]at h1;exact h1
  .simp[L2.start]
end
theorem cc9:NB (bf5 i l FI FK FC gR):=λU o e=>by
 obtain⟨_,_,e⟩:=j5 e;obtain⟨_,_,e⟩:=j5 e;obtain⟨_,_,e⟩:=j5 e;obtain⟨_,_,e⟩:=j5 e;obtain⟨_,_,e⟩:=j5 e;cases e;exact⟨λ_ z=>(nomatch z),λ_ z=>(nomatch z)⟩
section
theorem bE7(i:Nat)(cl:Cls X.K C)(na:∀f∈fsB,O9 X.K C f)(M:Mk X.K C fI)(HI:P9 X.prog X.w X.K X.mg X.aD CX0 kI fI dI pI (spN X.K C 4 FI))(bI:P6 X.K dI pI [])(HK:P9 X.prog X.w X.K X.mg X.aD CX0 kK fK dK pK (spB X.K C 1 FK))(bK:P6 X.K dK pK [])(HC:P9 X.prog X.w X.K X.mg X.aD CX0 kC fC dC pC (spB X.K C 1 FC))(bC:P6 X.K dC pC [])(hr:J9 k' X.A)(rI:kI+1<=k')(rK:kK<=k')(rC:kC<=k')(gB:Gl X xB)(mB:X.mg xB=some (.ref C))(gK:Gl X xK)(mK:X.mg xK=some (.ref fK))(kpK:W.keepIn X.K (.ref fK)=true)(gC':Gl X xC)(mC:X.mg xC=some (.ref fC))(kpC:W.keepIn X.K (.ref fC)=true)(ha:Wd (PXA X (e1::es) (gs l)))(hl3:l.length=3)(kk:PE X ek (aa8 i))(kc:PE X ec (aa8 i))(kR:Wd (PX X eR gR))(hN:ai0 X.N=true:=by rfl)(hi:X.N[i]?=some xb:=by rfl)(hx:Loc X.env.scope xb:=by first |exact .inl rfl|exact .inr rfl)(hs:swapsWith (.Call (.Name xB pB) (e1::es) [] cB) (some (.Name xb pb)) sB.line X.env=pure false:=by rfl)(hf:LcF X xb:=by first |exact .inl rfl|exact .inr rfl)(dB:NoD xB:=by decide)(sB1:StE X e1 es:=by rfl)(sB2:Bks X cB es:=by rfl)(dK':NoD xK:=by decide)(sK1:StE X ek []:=by rfl)(sK2:Bks X ck []:=by rfl)(wK:swapsWith (.Call (.Name xK pk) [ek] [] ck) none sk.line X.env=pure false:=by rfl)(dC':NoD xC:=by decide)(sC1:StE X ec []:=by rfl)(sC2:Bks X cc []:=by rfl)(wC:swapsWith (.Call (.Name xC pc) [ec] [] cc) none sc.line X.env=pure false:=by rfl):az9 X [] aB' [.Assign [.Name xb pb] (.Call (.Name xB pB) (e1::es) [] cB) sB,.Expr (.Call (.Name xK pk) [ek] [] ck) sk,.Expr (.Call (.Name xC pc) [ec] [] cc) sc,.Return (some eR) pr] (bf5 i l FI FK FC gR):=by
 have hN:=O6 hN;have ha:=ha.run;have kR:=kR.run;refine⟨cc9,λG0 H0 aA s Z H D I ⟨G,U,o,R,hg,q⟩=> ?_⟩;refine P2 (aA7 hN hi hx (cb3 M HI (hr.mono rI) gB mB bI .nil aT2 ha dB sB1 sB2) hs hf)
  (P2 (ao2 (aL9 HK (hr.mono rK) gK mK kpK bK .nil aT2 (T0 kk ab3 sK1) dK' sK1 sK2) wK)
  (P2 (ao2 (aL9 HC (hr.mono rC) gC' mC kpC bC .nil aT2 (T0 kc ab3 sC1) dC' sC1 sC2) wC) (aj9 (aT0 kR)))) aA s Z H D I ?_
 obtain⟨ts,m1,hg⟩:=j5 hg;obtain⟨t0,m2,hg⟩:=j5 hg;obtain⟨t1,m3,hg⟩:=j5 hg;obtain⟨t2,m4,hg⟩:=j5 hg;obtain⟨t,m5,hg⟩:=j5 hg;cases hg;have hli:i<Z.length:=by rw[I.len];exact al4 hi
 refine X8 (aX1 ⟨G,U,ts,R.x.s,R.r,m1,λvs G1 H1 e1 r1 a d hna hnd hda=> ?_⟩);have ga1:G1 a=none:=e1.s.free hna;have gd1:G1 d=none:=e1.s.free hnd;have had:L2.upd (L2.upd H1 d (.aB a)) a (.ins C d []) a=some (.ins C d []):=t6;have tb1:Tbs (L2.upd (L2.upd H1 d (.aB a)) a (.ins C d [])):=(e1.s.t.new hnd).new (by rw[l8 (Ne.symm hda)];exact hna);have su:Sub G1 (L3.del2 (L2.upd (L2.upd H1 d (.aB a)) a (.ins C d [])) a a):=⟨λc u z=>by
  rw[R5 (A9 z ga1) (A9 z ga1),l8 (A9 z ga1),l8 (A9 z gd1)];exact e1.s c u z,tb1.del2 had ac4 had ac4,e1.s.n⟩
 show spN X.K C 4 FI (.ref a::(vs++[])) _ _ _;rw[cH0];refine⟨G1,ts,t0,a,d,vs,rfl,su,tb1,had,r1,by rw[ar3 m1,hl3],m2,λb G2 H2 hb x2 tb2 B2=>⟨rfl,?_⟩⟩;have sai:(Z.set i (some (V.ref a)))[i]?=some (some (V.ref a)):=cI9 hli;refine X8 ⟨.ref a,sai,?_⟩;refine⟨G2,[],t0,t1,a,d,b,[],rfl,x2.s,tb2,B2,j8.nil,rfl,m3,λG3 H3 x3 tb3 B3=> ?_⟩;refine X8 ⟨.ref a,sai,?_⟩;refine⟨G3,[],t1,t2,a,d,b,[],rfl,x3.s,tb3,B3,j8.nil,rfl,m4,λG4 H4 x4 tb4 B4=> ?_⟩;have XX:=x2.trans (x3.trans x4);have sG4:D6 G4 H4:=λc u z=>(V7 (x4.s c u z)).2.2
 have sub4:=B4.sub sG4 tb4 x4.s.n;have b1:H1 b=none:=by
  have ba:b≠a:=Ne.symm B2.ab;rw[l8 ba]at hb;by_cases y:b=d
  .subst y;exact hnd
  .rw[l8 y]at hb;exact hb
 have ext:Ext G1 H1 (aa4 G4 H4 a b) H4:=by
  refine⟨XX.g.trans B4.same,sub4,λc u z=> ?_,λc hc hgc=> ?_⟩
  .have ca:c≠a:=λy=>by rw[y,hna]at z;cases z
   have cd:c≠d:=λy=>by rw[y,hnd]at z;cases z
   have cb:c≠b:=λy=>by rw[y,b1]at z;cases z
   obtain⟨o',k1,k2⟩:=XX.h c u (by rw[R5 ca ca,l8 ca,l8 cd];exact z);exact⟨o',(V7 k1).2.2,k2⟩
  .have ca:c≠a:=λy=>hc (by rw[y];exact hna)
   have cd:c≠d:=λy=>hc (by rw[y];exact hnd)
   have cb:c≠b:=λy=>hc (by rw[y];exact b1)
   unfold aa4;rw[cP1 λy=>y.elim ca cb];exact XX.fr c (by rw[R5 ca ca,l8 ca,l8 cd];exact hc) hgc
 refine⟨aa4 G4 H4 a b,U.set i (some t2),t,sub4,(R.r.mono (e1.g.trans ext.g)).set B4.rep,m5,λv G5 H5 e5 r5=>q v G5 H5 (R.x.trans (e1.trans (ext.trans e5))) r5⟩
end
end L3
namespace L2
section
theorem bL2(a v d:Value):argsOk "min" ⟨[a],[(Str.ofString "key",v),(Str.ofString "default",d)]⟩:=by unfold argsOk;kernel_rfl
theorem bK5(hh:A.handled=none)(hl:s.heap.IsList l #[])(hQ:∀h',(∀c o,s.heap.get? c=some o->h'.get? c=some o)->Q d {s with heap:=h'}):
  wpAny (model P w) A (call (.builtin "min") [.ref l] [(Str.ofString "key",kv),(Str.ofString "default",d)]) Q E s:=by
 have nm:(toString "min"++toString ".loop":String)="min.loop":=by decide
 obtain⟨ol,hol,hrest⟩:=id hl;have lt:=cD9 hol;refine kmk_tree PySem.F.kind_min PySem.F.plain_min PySem.F.entry_min (bL2 _ _ _) ?_;change wpAny _ A.in1 (Builtin.Builtins.bindParams "min" ["key","default"] 0 ⟨[],[(Str.ofString "key",kv),(Str.ofString "default",d)]⟩>>=_) _ _ s;refine cP3 (wpAny_of_eq (a:=[some kv,some d]) (by rfl) ?_);refine cP3 (cP8 (cP3 (cP9 hl (cP3 (wpAny_newList ?_ (cO2 _))))));rw[nm];refine cP8 ⟨plainId_quiet PySem.F.plain_min_loop _,codeAny_builtin PySem.F.entry_min_loop ?_⟩;rw[Around.under_plainId PySem.F.plain_min_loop _];have up:∀c o,s.heap.get? c=some o->((s.heap.push {cls:=.type "list_iterator",data:=.fields #[.ref l,.int 0 0]}).push (seqObj "list" #[] 0)).get? c=some o:=λc o e=>cD5 _ (cD5 _ e)
 have gI:((s.heap.push {cls:=.type "list_iterator",data:=.fields #[.ref l,.int 0 0]}).push (seqObj "list" #[] 0)).get? s.sz=some {cls:=.type "list_iterator",data:=.fields #[.ref l,.int 0 0]}:=cD5 _ (cD6 _ rfl);have gbest:((s.heap.push {cls:=.type "list_iterator",data:=.fields #[.ref l,.int 0 0]}).push (seqObj "list" #[] 0)).get? (s.heap.push {cls:=.type "list_iterator",data:=.fields #[.ref l,.int 0 0]}).objs.size=some (seqObj "list" #[] 0):=cD6 _ rfl;change wpAny _ A.in1 (seqItems? (.ref _)>>=_) _ _ _;refine cP3 (cQ0 gbest rfl ?_);change wpAny _ A.in1 (tryCatch (pyNext (.ref s.sz)) _>>=_) _ _ _;refine cP3 (wpAny_tryCatch (wpAny_pyNext_list_end (i:=0) (items:=#[]) hh ⟨_,gI,rfl,rfl⟩ ⟨ol,up _ _ hol,hrest⟩ rfl λh' eb=> ?_));refine cP3 (wpAny_rule ?_);exact cP8 (hQ h' λc o e=>eb c o (cN5 (cD9 e)) (up c o e))
end
end L2
namespace L3
section
theorem bQ5(bm:BM X.mg X.aD)(hcalm:X.calm=true)(hg:Gl X "min")(hm:X.mg "min"=none)(hp:(P,q)∈af3)(hq:X.env.qual++"<lambda>"=q)(hcode:X.env.code=.ref c)(hcd:W.codeHdIn X.K c P=true)(hdef:defaultsOf params X.env=([],[]))(chk:scope.names.all (λy=>y.2 !=.free||X.env.scope.names.lookup y.1==some .cell)=true)(ha:Wd (PX X e g))(hn:Wd (PX X en (gC .non)))(hv:bootBuiltins "min"=some (.builtin "min"):=by rfl)(hs:StE X e []:=by rfl):Wd (PX X (.Call (.Name "min" p) [e] [⟨some "key",.Lambda params body scope lpos,kp⟩,⟨some "default",en,kp'⟩] cpos) (g1 bX1 g)):=⟨by
 have ha:=ha.run;have hn:=hn.run;intro aA s Z H Q I ⟨G,U,t,sG,hU,hgt,q1⟩;obtain⟨x,k1,hgt⟩:=j5 hgt
 match x,k1,hgt with
 |.lst [],k1,hgt=>
 cases hgt;refine wpAny_Call_Name_kw (ar0 I hg hm hv ?_ (by decide) (by decide));refine callWith_kw ?_ (by rw[hs];rfl) (by rw[hs];rfl);rw[hs];show wpAny _ _ (spliced ((false,eval e X.env)::backTo cpos (starEach [] X.env))) _ _ s;refine Calls.spliced_cons (thn (ha aA s Z H (λv H1=>∃G1,Ext G H G1 H1/\Rep X.K G1 (.lst []) v) I ⟨G,U,_,sG,hU,k1,λv G1 H1 e1 r1=>⟨G1,e1,r1⟩⟩) λu s1 ⟨x,H1,I1,rx,G1,e1,r1⟩=>Calls.spliced_nil ?_);simp only[Rep,j8]at r1;obtain⟨pl,xs,rfl,gl,rfl⟩:=r1;obtain rfl:u=Value.ref pl:=rx;obtain⟨clos,hcl,_⟩:=aV2 (env:=X.env) (scope:=scope) λx hx=>I1.ok.has x (.inl (by
  have :=List.all_eq_true.mp chk (x,.free) hx;have z:X.env.scope.names.lookup x=some .cell:=by simpa using this
  exact z))
 refine kws_cons (bl8 I1 bm e1.s.t hp hq hcode hcd hcl hdef λfa c' pm ctv H2 s2 I2 T2 n2 ho hc2 hfa hsz keep nt nfr=> ?_);have E12:Ext G1 H1 G1 H2:=⟨D6.refl _,⟨λb o z=>nt b o (e1.s b o z) (by cases o with |tbl ps=>exact absurd z (e1.s.n b ps)|_=>rfl),T2,e1.s.n⟩,n2,λ_ _ z=>z⟩
 refine kws_cons (thn (hn aA s2 Z H2 (λv H3=>∃G3,Ext G1 H2 G3 H3/\v=.non) I2 ⟨G1,U,.non,E12.s,hU.mono e1.g,rfl,λv G3 H3 e3 r3=>⟨G3,e3,by simpa[Rep]using r3⟩⟩) λu3 s3 ⟨x3,H3,I3,rx3,G3,e3,en3⟩=>kws_nil ?_);subst en3;obtain rfl:u3=Value.none:=rx3;have EE:=E12.trans e3;obtain⟨its,rv,pp,_⟩:=I3.list (SqL.of (EE.s _ _ (EE.g _ _ gl)));cases rv;show wpAny _ _ (call (.builtin "min") [.ref pl] [(Str.ofString "key",.ref fa),(Str.ofString "default",.none)]) _ _ s3;exact bK5 (I3.ok.hd hcalm) pp.isList λh' kk=>⟨.non,H3,I3.kept (t':=s3.toks) kk,rfl,q1 _ G3 H3 (e1.trans EE) (by simp[Rep])⟩⟩
end
end L3
namespace L2
section
abbrev Z5(h:Heap)(T:Addr)(xs:Array Value):Prop:=h.get? T=some {cls:=.type "tuple",data:=.seq xs}
theorem bh4{A:Around}{E:Value->Shared->Prop}{Q:Unit->Shared->Prop}{s:Shared}(hT:Z5 s.heap T xs)
  (h:∀h',Z5 h' T (xs.setIfInBounds k x)->Heap.SameBut T s.heap h'->Q () {s with heap:=h'}) (hl:xs.size<=3):wpAny (model P w) A (updateSeq T (·.setIfInBounds k x)) Q E s:=by
 have q:xs.size<=sizeLine:=cM5 hl (by decide);refine wpAny_updateSeq hT rfl (h _ ?_ (Heap.SameBut.update ..)) q (by rw[Array.size_setIfInBounds];omega);show Heap.get? _ _=_;rw[cD8 _ hT rfl];simp[Obj.mapSeq]
structure Ap3(z TI TO i1 i2 i3 l1 l2 l3:Addr):Prop where
 TIz:TI≠z
 TOz:TO≠z
 TITO:TI≠TO
 i1z:i1≠z
 TIi1:TI≠i1
 TOi1:TO≠i1
 i2z:i2≠z
 TIi2:TI≠i2
 TOi2:TO≠i2
 i3z:i3≠z
 TIi3:TI≠i3
 TOi3:TO≠i3
 i12:i1≠i2
 i13:i1≠i3
 i23:i2≠i3
 l1z:l1≠z
 l2z:l2≠z
 l2TO:l2≠TO
 l2i1:l2≠i1
 l3z:l3≠z
 l3TO:l3≠TO
 l3i1:l3≠i1
 l3i2:l3≠i2
theorem aW8{A:Around}{E:Value->Shared->Prop}{s:Shared}{z TI TO i l:Addr}{xs:Array Value}{F:Value->Sem α}(hh:A.handled=none)(hz:IsZip s.heap z TI TO .ellipsis)(hi:s.heap.IsListIter i l k)(hl:s.heap.IsList l xs)(hx:xs[k]?=none)(hn:i≠z)
  (hE:∀h' e,(∀b u,b≠z->b≠i->s.heap.get? b=some u->h'.get? b=some u)->(∃o,h'.get? e=some o/\o.cls=.type "StopIteration")->E (.ref e) {s with heap:=h'}):
  wpAny (model P w) A (Builtin.SmallTypes.nextOf (.ref i)>>=F) Q (λe s'=>wpAny (model P w) A (setField (.ref z) 0 .none) (λ_ s''=>E e s'') E s') s:=by
 refine cP3 (wpAny_nextOf_list_end hh hi hl hx λg e es ⟨oe,hoe,hce⟩=> ?_);have hz2:IsZip g z TI TO .ellipsis:=es _ _ hn.symm hz;have hez:e≠z:=λx=>by subst x;rw[hz2]at hoe;cases hoe;simp at hce
 exact cQ1 hz2 (by simp) λh₃ _ hso=>hE h₃ e (λc o cz ci x=>(hso.2 _ cz).trans (es _ _ ci x)) ⟨oe,(hso.2 _ hez).trans hoe,hce⟩
abbrev Kp3(z TO i1 i2 i3:Addr)(h h':Heap):Prop:=∀b u,b≠z->b≠TO->b≠i1->b≠i2->b≠i3->h.get? b=some u->h'.get? b=some u
theorem zp3{A:Around}{s:Shared}{Q E:Value->Shared->Prop}{z TI TO i1 i2 i3 l1 l2 l3:Addr}{xs1 xs2 xs3:Array Value}(hh:A.handled=none)(D:Ap3 z TI TO i1 i2 i3 l1 l2 l3)
  (hz:IsZip s.heap z TI TO .none) (hTI:Z5 s.heap TI #[.ref i1,.ref i2,.ref i3]) (hTO:Z5 s.heap TO #[a1,a2,a3])
  (h1:s.heap.IsListIter i1 l1 k) (h2:s.heap.IsListIter i2 l2 k) (h3:s.heap.IsListIter i3 l3 k) (m1:s.heap.IsList l1 xs1) (m2:s.heap.IsList l2 xs2) (m3:s.heap.IsList l3 xs3)
  (hQ:∀x1 x2 x3,xs1[k]?=some x1->xs2[k]?=some x2->xs3[k]?=some x3->∀h',IsZip h' z TI TO (rawInt s.sz)->Z5 h' TO #[x1,x2,x3]->h'.IsListIter i1 l1 (k+1)->h'.IsListIter i2 l2 (k+1)->h'.IsListIter i3 l3 (k+1)->Z5 h' s.sz #[x1,x2,x3]->
   Kp3 z TO i1 i2 i3 s.heap h'->Q (.ref s.sz) {s with heap:=h'})
  (hE:xs1[k]?=none\/xs2[k]?=none\/xs3[k]?=none->∀h' e,Kp3 z TO i1 i2 i3 s.heap h'->(∃o,h'.get? e=some o/\o.cls=.type "StopIteration")->E (.ref e) {s with heap:=h'}):
  wpAny (model P w) A (Builtin.«zip.__next__» ⟨[.ref z],[]⟩) (λfin s'=>∃v,fin=.done (.ret v)/\Q v s') E s:=by
 change wpAny _ _ (field (.ref z) 2>>=_) _ _ _;refine cP3 (cP5 hz rfl (x:=.bool false) rfl ?_);change wpAny _ _ (field (.ref z) 3>>=_) _ _ _;refine cP3 (cP5 hz rfl (x:=.ref TI) rfl (cP3 (cQ0 hTI rfl ?_)));change wpAny _ _ (Builtin.SmallTypes.ownedTupleIsFree (.ref z)>>=_) _ _ _;refine cP3 ?_;unfold Builtin.SmallTypes.ownedTupleIsFree;refine cP3 (cP5 hz rfl (x:=.none) rfl (cP8 ?_));simp only[if_true];refine cP3 (wpAny_rule (cP3 (cP5 hz rfl (x:=.ref TO) rfl ?_)));refine cP3 (cQ1 hz (by simp) λh₁ hzo ⟨c0,k0⟩=> ?_);replace hzo:IsZip h₁ z TI TO .ellipsis:=hzo;refine cP3 ?_;simp only[List.zipIdx_cons,List.zipIdx_nil,cI0,List.forIn_nil];refine cP3 (cP3 (wpAny_onRaise ?_));change wpAny _ _ (Builtin.SmallTypes.nextOf (.ref i1)>>=_) _ _ _;have p1:=h1.at λo e=>(k0 _ D.i1z).trans e
 have n1:=m1.at λo e=>(k0 _ D.l1z).trans e
 rcases hx1:xs1[k]? with _|x1
 .exact aW8 hh hzo p1 n1 hx1 D.i1z λh' e kp he=>hE (.inl hx1) h' e (λc o cz cO c1 c2 c3 x=>kp _ _ cz c1 ((k0 _ cz).trans x)) he
 refine cP3 (wpAny_nextOf_list_item p1 n1 hx1 λg1 q1 ⟨a0,e1⟩=>cP8 ?_);have to1:Z5 g1 TO #[a1,a2,a3]:=(e1 _ D.TOi1).trans ((k0 _ D.TOz).trans hTO);refine cP3 (cQ0 to1 rfl (cP3 (bh4 to1 (λu1 hu1 ⟨b0,f1⟩=> ?_) (cM3 _))));replace hu1:Z5 u1 TO #[x1,a2,a3]:=hu1;refine cP3 (wpAny_letGo (cP8 (cP3 (cP3 (wpAny_onRaise ?_)))));change wpAny _ _ (Builtin.SmallTypes.nextOf (.ref i2)>>=_) _ _ _;have k1:∀b,b≠z->b≠TO->b≠i1->u1.get? b=s.heap.get? b:=λb p q r=>(f1 _ q).trans ((e1 _ r).trans (k0 _ p))
 have z1:IsZip u1 z TI TO .ellipsis:=(f1 _ D.TOz.symm).trans ((e1 _ D.i1z.symm).trans hzo);have p2:=h2.at λo e=>(k1 _ D.i2z D.TOi2.symm D.i12.symm).trans e
 have n2:=m2.at λo e=>(k1 _ D.l2z D.l2TO D.l2i1).trans e
 rcases hx2:xs2[k]? with _|x2
 .exact aW8 (s:={s with heap:=u1}) hh z1 p2 n2 hx2 D.i2z λh' e kp he=>hE (.inr (.inl hx2)) h' e (λc o cz cO c1 c2 c3 x=>kp _ _ cz c2 ((k1 _ cz cO c1).trans x)) he
 refine cP3 (wpAny_nextOf_list_item (s:={s with heap:=u1}) p2 n2 hx2 λg2 q2 ⟨a5,e2⟩=>cP8 ?_);have to2:Z5 g2 TO #[x1,a2,a3]:=(e2 _ D.TOi2).trans hu1;refine cP3 (cQ0 to2 rfl (cP3 (bh4 to2 (λu2 hu2 ⟨b5,f2⟩=> ?_) (cM3 _))));replace hu2:Z5 u2 TO #[x1,x2,a3]:=hu2;refine cP3 (wpAny_letGo (cP8 (cP3 (cP3 (wpAny_onRaise ?_)))));change wpAny _ _ (Builtin.SmallTypes.nextOf (.ref i3)>>=_) _ _ _;have k2:∀b,b≠z->b≠TO->b≠i1->b≠i2->u2.get? b=s.heap.get? b:=λb p q r t=>(f2 _ q).trans ((e2 _ t).trans (k1 _ p q r))
 have z2:IsZip u2 z TI TO .ellipsis:=(f2 _ D.TOz.symm).trans ((e2 _ D.i2z.symm).trans z1);have p3:=h3.at λo e=>(k2 _ D.i3z D.TOi3.symm D.i13.symm D.i23.symm).trans e
 have n3:=m3.at λo e=>(k2 _ D.l3z D.l3TO D.l3i1 D.l3i2).trans e
 rcases hx3:xs3[k]? with _|x3
 .exact aW8 (s:={s with heap:=u2}) hh z2 p3 n3 hx3 D.i3z λh' e kp he=>hE (.inr (.inr hx3)) h' e (λc o cz cO c1 c2 c3 x=>kp _ _ cz c3 ((k2 _ cz cO c1 c2).trans x)) he
 refine cP3 (wpAny_nextOf_list_item (s:={s with heap:=u2}) p3 n3 hx3 λg3 q3 ⟨a6,e3⟩=>cP8 ?_);have to3:Z5 g3 TO #[x1,x2,a3]:=(e3 _ D.TOi3).trans hu2;refine cP3 (cQ0 to3 rfl (cP3 (bh4 to3 (λu3 hu3 ⟨b6,f3⟩=> ?_) (cM3 _))));replace hu3:Z5 u3 TO #[x1,x2,x3]:=hu3;refine cP3 (wpAny_letGo ?_);refine cP8 (cP8 ?_);refine cP3 (cQ0 hu3 rfl (cP3 (wpAny_newTuple ?_)));have hsz:u3.objs.size=s.sz:=by rw[b6,a6,b5,a5,b0,a0,c0]
 have hz5:IsZip u3 z TI TO .ellipsis:=(f3 _ D.TOz.symm).trans ((e3 _ D.i3z.symm).trans z2);change wpAny _ _ (Builtin.SmallTypes.ownedTupleHandOut (.ref z) (.ref u3.objs.size)>>=_) _ _ _;refine cP3 ?_;unfold Builtin.SmallTypes.ownedTupleHandOut;have hz6:IsZip (u3.push {cls:=.type "tuple",data:=.seq #[x1,x2,x3]}) z TI TO .ellipsis:=cD5 _ hz5;refine cP3 (cQ1 hz6 (by simp) λh₇ hz7 hs7=> ?_);replace hz7:IsZip h₇ z TI TO (rawInt u3.objs.size):=hz7;refine cQ1 hz7 (by simp) λh₈ hz8 hs8=> ?_;replace hz8:IsZip h₈ z TI TO (rawInt u3.objs.size):=hz8
 have up:∀c,c≠z->∀o,u3.get? c=some o->h₈.get? c=some o:=λc cz o e=>(hs8.2 _ cz).trans ((hs7.2 _ cz).trans (cD5 _ e))
 have nz:=cN4 (cD9 hz5);have hT8:Z5 h₈ u3.objs.size #[x1,x2,x3]:=(hs8.2 _ nz).trans ((hs7.2 _ nz).trans (cD6 _ rfl));rw[hsz]at hz8 hT8;refine cP8 ⟨_,rfl,?_⟩;change Q (.ref u3.objs.size) _;rw[hsz];exact hQ x1 x2 x3 hx1 hx2 hx3 h₈ hz8 (up _ D.TOz _ hu3) (q1.at λo e=>up _ D.i1z _ ((f3 _ D.TOi1.symm).trans ((e3 _ D.i13).trans ((f2 _ D.TOi1.symm).trans ((e2 _ D.i12).trans ((f1 _ D.TOi1.symm).trans e))))))
  (q2.at λo e=>up _ D.i2z _ ((f3 _ D.TOi2.symm).trans ((e3 _ D.i23).trans ((f2 _ D.TOi2.symm).trans e)))) (q3.at λo e=>up _ D.i3z _ ((f3 _ D.TOi3.symm).trans e)) hT8 λc o cz cO c1 c2 c3 e=>up _ cz _ ((f3 _ cO).trans ((e3 _ c3).trans ((k2 _ cz cO c1 c2).trans e)))
theorem bl2{A:Around}{s:Shared}{E:Value->Shared->Prop}{z TI TO i1 i2 i3 l1 l2 l3:Addr}{xs1 xs2 xs3:Array Value}{Q:Option Value->Shared->Prop}(hh:A.handled=none)(D:Ap3 z TI TO i1 i2 i3 l1 l2 l3)
  (hz:IsZip s.heap z TI TO .none) (hTI:Z5 s.heap TI #[.ref i1,.ref i2,.ref i3]) (hTO:Z5 s.heap TO #[a1,a2,a3])
  (h1:s.heap.IsListIter i1 l1 k) (h2:s.heap.IsListIter i2 l2 k) (h3:s.heap.IsListIter i3 l3 k) (m1:s.heap.IsList l1 xs1) (m2:s.heap.IsList l2 xs2) (m3:s.heap.IsList l3 xs3)
  (hQ:∀x1 x2 x3,xs1[k]?=some x1->xs2[k]?=some x2->xs3[k]?=some x3->∀h',IsZip h' z TI TO (rawInt s.sz)->Z5 h' TO #[x1,x2,x3]->h'.IsListIter i1 l1 (k+1)->h'.IsListIter i2 l2 (k+1)->h'.IsListIter i3 l3 (k+1)->Z5 h' s.sz #[x1,x2,x3]->
   Kp3 z TO i1 i2 i3 s.heap h'->Q (some (.ref s.sz)) {s with heap:=h'})
  (hE:xs1[k]?=none\/xs2[k]?=none\/xs3[k]?=none->∀h',Kp3 z TO i1 i2 i3 s.heap h'->Q none {s with heap:=h'}):
  wpAny (model P w) A (pyNext (.ref z)) Q E s:=by
 have tz:s.TypeIs (.ref z) "zip":=⟨_,hz,rfl⟩;unfold pyNext;refine cP3 (wpAny_attempt (wpAny_callSpecial?_slot (name:=Str.ofString "__next__") tz F.slot_zip_next (cP4 F.slot_zip_next tz F.entry_zip_next
   (zp3 hh D hz hTI hTO h1 h2 h3 m1 m2 m3 (λx1 x2 x3 y1 y2 y3 h' b1 b2 b3 b4 b5 b6 b7=>cP8 (hQ x1 x2 x3 y1 y2 y3 h' b1 b2 b3 b4 b5 b6 b7)) λy h' e hk he=> ?_) (F.args_zip_next_1 _))))
 exact cP3 (wpAny_isInstance (T:="StopIteration") (b:=true) he isSubtype_stop (cP8 (hE y _ hk)))
end
noncomputable abbrev itO(c:String)(l:Addr):Obj:={cls:=.type c,data:=.fields #[.ref l,.int 0 0]}
noncomputable abbrev tpO(xs:Array Value):Obj:={cls:=.type "tuple",data:=.seq xs}
noncomputable abbrev zpO(a b:Addr):Obj:={cls:=.type "zip",data:=.fields #[.none,.bool false,.bool false,.ref a,.ref b]}
noncomputable abbrev it3(h:Heap)(l1 l2 l3:Addr):Heap:=((h.push (itO "list_iterator" l1)).push (itO "list_iterator" l2)).push (itO "list_iterator" l3)
noncomputable abbrev ti3(h:Heap)(l1 l2 l3:Addr):Heap:=(it3 h l1 l2 l3).push (tpO #[.ref h.objs.size,.ref (h.push (itO "list_iterator" l1)).objs.size,.ref ((h.push (itO "list_iterator" l1)).push (itO "list_iterator" l2)).objs.size])
noncomputable abbrev mk3(h:Heap)(l1 l2 l3:Addr):Heap:=((ti3 h l1 l2 l3).push (tpO #[.none,.none,.none])).push (zpO (it3 h l1 l2 l3).objs.size (ti3 h l1 l2 l3).objs.size)
theorem cc4(l1 l2 l3:Addr)(xs ys zs:Array Value):
  Meets (Builtin.«zip.__new__» ⟨[.type "zip",.ref l1,.ref l2,.ref l3],[]⟩) (λ_ R s=>s.heap.IsList l1 xs/\s.heap.IsList l2 ys/\s.heap.IsList l3 zs/\
   R (.ok (.ret (.ref ((ti3 s.heap l1 l2 l3).push (tpO #[.none,.none,.none])).objs.size))) {s with heap:=mk3 s.heap l1 l2 l3}):=
 .of_wp λprog w A R s h=>by
  obtain⟨hp,g,d,tk,os⟩:=s;obtain⟨q1,q2,q3,h⟩:=h;have hsub:=sub_zip;have k1:Heap.IsList (Shared.heap ⟨hp,g,d,tk,os⟩) l1 xs:=q1;have k2:Heap.IsList (Shared.heap ⟨hp.push (itO "list_iterator" l1),g,d,tk,os⟩) l2 ys:=Heap.IsList.push q2 _;have k3:Heap.IsList (Shared.heap ⟨(hp.push (itO "list_iterator" l1)).push (itO "list_iterator" l2),g,d,tk,os⟩) l3 zs:=Heap.IsList.push (Heap.IsList.push q3 _) _
  wp_walk using cP9 k1,cP9 k2,cP9 k3
  exact⟨_,rfl,h⟩
theorem cf8(a b c:Value):checkTypeCall "zip" ⟨[a,b,c],[]⟩=pure ():=by kernel_rfl
theorem ck6(a b c:Value):checkBuiltinCall "zip.__new__" ⟨[.type "zip",a,b,c],[]⟩=pure ():=by kernel_rfl
theorem cn7(a b c d:Value):argsOk "object.__init__" ⟨[a,b,c,d],[]⟩:=by
 unfold argsOk;rw[signature?_of (id:="object.__init__") (n:=['_','_','t','i','n','i','_','_']) (o:=['t','c','e','j','b','o']) (by kernel_rfl) F.owner_object];kernel_rfl
section
theorem psz{h:Heap}{o:Obj}{n:Nat}(e:h.objs.size=n):(h.push o).objs.size=n+1:=by rw[cE0,e]
theorem pat{h:Heap}{o:Obj}{n:Nat}(e:h.objs.size=n)(hf:o.isFreed=false):(h.push o).get? n=some o:=by subst e;exact cD6 _ hf
theorem bU2{l1 l2 l3:Addr}{xs ys zs:Array Value}{Q:Value->Shared->Prop}(hl1:s.heap.IsList l1 xs)(hl2:s.heap.IsList l2 ys)(hl3:s.heap.IsList l3 zs)
  (h:∀h',IsZip h' (s.sz+5) (s.sz+3) (s.sz+4) .none->Z5 h' (s.sz+3) #[.ref s.sz,.ref (s.sz+1),.ref (s.sz+2)]->
   Z5 h' (s.sz+4) #[.none,.none,.none]->h'.IsListIter s.sz l1 0->h'.IsListIter (s.sz+1) l2 0->h'.IsListIter (s.sz+2) l3 0->
   (∀b u,s.heap.get? b=some u->h'.get? b=some u)->Q (.ref (s.sz+5)) {s with heap:=h'}):
  wpAny (model P w) A (call (.type "zip") [.ref l1,.ref l2,.ref l3]) Q E s:=by
 refine callType_new F.called_zip (by decide) (cf8 _ _ _) (ck6 _ _ _) (λobj=>cn7 obj _ _ _) F.entry_zip_new (cc4 l1 l2 l3 xs ys zs) ⟨hl1,hl2,hl3,?_⟩;have z1:=psz (o:=itO "list_iterator" l1) (rfl:s.sz=_);have z2:=psz (o:=itO "list_iterator" l2) z1;have z3:=psz (o:=itO "list_iterator" l3) z2;have z4:=psz (o:=tpO #[.ref s.sz,.ref (s.heap.push (itO "list_iterator" l1)).objs.size,.ref ((s.heap.push (itO "list_iterator" l1)).push (itO "list_iterator" l2)).objs.size]) z3;have z5:=psz (o:=tpO #[.none,.none,.none]) z4;have g6:(mk3 s.heap l1 l2 l3).get? (s.sz+5)=some _:=pat z5 rfl;have g5:(mk3 s.heap l1 l2 l3).get? (s.sz+4)=some _:=cD5 _ (pat z4 rfl);have g4:(mk3 s.heap l1 l2 l3).get? (s.sz+3)=some _:=cD5 _ (cD5 _ (pat z3 rfl));have g3:(mk3 s.heap l1 l2 l3).get? (s.sz+2)=some _:=cD5 _ (cD5 _ (cD5 _ (pat z2 rfl)));have g2:(mk3 s.heap l1 l2 l3).get? (s.sz+1)=some _:=cD5 _ (cD5 _ (cD5 _ (cD5 _ (pat z1 rfl))));have g1:(mk3 s.heap l1 l2 l3).get? s.sz=some _:=cD5 _ (cD5 _ (cD5 _ (cD5 _ (cD5 _ (pat rfl rfl)))));show _/\_;rw[z5];rw[z3,z4]at g6;rw[z1,z2]at g4;exact⟨⟨_,g6,rfl⟩,h _ g6 g4 g5 ⟨_,g1,rfl,rfl⟩ ⟨_,g2,rfl,rfl⟩ ⟨_,g3,rfl,rfl⟩ λc o x=>cD5 _ (cD5 _ (cD5 _ (cD5 _ (cD5 _ (cD5 _ x)))))⟩
end
def bV0(K:cO5)(l1 l2 l3:Addr):It:=
 ⟨λi H=>∃xs1 xs2 xs3 x1 x2 x3,SqL K H l1 xs1/\SqL K H l2 xs2/\SqL K H l3 xs3/\xs1[i]?=some x1/\xs2[i]?=some x2/\xs3[i]?=some x3,
 λi H v H'=>∃x1 x2 x3 p,(∀xs,SqL K H l1 xs->xs[i]?=some x1)/\(∀xs,SqL K H l2 xs->xs[i]?=some x2)/\(∀xs,SqL K H l3 xs->xs[i]?=some x3)/\H p=none/\H'=upd H p (.tup [x1,x2,x3])/\v=.ref p,
 λi H=>∃xs1 xs2 xs3,SqL K H l1 xs1/\SqL K H l2 xs2/\SqL K H l3 xs3/\(xs1.length<=i\/xs2.length<=i\/xs3.length<=i)⟩
theorem bN2{P:Program}{w:World}{K:cO5}{es:List Expr}{k:Nat}{pos:Pos}{z TI TO i1 i2 i3 l1 l2 l3:Addr}(D:Ap3 z TI TO i1 i2 i3 l1 l2 l3):
  ba2 P w K (.Tuple es k pos) (bV0 K l1 l2 l3) [z,TI,TO,i1,i2,i3] z (λi h=>IsZip h z TI TO .none/\Z5 h TI #[.ref i1,.ref i2,.ref i3]/\(∃a1 a2 a3,Z5 h TO #[a1,a2,a3])/\h.IsListIter i1 l1 i/\h.IsListIter i2 l2 i/\h.IsListIter i3 l3 i) where
 mem:=by simp
 obj:=λi h st b hb=>by
  obtain⟨z1,z2,⟨_,_,_,z3⟩,⟨o1,y1,_,d1⟩,⟨o2,y2,_,d2⟩,⟨o3,y3,_,d3⟩⟩:=st;simp at hb;rcases hb with rfl|rfl|rfl|rfl|rfl|rfl
  .exact⟨_,z1,λv z=>by cases z⟩
  .exact⟨_,z2,λv z=>by cases z⟩
  .exact⟨_,z3,λv z=>by cases z⟩
  .exact⟨o1,y1,λv z=>by rw[d1]at z;cases z⟩
  .exact⟨o2,y2,λv z=>by rw[d2]at z;cases z⟩
  .exact⟨o3,y3,λv z=>by rw[d3]at z;cases z⟩
 keep:=λi h h' st kk=>by
  obtain⟨z1,z2,⟨a1,a2,a3,z3⟩,y1,y2,y3⟩:=st;exact⟨kk z (by simp) _ z1,kk TI (by simp) _ z2,⟨a1,a2,a3,kk TO (by simp) _ z3⟩,y1.at λo e=>kk i1 (by simp) o e,y2.at λo e=>kk i2 (by simp) o e,y3.at λo e=>kk i3 (by simp) o e⟩
 item:=by
  intro X hP hw hK hc i aA s Z H E I hf st hg;subst hP hw hK;obtain⟨xs1,xs2,xs3,x1,x2,x3,hq1,hq2,hq3,hx1,hx2,hx3⟩:=hg;obtain⟨its1,rv1,p1,hz1⟩:=I.list hq1;obtain⟨u1,hu1,ru1⟩:=rv1.get hx1;obtain⟨its2,rv2,p2,hz2⟩:=I.list hq2;obtain⟨u2,hu2,ru2⟩:=rv2.get hx2;obtain⟨its3,rv3,p3,hz3⟩:=I.list hq3;obtain⟨u3,hu3,ru3⟩:=rv3.get hx3;obtain⟨z1,z2,⟨a1,a2,a3,z3⟩,y1,y2,y3⟩:=st;refine bl2 (I.ok.hd hc) D z1 z2 z3 y1 y2 y3 p1.isList p2.isList p3.isList (λv1 v2 v3 d1 d2 d3 h' b1 b2 c1 c2 c3 b5 b7=> ?_) λe=>by simp[hu1,hu2,hu3]at e
  simp only[List.getElem?_toArray,hu1,hu2,hu3,Option.some.injEq]at d1 d2 d3;subst d1 d2 d3;refine⟨_,rfl,wpAny_letOwnedTupleGo_zip (s:={s with heap:=h'}) b1 λh2 e1 sb=> ?_⟩;have up:∀c o,c≠z->h'.get? c=some o->h2.get? c=some o:=λc o hc e=>(sb.2 c hc).trans e
  have lt:∀{b u},s.heap.get? b=some u->s.sz≠b:=λe=>cN4 (cD9 e)
  have hT:h2.get? s.sz=some {cls:=.type "tuple",data:=.seq #[u1,u2,u3]}:=up _ _ (lt z1) b5;have I1:=I.turnedNew (t':=s.toks) (h':=h2) (ch:=[z,TI,TO,i1,i2,i3]) (p:=s.sz) (o:=.tup [x1,x2,x3]) (λc o hc e=>by
    simp at hc;exact up c o hc.1 (b7 c o hc.1 hc.2.2.1 hc.2.2.2.1 hc.2.2.2.2.1 hc.2.2.2.2.2 e)) hf (cM3 _)
   ⟨by show 3<=sizeLine;decide,[u1,u2,u3],.cons ru1 (.cons ru2 (.cons ru3 (.nil))),_,hT,rfl,_,rfl⟩
  refine⟨.ref s.sz,_,I1,rfl,⟨x1,x2,x3,_,λxs' e=>by rw[I.list_inj e hq1];exact hx1,λxs' e=>by rw[I.list_inj e hq2];exact hx2,λxs' e=>by rw[I.list_inj e hq3];exact hx3,I.hok.fresh (cM3 _),rfl,rfl⟩,
   ⟨e1,up _ _ D.TIz (b7 _ _ D.TIz D.TITO D.TIi1 D.TIi2 D.TIi3 z2),⟨_,_,_,up _ _ D.TOz b2⟩,c1.at λo e=>up _ o D.i1z e,c2.at λo e=>up _ o D.i2z e,c3.at λo e=>up _ o D.i3z e⟩,λc hcm=> ?_⟩
  have hc0:=(hf c hcm).1;rw[l8 ?_]
  .exact hc0
  .intro e;subst e;simp at hcm;obtain⟨o1,w1,_⟩:=y1;obtain⟨o2,w2,_⟩:=y2;obtain⟨o3,w3,_⟩:=y3;rcases hcm with q|q|q|q|q|q
   .exact lt z1 q
   .exact lt z2 q
   .exact lt z3 q
   .exact lt w1 q
   .exact lt w2 q
   .exact lt w3 q
 done:=by
  intro X hP hw hK hc i aA s Z H E I hf st hg;subst hP hw hK;obtain⟨xs1,xs2,xs3,hq1,hq2,hq3,hend⟩:=hg;obtain⟨its1,rv1,p1,hz1⟩:=I.list hq1;have n1:=rv1.length;obtain⟨its2,rv2,p2,hz2⟩:=I.list hq2;have n2:=rv2.length;obtain⟨its3,rv3,p3,hz3⟩:=I.list hq3;have n3:=rv3.length;obtain⟨z1,z2,⟨a1,a2,a3,z3⟩,y1,y2,y3⟩:=st;refine bl2 (I.ok.hd hc) D z1 z2 z3 y1 y2 y3 p1.isList p2.isList p3.isList (λv1 v2 v3 d1 d2 d3=> ?_) λ_ h' b7=>⟨rfl,?_⟩
  .simp only[List.getElem?_toArray]at d1 d2 d3;have :=(List.getElem?_eq_some_iff.mp d1).1;have :=(List.getElem?_eq_some_iff.mp d2).1;have :=(List.getElem?_eq_some_iff.mp d3).1;omega
  .exact I.turnedL (t':=s.toks) (ch:=[z,TI,TO,i1,i2,i3]) (λc o hc e=>by
    simp at hc;exact b7 c o hc.1 hc.2.2.1 hc.2.2.2.1 hc.2.2.2.2.1 hc.2.2.2.2.2 e) hf
 self:=λ_ _ _ _ _ st h=>wpAny_pyIter_zip st.1 h
def cx0(K:cO5)(ta:TA):TI:=λZ H R=>ta Z H λvs H1=>∃l1 l2 l3,vs=[.ref l1,.ref l2,.ref l3]/\(∃xs,SqL K H1 l1 xs)/\(∃xs,SqL K H1 l2 xs)/\(∃xs,SqL K H1 l3 xs)/\R (bV0 K l1 l2 l3) H1
section
theorem ci4{a b c:Expr}{ta:TA}{p pos:Pos}(hg:Gl X "zip")(hm:X.mg "zip"=none)(ha:PA X [a,b,c] ta)(hs:starEach [a,b,c] X.env=[(false,eval a X.env),(false,eval b X.env),(false,eval c X.env)])(hs2:starEach [b,c] X.env=[(false,eval b X.env),(false,eval c X.env)]):
  PI X (.Tuple es' k tp) (.Call (.Name "zip" p) [a,b,c] [] pos) (cx0 X.K ta):=by
 intro aA s Z H R I h;refine Call_ (ar0 I hg hm boot_zip (PyProof.Rows.callWith_type1 (thn (ha pos aA s Z H _ I h) λus s1 ⟨vs,H1,I1,r1,q1⟩=> ?_) (by rw[hs,hs2]) (by rw[hs2];rfl)));obtain⟨l1,l2,l3,e,⟨xs1,hq1⟩,⟨xs2,hq2⟩,⟨xs3,hq3⟩,q⟩:=q1;subst e;cases r1 with
 |cons m1 r1=>
  cases r1 with
  |cons m2 r1=>
   cases r1 with
   |cons m3 r1=>
    cases r1;cases m1;cases m2;cases m3;obtain⟨its1,rv1,p1,hz1⟩:=I1.list hq1;have t1:=p1.isList;have lt1:l1<s1.sz:=by obtain⟨o,e,_⟩:=t1;exact cD9 e
    obtain⟨its2,rv2,p2,hz2⟩:=I1.list hq2;have t2:=p2.isList;have lt2:l2<s1.sz:=by obtain⟨o,e,_⟩:=t2;exact cD9 e
    obtain⟨its3,rv3,p3,hz3⟩:=I1.list hq3;have t3:=p3.isList;have lt3:l3<s1.sz:=by obtain⟨o,e,_⟩:=t3;exact cD9 e
    refine bU2 t1 t2 t3 λh' g1 g2 g3 v1 v2 v3 g7=> ?_
    refine wpAny_pyIter_zip (s:={s1 with heap:=h'}) g1 ?_;refine⟨s1.sz+5,[s1.sz+5,s1.sz+3,s1.sz+4,s1.sz,s1.sz+1,s1.sz+2],_,_,H1,rfl,I1.kept (t':=s1.toks) g7,bN2 (l1:=l1) (l2:=l2) (l3:=l3) ?_,⟨g1,g2,⟨_,_,_,g3⟩,v1,v2,v3⟩,λb hb=> ?_,q⟩
    .have q1:=cN9 lt1;have q2:=cN9 lt2;have q3:=cN9 lt3;constructor<;>(intro z;have z':(_:Nat)=_:=z;omega)
    .have hb':s1.sz<=b:=by
      simp at hb;rcases hb with rfl|rfl|rfl|rfl|rfl|rfl<;>first |exact cM3 _|exact Nat.le_add_right _ _
     exact I1.fpOk hb' (I1.hok.fresh hb')
end
end L2
namespace L3
theorem ba8:∀{xs ys zs:List T}{i:Nat}{t:T},(aa3 xs ys zs)[i]?=some t->∃x y z,xs[i]?=some x/\ys[i]?=some y/\zs[i]?=some z/\t=.tup [x,y,z]
 |[],_,_,_,_,h=>by simp[aa3]at h
 |_::_,[],_,_,_,h=>by simp[aa3]at h
 |_::_,_::_,[],_,_,h=>by simp[aa3]at h
 |x::xs,y::ys,z::zs,0,t,h=>by simp[aa3]at h;exact⟨x,y,z,by simp,by simp,by simp,h.symm⟩
 |x::xs,y::ys,z::zs,i+1,t,h=>by
  obtain⟨u,v,w,h1,h2,h3,h4⟩:=ba8 (xs:=xs) (ys:=ys) (zs:=zs) (i:=i) (t:=t) (by simpa[aa3]using h);exact⟨u,v,w,by simpa using h1,by simpa using h2,by simpa using h3,h4⟩
theorem aG6:∀(xs ys zs:List T),(aa3 xs ys zs).length=min xs.length (min ys.length zs.length)
 |[],_,_=>by simp[aa3]
 |_::_,[],_=>by simp[aa3]
 |_::_,_::_,[]=>by simp[aa3]
 |x::xs,y::ys,z::zs=>by simp only[aa3,cB8,aG6 xs ys zs,Nat.add_min_add_right]
theorem bC1{K:cO5}{G:Hp}{t u w:T}{xs:List V}(h:j8 K G [t,u,w] xs):∃x y z,xs=[x,y,z]/\Rep K G t x/\Rep K G u y/\Rep K G w z:=by
 simp only[j8]at h;obtain⟨x,r,e,h1,y,r',e',h2,z,r2,e2,h3,h4⟩:=h;subst h4 e2 e';exact⟨x,y,z,e,h1,h2,h3⟩
theorem bN0{K:cO5}{G:Hp}{p1 p2 p3:Addr}{xs1 xs2 xs3:List V}{ts1 ts2 ts3:List T}(h1:G p1=some (.lst xs1))(r1:j8 K G ts1 xs1)(h2:G p2=some (.lst xs2))(r2:j8 K G ts2 xs2)(h3:G p3=some (.lst xs3))(r3:j8 K G ts3 xs3):ba1 K G (bV0 K p1 p2 p3) (aa3 ts1 ts2 ts3):=by
 intro i G1 H1 s1 s2;have hH1:SqL K H1 p1 xs1:=SqL.of (s2 _ _ (s1 _ _ h1));have hH2:SqL K H1 p2 xs2:=SqL.of (s2 _ _ (s1 _ _ h2));have hH3:SqL K H1 p3 xs3:=SqL.of (s2 _ _ (s1 _ _ h3));refine⟨λt ht=> ?_,λh1 h2=>⟨xs1,xs2,xs3,hH1,hH2,hH3,?_⟩⟩
 .obtain⟨t1,t2,t3,e1,e2,e3,e0⟩:=ba8 ht;subst e0;obtain⟨x1,hx1,rx1⟩:=r1.get e1;obtain⟨x2,hx2,rx2⟩:=r2.get e2;obtain⟨x3,hx3,rx3⟩:=r3.get e3;refine⟨⟨xs1,xs2,xs3,x1,x2,x3,hH1,hH2,hH3,hx1,hx2,hx3⟩,λv H2 hv=> ?_⟩;obtain⟨x1',x2',x3',q,m1,m2,m3,k3,k4,k5⟩:=hv;have z1:=m1 xs1 hH1;rw[hx1]at z1;cases z1;have z2:=m2 xs2 hH2;rw[hx2]at z2;cases z2;have z3:=m3 xs3 hH3;rw[hx3]at z3;cases z3;subst k4 k5;refine⟨_,Ext.new s2 k3 _,?_⟩;have sn:=K2 (s2.free k3) (HO.tup [x1,x2,x3]);simp only[Rep];exact⟨q,[x1,x2,x3],rfl,SqT.of t6,j8.cons ((rx1.mono s1).mono sn) (j8.cons ((rx2.mono s1).mono sn) (j8.cons ((rx3.mono s1).mono sn) (j8.nil)))⟩
 .rw[aG6]at h1;rw[r1.length,r2.length,r3.length];omega
section
theorem bE0{p tp:Pos}{es':List Expr}{k:Nat}{g1 g2 g3:L3.G}(hm:X.mg "zip"=none)(ha:Wd (PXA X [a,b,c] (gs [g1,g2,g3])))(hg:Gl X "zip":=by rfl)(hs:starEach [a,b,c] X.env=[(false,eval a X.env),(false,eval b X.env),(false,eval c X.env)]:=by rfl)(hs2:starEach [b,c] X.env=[(false,eval b X.env),(false,eval c X.env)]:=by rfl):Wd (PXI X (.Tuple es' k tp) (.Call (.Name "zip" p) [a,b,c] [] pos) (bT3 g1 g2 g3)):=⟨have ha:=ha.run;PI.imp (ci4 hg hm ha hs hs2) λZ H R zz=>by
 obtain⟨G,U,ts,sG,hU,hg,q⟩:=zz;obtain⟨xs1,h1,hg⟩:=j5 hg;obtain⟨xs2,h2,hg⟩:=j5 hg;obtain⟨xs3,h3,hg⟩:=j5 hg;cases hg;obtain⟨tx1,k1,m1⟩:=j5 h1;cases tx1<;>first |(cases m1;done)|skip
 cases m1;obtain⟨tx2,k2,m2⟩:=j5 h2;cases tx2<;>first |(cases m2;done)|skip
 cases m2;obtain⟨tx3,k3,m3⟩:=j5 h3;cases tx3<;>first |(cases m3;done)|skip
 cases m3;refine⟨G,U,[.lst xs1,.lst xs2,.lst xs3],sG,hU,?_,λvs G1 H1 e1 r1=> ?_⟩
 .simp only[gs,k1,k2,k3,cB2]
 .obtain⟨x1,x2,x3,e,rx1,rx2,rx3⟩:=bC1 r1;simp only[Rep]at rx1 rx2 rx3;obtain⟨p1,v1,y1,b1,c1⟩:=rx1;obtain⟨p2,v2,y2,b2,c2⟩:=rx2;obtain⟨p3,v3,y3,b3,c3⟩:=rx3;subst y1 y2 y3;exact⟨p1,p2,p3,e,⟨v1,SqL.of (e1.s _ _ b1)⟩,⟨v2,SqL.of (e1.s _ _ b2)⟩,⟨v3,SqL.of (e1.s _ _ b3)⟩,q _ G1 H1 e1 (bN0 b1 c1 b2 c2 b3 c3)⟩⟩
end
section
theorem bt1:∀{ns:List Int}{m:Int},m∈ns->(∀a∈ns,m<=a)->ao5 ns=some m
 |[],_,h,_=>by cases h
 |[x],m,h,_=>by simp at h;subst h;rfl
 |x::y::ns,m,h,hl=>by
  by_cases hx:m∈(y::ns)
  .have ih:=bt1 hx λa ha=>hl a (cK6 _ ha)
   have :=hl x cK7;rw[ao5,ih];simp only;by_cases e:m<x
   .rw[cP2 e]
   .rw[cP1 e];congr 1;omega
  .have hm:m=x:=by rcases cA9 h with e|e;exact e;exact absurd e hx
   subst hm;rw[ao5];cases q:ao5 (y::ns)with
   |none=>rfl
   |some z=>
    have hz:z∈(y::ns):=by
     have :∀{l:List Int}{z:Int},ao5 l=some z->z∈l:=by
      intro l;induction l with
      |nil=>intro z h;cases h
      |cons a l ih=>
       intro z h;rw[ao5]at h;cases q:ao5 l with
       |none=>rw[q]at h;cases h;exact cK7
       |some w=>
        rw[q]at h;simp only at h;split at h
        .cases h;exact cK6 _ (ih q)
        .cases h;exact cK7
     exact this q
    have :=hl z (cK6 _ hz);simp only;rw[cP1 (by omega)]
theorem bT4:∀{ns:List Int}{its:List Value},B6 (ns.map V.int) its->IntsAre its ns:=λ{ns its} h=>aE1 h
theorem bK4(hc:X.calm=true):ad8 X (.builtin "min") (λvs H Q=>∃(p:Addr) (ns:List Int) (m:Int),vs=[.ref p]/\H p=some (.lst (ns.map V.int))/\ao5 ns=some m/\Q (.int m) H):=by
 intro aA s Z H vs us Q I r h;obtain⟨p,ns,m,rfl,hp,hm,q⟩:=h;obtain⟨u,rfl,ru⟩:=ap8 r;cases ru;obtain⟨its,rv,pl,hz⟩:=I.list (SqL.of hp);have hi:=bT4 rv;obtain⟨xs,e⟩:=hi.allInts.items;have hns:ns=xs.toList.map (·.1):=(by rw[<-hi.numsOf,<-nums_intItems,<-e])
 have hne:ns≠[]:=λz=>by rw[z]at hm;cases hm
 have hsz:0<xs.size:=by
  have :0<ns.length:=List.length_pos_iff.mpr hne;rw[hns,cJ3,cC6]at this;exact this
 have hl:=pl.isList;rw[e]at hl;refine min_intList (I.ok.hd hc) hl hsz λv h' tk hv hk=> ?_
 obtain⟨t,rfl⟩:=intItems_at hv;have hb:=argBest_lt (numAt xs) (xs.size-1);have hlen:(xs.toList.map (·.1)).length=xs.size:=by rw[cJ3,cC6]
 have q1:numAt xs (argBest (λi j=>decide (numAt xs i<numAt xs j)) (xs.size-1))∈ns:=by
  rw[hns,numAt_eq];exact getD_mem (by have :=hb.1;omega)
 have q2:∀z∈ns,numAt xs (argBest (λi j=>decide (numAt xs i<numAt xs j)) (xs.size-1))<=z:=λz hz=>by
  rw[hns]at hz;obtain⟨j,hj,ez⟩:=mem_getD hz;have :=hb.2 j (by omega);rw[numAt_eq xs j]at this;rw[<-ez];exact this
 have q3:=bt1 q1 q2;rw[hm]at q3;cases q3;exact⟨.int _,H,I.kept λb o e=>hk b o e,⟨t,rfl⟩,q⟩
theorem bD6{K:cO5}:am3 K (λvs H Q=>∃(p:Addr) (ns:List Int) (m:Int),vs=[.ref p]/\H p=some (.lst (ns.map V.int))/\ao5 ns=some m/\Q (.int m) H) ay7:=by
 intro G H ts xs tz Q sG r hf q
 match ts,hf with
 |[.lst us],hf=>
  obtain⟨ns,h1,h2⟩:=j5 hf;obtain⟨m,h3,h2⟩:=j5 h2;cases h2;obtain⟨y,e,rx⟩:=ah2 r;simp only[Rep]at rx;obtain⟨p,ys,k1,k2,k3⟩:=rx;subst k1;have z:=av0 h1 k3;subst z;exact⟨p,ns,m,e,sG _ _ k2,h3,q _ G H (Ext.refl sG) (by simp[Rep])⟩
theorem bj0(hm:X.mg "min"=none)(ha:Wd (PXA X [e] (gs [g])))(hc:X.calm=true:=by rfl)(hg:Gl X "min":=by rfl)(he:StE X e []:=by rfl)(hpl:Bks X pos []:=by rfl):Wd (PX X (.Call (.Name "min" p) [e] [] pos) (gN ay7 [g])):=⟨have ha:=ha.run;ag0 (bK4 hc) bD6 hg hm boot_min ha (by decide) (by decide) he hpl⟩
end
section
theorem bw8{st:Stmt}{g:GS}{aB1 aB2:List Nat}(i:Nat)(h:PXO X aB aB1 st g)(hi:i∈aB1:=by decide)(ho:aB1.filter (· !=i)=aB2:=by rfl):PXO X aB aB2 st g:=⟨h.nb,λG0 H0=>PS.imp (h.ps G0 H0) λD Z H zz=>by
 obtain⟨G,U,o,R,hg,q⟩:=zz;refine⟨G,U,o,R,hg,?_⟩;cases o with
 |nx U1=>
  intro Z' G' H' s' R';obtain⟨G2,s2,R2⟩:=R'.unown hi ho;exact q Z' G2 H' (s'.trans s2) R2
 |ret t=>exact q
 |bk U1=>exact q
 |ct U1=>exact q⟩
end
section
theorem bR9:OpR X (compareOp .IsNot) (λx y H Q=>∃c d,x=.bl c/\y=.bl d/\Q (.bl !(c==d)) H):=by
 intro aA s Z H x y v u Q I rx ry h;obtain⟨c,d,rfl,rfl,q⟩:=h;cases rx;cases ry;refine wpAny_isNot_plain (by rfl) (S8 I q ?_);cases c<;>cases d<;>rfl
theorem bw4{K:cO5}:N1 K (λx y H Q=>∃c d,x=.bl c/\y=.bl d/\Q (.bl !(c==d)) H) (λx y=>match y with |.bl d=>aE9 d x|_=>none):=by
 intro G H tx ty x y tz Q sG rx ry hf q;cases ty<;>first |(cases hf;done)|skip
 cases tx<;>first |(cases hf;done)|skip
 simp only[Rep]at rx ry;cases hf;exact⟨_,_,rx,ry,q _ G H (Ext.refl sG) (by simp[Rep])⟩
theorem bj4(h:Wd (PX X a g)):Wd (PXB X (.Compare a [.IsNot] [.Constant (.bool c) j pc] pos) (bOf (g1 (aE9 c) g))):=⟨by
 have h:=h.run;have :=ai3 (pos:=pos) bR9 bw4 h (cq7 (X:=X) (i:=c) (j:=j) (pos:=pc)) (W8 _);have e:g2 (λx y=>match y with |.bl d=>aE9 d x|_=>none) g (gC (.bl c))=g1 (aE9 c) g:=rfl;rw[e]at this;exact this⟩
end
section
theorem au3(ha:Wd (PX X a ga))(hh:Wd (PX X h gh)):Wd (PX X (.Subscript a (.Slice none (some h) none p2) pos) (gSl ga none (some gh))):=⟨have ha:=ha.run;have hh:=hh.run;bw9 (lo:=none) (hi:=some h) (gl:=none) (gh:=some gh) ha trivial hh⟩
theorem br9(ha:Wd (PX X a ga))(hl:Wd (PX X l gl))(hh:Wd (PX X h gh)):Wd (PX X (.Subscript a (.Slice (some l) (some h) none p2) pos) (gSl ga (some gl) (some gh))):=⟨have ha:=ha.run;have hl:=hl.run;have hh:=hh.run;bw9 (lo:=some l) (hi:=some h) (gl:=some gl) (gh:=some gh) ha hl hh⟩
theorem br8(ha:Wd (PX X a ga))(hl:Wd (PX X l gl)):Wd (PX X (.Subscript a (.Slice (some l) none none p2) pos) (gSl ga (some gl) none)):=⟨have ha:=ha.run;have hl:=hl.run;bw9 (lo:=some l) (hi:=none) (gl:=some gl) (gh:=none) ha hl trivial⟩
end
theorem ah1(h:Wd (PXW X e g)):Wd (PXB X e g):=⟨PW.pt h.run⟩
end L3
open L3
namespace Sw
abbrev d8{X pos x}:= @M2 X pos x 0
abbrev e8{X pos x}:= @M2 X pos x 1
abbrev n8{X pos x}:= @M2 X pos x 2
abbrev w9{X pos x}:= @M2 X pos x 3
abbrev B8{X pos x}:= @M2 X pos x 4
abbrev I0{X pos x}:= @M2 X pos x 5
abbrev L6{X pos x}:= @M2 X pos x 6
abbrev U9{X pos x}:= @M2 X pos x 7
abbrev P1{X pos x}:= @M2 X pos x 8
abbrev bi9{X pos x}:= @M2 X pos x 9
abbrev af7{X pos x}:= @M2 X pos x 10
theorem bl6{p:List Value->Prop}(h:∀a,p [a]):∀us,us.length=1->p us
 |[a],_=>h a
theorem bx9{p:List Value->Prop}(h:∀a b c,p [a,b,c]):∀us,us.length=3->p us
 |[a,b,c],_=>h a b c
theorem bT0{p:List Value->Prop}(h:∀a b c d,p [a,b,c,d]):∀us,us.length=4->p us
 |[a,b,c,d],_=>h a b c d
def top(i:Nat):Stmt:=PySem.Challenge.pw_sharedways_k20_whole_share.main.body.getD i (.Pass ⟨0,0,0,0⟩)
def mth(j:Nat):Stmt:=match top 13 with
 |.ClassDef _ _ _ b _ _ _ _ _ _ _=>b.getD j (.Pass ⟨0,0,0,0⟩)
 |_=>.Pass ⟨0,0,0,0⟩
structure Blt(mg:Str->Option Value):Prop where
 ValueError:mg "ValueError"=none
 abs:mg "abs"=none
 all:mg "all"=none
 any:mg "any"=none
 bool:mg "bool"=none
 enumerate:mg "enumerate"=none
 int:mg "int"=none
 isinstance:mg "isinstance"=none
 len:mg "len"=none
 list:mg "list"=none
 max:mg "max"=none
 min:mg "min"=none
 range:mg "range"=none
 sum:mg "sum"=none
 tuple:mg "tuple"=none
 zip:mg "zip"=none
structure Cst(K:cO5)(mg:Str->Option Value):Prop where
 LEAST_AMOUNT:∃t,mg "LEAST_AMOUNT"=some (.int 1 t)
 LEAST_PLACES:∃t,mg "LEAST_PLACES"=some (.int 2 t)
 LEAST_WARES:∃t,mg "LEAST_WARES"=some (.int 1 t)
 MOST_AMOUNT:∃t,mg "MOST_AMOUNT"=some (.int 20 t)
 MOST_PLACES:∃t,mg "MOST_PLACES"=some (.int 6 t)
 MOST_WARES:∃t,mg "MOST_WARES"=some (.int 3 t)
 MOST_WAYS:∃t,mg "MOST_WAYS"=some (.int 10 t)
 NOUGHT:∃a,mg "NOUGHT"=some (.ref a)/\∀G,Rep K G T4 (.ref a)
 ONE:∃a,mg "ONE"=some (.ref a)/\∀G,Rep K G bz7 (.ref a)
structure co6(K:cO5)(mg:Str->Option Value):Prop where
 BadFlow:∃C,mg "BadFlow"=some (.ref C)/\W.excIn K C [.type "ValueError",.type "Exception",.type "BaseException",.type "object"] "ValueError.__new__"=true
 BadNet:∃C,mg "BadNet"=some (.ref C)/\W.excIn K C [.type "ValueError",.type "Exception",.type "BaseException",.type "object"] "ValueError.__new__"=true
section
variable {P:Program}{w:World}{K:cO5}{mg:Str->Option Value}{aD:Heap}(B:Blt mg)(C:Cst K mg){f:Addr}{fd:FuncData}
theorem pv{X:Cx}(i:Nat){x:Str}{pos:Pos}(hN:X.N[i]?=some x:=by rfl)(hv:Vis X.env.scope x:=by first |exact .inl rfl|exact .inr (.inl rfl)|exact .inr (.inr rfl))(hd:NoD x:=by decide)(hcd:(x==("__classdict__":Str))=false:=by decide):PE X (.Name x pos) (aa8 i):=aq9 hN hv hd hcd
include B in
theorem cc0{Cb:Addr}(cl:Cls K Cb)(na:∀f∈fsB,O9 K Cb f)(F:Fun K "__init__" "Board.__init__" (mth 0) f fd):P9 P w K mg aD CX0 2 f fd ["self","goal","rows","bounds"] (spN K Cb 4 aK6):=
 fnI (k:=1) (N:=["self","goal","rows","bounds","spare"]) (ps:=["self","goal","rows","bounds"]) (gs:=Gi1) (gq:=Gi2) (gr:=Gi3) (ga:=Gi4) (go:=Gi5) F (by constructor<;>first |rfl|decide +kernel) (by decide) (by decide) λ_ _ _ _ _ _ hr=>
 (bE9 (C:=Cb) cl na (by exact bQ8 (oc:=some "number") 4 (J8 B.range (d0 (D3 B.len (d0 n8)))) (o6 0) r9 (C9 (J8 B.range (d0 (D3 B.len (d0 e8)))) (o6 0) r9 (ac3 (af9 hr d8 e8) j4 j4))) (D3 B.len (d0 e8)) (bE3 (bE0 B.zip (c9 n8 (c9 B8 (d0 w9)))) (aD7 0 1 2) r9 (B9 (B9 d8 e8) (B7 (d0 n8)))) (B9 (C9 (A0 e8) (o6 0) r9 (M3 d8)) (C9 (J8 B.range (d0 (B9 (D3 B.len (d0 n8)) j4))) (o6 0) r9 j4)) (bE3 (J8 B.range (d0 (D3 B.len (d0 n8)))) (o6 0) r9 (B9 (D3 B.len (d0 e8)) d8)) j4 (pv 0) (pv 0) (pv 0) (pv 0) (pv 0))
theorem cb9{Cb:Addr}(cl:Cls K Cb)(na:∀f∈fsB,O9 K Cb f)(c_turned_row:Cal P w K mg aD "turned_row" 2 4 U7)(F:Fun K "turn" "Board.turn" (mth 1) f fd):P9 P w K mg aD CX0 3 f fd ["self","chosen","column"] (spB K Cb 3 am6):=
 fnB (k:=2) (N:=["self","chosen","column","kept","turned"]) (ps:=["self","chosen","column"]) (g:=bo8) F (by constructor<;>first |rfl|decide +kernel) (by decide) λ_ _ _ _ _ _ hr=>
 (aj8 (bj6 3 (A4 (M8 d8) e8)) (aj8 (ca4 (al1 (A4 w9 n8) j4) (av8 (bj6 3 (C9 (A0 w9) (o6 0) r9 (M3 d8)))) bQ7) (bE8 cl na (pv 4) (pv 1) (pv 3) (pv 0) (pv 4) (pv 0) (pv 1) (pv 2) (pv 0) (pv 3) (pv 2) (A0 (M8 d8)) (o6 0) r9 (j7 c_turned_row hr (c9 d8 (c9 e8 (c9 n8 (d0 (M8 w9)))))))))
theorem aY3{Cb:Addr}(cl:Cls K Cb){ft:Addr}{fdt:FuncData}(me:ba3 K Cb "turn" ft)(Ht:P9 P w K mg aD CX0 3 ft fdt ["self","chosen","column"] (spB K Cb 3 am6))(bt:P6 K fdt ["self","chosen","column"] [])(c_broken_row:Cal P w K mg aD "broken_row" 2 1 X2)(c_first_below_nought:Cal P w K mg aD "first_below_nought" 2 1 J3)(F:Fun K "keep_bounds" "keep_bounds" (top 17) f fd):P9 P w K mg aD CX0 4 f fd ["board"] (spB K Cb 1 ad9):=
 fnB (k:=3) (N:=["board","chosen"]) (ps:=["board"]) (g:=as6) F (by constructor<;>first |rfl|decide +kernel) (by decide) λ_ _ _ _ _ _ hr=>
 (aj8 (ay3 1 (j7 c_broken_row hr (d0 d8))) (av8 (aS9 aw5 (bj3 e8 W4) (aj8 (bj7 cl me Ht bt hr e8 (j7 c_first_below_nought hr (d0 (au3 (A4 (M8 d8) e8) (M3 j4))))) (av8 (ay3 1 (j7 c_broken_row hr (d0 d8))))))))
theorem bS4{Cb:Addr}(cl:Cls K Cb){ft:Addr}{fdt:FuncData}(me:ba3 K Cb "turn" ft)(Ht:P9 P w K mg aD CX0 3 ft fdt ["self","chosen","column"] (spB K Cb 3 am6))(bt:P6 K fdt ["self","chosen","column"] [])(c_first_below_nought:Cal P w K mg aD "first_below_nought" 2 1 J3)(c_tightest_row:Cal P w K mg aD "tightest_row" 3 2 T5)(F:Fun K "climb" "climb" (top 20) f fd):P9 P w K mg aD CX0 4 f fd ["board"] (spB K Cb 1 aC5):=
 fnB (k:=3) (N:=["board","column"]) (ps:=["board"]) (g:=ba4) F (by constructor<;>first |rfl|decide +kernel) (by decide) λ_ _ _ _ _ _ hr=>
 (aj8 (ay3 1 (j7 c_first_below_nought hr (d0 (au3 (A4 (M8 d8) (M3 j4)) (M3 j4))))) (av8 (aS9 al7 (bj3 e8 W4) (aj8 (bj7 cl me Ht bt hr (j7 c_tightest_row hr (c9 d8 (d0 e8))) e8) (av8 (ay3 1 (j7 c_first_below_nought hr (d0 (au3 (A4 (M8 d8) (M3 j4)) (M3 j4))))))))))
theorem cc1{Cb:Addr}(cl:Cls K Cb)(na:∀f∈fsB,O9 K Cb f){fI fK fC:Addr}{dI dK dC:FuncData}(M:Mk K Cb fI)(HI:P9 P w K mg aD CX0 2 fI dI ["self","goal","rows","bounds"] (spN K Cb 4 aK6))(bI:P6 K dI ["self","goal","rows","bounds"] [])(HK:P9 P w K mg aD CX0 4 fK dK ["board"] (spB K Cb 1 ad9))(bK:P6 K dK ["board"] [])(HC:P9 P w K mg aD CX0 4 fC dC ["board"] (spB K Cb 1 aC5))(bC:P6 K dC ["board"] [])(mB:mg "Board"=some (.ref Cb))(mK:mg "keep_bounds"=some (.ref fK))(kpK:W.keepIn K (.ref fK)=true)(mC:mg "climb"=some (.ref fC))(kpC:W.keepIn K (.ref fC)=true)(c_common_under:Cal P w K mg aD "common_under" 2 1 ac0)(c_amounts_of:Cal P w K mg aD "amounts_of" 4 2 ah0)(c_prices_of:Cal P w K mg aD "prices_of" 4 1 ai9)(F:Fun K "best" "best" (top 15) f fd)(m:mg "best"=some (.ref f)):Cal P w K mg aD "best" 5 3 aC6:=
 ⟨f,fd,["goal","rows","bounds"],m,F.kp,F.binds λ_ _ _ _ _ _=>bx9 λ_ _ _=>rfl,fnO (aB:=[]) (k:=4) (N:=["goal","rows","bounds","scale","board"]) (ps:=["goal","rows","bounds"]) (g:=bp3) F (by constructor<;>first |rfl|decide +kernel) (by decide) λ_ _ _ _ _ _ hr=>
 (E8 (Y7 3 (j7 c_common_under hr (d0 n8))) (bE7 4 cl na M HI bI HK bK HC bC hr (by decide) (by decide) (by decide) rfl mB rfl mK kpK rfl mC kpC (c9 d8 (c9 e8 (d0 (C9 (A0 n8) (o6 0) r9 (J4 (h9 d8) (L7 e8 (h9 d8))))))) rfl (pv 4) (pv 4) (z9 (c9 (j7 c_amounts_of hr (c9 B8 (d0 w9))) (d0 (j7 c_prices_of hr (d0 B8)))))))⟩
include B in
theorem aI0(F:Fun K "trails_of" "trails_of" (top 63) f fd)(m:mg "trails_of"=some (.ref f)):∀n,Cal P w K mg aD "trails_of" (n+2) 3 (O1 n)
 |0=>⟨f,fd,["ways","seen","goal"],m,F.kp,F.binds λ_ _ _ _ _ _=>bx9 λ_ _ _=>rfl,⟨λvs H Q E h=>by obtain⟨G,ts,t,_,r,hl,_⟩:=h;rw[r.length,hl];rfl,λ_ _ _ _ _ _ _ _ _ _ _ _ _ h=>by obtain⟨G,ts,t,_,_,_,hf,_⟩:=h;cases hf⟩⟩
 |n+1=>have c_self:=aI0 F m n
  ⟨f,fd,["ways","seen","goal"],m,F.kp,F.binds λ_ _ _ _ _ _=>bx9 λ_ _ _=>rfl,fnO (aB:=[]) (k:=n+2) (N:=["ways","seen","goal","trails","number","way"]) (ps:=["ways","seen","goal"]) (g:=aA2 (O1 n)) F (by constructor<;>first |rfl|decide +kernel) (by decide) λ_ _ _ _ _ _ hr=>
  (E8 (aL6 (af9 hr (A4 e8 (M3 j4)) n8) (Q2 (an9 (B7 (c9 (by exact(B7 o9)) o9)))) aD8) (E8 (aD9 3) (E8 (ao0 (ac2 B.enumerate (d0 d8)) (J7 4 5) (Q2 (aL6 (ah1 (an8 (af9 hr (h9 I0) (A4 e8 (M3 j4))) (aq7 (ay2 (h9 I0) e8)))) (Q2 (aP8 3 (C9 (A0 (j7 c_self hr (c9 d8 (by exact(c9 (by exact(B9 e8 (B7 (d0 (h9 I0))))) (by exact(c9 n8 o9))))) (hk:=by omega))) (o6 0) r9 (B9 (B7 (d0 e8)) d8)))) aD8))) (Q2 (an9 w9)))))⟩
include B in
theorem bb8(F:Fun K "_law_rows" "_law_rows" (top 88) f fd)(m:mg "_law_rows"=some (.ref f)):∀n,Cal P w K mg aD "_law_rows" (n+2) 4 (U6 n)
 |0=>⟨f,fd,["_law_net_here","_law_first","_law_goal","_law_gone"],m,F.kp,F.binds λ_ _ _ _ _ _=>bT0 λ_ _ _ _=>rfl,⟨λvs H Q E h=>by obtain⟨G,ts,t,_,r,hl,_⟩:=h;rw[r.length,hl];rfl,λ_ _ _ _ _ _ _ _ _ _ _ _ _ h=>by obtain⟨G,ts,t,_,_,_,hf,_⟩:=h;cases hf⟩⟩
 |n+1=>have c_self:=bb8 F m n
  ⟨f,fd,["_law_net_here","_law_first","_law_goal","_law_gone"],m,F.kp,F.binds λ_ _ _ _ _ _=>bT0 λ_ _ _ _=>rfl,fnT (k:=n+2) (N:=["_law_net_here","_law_first","_law_goal","_law_gone","_law_found","_law_at","_law_way"]) (ps:=["_law_net_here","_law_first","_law_goal","_law_gone"]) (g:=aS2 (U6 n)) F (by constructor<;>first |rfl|decide +kernel) (by decide) λ_ _ _ _ _ _ hr=>
  (Wd.run (m6 (M6 (af9 hr e8 n8) (j9 (m9 (B7 (c9 (by exact(B7 o9)) o9)))) K3) (m6 (y8 4 (B7 o9)) (m6 (N9 (ac2 B.enumerate (d0 (h9 d8))) (J7 5 6) (j9 (M6 (ah1 (an8 (af9 hr (h9 L6) e8) (aq7 (ay2 (h9 L6) w9)))) (j9 (y8 4 (B9 B8 (C9 (A0 (j7 c_self hr (c9 d8 (by exact(c9 (by exact(h9 L6)) (by exact(c9 n8 (by exact(c9 (by exact(B9 w9 (B7 (d0 (h9 L6))))) o9))))))) (hk:=by omega))) (o6 0) r9 (B9 (B7 (d0 e8)) d8))))) K3))) (j9 (m9 B8))))))⟩
end
structure bA2(K:cO5)(mg:Str->Option Value)(D:Addr)(b1 b2 b3 bv:Bool):Prop where
 look:aN2 K D
 net:∃C,mg "BadNet"=some (.ref C)/\W.kitOne K (.ref D) (.ref C)=some b1
 flow:∃C,mg "BadFlow"=some (.ref C)/\W.kitOne K (.ref D) (.ref C)=some b2
 floor:∃C,mg "BadFloor"=some (.ref C)/\W.kitOne K (.ref D) (.ref C)=some b3
 val:W.kitOne K (.ref D) (.type "ValueError")=some bv
def by6(x:Nat)(b1 b2 b3 bv:Bool):GS:=
 n9 (u7 1 (C4 [aZ4 x b1 d7,aZ4 x b2 d7,aZ4 x b3 d7]))
  (n9 (sIf (bOr (bOf (g2 bz1 (gN aU6 [l9 (itL e7) 1 [] (stN 0) t9 (gN ax0 [d7])]) e9)) (ae6 (bOf (aZ4 x bv d7)))) (t8 (gC (.str "other"))) A2)
   (t8 (d9 (C4 [gC (.str "BadNet"),gC (.str "BadFlow"),gC (.str "BadFloor")]) (g1 aZ7 e7))))
theorem aV4:bootBuiltins "ValueError"=some (.type "ValueError"):=by with_unfolding_all rfl
theorem bZ1:O8 ["_law_e","_law_flags"] ["_law_e"] (r8 (top 76)):=⟨rfl,rfl,rfl,by decide +kernel,rfl,by decide +kernel,by decide +kernel⟩
section
variable {P:Program}{w:World}{K:cO5}{mg:Str->Option Value}{aD:Heap}(B:Blt mg)
include B in
theorem ce9{CX:CXT}{f:Addr}{cdv:Value}{A:Around}{aE:List Env}{s:Shared}{H:Hp}{E:XK}{x D:Addr}{o:Obj}{b1 b2 b3 bv:Bool}(hx:HX x {F7 CX P w K mg aD ["_law_e","_law_flags"] "_law_word" (r8 (top 76)) f cdv A aE s H E with calm:=false})
  (ho:s.heap.get? x=some o) (hc:o.cls=.ref D) (hd:o.dict=none) (hn:W.notCls o=true) (Y:bA2 K mg D b1 b2 b3 bv):
  ap3 {F7 CX P w K mg aD ["_law_e","_law_flags"] "_law_word" (r8 (top 76)) f cdv A aE s H E with calm:=false} (N8 (top 76)) (by6 x b1 b2 b3 bv):=by
 obtain⟨L,⟨C1,m1,k1⟩,⟨C2,m2,k2⟩,⟨C3,m3,k3⟩,kv⟩:=Y;exact Wd.run (m6 (y8 1 (B7 (c9 (aL4 hx ho hc hd L hn rfl B.isinstance (aA9 (v:=.ref C1) rfl m1 rfl (by decide)) (λ_ h=>h) k1 d8)
   (c9 (aL4 hx ho hc hd L hn rfl B.isinstance (aA9 (v:=.ref C2) rfl m2 rfl (by decide)) (λ_ h=>h) k2 d8)
   (d0 (aL4 hx ho hc hd L hn rfl B.isinstance (aA9 (v:=.ref C3) rfl m3 rfl (by decide)) (λ_ h=>h) k3 d8)))) (show 3<=lim by decide)))
  (m6 (M6 (ah1 (X9 (ca3 (bQ4 hx rfl B.sum (d0 (ca1 (is:=[0]) hx ["_law_flag"] 1 [] rfl (bF2 (Wd.run e8)) rfl (λ_ _ _ _ _=>o6 0) (λ_ _ _ _ _=>r9) (λ_ _ _ _ _=>ay1 B.int (d0 d8))))) j4)
    (af8 (aj7 (Y0 (aL4 hx ho hc hd L hn rfl B.isinstance (bs5 (v:=.ty "ValueError") rfl B.ValueError aV4 rfl (by decide) (by decide)) (λ_ h=>h) kv d8)))))) (j9 (m9 au2)) K3)
  (j9 (m9 (A4 (B7 (c9 au2 (c9 au2 (d0 au2)))) (bw7 e8))))))
theorem bM8(x:Nat):az4 (by6 x true false false true (o8 2 [.ref x]))=some (.str "BadNet"):=by
 simp[by6,n9,u7,C4,gs,aZ4,M9,L3.o8,az4,sIf,bOr,bOf,g2,gN,l9,itL,toL,Y4,X7,L3.stN,t9,ax0,aU6,X3,bz1,toB,ae6,A2,t8,gC,g1,aZ7,ag6,z8,ixT,lim];rfl
end
def wdK(K:cO5)(mg:Str->Option Value)(W:Addr)(D:Addr)(c:Str):Prop:=
 (c="BadNet"/\bA2 K mg D true false false true)/\PySem.W.exmOne K (.ref D) (.ref W)=some true
section
variable {P:Program}{w:World}{K:cO5}{mg:Str->Option Value}{aD:Heap}(B:Blt mg)
include B in
theorem bY0{fwd W:Addr}{fdW:FuncData}(F:Fun K "_law_word" "_law_word" (top 76) fwd fdW):bU8 P w K mg aD fwd (wdK K mg W):=by
 intro A aE s H G ea D c o Q E hh hdp e0 ho hc hd hn L hun hnf sG ⟨hw,_⟩ q;have bT:P6 K fdW ["_law_e"] []:=F.binds λ_ _ _ _ _ _=>bl6 λ_=>rfl
 have KX:K.In s.heap:=e0.mod.kin.keeps λb o e=>(e0.bs b o e).1
 have rr:j8 K G [.ref ea] [.ref ea]:=j8.cons (by simp[Rep]) j8.nil;obtain⟨rfl,Y⟩:=hw;exact cm8 (b:=false) (us:=[.ref ea]) (vs:=[.ref ea]) F bZ1 (λz=>by cases z) hdp e0 (bT s [.ref ea] KX rfl) (.cons rfl .nil) (by decide) (λcdv=>ce9 B (HX.start hh L hun hnf) ho hc hd hn Y) sG rr rfl (bM8 ea) q
theorem bZ2:O8 ["_law_deed","_law_e"] ["_law_deed"] (r8 (top 77)):=⟨rfl,rfl,rfl,by decide +kernel,rfl,by decide +kernel,by decide +kernel⟩
include B in
theorem bC2{ft fwd W:Addr}{fdT fdW:FuncData}(FT:Fun K "_law_told" "_law_told" (top 77) ft fdT)(mT:mg "_law_told"=some (.ref ft))(FW:Fun K "_law_word" "_law_word" (top 76) fwd fdW)(mF:mg "_law_word"=some (.ref fwd))(mW:mg "WareError"=some (.ref W))
  (hc:∀c∈aF0,∃D,mg c=some (.ref D)/\wdK K mg W D c) (bm:BM mg aD):bo1 P w K mg aD "_law_told" (wdK K mg W) where
 ex:=⟨top 77,ft,W,fwd,fdT,"_law_deed","_law_e","WareError","_law_word",_,_,_,_,_,_,_,_,_,_,FT,mT,bZ2,FT.binds λ_ _ _ _ _ _=>bl6 λ_=>rfl,rfl,rfl,rfl,rfl,rfl,mW,mF,FW.kp,bY0 B FW,λD c h=>h.2,by decide +kernel,by decide +kernel,by decide +kernel,by decide +kernel,by decide +kernel,by decide +kernel⟩
 cls:=hc
 bm:=bm
end
end Sw
end
noncomputable section
namespace LP
abbrev Vc:=Nat->Int
abbrev Fm:=Nat->Vc
noncomputable def j6(f:Nat->Int):Nat->Int
 |0=>0
 |n+1=>j6 f n+f n
theorem v9:∀{n:Nat},(∀i,i<n->f i=g i)->j6 f n=j6 g n
 |0,_=>rfl
 |n+1,h=>by rw[j6,j6,v9 λi hi=>h i (by omega),h n (by omega)]
theorem W6(f g:Nat->Int):∀n,j6 (λi=>f i+g i) n=j6 f n+j6 g n
 |0=>rfl
 |n+1=>by simp only[j6,W6 f g n];omega
theorem K9(c:Int)(f:Nat->Int):∀n,j6 (λi=>c*f i) n=c*j6 f n
 |0=>by simp[j6]
 |n+1=>by simp only[j6,K9 c f n,Int.mul_add]
theorem D9:∀{n:Nat},(∀i,i<n->f i=0)->j6 f n=0
 |0,_=>rfl
 |n+1,h=>by rw[j6,D9 λi hi=>h i (by omega),h n (by omega)];rfl
theorem F8(hk:k<n)(h:∀i,i<n->i≠k->f i=0):j6 f n=f k:=by
 induction n with
 |zero=>omega
 |succ n ih=>
  rw[j6];by_cases e:k=n
  .subst e;rw[D9 λi hi=>h i (by omega) (by omega)];omega
  .rw[ih (by omega) λi hi hne=>h i (by omega) hne,h n (by omega) (λz=>e z.symm)];omega
theorem bN8(hk:k<n)(hl:l<n)(hkl:k≠l)(h:∀i,i<n->i≠k->i≠l->f i=0):j6 f n=f k+f l:=by
 induction n with
 |zero=>omega
 |succ n ih=>
  rw[j6];by_cases e:k=n
  .subst e;rw[F8 (k:=l) (by omega) λi hi hne=>h i (by omega) (by omega) hne];omega
  .by_cases e':l=n
   .subst e';rw[F8 (k:=k) (by omega) λi hi hne=>h i (by omega) hne (by omega)]
   .rw[ih (by omega) (by omega) λi hi h1 h2=>h i (by omega) h1 h2,h n (by omega) (λz=>e z.symm) (λz=>e' z.symm)];omega
noncomputable def drp(i:Nat)(b:Fm):Fm:=λj=>if j<i then b j else b (j+1)
noncomputable def put(b:Fm)(i:Nat)(v:Vc):Fm:=λj=>if j=i then v else b j
noncomputable def sg(i:Nat):Int:=if i%2=0 then 1 else -1
noncomputable def D:Nat->Fm->Int
 |0,_=>1
 |m+1,b=>j6 (λi=>sg i*b i m*D m (drp i b)) (m+1)
theorem ap6:∀{m:Nat}{b c:Fm},(∀i k,i<m->k<m->b i k=c i k)->D m b=D m c
 |0,_,_,_=>rfl
 |m+1,b,c,h=>by
  rw[D,D];refine v9 λi hi=> ?_
  rw[h i m hi (by omega),ap6 (b:=drp i b) (c:=drp i c) λj k hj hk=> ?_];unfold drp;split
  .exact h j k (by omega) (by omega)
  .exact h (j+1) k (by omega) (by omega)
theorem O0(b:Fm)(i:Nat)(v:Vc):put b i v i=v:=cP2 rfl
theorem S2(h:j≠i):put b i v j=b j:=cP1 h
theorem aF2(h:l<i):drp i (put b l v)=put (drp i b) l v:=by
 funext j
 simp only[drp,put]
 repeat' split
 all_goals first |rfl|(exfalso;omega)
theorem aF3(h:i<l):drp i (put b l v)=put (drp i b) (l-1) v:=by
 funext j
 simp only[drp,put]
 repeat' split
 all_goals first |rfl|(exfalso;omega)
theorem aF4:drp i (put b i v)=drp i b:=by
 funext j
 simp only[drp,put]
 repeat' split
 all_goals first |rfl|(exfalso;omega)
theorem aW7(x y:Int):∀{m:Nat}(b:Fm){l:Nat}(v w:Vc),l<m->D m (put b l λk=>x*v k+y*w k)=x*D m (put b l v)+y*D m (put b l w)
 |0,_,_,_,_,h=>absurd h (cN6 _)
 |m+1,b,l,v,w,h=>by
  rw[D,D,D,<-K9,<-K9,<-W6];refine v9 λi hi=> ?_
  rcases Nat.lt_trichotomy l i with q|q|q
  .rw[aF2 q,aF2 q,aF2 q,S2 (by omega),S2 (by omega),S2 (by omega),aW7 x y (drp i b) v w (by omega)];generalize D m (put (drp i b) l v)=p;generalize D m (put (drp i b) l w)=q;rw[Int.mul_add,<-cE9,<-cE9,<-cE9 x,<-cE9 y,cF0 x,cF0 y]
  .subst q;rw[aF4,aF4,aF4,O0,O0,O0];generalize D m (drp l b)=p;generalize sg l=s;rw[Int.mul_add,cE1,<-cE9,<-cE9,<-cE9 x,<-cE9 y,<-cE9 x,<-cE9 y,cF0 x,cF0 y]
  .rw[aF3 q,aF3 q,aF3 q,S2 (by omega),S2 (by omega),S2 (by omega),aW7 x y (drp i b) v w (by omega)];generalize D m (put (drp i b) (l-1) v)=p;generalize D m (put (drp i b) (l-1) w)=q;rw[Int.mul_add,<-cE9,<-cE9,<-cE9 x,<-cE9 y,cF0 x,cF0 y]
theorem bY9(i:Nat):sg (i+1)= -sg i:=by
 unfold sg;split<;>split<;>first |rfl|(exfalso;omega)
theorem aN3:∀{m:Nat}{b:Fm}{i:Nat},i+1<m->(∀k,k<m->b i k=b (i+1) k)->D m b=0
 |0,_,_,h,_=>absurd h (cN6 _)
 |m+1,b,i,h,e=>by
  rw[D,bN8 (k:=i) (l:=i+1) (by omega) (by omega) (by omega) λj hj h1 h2=> ?_]
  .have hd:D m (drp i b)=D m (drp (i+1) b):=ap6 λj k hj hk=>by
    unfold drp;by_cases q:j<i
    .rw[cP2 q,cP2 (by omega)]
    .rw[cP1 q];by_cases q':j<i+1
     .have :j=i:=by omega
      subst this;rw[cP2 q'];exact(e k (by omega)).symm
     .rw[cP1 q']
   rw[hd,e m (by omega),bY9,cG1,cG1];omega
  .have :D m (drp j b)=0:=by
    by_cases q:j<i
    .refine aN3 (i:=i-1) (by omega) λk hk=> ?_
     unfold drp;rw[cP1 (by omega),cP1 (by omega),show i-1+1=i by omega];exact e k (by omega)
    .refine aN3 (i:=i) (by omega) λk hk=> ?_
     unfold drp;rw[cP2 (by omega),cP2 (by omega)];exact e k (by omega)
   rw[this,cF8]
theorem bB0(b:Fm)(v w:Vc)(h:l<m):D m (put b l λk=>v k+w k)=D m (put b l v)+D m (put b l w):=by
 have :=aW7 1 1 b v w h;simpa using this
theorem bM5(b:Fm)(h:l<m):D m (put b l λ_=>0)=0:=by
 have :=aW7 0 0 b (λ_=>0) (λ_=>0) h;simpa using this
theorem bX9(x:Int)(b:Fm)(v:Vc)(h:l<m):D m (put b l λk=>x*v k)=x*D m (put b l v):=by
 have :=aW7 x 0 b v (λ_=>0) h;simpa[bM5 b h]using this
theorem bX7(b:Fm)(c:Nat->Int)(v:Nat->Vc)(h:l<m):∀n,D m (put b l λk=>j6 (λi=>c i*v i k) n)=j6 (λi=>c i*D m (put b l (v i))) n
 |0=>bM5 b h
 |n+1=>by
  simp only[j6];rw[bB0 b _ _ h,bX7 b c v h n,bX9 (c n) b (v n) h]
theorem aQ0(h:i≠j):put (put b i v) j w=put (put b j w) i v:=by
 funext k
 simp only[put]
 repeat' split
 all_goals first |rfl|(exfalso;omega)
theorem aE0(b:Fm)(i:Nat):put b i (b i)=b:=by
 funext k
 simp only[put];split
 .rename_i e;rw[e]
 .rfl
theorem co7(b:Fm)(v w:Vc)(h:i+1<m):D m (put (put b i v) (i+1) w)= -D m (put (put b i w) (i+1) v):=by
 have z:=aN3 (m:=m) (b:=put (put b i λk=>v k+w k) (i+1) λk=>v k+w k) (i:=i) h λk _=>by rw[S2 (by omega),O0,O0]
 have e1:∀x:Vc,D m (put (put b i λk=>v k+w k) (i+1) x)=D m (put (put b i v) (i+1) x)+D m (put (put b i w) (i+1) x):=λx=>by
  rw[aQ0 (by omega),bB0 _ _ _ (by omega),aQ0 (by omega),aQ0 (i:=i+1) (by omega)]
 rw[bB0 _ _ _ h,e1,e1]at z;have zv:=aN3 (m:=m) (b:=put (put b i v) (i+1) v) (i:=i) h λk _=>by rw[S2 (by omega),O0,O0]
 have zw:=aN3 (m:=m) (b:=put (put b i w) (i+1) w) (i:=i) h λk _=>by rw[S2 (by omega),O0,O0]
 omega
theorem bA9:∀(n:Nat){b:Fm}{i:Nat},i+n+1<m->(∀k,k<m->b i k=b (i+n+1) k)->D m b=0
 |0,_,_,h,e=>aN3 h e
 |n+1,b,i,h,e=>by
  have s:=co7 b (i:=i+n+1) (b (i+n+1)) (b (i+n+2)) h;rw[aE0]at s;have :put b (i+n+1+1) (b (i+n+2))=b:=aE0 b _;rw[this]at s;rw[s,bA9 n (b:=put (put b (i+n+1) (b (i+n+2))) (i+n+1+1) (b (i+n+1))) (i:=i) (by omega) λk hk=> ?_]
  .rfl
  .rw[S2 (by omega),S2 (by omega),S2 (by omega),O0];exact e k hk
theorem bX8(hi:i<m)(hl:l<m)(h:i≠l):D m (put b l (b i))=0:=by
 rcases Nat.lt_or_gt_of_ne h with q|q
 .refine bA9 (l-i-1) (i:=i) (by omega) λk _=> ?_
  rw[show i+(l-i-1)+1=l by omega,O0,S2 (by omega)]
 .refine bA9 (i-l-1) (i:=l) (by omega) λk _=> ?_
  rw[show l+(i-l-1)+1=i by omega,O0,S2 (by omega)]
noncomputable def ap9:Fm:=λi k=>if i=k then 1 else 0
theorem bp9:∀m,D m ap9=1\/D m ap9= -1
 |0=>.inl rfl
 |m+1=>by
  rw[D,F8 (k:=m) (by omega) λi hi hne=>by simp[ap9,hne]];have hd:D m (drp m ap9)=D m ap9:=ap6 λi k hi hk=>by unfold drp;rw[cP2 hi]
  rw[hd,show ap9 m m=1 by simp[ap9],cF5];have hs:sg m=1\/sg m= -1:=by unfold sg;split<;>simp
  rcases bp9 m with q|q<;>rcases hs with z|z<;>rw[q,z]<;>decide
theorem aV1{m:Nat}{b:Fm}{v:Vc}{c:Nat->Int}{x:Int}(h:∀k,k<m->x*v k=j6 (λi=>c i*b i k) m){l:Nat}(hl:l<m):x*D m (put b l v)=c l*D m b:=by
 rw[<-bX9 x b v hl];rw[ap6 (c:=put b l λk=>j6 (λi=>c i*b i k) m) λi k hi hk=> ?_]
 .rw[bX7 b c b hl m,F8 (k:=l) hl λi hi hne=>by rw[bX8 hi hl hne,cF8],aE0]
 .by_cases e:i=l
  .subst e;rw[O0,O0];exact h k hk
  .rw[S2 e,S2 e]
noncomputable def bas(A:Nat->Vc)(aB:Nat->Nat):Fm:=λi=>A (aB i)
noncomputable def setN(aB:Nat->Nat)(r c:Nat):Nat->Nat:=λi=>if i=r then c else aB i
theorem cf0(A:Nat->Vc)(aB:Nat->Nat)(r c:Nat):bas A (setN aB r c)=put (bas A aB) r (A c):=by
 funext i
 simp only[bas,setN,put];split<;>rfl
structure Tab(M n:Nat)(A:Nat->Vc)(s:Int)(R:Nat->Nat->Int)(aB:Nat->Nat)(u:Int):Prop where
 sq:s*s=1
 ud:u=s*D M (bas A aB)
 pos:0<u
 J:∀j k,j<n->k<M->u*A j k=j6 (λi=>R i j*A (aB i) k) M
 lt:∀i,i<M->aB i<n
section
theorem ae9{a b c:Int}(h:a≠0)(e:a*b=a*c):b=c:=Int.eq_of_mul_eq_mul_left h e
theorem Tab.ent(T:Tab M n A s R aB u){l j:Nat}(hl:l<M)(hj:j<n):R l j=s*D M (put (bas A aB) l (A j)):=by
 have h:=aV1 (b:=bas A aB) (v:=A j) (c:=λi=>R i j) (x:=u) (λk hk=>T.J j k hj hk) hl;have hu:=T.pos;refine(ae9 (a:=u) (by omega) ?_);have e:s*(u*D M (put (bas A aB) l (A j)))=s*(R l j*D M (bas A aB)):=by rw[h]
 have e1:s*(R l j*D M (bas A aB))=u*R l j:=by
  rw[T.ud,cF0 (R l j),<-cE9]
 rw[<-e1,<-e];rw[<-cE9,cF0 s u,cE9]
theorem Tab.own_eq(T:Tab M n A s R aB u)(hl:l<M):R l (aB l)=u:=by
 rw[T.ent hl (T.lt l hl),T.ud];congr 1;exact congrArg _ (aE0 (bas A aB) l)
theorem Tab.own_ne(T:Tab M n A s R aB u)(hl:l<M)(hi:i<M)(h:i≠l):R l (aB i)=0:=by
 rw[T.ent hl (T.lt i hi)];have :D M (put (bas A aB) l (bas A aB i))=0:=bX8 hi hl h;have e:A (aB i)=bas A aB i:=rfl;rw[e,this,cF8]
theorem Tab.inj(T:Tab M n A s R aB u)(hl:l<M)(hi:i<M)(h:aB i=aB l):i=l:=by
 rcases Decidable.em (i=l)with q|q
 .exact q
 .exfalso;have h1:=T.own_ne hl hi q;rw[h,T.own_eq hl]at h1;have :=T.pos;omega
theorem Tab.same(T:Tab M n A s R aB u)(T':Tab M n A s R' aB' u')(h:∀i,i<M->aB i=aB' i):u=u'/\∀l j,l<M->j<n->R l j=R' l j:=by
 have e:∀l v,D M (put (bas A aB) l v)=D M (put (bas A aB') l v):=λl v=>ap6 λi k hi _=>by
  by_cases q:i=l
  .subst q;rw[O0,O0]
  .rw[S2 q,S2 q];unfold bas;rw[h i hi]
 refine⟨?_,λl j hl hj=> ?_⟩
 .rw[T.ud,T'.ud,ap6 (c:=bas A aB') λi k hi _=>by unfold bas;rw[h i hi]]
 .rw[T.ent hl hj,T'.ent hl hj,e]
noncomputable def nxt(R:Nat->Nat->Int)(u:Int)(r c:Nat):Nat->Nat->Int:=λl j=>if l=r then R r j else(R l j*R r c-R r j*R l c)/u
theorem Tab.turn(T:Tab M n A s R aB u){r c:Nat}(hr:r<M)(hc:c<n)(hp:0<R r c):
  Tab M n A s (nxt R u r c) (setN aB r c) (R r c)/\∀l j,l<M->j<n->l≠r->u*nxt R u r c l j=R l j*R r c-R r j*R l c:=by
 have hu:=T.pos;have up:R r c=s*D M (bas A (setN aB r c)):=by rw[cf0];exact T.ent hr hc
 have key:∀j k,j<n->k<M->(u*R r c)*A j k=j6 (λi=>(if i=r then u*R r j else R i j*R r c-R r j*R i c)*bas A (setN aB r c) i k) M:=by
  intro j k hj hk;have e:∀i,i<M->(if i=r then u*R r j else R i j*R r c-R r j*R i c)*bas A (setN aB r c) i k
    =(R r c*(R i j*A (aB i) k)+(-R r j)*(R i c*A (aB i) k))+(if i=r then u*R r j*A c k else 0):=by
   intro i _;unfold bas setN;by_cases q:i=r
   .subst q;simp only[if_true];have :R i c*(R i j*A (aB i) k)+ -R i j*(R i c*A (aB i) k)=0:=by
     rw[<-cE9,<-cE9,cG1,cF0 (R i c) (R i j)];rw[cG1];omega
    omega
   .simp only[cP1 q];rw[Int.sub_mul,cE2,cG1,cF0 (R i j) (R r c),cE9,cE9];omega
  rw[v9 e,W6,W6,K9,K9,<-T.J j k hj hk,<-T.J c k hc hk];rw[F8 (k:=r) hr λi _ hne=>cP1 hne,cP2 rfl];rw[cG1];have e1:R r j*(u*A c k)=u*R r j*A c k:=by rw[<-cE9,cF0 (R r j) u]
  have e2:R r c*(u*A j k)=u*R r c*A j k:=by rw[<-cE9,cF0 (R r c) u]
  omega
 have ex:∀l j,l<M->j<n->(if l=r then u*R r j else R l j*R r c-R r j*R l c)=u*(s*D M (put (bas A (setN aB r c)) l (A j))):=by
  intro l j hl hj;have h:=aV1 (b:=bas A (setN aB r c)) (v:=A j) (c:=λi=>(if i=r then u*R r j else R i j*R r c-R r j*R i c)) (x:=u*R r c) (λk hk=>key j k hj hk) hl;generalize hX:(if l=r then u*R r j else R l j*R r c-R r j*R l c)=X at h⊢;generalize D M (put (bas A (setN aB r c)) l (A j))=Y at h⊢;refine ae9 (a:=R r c) (by omega) ?_;have e:s*(u*R r c*Y)=s*(X*D M (bas A (setN aB r c))):=by rw[h]
  have e1:s*(X*D M (bas A (setN aB r c)))=R r c*X:=by
   rw[cF0 X,<-cE9,<-up]
  rw[<-e1,<-e,<-cE9,<-cE9,<-cE9,<-cE9,cF0 s u,cF0 (R r c) u,cE9 u s,cF0 s (R r c),<-cE9]
 have val:∀l j,l<M->j<n->nxt R u r c l j=s*D M (put (bas A (setN aB r c)) l (A j)):=by
  intro l j hl hj;have h:=ex l j hl hj;unfold nxt;by_cases q:l=r
  .subst q;rw[cP2 rfl]at h⊢;exact ae9 (a:=u) (by omega) h
  .rw[cP1 q]at h⊢;rw[h,Int.mul_ediv_cancel_left _ (by omega)]
 refine⟨⟨T.sq,up,hp,λj k hj hk=> ?_,λi hi=> ?_⟩,λl j hl hj hne=> ?_⟩
 .refine ae9 (a:=u) (by omega) ?_;rw[<-cE9,key j k hj hk,<-K9];refine v9 λi hi=> ?_
  rw[ex i j hi hj,val i j hi hj,cE9];rfl
 .unfold setN;split
  .exact hc
  .exact T.lt i hi
 .rw[val l j hl hj,<-ex l j hl hj,cP1 hne]
theorem Tab.null(T:Tab M n A s R aB u){w:Nat->Int}{v:Vc}(hv:∀k,k<M->j6 (λj=>w j*A j k) n=v k){c:Nat->Int}(hc:∀k,k<M->u*v k=j6 (λi=>c i*A (aB i) k) M){l:Nat}(hl:l<M):j6 (λj=>R l j*w j) n=c l:=by
 have h1:=aV1 (b:=bas A aB) (v:=v) (c:=λi=>j6 (λj=>R i j*w j) n) (x:=u) (λk hk=> ?_) hl
 .have h2:=aV1 (b:=bas A aB) (v:=v) (c:=c) (x:=u) hc hl;rw[h1]at h2;have hd:D M (bas A aB)≠0:=λz=>by
   have :=T.ud;rw[z,cF8]at this;have :=T.pos;omega
  exact cE5 hd h2
 .rw[<-hv k hk,<-K9];rw[v9 (g:=λj=>j6 (λi=>R i j*w j*A (aB i) k) M) λj hj=> ?_]
  . --change of order
   have swap:∀(f:Nat->Nat->Int) (a b:Nat),j6 (λj=>j6 (λi=>f i j) a) b=j6 (λi=>j6 (λj=>f i j) b) a:=by
    intro f a b;induction b with
    |zero=>exact(D9 λi _=>rfl).symm
    |succ b ih=>rw[j6,ih,<-W6];rfl
   rw[swap];refine v9 λi _=> ?_
   show j6 (λj=>R i j*w j*A (aB i) k) n=j6 (λj=>R i j*w j) n*A (aB i) k;rw[cF0,<-K9];exact v9 λj _=>cF0 _ _
  .show u*(w j*A j k)=j6 (λi=>R i j*w j*A (aB i) k) M;rw[<-cE9,cF0 u,cE9,T.J j k hj hk,<-K9];refine v9 λi _=> ?_
   rw[<-cE9,cF0 (w j)]
end
theorem aw6{a b c d e f:Int}(hd:0<d)(hb:0<b)(hf:0<f)(h1:a*d<=c*b)(h2:c*f<=e*d):a*f<=e*b:=by
 have k1:a*d*f<=c*b*f:=Int.mul_le_mul_of_nonneg_right h1 (by omega);have k2:c*f*b<=e*d*b:=Int.mul_le_mul_of_nonneg_right h2 (by omega);have e1:a*d*f=a*f*d:=by rw[cE9,cF0 d,<-cE9]
 have e2:c*b*f=c*f*b:=by rw[cE9,cF0 b,<-cE9]
 have e3:e*d*b=e*b*d:=by rw[cE9,cF0 d,<-cE9]
 rw[e1,e2]at k1;rw[e3]at k2;exact Int.le_of_mul_le_mul_right (Int.le_trans k1 k2) hd
theorem bh9:∀{n:Nat},j6 f n<0->∃j,j<n/\f j<0
 |0,h=>by simp[j6]at h
 |n+1,h=>by
  rw[j6]at h;by_cases q:f n<0
  .exact⟨n,by omega,q⟩
  .obtain⟨j,h1,h2⟩:=bh9 (f:=f) (n:=n) (by omega);exact⟨j,by omega,h2⟩
structure St(m L:Nat)(A:Nat->Vc)(s:Int)(R:Nat->Nat->Int)(aB:Nat->Nat)(u:Int):Prop where
 T:Tab (m+1) (L+2) A s R aB u
 z:∀k,k<m+1->A (L+1) k=if k=m then 1 else 0
 oz:aB m=L+1
 ol:∀i,i<m->aB i<L
 fe:∀i,i<m->0<=R i L
structure Stp(m L:Nat)(R:Nat->Nat->Int)(aB:Nat->Nat)(r c:Nat):Prop where
 hc:c<L
 neg:R m c<0
 low:∀j,j<c->0<=R m j
 hr:r<m
 pos:0<R r c
 tight:∀i,i<m->0<R i c->R r L*R i c<=R i L*R r c
 tie:∀i,i<m->0<R i c->R r L*R i c=R i L*R r c->aB r<=aB i
section
theorem St.next(S:St m L A s R aB u)(P:Stp m L R aB r c):St m L A s (nxt R u r c) (setN aB r c) (R r c):=by
 have hr:=P.hr;have hc:=P.hc;have hu:=S.T.pos;obtain⟨T',ex⟩:=S.T.turn (r:=r) (c:=c) (by omega) (by omega) P.pos;refine⟨T',S.z,?_,λi hi=> ?_,λi hi=> ?_⟩
 .unfold setN;rw[cP1 (by omega)];exact S.oz
 .unfold setN;split
  .exact hc
  .exact S.ol i hi
 .by_cases q:i=r
  .subst q;unfold nxt;rw[cP2 rfl];exact S.fe i hi
  .have e:=ex i L (by omega) (by omega) q;have f1:=S.fe i hi;have f2:=S.fe r hr;have :0<=R i L*R r c-R r L*R i c:=by
    by_cases p:0<R i c
    .have :=P.tight i hi p;omega
    .have k1:0<=R i L*R r c:=cF4 f1 (Int.le_of_lt P.pos);have k2:0<=R r L*(-R i c):=cF4 f2 (by omega);rw[Int.mul_neg]at k2;omega
   rw[<-e]at this;rcases cE8 (nxt R u r c i L) 0 with w|w
   .have :=Int.mul_neg_of_pos_of_neg hu w;omega
   .exact w
theorem St.goal(S:St m L A s R aB u)(P:Stp m L R aB r c):R m L*R r c<=nxt R u r c m L*u/\(nxt R u r c m L*u=R m L*R r c->R r L=0):=by
 have hr:=P.hr;have hc:=P.hc;obtain⟨_,ex⟩:=S.T.turn (r:=r) (c:=c) (by omega) (by omega) P.pos;have e:=ex m L (by omega) (by omega) (by omega);rw[cF0 u]at e;have f2:=S.fe r hr;have n:=P.neg;have k2:0<=R r L*(-R m c):=cF4 f2 (by omega);rw[Int.mul_neg]at k2;refine⟨by omega,λh=> ?_⟩;have :R r L*R m c=0:=by omega
 rcases Int.mul_eq_zero.mp this with q|q
 .exact q
 .omega
theorem St.nb(S:St m L A s R aB u)(hi:i<m):R m (aB i)=0:=S.T.own_ne (by omega) (by omega) (by omega)
end
structure Run(m L N:Nat)(A:Nat->Vc)(s:Int)(R:Nat->Nat->Nat->Int)(aB:Nat->Nat->Nat)(u:Nat->Int)(r c:Nat->Nat):Prop where
 st:∀t,t<=N->St m L A s (R t) (aB t) (u t)
 sp:∀t,t<N->Stp m L (R t) (aB t) (r t) (c t)
 ro:∀t,t<N->R (t+1)=nxt (R t) (u t) (r t) (c t)
 ow:∀t,t<N->aB (t+1)=setN (aB t) (r t) (c t)
 un:∀t,t<N->u (t+1)=R t (r t) (c t)
section
def Bs(m:Nat)(aB:Nat->Nat)(j:Nat):Prop:=∃i,i<m/\aB i=j
theorem Run.goalMono(W:Run m L N A s R aB u r c):∀d t,t+d<=N->R t m L*u (t+d)<=R (t+d) m L*u t
 |0,t,_=>Int.le_refl _
 |d+1,t,h=>by
  have h1:=W.goalMono d t (by omega);have h2:=((W.st (t+d) (by omega)).goal (W.sp (t+d) (by omega))).1;rw[<-W.ro (t+d) (by omega),<-W.un (t+d) (by omega)]at h2;exact aw6 (W.st (t+d) (by omega)).T.pos (W.st t (by omega)).T.pos (W.st (t+d+1) (by omega)).T.pos h1 h2
theorem Run.leaves(W:Run m L N A s R aB u r c):∀d t,t+d<=N->Bs m (aB t) j->¬Bs m (aB (t+d)) j->∃f,t<=f/\f<t+d/\aB f (r f)=j
 |0,t,_,h1,h2=>absurd h1 h2
 |d+1,t,h,h1,h2=>by
  by_cases q:Bs m (aB (t+d)) j
  .refine⟨t+d,by omega,by omega,?_⟩;obtain⟨i,hi,e⟩:=q;by_cases w:i=r (t+d)
   .rw[<-w];exact e
   .exfalso;refine h2 ⟨i,hi,?_⟩;rw[<-cM2,W.ow (t+d) (by omega)];unfold setN;rw[cP1 w];exact e
  .obtain⟨f,f1,f2,f3⟩:=W.leaves d t (by omega) h1 q;exact⟨f,f1,by omega,f3⟩
theorem Run.enters(W:Run m L N A s R aB u r c):∀d t,t+d<=N->¬Bs m (aB t) j->Bs m (aB (t+d)) j->∃f,t<=f/\f<t+d/\c f=j
 |0,t,_,h1,h2=>absurd h2 h1
 |d+1,t,h,h1,h2=>by
  by_cases q:Bs m (aB (t+d)) j
  .obtain⟨f,f1,f2,f3⟩:=W.enters d t (by omega) h1 q;exact⟨f,f1,by omega,f3⟩
  .obtain⟨i,hi,e⟩:=h2;rw[<-cM2,W.ow (t+d) (by omega)]at e;unfold setN at e;by_cases w:i=r (t+d)
   .rw[cP2 w]at e;exact⟨t+d,by omega,by omega,e⟩
   .rw[cP1 w]at e;exact absurd ⟨i,hi,e⟩ q
theorem bW7(c:Nat->Nat)(a:Nat):∀d,∃e,a<=e/\e<=a+d/\∀t,a<=t->t<=a+d->c t<=c e
 |0=>⟨a,by omega,by omega,λt h1 h2=>by rw[show t=a by omega];omega⟩
 |d+1=>by
  obtain⟨e,h1,h2,h3⟩:=bW7 c a d;by_cases q:c e<=c (a+d+1)
  .refine⟨a+d+1,by omega,by omega,λt t1 t2=> ?_⟩;by_cases w:t<=a+d
   .exact cM5 (h3 t t1 w) q
   .have :t=a+d+1:=by omega
    rw[this];omega
  .refine⟨e,h1,by omega,λt t1 t2=> ?_⟩;by_cases w:t<=a+d
   .exact h3 t t1 w
   .have :t=a+d+1:=by omega
    rw[this];omega
end
section
theorem Run.still(W:Run m L N A s R aB u r c)(hab:a<b)(hb:b<=N)(e:∀i,i<m->aB a i=aB b i)(h1:a<=t)(h2:t<b):R t (r t) L=0:=by
 have Sa:=W.st a (by omega);have Sb:=W.st b hb;have St':=W.st t (by omega);have St1:=W.st (t+1) (by omega);obtain⟨eu,er⟩:=Sa.T.same Sb.T λi hi=>by
  by_cases q:i<m
  .exact e i q
  .rw[show i=m by omega,Sa.oz,Sb.oz]
 have eV:=er m L (by omega) (by omega);obtain⟨g1,g2⟩:=St'.goal (W.sp t (by omega));rw[<-W.ro t (by omega),<-W.un t (by omega)]at g1;rw[<-W.ro t (by omega),<-W.un t (by omega)]at g2;apply g2;have k1:=W.goalMono (t-a) a (by omega);rw[show a+(t-a)=t by omega]at k1;have k2:=W.goalMono (b-(t+1)) (t+1) (by omega);rw[show t+1+(b-(t+1))=b by omega,<-eu,<-eV]at k2;have k3:=aw6 Sa.T.pos St1.T.pos St'.T.pos k2 k1;exact Int.le_antisymm k3 g1
theorem Run.fwd(W:Run m L N A s R aB u r c):∀d,t+d<=N->(∀f,t<=f->f<t+d->R f (r f) L=0)->(∀i,i<m->aB t i=j->R t i L=0)->∀i,i<m->aB (t+d) i=j->R (t+d) i L=0
 |0,_,_,h=>h
 |d+1,hN,hz,h=>by
  intro i hi e;have ih:=W.fwd d (by omega) (λf f1 f2=>hz f f1 (by omega)) h;have S:=W.st (t+d) (by omega);have P:=W.sp (t+d) (by omega);have z:=hz (t+d) (by omega) (by omega);rw[<-cM2,W.ow (t+d) (by omega)]at e;rw[<-cM2,W.ro (t+d) (by omega)];unfold setN at e;have hr:=P.hr;have hc:=P.hc;by_cases q:i=r (t+d)
  .subst q;unfold nxt;rw[cP2 rfl];exact z
  .rw[cP1 q]at e;have i0:=ih i hi e;obtain⟨_,ex⟩:=S.T.turn (r:=r (t+d)) (c:=c (t+d)) (by omega) (by omega) P.pos;have x:=ex i L (by omega) (by omega) q;rw[i0,z,cG5,cG5]at x;have hu:=S.T.pos;rcases Int.mul_eq_zero.mp (x.trans (by omega:(0:Int)-0=0))with w|w
   .omega
   .exact w
theorem Run.norep(W:Run m L N A s R aB u r c)(hab:a<b)(hb:b<=N)(e:∀i,i<m->aB a i=aB b i):False:=by
 have Sa:=W.st a (by omega);have Sb:=W.st b hb;have still:∀t,a<=t->t<b->R t (r t) L=0:=λt h1 h2=>W.still hab hb e h1 h2
 have same:∀i j,i<m->j<L+2->R a i j=R b i j:=λi j hi hj=>(Sa.T.same Sb.T λi hi=>by
  by_cases q:i<m
  .exact e i q
  .rw[show i=m by omega,Sa.oz,Sb.oz]).2 i j (by omega) hj
 have nbs:∀t,t<=N->∀j,R t m j≠0->¬Bs m (aB t) j:=λt ht j hj ⟨i,hi,z⟩=>hj (by rw[<-z];exact(W.st t ht).nb hi)
 have zero:∀j t0,a<=t0->t0<=b->¬Bs m (aB t0) j->∀t i,a<=t->t<=b->i<m->aB t i=j->R t i L=0:=by
  intro j t0 ha0 hb0 hn;have vac:∀i,i<m->aB t0 i=j->R t0 i L=0:=λi hi z=>absurd ⟨i,hi,z⟩ hn
  have up:∀t,t0<=t->t<=b->∀i,i<m->aB t i=j->R t i L=0:=λt h1 h2=>by
   have :=W.fwd (j:=j) (t:=t0) (t-t0) (by omega) (λf f1 f2=>still f (by omega) (by omega)) vac;rwa[show t0+(t-t0)=t by omega]at this
  have atA:∀i,i<m->aB a i=j->R a i L=0:=λi hi z=>by
   rw[same i L hi (by omega)];exact up b hb0 (by omega) i hi (by rw[<-e i hi];exact z)
  intro t i h1 h2 hi z;have :=W.fwd (j:=j) (t:=a) (t-a) (by omega) (λf f1 f2=>still f (by omega) (by omega)) atA;rw[show a+(t-a)=t by omega]at this;exact this i hi z
 obtain⟨ev,ea,eb,emax⟩:=bW7 c a (b-a-1);have hmax:∀t,a<=t->t<b->c t<=c ev:=λt h1 h2=>emax t h1 (by omega)
 have evb:ev<b:=by omega
 have Se:=W.st ev (by omega);have Pe:=W.sp ev (by omega);have nbe:¬Bs m (aB ev) (c ev):=nbs ev (by omega) _ (by have :=Pe.neg;omega);have lv:∃f,a<=f/\f<b/\aB f (r f)=c ev:=by
  by_cases q:Bs m (aB a) (c ev)
  .obtain⟨f,f1,f2,f3⟩:=W.leaves (ev-a) a (by omega) q (by rw[show a+(ev-a)=ev by omega];exact nbe);exact⟨f,f1,by omega,f3⟩
  .have q2:¬Bs m (aB b) (c ev):=λ⟨i,hi,z⟩=>q ⟨i,hi,by rw[e i hi];exact z⟩
   have q3:Bs m (aB (ev+1)) (c ev):=⟨r ev,Pe.hr,by rw[W.ow ev (by omega)];unfold setN;rw[cP2 rfl]⟩
   obtain⟨f,f1,f2,f3⟩:=W.leaves (b-(ev+1)) (ev+1) (by omega) q3 (by rw[show ev+1+(b-(ev+1))=b by omega];exact q2);exact⟨f,by omega,by omega,f3⟩
 obtain⟨f,fa,fb,fl⟩:=lv;have Sf:=W.st f (by omega);have Pf:=W.sp f (by omega)
 let w:Nat->Int:=λj=>(if j=c f then u f else 0)+j6 (λi=>if j=aB f i then -R f i (c f)else 0) m
 have hcf:=Pf.hc;have wsum:∀g:Nat->Int,j6 (λj=>w j*g j) (L+2)=u f*g (c f)+j6 (λi=> -R f i (c f)*g (aB f i)) m:=by
  intro g;have e1:∀j,j<L+2->w j*g j=(if j=c f then u f*g (c f)else 0)+j6 (λi=>if j=aB f i then -R f i (c f)*g (aB f i)else 0) m:=by
   intro j _;show((if j=c f then u f else 0)+j6 (λi=>if j=aB f i then -R f i (c f)else 0) m)*g j=_;rw[cE1,cF0 (j6 _ m),<-K9];congr 1
   .split
    .rename_i z;rw[z]
    .rw[cG5]
   .refine v9 λi _=> ?_
    split
    .rename_i z;rw[<-z,cF0]
    .rw[cF8]
  rw[v9 e1,W6];congr 1
  .rw[F8 (k:=c f) (by omega) λj _ hne=>cP1 hne,cP2 rfl]
  .have swap:∀(h:Nat->Nat->Int) (x y:Nat),j6 (λj=>j6 (λi=>h i j) x) y=j6 (λi=>j6 (λj=>h i j) y) x:=by
    intro h x y;induction y with
    |zero=>exact(D9 λi _=>rfl).symm
    |succ y ih=>rw[j6,ih,<-W6];rfl
   rw[swap];refine v9 λi hi=> ?_
   have :=Sf.ol i hi;rw[F8 (k:=aB f i) (by omega) λj _ hne=>cP1 hne,cP2 rfl]
 have nul:∀k,k<m+1->j6 (λj=>w j*A j k) (L+2)=(λk=>R f m (c f)*A (L+1) k) k:=by
  intro k hk;rw[wsum λj=>A j k];have J:=Sf.T.J (c f) k (by omega) hk;rw[j6,Sf.oz]at J;have :j6 (λi=> -R f i (c f)*A (aB f i) k) m= -j6 (λi=>R f i (c f)*A (aB f i) k) m:=by
   have :=K9 (-1) (λi=>R f i (c f)*A (aB f i) k) m;rw[show(-1:Int)*j6 (λi=>R f i (c f)*A (aB f i) k) m= -j6 (λi=>R f i (c f)*A (aB f i) k) m by omega]at this;rw[<-this];exact v9 λi _=>by rw[cG1];omega
  rw[this];show u f*A (c f) k+ -j6 (λi=>R f i (c f)*A (aB f i) k) m=R f m (c f)*A (L+1) k;omega
 have tot:=Se.T.null (w:=w) (v:=λk=>R f m (c f)*A (L+1) k) nul (c:=λi=>if i=m then u ev*R f m (c f)else 0) (λk hk=>by
  rw[j6,Sf.z k hk,cP2 rfl,Se.oz,Se.z k hk,D9 λi hi=>by rw[cP1 (by omega),cG5]];rw[<-cE9];omega) (l:=m) (by omega)
 rw[cP2 rfl]at tot;have neg:j6 (λj=>R ev m j*w j) (L+2)<0:=by
  rw[tot];exact Int.mul_neg_of_pos_of_neg Se.T.pos Pf.neg
 obtain⟨j,hj,hjn⟩:=bh9 neg;have uf:=Sf.T.pos;by_cases js:j=c f
 . --the entering one itself
  have hs:c f≠c ev:=λz=>by
   have :=Sf.nb Pf.hr;rw[fl,<-z]at this;have :=Pf.neg;omega
  have le:=hmax f fa fb;have low:=Pe.low (c f) (by omega);have wj:w j=u f:=by
   show(if j=c f then u f else 0)+j6 (λi=>if j=aB f i then -R f i (c f)else 0) m=u f;rw[cP2 js,D9 λi hi=>cP1 λz=> ?_]
   .omega
   .have :=Sf.nb hi;rw[<-z,js]at this;have :=Pf.neg;omega
  rw[wj,js]at hjn;have :=cF4 low (Int.le_of_lt uf);omega
 .by_cases jb:Bs m (aB f) j
  .obtain⟨i,hi,ji⟩:=jb;have wj:w j= -R f i (c f):=by
    show(if j=c f then u f else 0)+j6 (λi=>if j=aB f i then -R f i (c f)else 0) m=_;rw[cP1 js,F8 (k:=i) hi λi' hi' hne=>cP1 λz=>hne (Sf.T.inj (by omega) (by omega) (by rw[<-z,ji])),cP2 ji.symm];omega
   rw[wj]at hjn;have rj:R ev m j≠0:=λz=>by rw[z,cG5]at hjn;omega
   have nj:¬Bs m (aB ev) j:=nbs ev (by omega) j rj;have bj:Bs m (aB f) j:=⟨i,hi,ji⟩
   have en:∃t,a<=t/\t<b/\c t=j:=by
    by_cases q:ev<=f
    .obtain⟨t,t1,t2,t3⟩:=W.enters (f-ev) ev (by omega) nj (by rw[show ev+(f-ev)=f by omega];exact bj);exact⟨t,by omega,by omega,t3⟩
    .by_cases q2:Bs m (aB b) j
     .obtain⟨t,t1,t2,t3⟩:=W.enters (b-ev) ev (by omega) nj (by rw[show ev+(b-ev)=b by omega];exact q2);exact⟨t,by omega,by omega,t3⟩
     .have q3:¬Bs m (aB a) j:=λ⟨i,hi,z⟩=>q2 ⟨i,hi,by rw[<-e i hi];exact z⟩
      obtain⟨t,t1,t2,t3⟩:=W.enters (f-a) a (by omega) q3 (by rw[show a+(f-a)=f by omega];exact bj);exact⟨t,by omega,by omega,t3⟩
   obtain⟨t,t1,t2,t3⟩:=en;have le:j<=c ev:=by rw[<-t3];exact hmax t t1 t2
   by_cases jt:j=c ev
   . --it would be the leaving one
    have ir:i=r f:=Sf.T.inj (by have :=Pf.hr;omega) (by omega) (by rw[ji,fl,jt]);subst ir;have p:=Pf.pos;have n:=Pe.neg;rw[jt,Int.mul_neg]at hjn;have :=Int.mul_neg_of_neg_of_pos n p;omega
   .have low:=Pe.low j (by omega);have rp:0<R f i (c f):=by
     rcases cE8 0 (R f i (c f))with q|q
     .exact q
     .have :=cF4 low (show 0<= -R f i (c f) by omega);omega
    have z1:R f i L=0:=zero j ev ea (by omega) nj f i fa (by omega) hi ji;have z2:=still f fa fb;have tie:=Pf.tie i hi rp (by rw[z1,z2,cG5,cG5]);rw[fl,ji]at tie;omega
  .have wj:w j=0:=by
    show(if j=c f then u f else 0)+j6 (λi=>if j=aB f i then -R f i (c f)else 0) m=0;rw[cP1 js,D9 λi hi=>cP1 λz=>jb ⟨i,hi,z.symm⟩];rfl
   rw[wj,cF8]at hjn;omega
end
theorem af4(h:Nat->Nat->Int)(x y:Nat):j6 (λj=>j6 (λi=>h i j) x) y=j6 (λi=>j6 (λj=>h i j) y) x:=by
 induction y with
 |zero=>exact(D9 λi _=>rfl).symm
 |succ y ih=>rw[j6,ih,<-W6];rfl
theorem ab0:∀{n:Nat},(∀i,i<n->f i<=g i)->j6 f n<=j6 g n
 |0,_=>Int.le_refl _
 |n+1,h=>by
  have h1:=ab0 (f:=f) (g:=g) (n:=n) λi hi=>h i (by omega)
  have h2:=h n (by omega);rw[j6,j6];omega
theorem T6(x:Int):∀n:Nat,j6 (λ_=>x) n=n*x
 |0=>by simp[j6]
 |n+1=>by rw[j6,T6 x n];push_cast;rw[cE1];omega
theorem cs3{f:Nat->Nat}{N K:Nat}(hf:∀t,t<N->f t<K)(inj:∀a b,a<b->b<N->f a≠f b):N<=K:=by
 have h1:j6 (λt=>j6 (λv=>if f t=v then 1 else 0) K) N=N:=by
  rw[v9 (g:=λ_=>1) λt ht=> ?_,T6]
  .omega
  .rw[F8 (k:=f t) (hf t ht) λv _ hne=>cP1 λz=>hne z.symm,cP2 rfl]
 have h2:∀v,v<K->j6 (λt=>if f t=v then(1:Int)else 0) N<=1:=by
  intro v _;have :∀n,n<=N->j6 (λt=>if f t=v then(1:Int)else 0) n<=1/\((∀t,t<n->f t≠v)->j6 (λt=>if f t=v then(1:Int)else 0) n=0):=by
   intro n;induction n with
   |zero=>intro _;exact⟨by simp[j6],λ_=>rfl⟩
   |succ n ih=>
    intro hn;obtain⟨i1,i2⟩:=ih (by omega);rw[j6];by_cases q:f n=v
    .rw[cP2 q,i2 λt ht z=>inj t n ht (by omega) (by rw[z,q])];exact⟨by omega,λh=>absurd q (h n (by omega))⟩
    .rw[cP1 q];exact⟨by omega,λh=>by rw[i2 λt ht=>h t (by omega)];rfl⟩
  exact(this N (cM3 _)).1
 rw[af4 (λv t=>if f t=v then(1:Int)else 0) K N]at h1;have h3:=ab0 h2;rw[h1,T6]at h3;omega
noncomputable def code(L:Nat)(f:Nat->Nat):Nat->Nat
 |0=>0
 |m+1=>code L f m*L+f m
theorem bu3:∀{m:Nat},(∀i,i<m->f i<L)->code L f m<L^m
 |0,_=>by simp[code]
 |m+1,h=>by
  have h1:=bu3 (L:=L) (f:=f) (m:=m) λi hi=>h i (by omega)
  have h2:=h m (by omega);rw[code,cN8];have :(code L f m+1)*L<=L^m*L:=cN3 L h1;rw[Nat.add_mul]at this;omega
theorem bn1:∀{m:Nat},(∀i,i<m->f i<L)->(∀i,i<m->g i<L)->code L f m=code L g m->∀i,i<m->f i=g i
 |0,_,_,_,i,hi=>absurd hi (cN6 _)
 |m+1,hf,hg,e,i,hi=>by
  rw[code,code]at e;have h1:=hf m (by omega);have h2:=hg m (by omega);have m1:(code L f m*L+f m)%L=f m:=by rw[cN2,Nat.mul_add_mod,Nat.mod_eq_of_lt h1]
  have m2:(code L g m*L+g m)%L=g m:=by rw[cN2,Nat.mul_add_mod,Nat.mod_eq_of_lt h2]
  have d1:(code L f m*L+f m)/L=code L f m:=by rw[cN2,Nat.mul_add_div (by omega),Nat.div_eq_of_lt h1];rfl
  have d2:(code L g m*L+g m)/L=code L g m:=by rw[cN2,Nat.mul_add_div (by omega),Nat.div_eq_of_lt h2];rfl
  rw[e]at m1 d1;by_cases q:i=m
  .subst q;exact m1.symm.trans m2
  .exact bn1 (L:=L) (λi hi=>hf i (by omega)) (λi hi=>hg i (by omega)) (d1.symm.trans d2) i (by omega)
theorem Run.few{m L N:Nat}{A:Nat->Vc}{s:Int}{R:Nat->Nat->Nat->Int}{aB:Nat->Nat->Nat}{u:Nat->Int}{r c:Nat->Nat}(W:Run m L N A s R aB u r c):N<L^m:=by
 have :=cs3 (f:=λt=>code L (aB t) m) (N:=N+1) (K:=L^m) (λt ht=>bu3 (W.st t (by omega)).ol) λa b h1 h2 e=>W.norep h1 (by omega) (bn1 (W.st a (by omega)).ol (W.st b (by omega)).ol e)
 omega
noncomputable def fac:Nat->Nat
 |0=>1
 |n+1=>(n+1)*fac n
theorem bi0(f:Nat->Int):∀n,(j6 f n).natAbs<=(j6 (λi=>((f i).natAbs:Int)) n).natAbs
 |0=>cM3 _
 |n+1=>by
  have h:=bi0 f n;have p:0<=j6 (λi=>((f i).natAbs:Int)) n:=by
   have :=ab0 (f:=λ_=>0) (g:=λi=>((f i).natAbs:Int)) (n:=n) λi _=>by omega
   rw[T6]at this;omega
  rw[j6,j6,Int.natAbs_add_of_nonneg p (Int.natCast_nonneg _),Int.natAbs_natCast];exact cM5 (Int.natAbs_add_le _ _) (Nat.add_le_add_right h _)
theorem bB1:∀{m:Nat}{b:Fm},(∀i k,i<m->k<m->(b i k).natAbs<=K)->(D m b).natAbs<=fac m*K^m
 |0,_,_=>by simp[D,fac]
 |m+1,b,h=>by
  rw[D];refine cM5 (bi0 _ _) ?_;have each:∀i,i<m+1->(((sg i*b i m*D m (drp i b)).natAbs:Nat):Int)<=((K*(fac m*K^m):Nat):Int):=by
   intro i hi;have h1:(D m (drp i b)).natAbs<=fac m*K^m:=bB1 λj k hj hk=>by
    unfold drp;split
    .exact h j k (by omega) (by omega)
    .exact h (j+1) k (by omega) (by omega)
   have h2:=h i m hi (by omega);have h3:(sg i).natAbs=1:=by unfold sg;split<;>rfl
   rw[cF9,cF9,h3,Nat.one_mul];exact Int.ofNat_le.mpr (Nat.mul_le_mul h2 h1)
  have le:=ab0 each;rw[T6]at le;have p:0<=j6 (λi=>(((sg i*b i m*D m (drp i b)).natAbs:Nat):Int)) (m+1):=by
   have :=ab0 (f:=λ_=>0) (g:=λi=>(((sg i*b i m*D m (drp i b)).natAbs:Nat):Int)) (n:=m+1) λi _=>by omega
   rw[T6]at this;omega
  have e:((m+1:Nat):Int)*((K*(fac m*K^m):Nat):Int)=((fac (m+1)*K^(m+1):Nat):Int):=by
   rw[<-Int.natCast_mul];congr 1;rw[fac,cN8,Nat.mul_assoc (m+1),<-Nat.mul_assoc K,cN2 K,Nat.mul_assoc (fac m),cN2 K]
  rw[e]at le;omega
theorem Tab.small(T:Tab M n A s R aB u)(h:∀j k,j<n->k<M->(A j k).natAbs<=K):u.natAbs<=fac M*K^M/\∀l j,l<M->j<n->(R l j).natAbs<=fac M*K^M:=by
 have hs:s.natAbs=1:=by
  have :=congrArg Int.natAbs T.sq;rw[cF9]at this;exact Nat.eq_one_of_mul_eq_one_right this
 refine⟨?_,λl j hl hj=> ?_⟩
 .rw[T.ud,cF9,hs,Nat.one_mul];exact bB1 λi k hi hk=>h _ k (T.lt i hi) hk
 .rw[T.ent hl hj,cF9,hs,Nat.one_mul];refine bB1 λi k hi hk=> ?_
  by_cases q:i=l
  .subst q;rw[O0];exact h j k hj hk
  .rw[S2 q];exact h _ k (T.lt i hi) hk
structure ae7(q m:Nat)(A:Nat->Vc):Prop where
 aB:∀i k,i<m->k<m+1->A (q+i) k=if k=i then 1 else 0
 gz:∀k,k<m+1->A (q+m+1) k=if k=m then 1 else 0
 lz:A (q+m) m=0
 bd:∀k,k<m->0<=A (q+m) k
section
theorem ae7.start(P:ae7 q m A):∃s,St m (q+m) A s (λi j=>A j i) (λi=>if i<m then q+i else q+m+1) 1:=by
 have bu:D (m+1) (bas A λi=>if i<m then q+i else q+m+1)=D (m+1) ap9:=ap6 λi k hi hk=>by
  simp only[bas,ap9];by_cases h:i<m
  .rw[cP2 h,P.aB i k h hk];by_cases e:i=k
   .rw[cP2 e.symm,cP2 e]
   .rw[cP1 λz=>e z.symm,cP1 e]
  .have :i=m:=by omega
   subst this;rw[cP1 h,P.gz k hk];by_cases e:i=k
   .rw[cP2 e.symm,cP2 e]
   .rw[cP1 λz=>e z.symm,cP1 e]
 refine⟨D (m+1) ap9,⟨?_,?_,by omega,λj k hj hk=> ?_,λi hi=> ?_⟩,P.gz,?_,λi hi=> ?_,λi hi=>P.bd i hi⟩
 .rcases bp9 (m+1)with z|z<;>rw[z]<;>rfl
 .rw[bu];rcases bp9 (m+1)with z|z<;>rw[z]<;>rfl
 .rw[Int.one_mul,F8 (k:=k) hk λi hi hne=> ?_]
  .by_cases h:k<m
   .simp only[cP2 h];rw[P.aB k k h hk,cP2 rfl,cF5]
   .have :k=m:=by omega
    subst this;simp only[cP1 h];rw[P.gz k hk,cP2 rfl,cF5]
  .by_cases h:i<m
   .simp only[cP2 h];rw[P.aB i k h hk,cP1 λz=>hne z.symm,cF8]
   .have :i=m:=by omega
    subst this;simp only[cP1 h];rw[P.gz k hk,cP1 λz=>hne z.symm,cF8]
 .split<;>omega
 .simp
 .simp only[cP2 hi];omega
variable {aB:Nat->Nat}
theorem ae7.row(P:ae7 q m A)(S:St m (q+m) A s R aB u)(hl:l<m+1)(hj:j<q+m+2):R l j=(if l=m then u*A j m else 0)+j6 (λk=>A j k*R l (q+k)) m:=by
 let w:Nat->Int:=λi=>(if i=j then 1 else 0)+j6 (λk=>if i=q+k then -A j k else 0) m
 have ws:∀g:Nat->Int,j6 (λi=>w i*g i) (q+m+2)=g j+j6 (λk=> -A j k*g (q+k)) m:=by
  intro g;have e1:∀i,i<q+m+2->w i*g i=(if i=j then g j else 0)+j6 (λk=>if i=q+k then -A j k*g (q+k)else 0) m:=by
   intro i _;show((if i=j then 1 else 0)+j6 (λk=>if i=q+k then -A j k else 0) m)*g i=_;rw[cE1,cF0 (j6 _ m),<-K9];congr 1
   .split
    .rename_i z;rw[z,Int.one_mul]
    .rw[cG5]
   .refine v9 λk _=> ?_
    split
    .rename_i z;rw[<-z,cF0]
    .rw[cF8]
  rw[v9 e1,W6];congr 1
  .rw[F8 (k:=j) hj λi _ hne=>cP1 hne,cP2 rfl]
  .rw[af4];refine v9 λk hk=> ?_
   rw[F8 (k:=q+k) (by omega) λi _ hne=>cP1 hne,cP2 rfl]
 have nul:∀k,k<m+1->j6 (λi=>w i*A i k) (q+m+2)=(λk=>A j m*A (q+m+1) k) k:=by
  intro k hk;rw[ws λi=>A i k];show A j k+j6 (λk'=> -A j k'*A (q+k') k) m=A j m*A (q+m+1) k;rw[P.gz k hk];by_cases h:k<m
  .rw[F8 (k:=k) h λi hi hne=>by rw[P.aB i k hi hk,cP1 λz=>hne z.symm,cF8],P.aB k k h hk,cP2 rfl,cP1 (by omega)];omega
  .have :k=m:=by omega
   subst this;rw[D9 λi hi=>by rw[P.aB i k hi hk,cP1 (by omega),cF8],cP2 rfl];omega
 have tot:=S.T.null (w:=w) (v:=λk=>A j m*A (q+m+1) k) nul (c:=λi=>if i=m then u*A j m else 0) (λk hk=>by
  rw[j6,cP2 rfl,S.oz,P.gz k hk,D9 λi hi=>by rw[cP1 (by omega),cG5]];rw[<-cE9];omega) (l:=l) hl
 have e:j6 (λi=>R l i*w i) (q+m+2)=j6 (λi=>w i*R l i) (q+m+2):=v9 λi _=>cF0 _ _
 rw[e,ws λi=>R l i]at tot;have e2:j6 (λk=> -A j k*R l (q+k)) m= -j6 (λk=>A j k*R l (q+k)) m:=by
  have :=K9 (-1) (λk=>A j k*R l (q+k)) m;rw[show(-1:Int)*j6 (λk=>A j k*R l (q+k)) m= -j6 (λk=>A j k*R l (q+k)) m by omega]at this;rw[<-this];exact v9 λk _=>by rw[cG1];omega
 have t2:R l j+j6 (λk=> -A j k*R l (q+k)) m=if l=m then u*A j m else 0:=tot
 omega
noncomputable def amt(m L:Nat)(R:Nat->Nat->Int)(aB:Nat->Nat)(j:Nat):Int:=j6 (λi=>if aB i=j then R i L else 0) m
theorem aF8(S:St m (q+m) A s R aB u)(j:Nat):0<=amt m (q+m) R aB j:=by
 have :=ab0 (f:=λ_=>0) (g:=λi=>if aB i=j then R i (q+m)else 0) (n:=m) λi hi=>by
  split
  .exact S.fe i hi
  .omega
 rw[T6]at this;unfold amt;omega
theorem cf2(S:St m (q+m) A s R aB u)(hi:i<m):amt m (q+m) R aB (aB i)=R i (q+m):=by
 unfold amt;rw[F8 (k:=i) hi λk hk hne=>cP1 λz=>hne (S.T.inj (by omega) (by omega) z),cP2 rfl]
theorem cf3(h:¬Bs m aB j):amt m (q+m) R aB j=0:=D9 λi hi=>cP1 λz=>h ⟨i,hi,z⟩
theorem ae7.keeps(P:ae7 q m A)(S:St m (q+m) A s R aB u)(hk:k<m):j6 (λj=>amt m (q+m) R aB j*A j k) q+amt m (q+m) R aB (q+k)=u*A (q+m) k:=by
 have J:=S.T.J (q+m) k (by omega) (by omega);rw[j6,S.oz,P.gz k (by omega),cP1 (by omega),cF8,cE2]at J;rw[J];have e1:j6 (λi=>R i (q+m)*A (aB i) k) m=j6 (λj=>amt m (q+m) R aB j*A j k) (q+m):=by
  unfold amt;rw[v9 (f:=λj=>j6 (λi=>if aB i=j then R i (q+m)else 0) m*A j k) (g:=λj=>j6 (λi=>if aB i=j then R i (q+m)*A (aB i) k else 0) m) λj _=> ?_,af4]
  .refine v9 λi hi=> ?_
   rw[F8 (k:=aB i) (S.ol i hi) λj _ hne=>cP1 λz=>hne z.symm,cP2 rfl]
  .rw[cF0,<-K9];refine v9 λi _=> ?_
   split
   .rename_i z;rw[z,cF0]
   .rw[cF8]
 rw[e1];have split :∀(g:Nat->Int) (n:Nat),j6 g (q+n)=j6 g q+j6 (λi=>g (q+i)) n:=by
  intro g n;induction n with
  |zero=>simp[j6]
  |succ n ih=>rw[<-cM2,j6,ih,j6];omega
 rw[split,F8 (f:=λi=>amt m (q+m) R aB (q+i)*A (q+i) k) (k:=k) hk λi hi hne=>by rw[P.aB i k hi (by omega),cP1 λz=>hne z.symm,cF8],P.aB k k hk (by omega),cP2 rfl,cF5]
theorem ae7.worth(P:ae7 q m A)(S:St m (q+m) A s R aB u):R m (q+m)= -j6 (λj=>amt m (q+m) R aB j*A j m) q:=by
 have J:=S.T.J (q+m) m (by omega) (by omega);rw[j6,S.oz,P.gz m (by omega),cP2 rfl,cF5,P.lz,cF8]at J;have e1:j6 (λi=>R i (q+m)*A (aB i) m) m=j6 (λj=>amt m (q+m) R aB j*A j m) (q+m):=by
  unfold amt;rw[v9 (f:=λj=>j6 (λi=>if aB i=j then R i (q+m)else 0) m*A j m) (g:=λj=>j6 (λi=>if aB i=j then R i (q+m)*A (aB i) m else 0) m) λj _=> ?_,af4]
  .refine v9 λi hi=> ?_
   rw[F8 (k:=aB i) (S.ol i hi) λj _ hne=>cP1 λz=>hne z.symm,cP2 rfl]
  .rw[cF0,<-K9];refine v9 λi _=> ?_
   split
   .rename_i z;rw[z,cF0]
   .rw[cF8]
 have split :∀(g:Nat->Int) (n:Nat),j6 g (q+n)=j6 g q+j6 (λi=>g (q+i)) n:=by
  intro g n;induction n with
  |zero=>simp[j6]
  |succ n ih=>rw[<-cM2,j6,ih,j6];omega
 rw[e1,split,D9 (f:=λi=>amt m (q+m) R aB (q+i)*A (q+i) m) λi hi=>by rw[P.aB i m hi (by omega),cP1 (by omega),cF8]]at J;omega
theorem ae7.price(P:ae7 q m A)(S:St m (q+m) A s R aB u):R m (q+m)=j6 (λk=>A (q+m) k*R m (q+k)) m:=by
 have :=P.row S (l:=m) (j:=q+m) (by omega) (by omega);rw[cP2 rfl,P.lz,cF8,cG4]at this;exact this
theorem ae7.ray(P:ae7 q m A)(S:St m (q+m) A s R aB u)(hc:c<q+m)(hn:R m c<0)(hr:∀i,i<m->R i c<=0):∃w:Nat->Int,(∀j,0<=w j)/\(∀k,k<m->j6 (λj=>w j*A j k) q+w (q+k)=0)/\j6 (λj=>w j*A j m) q<0:=by
 let w:Nat->Int:=λj=>(if j=c then u else 0)+j6 (λi=>if j=aB i then -R i c else 0) m
 have ws:∀g:Nat->Int,j6 (λj=>w j*g j) (q+m)=u*g c+j6 (λi=> -R i c*g (aB i)) m:=by
  intro g;have e1:∀j,j<q+m->w j*g j=(if j=c then u*g c else 0)+j6 (λi=>if j=aB i then -R i c*g (aB i)else 0) m:=by
   intro j _;show((if j=c then u else 0)+j6 (λi=>if j=aB i then -R i c else 0) m)*g j=_;rw[cE1,cF0 (j6 _ m),<-K9];congr 1
   .split
    .rename_i z;rw[z]
    .rw[cG5]
   .refine v9 λi _=> ?_
    split
    .rename_i z;rw[<-z,cF0]
    .rw[cF8]
  rw[v9 e1,W6];congr 1
  .rw[F8 (k:=c) hc λj _ hne=>cP1 hne,cP2 rfl]
  .rw[af4];refine v9 λi hi=> ?_
   rw[F8 (k:=aB i) (S.ol i hi) λj _ hne=>cP1 hne,cP2 rfl]
 have nul:∀k,k<m+1->j6 (λj=>w j*A j k) (q+m)=R m c*A (q+m+1) k:=by
  intro k hk;rw[ws λj=>A j k];have J:=S.T.J c k (by omega) hk;rw[j6,S.oz]at J;have :j6 (λi=> -R i c*A (aB i) k) m= -j6 (λi=>R i c*A (aB i) k) m:=by
   have :=K9 (-1) (λi=>R i c*A (aB i) k) m;rw[show(-1:Int)*j6 (λi=>R i c*A (aB i) k) m= -j6 (λi=>R i c*A (aB i) k) m by omega]at this;rw[<-this];exact v9 λi _=>by rw[cG1];omega
  rw[this];omega
 have split :∀(g:Nat->Int) (n:Nat),j6 g (q+n)=j6 g q+j6 (λi=>g (q+i)) n:=by
  intro g n;induction n with
  |zero=>simp[j6]
  |succ n ih=>rw[<-cM2,j6,ih,j6];omega
 refine⟨w,λj=> ?_,λk hk=> ?_,?_⟩
 .have h1:0<=(if j=c then u else 0):=by
   split
   .exact Int.le_of_lt S.T.pos
   .exact Int.le_refl _
  have h2:=ab0 (f:=λ_=>0) (g:=λi=>if j=aB i then -R i c else 0) (n:=m) λi hi=>by
   have :=hr i hi;split<;>omega
  rw[T6]at h2;show 0<=(if j=c then u else 0)+j6 (λi=>if j=aB i then -R i c else 0) m;omega
 .have :=nul k (by omega);rw[P.gz k (by omega),cP1 (by omega),cF8,split,F8 (f:=λi=>w (q+i)*A (q+i) k) (k:=k) hk λi hi hne=>by rw[P.aB i k hi (by omega),cP1 λz=>hne z.symm,cF8],P.aB k k hk (by omega),cP2 rfl,cF5]at this;exact this
 .have :=nul m (by omega);rw[P.gz m (by omega),cP2 rfl,cF5,split,D9 (f:=λi=>w (q+i)*A (q+i) m) λi hi=>by rw[P.aB i m hi (by omega),cP1 (by omega),cF8],cE2]at this;rw[this];exact hn
end
def af1(m L N:Nat)(A:Nat->Vc)(s:Int)(R:Nat->Nat->Int)(aB:Nat->Nat)(u:Int):Prop:=
 ∃Rs os us rs cs,Run m L N A s Rs os us rs cs/\Rs N=R/\os N=aB/\us N=u
section
theorem af1.start(S:St m L A s R aB u):af1 m L 0 A s R aB u:=
 ⟨λ_=>R,λ_=>aB,λ_=>u,λ_=>0,λ_=>0,⟨λ_ _=>S,λ_ ht=>absurd ht (cN6 _),λ_ ht=>absurd ht (cN6 _),λ_ ht=>absurd ht (cN6 _),λ_ ht=>absurd ht (cN6 _)⟩,rfl,rfl,rfl⟩
theorem af1.st(W:af1 m L N A s R aB u):St m L A s R aB u:=by
 obtain⟨Rs,os,us,rs,cs,W,e1,e2,e3⟩:=W;have :=W.st N (cM3 _);rwa[e1,e2,e3]at this
theorem af1.few(W:af1 m L N A s R aB u):N<L^m:=by
 obtain⟨Rs,os,us,rs,cs,W,_⟩:=W;exact W.few
theorem af1.step(W:af1 m L N A s R aB u)(P:Stp m L R aB r c):af1 m L (N+1) A s (nxt R u r c) (setN aB r c) (R r c):=by
 have S:=W.st;obtain⟨Rs,os,us,rs,cs,W,e1,e2,e3⟩:=W;refine⟨λt=>if t<=N then Rs t else nxt R u r c,λt=>if t<=N then os t else setN aB r c,λt=>if t<=N then us t else R r c,λt=>if t<N then rs t else r,λt=>if t<N then cs t else c,⟨λt ht=> ?_,λt ht=> ?_,λt ht=> ?_,λt ht=> ?_,λt ht=> ?_⟩,?_,?_,?_⟩
 .by_cases q:t<=N
  .simp only[cP2 q];exact W.st t q
  .simp only[cP1 q];exact S.next P
 .have q:t<=N:=by omega
  by_cases w:t<N
  .simp only[cP2 q,cP2 w];exact W.sp t w
  .have :t=N:=by omega
   subst this;simp only[cP2 q,cP1 w,e1,e2];exact P
 .have q:t<=N:=by omega
  by_cases w:t<N
  .simp only[cP2 q,cP2 w,cP2 (show t+1<=N by omega)];exact W.ro t w
  .have :t=N:=by omega
   subst this;simp only[cP2 q,cP1 w,e1,e3,cP1 (show¬t+1<=t by omega)]
 .have q:t<=N:=by omega
  by_cases w:t<N
  .simp only[cP2 q,cP2 w,cP2 (show t+1<=N by omega)];exact W.ow t w
  .have :t=N:=by omega
   subst this;simp only[cP2 q,cP1 w,e2,cP1 (show¬t+1<=t by omega)]
 .have q:t<=N:=by omega
  by_cases w:t<N
  .simp only[cP2 q,cP2 w,cP2 (show t+1<=N by omega)];exact W.un t w
  .have :t=N:=by omega
   subst this;simp only[cP2 q,cP1 w,e1,cP1 (show¬t+1<=t by omega)]
 .simp only[cP1 (show¬N+1<=N by omega)]
 .simp only[cP1 (show¬N+1<=N by omega)]
 .simp only[cP1 (show¬N+1<=N by omega)]
end
section
theorem St.lone(P:ae7 q m A)(hg:∀j,j<q->A j m=if j=0 then -1 else 0)(hq:0<q)(S:St m (q+m) A s R aB u)(hi:i<m)(h0:aB i=0)(hj:j<q+m+2):R m j=R i j+u*A j m:=by
 have J:=S.T.J j m hj (by omega);rw[j6,S.oz,P.gz m (by omega),cP2 rfl,cF5,F8 (k:=i) hi λk hk hne=> ?_]at J
 .rw[h0,hg 0 hq,cP2 rfl]at J;omega
 .have ok:=S.ol k hk;have :A (aB k) m=0:=by
   by_cases w:aB k<q
   .rw[hg _ w,cP1 λz=>hne (S.T.inj (by omega) (by omega) (by rw[z,h0]))]
   .have :=P.aB (aB k-q) m (by omega) (by omega);rwa[show q+(aB k-q)=aB k by omega,cP1 (by omega)]at this
  rw[this,cF8]
theorem St.stays(P:ae7 q m A)(hg:∀j,j<q->A j m=if j=0 then -1 else 0)(hq:0<q)(S:St m (q+m) A s R aB u)(Q:Stp m (q+m) R aB r c)(h:Bs m aB 0):Bs m (setN aB r c) 0:=by
 obtain⟨i,hi,h0⟩:=h;refine⟨i,hi,?_⟩;unfold setN;rw[cP1 λz=> ?_]
 .exact h0
 .subst z;have e:=S.lone P hg hq hi h0 (j:=c) (by have :=Q.hc;omega);have n:=Q.neg;have p:=Q.pos;have hc:=Q.hc;have :A c m<=0:=by
   by_cases w:c<q
   .rw[hg c w];split<;>omega
   .have :=P.aB (c-q) m (by omega) (by omega);rw[show q+(c-q)=c by omega,cP1 (by omega)]at this;omega
  have b0:=S.nb hi;rw[h0]at b0;by_cases w:c=0
  .rw[w]at n;omega
  .have a0:A c m=0:=by
    by_cases w2:c<q
    .rw[hg c w2,cP1 w]
    .have :=P.aB (c-q) m (by omega) (by omega);rwa[show q+(c-q)=c by omega,cP1 (by omega)]at this
   rw[a0,cF8]at e;omega
end
noncomputable def S7(f:Nat->Int):Nat->Option Nat
 |0=>none
 |n+1=>match S7 f n with
  |some j=>some j
  |none=>if f n<0 then some n else none
theorem ar4:∀{n c:Nat},S7 f n=some c->c<n/\f c<0/\∀j,j<c->0<=f j
 |0,_,h=>by cases h
 |n+1,c,h=>by
  rw[S7]at h;cases e:S7 f n with
  |some j=>
   rw[e]at h;cases h;obtain⟨h1,h2,h3⟩:=ar4 e;exact⟨by omega,h2,h3⟩
  |none=>
   rw[e]at h;dsimp only at h;split at h
   .cases h;rename_i w;refine⟨by omega,w,λj hj=> ?_⟩;have :∀{n:Nat},S7 f n=none->∀j,j<n->0<=f j:=by
     intro n;induction n with
     |zero=>intro _ j hj;omega
     |succ n ih=>
      intro z j hj;rw[S7]at z;cases e':S7 f n with
      |some i=>rw[e']at z;cases z
      |none=>
       rw[e']at z;dsimp only at z;split at z
       .cases z
       .by_cases q:j=n
        .subst q;omega
        .exact ih e' j (by omega)
    exact this e j hj
   .cases h
theorem aI8:∀{n:Nat},S7 f n=none->∀j,j<n->0<=f j
 |0,_,j,hj=>absurd hj (cN6 _)
 |n+1,h,j,hj=>by
  rw[S7]at h;cases e:S7 f n with
  |some i=>rw[e]at h;cases h
  |none=>
   rw[e]at h;dsimp only at h;split at h
   .cases h
   .by_cases q:j=n
    .subst q;omega
    .exact aI8 e j (by omega)
noncomputable def an2(R:Nat->Nat->Int)(aB:Nat->Nat)(L c i k:Nat):Bool:=decide (R i L*R k c-R k L*R i c<0)||(decide (R i L*R k c-R k L*R i c=0)&&decide (aB i<aB k))
noncomputable def tgt(R:Nat->Nat->Int)(aB:Nat->Nat)(L c:Nat):Nat->Option Nat
 |0=>none
 |i+1=>if 0<R i c then(match tgt R aB L c i with
  |none=>some i
  |some k=>if an2 R aB L c i k then some i else some k)else tgt R aB L c i
section
theorem aP0:∀{m:Nat},tgt R aB L c m=none->∀i,i<m->R i c<=0
 |0,_,i,hi=>absurd hi (cN6 _)
 |m+1,h,i,hi=>by
  rw[tgt]at h;split at h
  .split at h
   .cases h
   .split at h<;>cases h
  .by_cases q:i=m
   .subst q;omega
   .exact aP0 h i (by omega)
theorem bq1{a b c d e f:Int}(hd:0<d)(hb:0<b)(hf:0<f)(h1:a*d<c*b)(h2:c*f<=e*d):a*f<e*b:=by
 rcases cE8 (a*f) (e*b)with q|q
 .exact q
 .exfalso;have :=aw6 (a:=c) (b:=d) (c:=e) (d:=f) (e:=a) (f:=b) hf hd hb h2 q;omega
theorem av5:∀{m r:Nat},tgt R aB L c m=some r->r<m/\0<R r c/\∀i,i<m->0<R i c->R r L*R i c<=R i L*R r c/\(R r L*R i c=R i L*R r c->aB r<=aB i)
 |0,_,h=>by cases h
 |m+1,r,h=>by
  rw[tgt]at h;split at h
  .rename_i hp;cases e:tgt R aB L c m with
   |none=>
    rw[e]at h;cases h;have z:=aP0 e;refine⟨by omega,hp,λi hi hq=> ?_⟩;by_cases q:i=m
    .subst q;exact⟨Int.le_refl _,λ_=>cM3 _⟩
    .have :=z i (by omega);omega
   |some k=>
    rw[e]at h;obtain⟨k1,k2,k3⟩:=av5 e;dsimp only at h;split at h
    .rename_i ht;cases h;unfold an2 at ht;simp only[cD3,cC7,cP0]at ht;refine⟨by omega,hp,λi hi hq=> ?_⟩;by_cases q:i=m
     .subst q;exact⟨Int.le_refl _,λ_=>cM3 _⟩
     .obtain⟨i1,i2⟩:=k3 i (by omega) hq;rcases ht with ht|⟨ht,ho⟩
      .have lt:=bq1 (a:=R m L) (b:=R m c) (c:=R k L) (d:=R k c) (e:=R i L) (f:=R i c) k2 hp hq (by omega) i1;exact⟨by omega,λz=>by omega⟩
      .have le:=aw6 (a:=R m L) (b:=R m c) (c:=R k L) (d:=R k c) (e:=R i L) (f:=R i c) k2 hp hq (by omega) i1;refine⟨le,λz=> ?_⟩;have back:=aw6 (a:=R i L) (b:=R i c) (c:=R m L) (d:=R m c) (e:=R k L) (f:=R k c) hp hq k2 (by omega) (by omega);have :=i2 (by omega);omega
    .rename_i ht;cases h;unfold an2 at ht;simp only[cD3,cC7,cP0]at ht;refine⟨by omega,k2,λi hi hq=> ?_⟩;by_cases q:i=m
     .subst q;refine⟨by omega,λz=> ?_⟩;rcases cM8 (aB i) (aB r)with w|w
      .exact absurd (.inr ⟨by omega,w⟩) ht
      .exact w
     .exact k3 i (by omega) hq
  .obtain⟨k1,k2,k3⟩:=av5 h;refine⟨by omega,k2,λi hi hq=> ?_⟩;by_cases q:i=m
   .subst q;omega
   .exact k3 i (by omega) hq
end
structure ABd where
 R:Nat->Nat->Int
 aB:Nat->Nat
 u:Int
noncomputable def at0(b:ABd)(r c:Nat):ABd:=⟨nxt b.R b.u r c,setN b.aB r c,b.R r c⟩
noncomputable def clm(m L:Nat):Nat->ABd->Option ABd
 |0,_=>none
 |k+1,b=>match S7 (b.R m) L with
  |none=>some b
  |some c=>match tgt b.R b.aB L c m with
   |none=>none
   |some r=>clm m L k (at0 b r c)
theorem bn3(P:ae7 q m A)(hg:∀j,j<q->A j m=if j=0 then -1 else 0)(hq:0<q)(nr:∀w:Nat->Int,(∀j,0<=w j)->(∀k,k<m->j6 (λj=>w j*A j k) q+w (q+k)=0)->0<=j6 (λj=>w j*A j m) q):
  ∀(k N:Nat) (b:ABd),N+k=(q+m)^m->af1 m (q+m) N A s b.R b.aB b.u->(Bs m b.aB 0\/b.R m 0<0)->∃b',clm m (q+m) k b=some b'/\St m (q+m) A s b'.R b'.aB b'.u/\(∀j,j<q+m->0<=b'.R m j)/\Bs m b'.aB 0
 |0,N,b,h,W,_=>by
  have :=W.few;omega
 |k+1,N,b,h,W,h0=>by
  have S:=W.st;rw[clm];cases e:S7 (b.R m) (q+m)with
  |none=>
   have z:=aI8 e;refine⟨b,rfl,S,z,?_⟩;rcases h0 with h0|h0
   .exact h0
   .have :=z 0 (by omega);omega
  |some c=>
   obtain⟨c1,c2,c3⟩:=ar4 e;dsimp only;cases e2:tgt b.R b.aB (q+m) c m with
   |none=>
    exfalso;obtain⟨w,w1,w2,w3⟩:=P.ray S c1 c2 (aP0 e2);have :=nr w w1 w2;omega
   |some r=>
    obtain⟨r1,r2,r3⟩:=av5 e2;have Q:Stp m (q+m) b.R b.aB r c:=⟨c1,c2,c3,r1,r2,λi hi hp=>(r3 i hi hp).1,λi hi hp z=>(r3 i hi hp).2 z⟩
    refine bn3 P hg hq nr k (N+1) (at0 b r c) (by omega) (W.step Q) (.inl ?_);rcases h0 with h0|h0
    .exact S.stays P hg hq Q h0
    .refine⟨r,r1,?_⟩;have :c=0:=by
      rcases Nat.eq_zero_or_pos c with z|z
      .exact z
      .have :=c3 0 z;omega
     show setN b.aB r c r=0;unfold setN;rw[cP2 rfl];exact this
theorem bz8{q m:Nat}{A:Nat->Vc}{s:Int}{b:ABd}(P:ae7 q m A)(hg:∀j,j<q->A j m=if j=0 then -1 else 0)(hq:0<q)(S:St m (q+m) A s b.R b.aB b.u)(h0:Bs m b.aB 0):
  b.R m (q+m)=amt m (q+m) b.R b.aB 0/\j6 (λk=>A 0 k*b.R m (q+k)) m=b.u/\j6 (λk=>A (q+m) k*b.R m (q+k)) m=amt m (q+m) b.R b.aB 0:=by
 obtain⟨i,hi,e0⟩:=h0;have w:b.R m (q+m)=amt m (q+m) b.R b.aB 0:=by
  rw[P.worth S,F8 (k:=0) hq λj hj hne=>by rw[hg j hj,cP1 hne,cF8],hg 0 hq,cP2 rfl];omega
 refine⟨w,?_,?_⟩
 .have r0:=P.row S (l:=m) (j:=0) (by omega) (by omega);have n0:=S.nb hi;rw[e0]at n0;rw[cP2 rfl,hg 0 hq,cP2 rfl,n0]at r0;omega
 .rw[<-P.price S,w]
structure U5 where
 W:Nat
 P:Nat
 want:Nat->Int
 cap:Nat->Int
 n:Nat
 of:Nat->Nat
 on:Nat->Nat->Bool
namespace U5
variable (d:U5)
def q:Nat:=1+d.n
def m:Nat:=d.W+d.P
def A(j:Nat):Vc:=λk=>
 if j=0 then(if k<d.W then d.want k else if k<d.m then 0 else -1)
 else if j<d.q then(if k<d.W then(if d.of (j-1)=k then -1 else 0)else if k<d.m then(if d.on (j-1) (k-d.W)then 1 else 0)else 0)
 else if j<d.q+d.m then(if k=j-d.q then 1 else 0)
 else if j=d.q+d.m then(if k<d.W then 0 else if k<d.m then d.cap (k-d.W)else 0)
 else if k=d.m then 1 else 0
structure Ok:Prop where
 w0:0<d.W
 want:∀k,k<d.W->0<d.want k
 cap:∀p,p<d.P->0<d.cap p
 of:∀l,l<d.n->d.of l<d.W
 on:∀l,l<d.n->∃p,p<d.P/\d.on l p=true
variable {d}
theorem prob(O:d.Ok):ae7 d.q d.m d.A where
 aB:=λi k hi hk=>by
  unfold A;rw[cP1 (by unfold q;omega),cP1 (by omega),cP2 (by omega),show d.q+i-d.q=i by omega]
 gz:=λk hk=>by
  unfold A;rw[cP1 (by unfold q;omega),cP1 (by omega),cP1 (by omega),cP1 (by omega)]
 lz:=by
  unfold A;rw[cP1 (by unfold q;omega),cP1 (by omega),cP1 (by omega),cP2 rfl,cP1 (by unfold m;omega),cP1 (by omega)]
 bd:=λk hk=>by
  unfold A;rw[cP1 (by unfold q;omega),cP1 (by omega),cP1 (by omega),cP2 rfl];by_cases e:k<d.W
  .rw[cP2 e];omega
  .rw[cP1 e,cP2 hk];have :=O.cap (k-d.W) (by unfold m at hk;omega);omega
theorem goal:∀j,j<d.q->d.A j d.m=if j=0 then -1 else 0:=λj hj=>by
 unfold A;by_cases h:j=0
 .rw[cP2 h,cP1 (by unfold m;omega),cP1 (by omega),cP2 h]
 .rw[cP1 h,cP2 hj,cP1 (by unfold m;omega),cP1 (by omega),cP1 h]
theorem sumN_first(f:Nat->Int):∀n,j6 f (1+n)=f 0+j6 (λi=>f (1+i)) n
 |0=>by simp[j6]
 |n+1=>by rw[<-cM2,j6,sumN_first f n,j6];omega
theorem aG8:∀{n:Nat},(∀i,i<n->0<=f i)->j6 f n<=0->∀i,i<n->f i=0
 |0,_,_,i,hi=>absurd hi (cN6 _)
 |n+1,h,z,i,hi=>by
  rw[j6]at z;have p:0<=j6 f n:=by
   have :=ab0 (f:=λ_=>0) (g:=f) (n:=n) λi hi=>h i (by omega)
   rw[T6]at this;omega
  have pn:=h n (by omega);by_cases e:i=n
  .subst e;omega
  .exact aG8 (n:=n) (λi hi=>h i (by omega)) (by omega) i (by omega)
theorem noray(O:d.Ok)(w:Nat->Int)(hw:∀j,0<=w j)(h:∀k,k<d.m->j6 (λj=>w j*d.A j k) d.q+w (d.q+k)=0):0<=j6 (λj=>w j*d.A j d.m) d.q:=by
 have lane:∀l,l<d.n->w (1+l)=0:=by
  intro l hl;obtain⟨p,hp,ho⟩:=O.on l hl;have hk:d.W+p<d.m:=by unfold m;omega
  have z:=h (d.W+p) hk;have s0:=hw (d.q+(d.W+p));unfold q at z;rw[sumN_first]at z;have a0:d.A 0 (d.W+p)=0:=by
   unfold A;rw[cP2 rfl,cP1 (by omega),cP2 hk]
  rw[a0,cF8,cG4]at z;have al:∀i,i<d.n->d.A (1+i) (d.W+p)=if d.on i p then 1 else 0:=λi hi=>by
   unfold A;rw[cP1 (by omega),cP2 (by unfold q;omega),cP1 (by omega),cP2 hk,show 1+i-1=i by omega,show d.W+p-d.W=p by omega]
  have e:=aG8 (f:=λi=>w (1+i)*d.A (1+i) (d.W+p)) (n:=d.n) (λi hi=>by
   have :=hw (1+i);rw[al i hi];split<;>omega) (by unfold q at s0;omega) l hl
  rw[al l hl,ho]at e;simpa using e
 have w0:w 0=0:=by
  have hk:0<d.m:=by have :=O.w0;unfold m;omega
  have z:=h 0 hk;have s0:=hw (d.q+0);unfold q at z;rw[sumN_first,D9 λi hi=>by rw[lane i hi,cG5]]at z;have a0:d.A 0 0=d.want 0:=by
   unfold A;rw[cP2 rfl,cP2 O.w0]
  rw[a0]at z;have wp:=O.want 0 O.w0;have hw0:=hw 0;have hw1:=hw (1+d.n+0);rcases cE8 0 (w 0)with c|c
  .have :=cF6 c wp;omega
  .omega
 unfold q;rw[sumN_first,w0,D9 λi hi=>by rw[lane i hi,cG5]];omega
structure Best(d:U5)(u:Int)(x:Nat->Int)(price height:Nat->Int):Prop where
 pos:0<u
 x0:∀j,0<=x j
 p0:∀p,p<d.P->0<=price p
 h0:∀k,k<d.W->0<=height k
 less:∀k,k<d.W->d.want k*x 0<=j6 (λl=>if d.of l=k then x (1+l)else 0) d.n
 room:∀p,p<d.P->j6 (λl=>if d.on l p then x (1+l)else 0) d.n<=u*d.cap p
 lane:∀l,l<d.n->height (d.of l)<=j6 (λp=>if d.on l p then price p else 0) d.P
 one:j6 (λk=>d.want k*height k) d.W=u
 cost:j6 (λp=>d.cap p*price p) d.P=x 0
theorem at1(f:Nat->Int)(a:Nat):∀b,j6 f (a+b)=j6 f a+j6 (λi=>f (a+i)) b
 |0=>by simp[j6]
 |b+1=>by rw[<-cM2,j6,at1 f a b,j6];omega
theorem best(O:d.Ok){s:Int}{b:ABd}(S:St d.m (d.q+d.m) d.A s b.R b.aB b.u)(hb:∀j,j<d.q+d.m->0<=b.R d.m j)(h0:Bs d.m b.aB 0):
  Best d b.u (amt d.m (d.q+d.m) b.R b.aB) (λp=>b.R d.m (d.q+(d.W+p))) (λk=>b.R d.m (d.q+k)):=by
 have Pb:=prob O;obtain⟨t1,t2,t3⟩:=bz8 Pb goal (by unfold q;omega) S h0;have a0:∀k,k<d.W->d.A 0 k=d.want k:=λk hk=>by unfold A;rw[cP2 rfl,cP2 hk]
 have a0':∀p,p<d.P->d.A 0 (d.W+p)=0:=λp hp=>by unfold A;rw[cP2 rfl,cP1 (by omega),cP2 (by unfold m;omega)]
 have al:∀l,l<d.n->∀k,k<d.W->d.A (1+l) k=if d.of l=k then -1 else 0:=λl hl k hk=>by
  unfold A;rw[cP1 (by omega),cP2 (by unfold q;omega),cP2 hk,show 1+l-1=l by omega]
 have al':∀l,l<d.n->∀p,p<d.P->d.A (1+l) (d.W+p)=if d.on l p then 1 else 0:=λl hl p hp=>by
  unfold A;rw[cP1 (by omega),cP2 (by unfold q;omega),cP1 (by omega),cP2 (by unfold m;omega),show 1+l-1=l by omega,show d.W+p-d.W=p by omega]
 have ab:∀k,k<d.W->d.A (d.q+d.m) k=0:=λk hk=>by unfold A;rw[cP1 (by unfold q;omega),cP1 (by omega),cP1 (by omega),cP2 rfl,cP2 hk]
 have ab':∀p,p<d.P->d.A (d.q+d.m) (d.W+p)=d.cap p:=λp hp=>by
  unfold A;rw[cP1 (by unfold q;omega),cP1 (by omega),cP1 (by omega),cP2 rfl,cP1 (by omega),cP2 (by unfold m;omega),show d.W+p-d.W=p by omega]
 refine⟨S.T.pos,λj=>aF8 S j,λp hp=>hb _ (by unfold m;omega),λk hk=>hb _ (by unfold m;omega),λk hk=> ?_,λp hp=> ?_,λl hl=> ?_,?_,?_⟩
 .have z:=Pb.keeps S (k:=k) (by unfold m;omega);have sl:=aF8 S (d.q+k);rw[ab k hk,cF8]at z;unfold q at z sl⊢;rw[sumN_first,a0 k hk,v9 (g:=λl=>(-1)*(if d.of l=k then amt d.m (1+d.n+d.m) b.R b.aB (1+l)else 0)) λl hl=> ?_,K9]at z
  .rw[cF0 (d.want k)];omega
  .rw[al l hl k hk];split<;>omega
 .have z:=Pb.keeps S (k:=d.W+p) (by unfold m;omega);have sl:=aF8 S (d.q+(d.W+p));rw[ab' p hp]at z;unfold q at z sl⊢;rw[sumN_first,a0' p hp,cF8,v9 (g:=λl=>if d.on l p then amt d.m (1+d.n+d.m) b.R b.aB (1+l)else 0) λl hl=> ?_]at z
  .omega
  .rw[al' l hl p hp];split<;>omega
 .have r:=Pb.row S (l:=d.m) (j:=1+l) (by omega) (by unfold q;omega);have g:=hb (1+l) (by unfold q;omega);rw[cP2 rfl,goal (1+l) (by unfold q;omega),cP1 (by omega),cF8,cG4]at r;rw[r]at g;have e:j6 (λk=>d.A (1+l) k*b.R d.m (d.q+k)) d.m=j6 (λk=>d.A (1+l) k*b.R d.m (d.q+k)) d.W+j6 (λp=>d.A (1+l) (d.W+p)*b.R d.m (d.q+(d.W+p))) d.P:=at1 _ _ _;rw[e]at g;rw[F8 (k:=d.of l) (O.of l hl) λk hk hne=>by rw[al l hl k hk,cP1 λz=>hne z.symm,cG5],al l hl _ (O.of l hl),cP2 rfl]at g;rw[v9 (g:=λp=>if d.on l p then b.R d.m (d.q+(d.W+p))else 0) λp hp=> ?_]at g
  .omega
  .rw[al' l hl p hp];split<;>omega
 .have e:j6 (λk=>d.A 0 k*b.R d.m (d.q+k)) d.m=j6 (λk=>d.A 0 k*b.R d.m (d.q+k)) d.W+j6 (λp=>d.A 0 (d.W+p)*b.R d.m (d.q+(d.W+p))) d.P:=at1 _ _ _;rw[e,D9 (f:=λp=>d.A 0 (d.W+p)*b.R d.m (d.q+(d.W+p))) λp hp=>by rw[a0' p hp,cG5],cE2]at t2;rw[<-t2];exact v9 λk hk=>by rw[a0 k hk]
 .have e:j6 (λk=>d.A (d.q+d.m) k*b.R d.m (d.q+k)) d.m=j6 (λk=>d.A (d.q+d.m) k*b.R d.m (d.q+k)) d.W+j6 (λp=>d.A (d.q+d.m) (d.W+p)*b.R d.m (d.q+(d.W+p))) d.P:=at1 _ _ _;rw[e,D9 (f:=λk=>d.A (d.q+d.m) k*b.R d.m (d.q+k)) λk hk=>by rw[ab k hk,cG5],cG4]at t3;rw[<-t3];exact v9 λp hp=>by rw[ab' p hp]
theorem Best.none(O:d.Ok)(B:Best d u x price height):x 0=0 ↔∃k,k<d.W/\∀l,l<d.n->d.of l≠k:=by
 constructor
 .intro z;have c:=B.cost;rw[z]at c;have pz:=aG8 (f:=λp=>d.cap p*price p) (n:=d.P) (λp hp=>cF4 (Int.le_of_lt (O.cap p hp)) (B.p0 p hp)) (by omega);have pz':∀p,p<d.P->price p=0:=λp hp=>by
   rcases Int.mul_eq_zero.mp (pz p hp)with w|w
   .have :=O.cap p hp;omega
   .exact w
  apply Classical.byContradiction;intro hn;have hz:∀k,k<d.W->height k<=0:=λk hk=>by
   apply Classical.byContradiction;intro hk2;apply hn;refine⟨k,hk,λl hl e=>hk2 ?_⟩;have :=B.lane l hl;rw[e,D9 λp hp=>by rw[pz' p hp];split<;>rfl]at this;exact this
  have one:=B.one;have :=B.pos;rw[D9 λk hk=>by rw[show height k=0 by have :=hz k hk;have :=B.h0 k hk;omega,cF8]]at one;omega
 .intro⟨k,hk,hl⟩;have :=B.less k hk;rw[D9 λl hl'=>cP1 (hl l hl')]at this;have w:=O.want k hk;have x0:=B.x0 0;rcases cE8 0 (x 0)with c|c
  .have :=cF6 w c;omega
  .omega
end U5
def Wlk(fr to:Nat->Int):List Nat->Int->Int->Prop
 |[],a,b=>a=b
 |p::ps,a,b=>fr p=a/\Wlk fr to ps (to p) b
noncomputable def hit(x y:Int):Int:=if x=y then 1 else 0
theorem Wlk.gain:∀{ps:List Nat}{a b:Int},Wlk fr to ps a b->∀v,(ps.map λp=>hit (to p) v-hit (fr p) v).sum=hit b v-hit a v
 |[],a,b,h,v=>by
  have h:a=b:=h;subst h;simp
 |p::ps,a,b,h,v=>by
  obtain⟨h1,h2⟩:=h;rw[cB4,List.sum_cons,h2.gain v,h1];omega
end LP
open PySem LP
namespace L3
theorem o0(k n:Nat)(b:GS)(ts:List T)(h:ts.length=k):A6 k n b ts=az4 (b (o8 n ts)):=by unfold A6;rw[cP2 h]
@[simp] theorem jn:(some (some x):Option (Option α)).join=some x:=rfl
@[simp] theorem k7:M9 i U=(U[i]?).join:=rfl
@[simp] theorem y9:gC t U=some t:=rfl
@[simp] theorem P4:g1 f a U=(a U).bind f:=rfl
@[simp] theorem w8:g2 f a b U=(a U).bind λx=>(b U).bind λy=>f x y:=rfl
@[simp] theorem y0:gs [] U=some []:=rfl
@[simp] theorem o7:gs (a::r) U=(a U).bind λx=>(gs r U).bind λxs=>some (x::xs):=rfl
@[simp] theorem A5:gN f as U=(gs as U).bind f:=rfl
@[simp] theorem U8:A1 as U=(gs as U).bind λxs=>some (.tup xs):=rfl
@[simp] theorem av2:C4 as U=(gs as U).bind λxs=>some (.lst xs):=rfl
@[simp] theorem D8:bOf a U=(a U).bind toB:=rfl
@[simp] theorem R0:K6 a b U=(bOf a U).bind λc=>if c then b U else some (.bl false):=rfl
@[simp] theorem cm6:gOr a b U=(bOf a U).bind λc=>if c then some (.bl true)else b U:=rfl
@[simp] theorem bu0:aZ3 a U=(bOf a U).bind λc=>some (.bl !c):=rfl
@[simp] theorem ap2:V4 a b U=(a U).bind λc=>if c then b U else some false:=rfl
@[simp] theorem bn9:bOr a b U=(a U).bind λc=>if c then some true else b U:=rfl
@[simp] theorem cA7:ae6 a U=(a U).bind λc=>some !c:=rfl
@[simp] theorem aZ9:t9 U=some true:=rfl
@[simp] theorem bc4(f f':T->T->Option T)(a b c:G)(U:A7):aB7 f f' a b c U=(a U).bind λx=>(b U).bind λy=>((f x y).bind toB).bind λk=>if k then(c U).bind λz=>f' y z else some (.bl false):=rfl
@[simp] theorem D5:toB (.bl b)=some b:=rfl
@[simp] theorem aA4:toL (.lst b)=some b:=rfl
@[simp] theorem aa7:toI (.int b)=some b:=rfl
@[simp] theorem bi3:A2 U=some (.nx U):=rfl
@[simp] theorem A8:u7 i g U=(g U).bind λt=>some (.nx (U.set i (some t))):=rfl
@[simp] theorem y4:t8 g U=(g U).bind λt=>some (.ret t):=rfl
@[simp] theorem br1:bi2 i j a b U=(a U).bind λx=>(b U).bind λy=>some (.nx ((U.set i (some x)).set j (some y))):=rfl
@[simp] theorem F0:sIf c a b U=(c U).bind λk=>if k then a U else b U:=rfl
theorem aX5(a b:GS)(U:A7):n9 a b U=(a U).bind λo=>match o with |.nx U'=>b U'|o=>some o:=rfl
theorem m8(h:a U=some (.nx U')):n9 a b U=b U':=by rw[aX5,h];rfl
theorem Y6(h:a U=some (.ret t)):n9 a b U=some (.ret t):=by rw[aX5,h];rfl
@[simp] theorem S5:N6 it st b U=(it U).bind λxs=>G8 st b xs U:=rfl
@[simp] theorem Q8:itL g U=(g U).bind toL:=rfl
@[simp] theorem aU1:itZ a b U=(itL a U).bind λxs=>(itL b U).bind λys=>some (C8 xs ys):=rfl
@[simp] theorem cm5:itE a U=(itL a U).bind λxs=>some (J2 0 xs):=rfl
@[simp] theorem ar1:itR a U=((a U).bind toI).bind λn=>if -lim<=n/\n<=lim then some (G9 0 n.toNat)else none:=rfl
@[simp] theorem bC5:stN i t U=some (U.set i (some t)):=rfl
@[simp] theorem bC6:st2 i j (.tup [x,y]) U=some ((U.set i (some x)).set j (some y)):=rfl
@[simp] theorem N4:az4 (some (.ret t))=some t:=rfl
@[simp] theorem cA6:az4 (some (.nx U))=some .non:=rfl
@[simp] theorem Q5:z0 (.int i) (.int j)=some (.int (i+j)):=rfl
@[simp] theorem aw8:aw9 (.int i) (.int j)=some (.int (i-j)):=rfl
@[simp] theorem Z0:L9 (.int i)=some (.int (-i)):=rfl
@[simp] theorem ab4:fLt (.int i) (.int j)=some (.bl (decide (i<j))):=rfl
@[simp] theorem aZ6:fLe (.int i) (.int j)=some (.bl (decide (i<=j))):=rfl
@[simp] theorem aB9:fGt (.int i) (.int j)=some (.bl (decide (j<i))):=rfl
@[simp] theorem ce4:fGe (.int i) (.int j)=some (.bl (decide (j<=i))):=rfl
@[simp] theorem P7:fEq (.int i) (.int j)=some (.bl (i==j)):=rfl
@[simp] theorem aZ5:fNe (.int i) (.int j)=some (.bl !(i==j)):=rfl
@[simp] theorem aR3:C5 [.tup xs]=some (.int xs.length):=rfl
@[simp] theorem G7:C5 [.lst xs]=some (.int xs.length):=rfl
@[simp] theorem bT9:bz3 [.int i]=some (.int (if i<0 then -i else i)):=rfl
theorem L8(h1:big i=true)(h2:big j=true):M0 (.int i) (.int j)=some (.int (i*j)):=by simp[M0,h1,h2]
theorem ah5(h:sm j=true):M0 (.int i) (.int j)=some (.int (i*j)):=by simp[M0,h]
theorem aR2(h:sm i=true):M0 (.int i) (.int j)=some (.int (i*j)):=by simp[M0,h]
theorem ap1(h1:0<j)(h2:big j=true):K7 (.int i) (.int j)=some (.int (i/j)):=by simp[K7,opN,h1,h2]
theorem K4(h1:0<j):J5 (.int i) (.int j)=some (.int (i%j)):=by simp[J5,opN,h1]
@[simp] theorem ak0:ap0 k x=(isK k x).bind λb=>some (.bl b):=rfl
theorem ao8(h:i<n):ixT n (i:Int)=some i:=by
 unfold ixT;rw[cP2 (by omega),cP2 (by omega)];simp
theorem aQ9{xs:List T}{i:Nat}{t:T}(h:xs[i]?=some t):z8 (.tup xs) (.int (i:Int))=some t:=by
 have hl:i<xs.length:=by
  rcases cM8 i xs.length with q|q
  .exact q
  .rw[cI4 q]at h;cases h
 show(ixT xs.length i).bind _=_;rw[ao8 hl];exact h
theorem Y9{xs:List T}{i:Nat}{t:T}(h:xs[i]?=some t):z8 (.lst xs) (.int (i:Int))=some t:=by
 have hl:i<xs.length:=by
  rcases cM8 i xs.length with q|q
  .exact q
  .rw[cI4 q]at h;cases h
 show(ixT xs.length i).bind _=_;rw[ao8 hl];exact h
@[simp] theorem ix0(x:T)(r:List T):z8 (.tup (x::r)) (.int 0)=some x:=aQ9 (i:=0) (by simp)
@[simp] theorem ix1(x y:T)(r:List T):z8 (.tup (x::y::r)) (.int 1)=some y:=aQ9 (i:=1) (by simp)
@[simp] theorem ix2(x y z:T)(r:List T):z8 (.tup (x::y::z::r)) (.int 2)=some z:=aQ9 (i:=2) (by simp)
theorem bm2(a b:Int):Int.gcd b (a%b)=Int.gcd a b:=by
 have e:a=b*(a/b)+a%b:=(Int.mul_ediv_add_emod a b).symm;apply Nat.dvd_antisymm
 .have h1:((Int.gcd b (a%b):Nat):Int)∣b:=Int.gcd_dvd_left ..;have h2:((Int.gcd b (a%b):Nat):Int)∣a%b:=cE6 ..;have h3:((Int.gcd b (a%b):Nat):Int)∣a:=by
   have :=Int.dvd_add (Int.dvd_mul_of_dvd_left (c:=a/b) h1) h2;rwa[Int.mul_ediv_add_emod]at this
  exact Int.natCast_dvd_natCast.mp (Int.dvd_coe_gcd h3 h1)
 .have h1:((Int.gcd a b:Nat):Int)∣a:=Int.gcd_dvd_left ..;have h2:((Int.gcd a b:Nat):Int)∣b:=cE6 ..;have h3:((Int.gcd a b:Nat):Int)∣a%b:=by
   rw[Int.emod_def];exact Int.dvd_sub h1 (Int.dvd_mul_of_dvd_left h2)
  exact Int.natCast_dvd_natCast.mp (Int.dvd_coe_gcd h2 h3)
noncomputable abbrev fr(n d:Int):T:=.tup [.int n,.int d]
noncomputable def nrm(n d:Int):T:=fr (n/Int.gcd n d) (d/Int.gcd n d)
theorem bX3:∀(k:Nat) (a b:Int) (z:Option T),0<=b->(b=0->0<=a)->b.natAbs<k->∃z',N2 (bOf (g2 fNe e7 k8)) (n9 (u7 2 (g2 J5 d7 e7)) (n9 (u7 0 e7) (u7 1 m7))) k [some (.int a),some (.int b),z]=some (.nx [some (.int (Int.gcd a b)),some (.int 0),z'])
 |0,a,b,z,_,_,h=>by omega
 |k+1,a,b,z,hb,ha,h=>by
  by_cases hz:b=0
  .subst hz;refine⟨z,?_⟩;have :((Int.gcd a 0:Nat):Int)=a:=by rw[Int.gcd_zero_right];exact cG0 (ha rfl)
   rw[this];simp[N2]
  .have hp:0<b:=by omega
   have hm1:=cE4 a (show b≠0 by omega);have hm2:=cE3 a hp;obtain⟨z',ih⟩:=bX3 k b (a%b) (some (.int (a%b))) hm1 (λ_=>hb) (by omega);refine⟨z',?_⟩;have e:Int.gcd b (a%b)=Int.gcd a b:=by
    exact bm2 a b
   rw[e]at ih;rw[N2];simp only[D8,w8,k7,y9,cB3,cC1,jn,cB2,aZ5,D5];have :(!(b==0))=true:=by simpa using hz
   simp only[this,if_true];simp only[aX5,A8,w8,k7,cB3,cC1,jn,cB2,K4 hp,cC2,cC3];exact ih
theorem co4(hb:0<b):X1 [.int a,.int b]=some (.int (Int.gcd a b)):=by
 obtain⟨z',h⟩:=bX3 (b.natAbs+2) a b none (by omega) (by omega) (by omega);rw[X1,o0 2 _ _ _ rfl,ax4];rw[m8 (U':=[some (.int (Int.gcd a b)),some (.int 0),z'])]
 .simp
 .exact h
theorem T9(h:x.natAbs<2^k)(hk:k<=4000):big x=true:=by
 unfold big;exact cO9 (cM7 h (cN7 (by decide) hk))
theorem aZ2(hd:0<d):0<Int.gcd n d:=Int.gcd_pos_of_ne_zero_right n (by omega)
theorem bI7(hd:0<d):(Int.gcd n d)<=d.natAbs:=Int.gcd_le_natAbs_right n (by omega)
theorem aI1(hd:0<d):0<d/(Int.gcd n d:Int)/\Int.gcd (n/(Int.gcd n d:Int)) (d/(Int.gcd n d:Int))=1/\(n/(Int.gcd n d:Int)).natAbs<=n.natAbs/\(d/(Int.gcd n d:Int)).natAbs<=d.natAbs:=by
 have hg:=aZ2 (n:=n) hd;have hg':(0:Int)<(Int.gcd n d:Int):=by omega
 refine⟨Int.ediv_pos_of_pos_of_dvd hd (by omega) (cE6 ..),?_,?_,?_⟩
 .exact Int.gcd_ediv_gcd_ediv_gcd hg
 .exact Int.natAbs_ediv_le_natAbs ..
 .exact Int.natAbs_ediv_le_natAbs ..
def Fz(k:Nat)(t:T):Prop:=∃n d:Int,t=fr n d/\0<d/\Int.gcd n d=1/\n.natAbs<2^k/\d.natAbs<2^k
theorem Fz.mono(h:Fz k t)(hl:k<=l):Fz l t:=by
 obtain⟨n,d,e,h1,h2,h3,h4⟩:=h;have :=cN7 (n:=2) (by decide) hl;exact⟨n,d,e,h1,h2,by omega,by omega⟩
theorem bp4(hd:0<d)(h1:n.natAbs<2^k)(h2:d.natAbs<2^k):Fz k (nrm n d):=by
 obtain⟨p1,p2,p3,p4⟩:=aI1 (n:=n) hd;exact⟨_,_,rfl,p1,p2,by omega,by omega⟩
theorem aT4(h:Int.gcd n d=1):nrm n d=fr n d:=by
 unfold nrm;rw[h];simp
theorem bg5(hd:0<d)(h:d.natAbs<2^k)(hk:k<=4000):V9 [.int n,.int d]=some (nrm n d):=by
 rw[V9,o0 2 _ _ _ rfl,be5];have hg:=aZ2 (n:=n) hd;have hb:big ((Int.gcd n d:Nat):Int)=true:=T9 (k:=k) (by have :=bI7 (n:=n) hd;simp;omega) hk;have h0:(0:Int)<(Int.gcd n d:Int):=by omega
 rw[m8 (U':=[some (.int n),some (.int d),some (.int (Int.gcd n d))])]
 .simp only[y4,U8,o7,y0,w8,k7,cB3,cC1,jn,cB2,ap1 h0 hb,N4];rfl
 .simp only[A8,A5,o7,y0,k7,o8,cB4,cB5,cB8,cB9,cC4,cC0,cB3,cC1,jn,cB2,co4 hd];rfl
theorem Y1(h1:x<2^k)(h2:y<2^l):x*y<2^(k+l):=by
 rw[Nat.pow_add];exact Nat.mul_lt_mul'' h1 h2
noncomputable def ae3:T->T->T
 |.tup [.int a,.int b],.tup [.int c,.int d]=>nrm (a*d+c*b) (b*d)
 |t,_=>t
theorem aK4(ht:Fz k t)(hu:Fz l u)(hkl:k+l+1<=4000):X0 [t,u]=some (ae3 t u)/\Fz (k+l+1) (ae3 t u):=by
 obtain⟨a,b,rfl,hb,_,ha',hb'⟩:=ht;obtain⟨c,d,rfl,hd,_,hc',hd'⟩:=hu;have B:∀{x:Int},x.natAbs<2^k->big x=true:=λh=>T9 h (by omega)
 have C:∀{x:Int},x.natAbs<2^l->big x=true:=λh=>T9 h (by omega)
 have p0:0<b*d:=cF6 hb hd;have e1:(a*d).natAbs<2^(k+l):=by rw[cF9];exact Y1 ha' hd'
 have e2:(c*b).natAbs<2^(k+l):=by rw[cF9,cN2];exact Y1 hb' hc'
 have e3:(b*d).natAbs<2^(k+l):=by rw[cF9];exact Y1 hb' hd'
 have e4:(a*d+c*b).natAbs<2^(k+l+1):=by
  have :=Int.natAbs_add_le (a*d) (c*b);rw[cN8];omega
 have e5:(b*d).natAbs<2^(k+l+1):=by rw[cN8];omega
 refine⟨?_,bp4 p0 e4 e5⟩;rw[X0,o0 2 _ _ _ rfl,bL5];simp only[y4,A5,o7,y0,w8,y9,k7,o8,fr,cB4,cB5,cB8,cB9,cC4,cC0,cB3,cC1,jn,cB2,ix0,ix1,L8 (B ha') (C hd'),L8 (C hc') (B hb'),L8 (B hb') (C hd'),Q5,bg5 p0 e5 hkl,N4];rfl
theorem bM0(h:Fz k (fr n d)):Fz k (fr (-n) d):=by
 obtain⟨n',d',e,h1,h2,h3,h4⟩:=h;cases e;exact⟨_,_,rfl,h1,by simpa[Int.gcd]using h2,by omega,h4⟩
noncomputable def aH7:T->T
 |.tup [.int a,.int b]=>fr (-a) b
 |t=>t
theorem co2(ht:Fz k t)(hu:Fz l u)(hkl:k+l+1<=4000):ah7 [t,u]=some (ae3 t (aH7 u))/\Fz (k+l+1) (ae3 t (aH7 u)):=by
 obtain⟨c,d,rfl,hd,hg,hc',hd'⟩:=id hu;have hn:=bM0 hu;obtain⟨h1,h2⟩:=aK4 ht hn hkl;refine⟨?_,h2⟩;rw[ah7,o0 2 _ _ _ rfl,bv4];simp only[y4,A5,o7,y0,w8,P4,U8,y9,k7,o8,fr,cB4,cB5,cB8,cB9,cC4,cC0,cB3,cC1,jn,cB2,ix0,ix1,Z0,N4];rw[show X0 [t,T.tup [T.int (-c),T.int d]]=_ from h1];rfl
theorem bW6:∀(k:Nat) (a b:Int) (x y:Option T),0<=b->0<=a->b.natAbs<k->N2 (bOf (g2 fGt n6 k8)) (bi2 2 3 n6 (g2 J5 m7 n6)) k [x,y,some (.int a),some (.int b)]=some (.nx [x,y,some (.int (Int.gcd a b)),some (.int 0)])
 |0,a,b,x,y,_,_,h=>by omega
 |k+1,a,b,x,y,hb,ha,h=>by
  rw[N2];simp only[D8,w8,k7,y9,cB3,cC1,jn,cB2,aB9,D5];by_cases hz:b=0
  .subst hz;have :((Int.gcd a 0:Nat):Int)=a:=by rw[Int.gcd_zero_right];exact cG0 ha
   rw[this];simp
  .have hp:0<b:=by omega
   have hm1:=cE4 a (show b≠0 by omega);have hm2:=cE3 a hp;have ih:=bW6 k b (a%b) x y hm1 hb (by omega);rw[bm2]at ih;simp only[cO9 hp,if_true,br1,w8,k7,cB3,cC1,jn,cB2,K4 hp,cC2,cC3];exact ih
theorem bV2(hd:0<d)(h:d.natAbs<2^k)(hk:k<=4000):ax6 [.int n,.int d]=some (nrm n d):=by
 have hg:=aZ2 (n:=n) hd;have hb:big ((Int.gcd n d:Nat):Int)=true:=T9 (k:=k) (by have :=bI7 (n:=n) hd;simp;omega) hk;have h0:(0:Int)<(Int.gcd n d:Int):=by omega
 have ea:Int.gcd (if n<0 then -n else n) d=Int.gcd n d:=by
  split
  .simp[Int.gcd]
  .rfl
 rw[ax6,o0 2 _ _ _ rfl,bo3];rw[m8 (U':=[some (.int n),some (.int d),some (.int (if n<0 then -n else n)),some (.int d)])]
 .rw[m8 (U':=[some (.int n),some (.int d),some (.int (Int.gcd n d)),some (.int 0)])]
  .simp only[y4,U8,o7,y0,w8,k7,cB3,cC1,jn,cB2,ap1 h0 hb,N4];rfl
  .have :=bW6 (d.natAbs+2) (if n<0 then -n else n) d (some (.int n)) (some (.int d)) (by omega) (by split<;>omega) (by omega);rw[ea]at this;exact this
 .simp only[br1,A5,o7,y0,k7,o8,cB4,cB5,cB8,cB9,cC4,cC0,cB3,cC1,jn,cB2,bT9];rfl
theorem aM8(ht:Fz k t)(hu:Fz l u)(hkl:k+l+1<=4000):S3 [t,u]=some (ae3 t u):=by
 obtain⟨a,b,rfl,hb,_,ha',hb'⟩:=ht;obtain⟨c,d,rfl,hd,_,hc',hd'⟩:=hu;have B:∀{x:Int},x.natAbs<2^k->big x=true:=λh=>T9 h (by omega)
 have C:∀{x:Int},x.natAbs<2^l->big x=true:=λh=>T9 h (by omega)
 have p0:0<b*d:=cF6 hb hd;have e3:(b*d).natAbs<2^(k+l):=by rw[cF9];exact Y1 hb' hd'
 have e5:(b*d).natAbs<2^(k+l+1):=by rw[cN8];omega
 rw[S3,o0 2 _ _ _ rfl,bo2];simp only[y4,A5,o7,y0,w8,y9,k7,o8,fr,cB4,cB5,cB8,cB9,cC4,cC0,cB3,cC1,jn,cB2,ix0,ix1,L8 (B ha') (C hd'),L8 (C hc') (B hb'),L8 (B hb') (C hd'),Q5,bV2 p0 e5 hkl,N4];rfl
theorem ct2(ht:Fz k t)(hk:k<=3000)(z:Int)(hz:z=0\/z=1\/z= -1):R6 [t,fr z 1]=some (if z=0 then fr 0 1 else if z=1 then t else aH7 t):=by
 obtain⟨a,b,rfl,hb,hg,ha',hb'⟩:=ht;have B:∀{x:Int},x.natAbs<2^k->big x=true:=λh=>T9 h (by omega)
 have b1:big 1=true:=T9 (k:=1) (by decide) (by decide);have bz:big z=true:=by rcases hz with rfl|rfl|rfl<;>exact T9 (k:=1) (by decide) (by decide)
 rw[R6,o0 2 _ _ _ rfl,aJ6];simp only[y4,A5,o7,y0,w8,y9,k7,o8,fr,cB4,cB5,cB8,cB9,cC4,cC0,cB3,cC1,jn,cB2,ix0,ix1,L8 (B ha') bz,L8 (B hb') b1,cF5,bV2 hb hb' (by omega:k<=4000),N4];rcases hz with rfl|rfl|rfl
 .simp only[cF8,if_true,nrm,Int.gcd_zero_left];have :((b.natAbs:Nat):Int)=b:=cG0 (by omega);rw[this,Int.ediv_self (by omega)];simp
 .simp only[cF5,aT4 hg];rfl
 .have e:Int.gcd (a* -1) b=1:=by simpa[Int.gcd]using hg
  rw[aT4 e];simp[aH7]
theorem ar5(z:Int)(h:z=0\/z=1\/z= -1):Fz (k+1) (fr z 1):=by
 have :(1:Nat)<=2^k:=Nat.one_le_two_pow;refine⟨z,1,rfl,by omega,by simp,?_,?_⟩
 .rw[cN8];omega
 .rw[cN8];simp;omega
theorem bF0(ht:Fz k t):ae3 t (fr 0 1)=t:=by
 obtain⟨a,b,rfl,hb,hg,_⟩:=ht;show nrm (a*1+0*b) (b*1)=_;rw[cF5,cG5,cE2,cF5,aT4 hg]
noncomputable abbrev X5(u v r:Int):T:=.tup [.int u,.int v,.int r]
noncomputable def af0(p u v:Int)(q acc:T):T:=
 let a:=if v==p then ae3 acc q else acc
 if u==p then ae3 a (aH7 q)else a
noncomputable def P3(p:Int):List (Int×Int×Int)->List T->T->T
 |(u,v,_)::ws,q::qs,acc=>P3 p ws qs (af0 p u v q acc)
 |_,_,acc=>acc
noncomputable def k9(w:Int×Int×Int):T:=X5 w.1 w.2.1 w.2.2
theorem bv5(h:Fz k t):Fz k (aH7 t):=by
 obtain⟨n,d,rfl,_⟩:=id h;exact bM0 h
theorem bm4(hq:Fz k q)(ha:Fz l acc)(huv:u≠v)(hl:k+l+1<=3000):Fz (k+l+1) (af0 p u v q acc):=by
 unfold af0;by_cases hv:v=p
 .have hu:¬u=p:=λz=>huv (z.trans hv.symm)
  have e1:(v==p)=true:=by simpa using hv
  have e2:(u==p)=false:=by simpa using hu
  simp only[e1,e2,if_true,cD0,if_false];exact(aK4 ha hq (by omega)).2.mono (by omega)
 .have e1:(v==p)=false:=by simpa using hv
  simp only[e1,cD0,if_false];by_cases hu:u=p
  .have e2:(u==p)=true:=by simpa using hu
   simp only[e2,if_true];exact(aK4 ha (bv5 hq) (by omega)).2.mono (by omega)
  .have e2:(u==p)=false:=by simpa using hu
   simp only[e2,cD0,if_false];exact ha.mono (by omega)
theorem bt9(p:Int)(k:Nat):∀(ws:List (Int×Int×Int)) (qs:List T) (l:Nat) (acc:T) (x y z a b:Option T),(∀w∈ws,w.1≠w.2.1)->(∀q∈qs,Fz k q)->Fz l acc->l+ws.length*(k+1)<=3000->
  ∃a' b',G8 (st2 4 5) (n9 (sIf (bOf (g2 fEq (d9 y6 e9) m7)) (u7 3 (gN X0 [n6,A3])) A2)
  (sIf (bOf (g2 fEq (d9 y6 k8) m7)) (u7 3 (gN ah7 [n6,A3])) A2)) (C8 (ws.map k9) qs) [x,y,some (.int p),some acc,a,b]=some (.nx [x,y,some (.int p),some (P3 p ws qs acc),a',b'])/\Fz (l+ws.length*(k+1)) (P3 p ws qs acc)
 |[],qs,l,acc,x,y,z,a,b,_,_,ha,_=>⟨a,b,by simp[C8,G8,P3],by simpa[P3]using ha⟩
 |w::ws,[],l,acc,x,y,z,a,b,_,_,ha,_=>⟨a,b,by simp[C8,G8,P3],by simpa[P3]using ha.mono (by omega)⟩
 |(u,v,r)::ws,q::qs,l,acc,x,y,z,a,b,hw,hq,ha,hl=>by
  have huv:u≠v:=hw (u,v,r) cK7;have hq0:Fz k q:=hq q cK7;rw[cB8,cO0]at hl;have hg:=bm4 (p:=p) hq0 ha huv (by omega);obtain⟨a',b',ih,ihz⟩:=bt9 p k ws qs (k+l+1) (af0 p u v q acc) x y z (some (X5 u v r)) (some q) (λw h=>hw w (cK6 _ h)) (λw h=>hq w (cK6 _ h)) hg (by omega);refine⟨a',b',?_,?_⟩
  .rw[cB4,C8,G8];simp only[bC6,cB2,cC2,cC3];have step:(n9 (sIf (bOf (g2 fEq (d9 y6 e9) m7)) (u7 3 (gN X0 [n6,A3])) A2)
     (sIf (bOf (g2 fEq (d9 y6 k8) m7)) (u7 3 (gN ah7 [n6,A3])) A2)) [x,y,some (.int p),some acc,some (k9 (u,v,r)),some q]=some (.nx [x,y,some (.int p),some (af0 p u v q acc),some (X5 u v r),some q]):=by
    have k1:(sIf (bOf (g2 fEq (d9 y6 e9) m7)) (u7 3 (gN X0 [n6,A3])) A2) [x,y,some (.int p),some acc,some (k9 (u,v,r)),some q]=some (.nx [x,y,some (.int p),some (if v==p then ae3 acc q else acc),some (k9 (u,v,r)),some q]):=by
     simp only[F0,D8,w8,k7,y9,cB3,cC1,jn,cB2,k9,X5,ix1,P7,D5,A8,A5,o7,y0,(aK4 ha hq0 (by omega)).1,cC2,cC3,bi3];cases(v==p)<;>rfl
    rw[m8 k1];simp only[F0,D8,w8,k7,y9,cB3,cC1,jn,cB2,k9,X5,ix0,P7,D5,A8,A5,o7,y0,cC2,cC3,bi3];unfold af0;by_cases hv:v=p
    .have hu:(u==p)=false:=by simpa using λz=>huv (z.trans hv.symm)
     simp[hu]
    .have e1:(v==p)=false:=by simpa using hv
     simp only[e1,cD0,if_false,(co2 ha hq0 (by omega)).1,cB2];cases(u==p)<;>rfl
   rw[step];exact ih
  .show Fz _ (P3 p ws qs (af0 p u v q acc));refine ihz.mono ?_;rw[cB8,cO0];omega
theorem bA6(hw:∀w∈ws,w.1≠w.2.1)(hq:∀q∈qs,Fz k q)(hl:1+ws.length*(k+1)<=3000):
  ar7 [.lst (ws.map k9),.lst qs,.int p]=some (P3 p ws qs (fr 0 1))/\Fz (1+ws.length*(k+1)) (P3 p ws qs (fr 0 1)):=by
 obtain⟨a',b',h1,h2⟩:=bt9 p k ws qs 1 (fr 0 1) (some (.lst (ws.map k9))) (some (.lst qs)) none none none hw hq (ar5 0 (.inl rfl)) hl;refine⟨?_,h2⟩;rw[ar7,o0 3 _ _ _ rfl,bL8];rw[m8 (U':=[some (.lst (ws.map k9)),some (.lst qs),some (.int p),some (fr 0 1),none,none]) rfl];rw[m8 (U':=[some (.lst (ws.map k9)),some (.lst qs),some (.int p),some (P3 p ws qs (fr 0 1)),a',b'])]
 .rfl
 .simp only[S5,aU1,Q8,k7,cB3,cC1,jn,cB2,aA4];exact h1
theorem cu6(u v p:Int)(huv:u≠v):((if(v==p)=true then(1:Int)else 0)-(if(u==p)=true then(1:Int)else 0)=0\/(if(v==p)=true then(1:Int)else 0)-(if(u==p)=true then(1:Int)else 0)=1\/(if(v==p)=true then(1:Int)else 0)-(if(u==p)=true then(1:Int)else 0)= -1):=by
 by_cases hv:v=p<;>by_cases hu:u=p
 .exact absurd (hu.trans hv.symm) huv
 .simp[hv,hu]
 .simp[hv,hu]
 .simp[hv,hu]
@[simp] theorem ce3(b:Bool):ax0 [.bl b]=some (.int (if b then 1 else 0)):=rfl
theorem bl3(p:Int)(k:Nat):∀(ws:List (Int×Int×Int)) (qs:List T) (l:Nat) (acc:T) (x y a b:Option T),(∀w∈ws,w.1≠w.2.1)->(∀q∈qs,Fz k q)->Fz l acc->l+ws.length*(k+1)<=3000->k<=3000->
  ∃a' b',G8 (st2 4 5) (u7 3 (gN S3 [n6,gN R6 [y6,A1 [g2 aw9 (gN ax0 [g2 fEq (d9 A3 e9) m7]) (gN ax0 [g2 fEq (d9 A3 k8) m7]),e9]]])) (C8 qs (ws.map k9)) [x,y,some (.int p),some acc,a,b]=some (.nx [x,y,some (.int p),some (P3 p ws qs acc),a',b'])
 |[],[],l,acc,x,y,a,b,_,_,ha,_,_=>⟨a,b,by simp[C8,G8,P3]⟩
 |[],q::qs,l,acc,x,y,a,b,_,_,ha,_,_=>⟨a,b,by simp[C8,G8,P3]⟩
 |w::ws,[],l,acc,x,y,a,b,_,_,ha,_,_=>⟨a,b,by simp[C8,G8,P3]⟩
 |(u,v,r)::ws,q::qs,l,acc,x,y,a,b,hw,hq,ha,hl,hk=>by
  have huv:u≠v:=hw (u,v,r) cK7;have hq0:Fz k q:=hq q cK7;rw[cB8,cO0]at hl;have hg:=bm4 (p:=p) hq0 ha huv (by omega);obtain⟨a',b',ih⟩:=bl3 p k ws qs (k+l+1) (af0 p u v q acc) x y (some q) (some (X5 u v r)) (λw h=>hw w (cK6 _ h)) (λw h=>hq w (cK6 _ h)) hg (by omega) hk;refine⟨a',b',?_⟩;rw[cB4,C8,G8];simp only[bC6,cB2,cC2,cC3,A8,A5,o7,y0,U8,w8,k7,y9,cB3,cC1,jn,k9,X5,ix0,ix1,P7,ce3,aw8];have zs:=cu6 u v p huv;rw[show(T.tup [T.int ((if(v==p)=true then(1:Int)else 0)-(if(u==p)=true then(1:Int)else 0)),T.int 1])=fr ((if(v==p)=true then(1:Int)else 0)-(if(u==p)=true then(1:Int)else 0)) 1 from rfl,ct2 hq0 hk _ zs];have fin:∀t,S3 [acc,t]=some (af0 p u v q acc)->(((some t).bind λx=>some [x]).bind λxs=>some (acc::xs)).bind S3=some (af0 p u v q acc):=λt ht=>by simpa using ht
  simp only[cB2];have main:S3 [acc,if(if(v==p)=true then(1:Int)else 0)-(if(u==p)=true then(1:Int)else 0)=0 then fr 0 1 else if(if(v==p)=true then(1:Int)else 0)-(if(u==p)=true then(1:Int)else 0)=1 then q else aH7 q]=some (af0 p u v q acc):=by
   unfold af0;by_cases hv:v=p
   .have hu:(u==p)=false:=by simpa using λz=>huv (z.trans hv.symm)
    have e1:(v==p)=true:=by simpa using hv
    simp only[e1,hu,if_true,cD0,if_false];exact aM8 ha hq0 (by omega)
   .have e1:(v==p)=false:=by simpa using hv
    by_cases hu:u=p
    .have e2:(u==p)=true:=by simpa using hu
     simp only[e1,e2,if_true,cD0,if_false];exact aM8 ha (bv5 hq0) (by omega)
    .have e2:(u==p)=false:=by simpa using hu
     simp only[e1,e2,cD0,if_false];have z:=aM8 ha (ar5 (k:=0) 0 (.inl rfl)) (by omega);rw[bF0 ha]at z;exact z
  rw[main];exact ih
theorem co1(hw:∀w∈ws,w.1≠w.2.1)(hq:∀q∈qs,Fz k q)(hl:1+ws.length*(k+1)<=3000)(hk:k<=3000):
  S4 [.tup [.int n,.lst (ws.map k9),m],.lst qs,.int p]=some (P3 p ws qs (fr 0 1)):=by
 obtain⟨a',b',h1⟩:=bl3 p k ws qs 1 (fr 0 1) (some (.tup [.int n,.lst (ws.map k9),m])) (some (.lst qs)) none none hw hq (ar5 0 (.inl rfl)) hl hk;rw[S4,o0 3 _ _ _ rfl,aV6];rw[m8 (U':=[some (.tup [.int n,.lst (ws.map k9),m]),some (.lst qs),some (.int p),some (fr 0 1),none,none]) rfl];rw[m8 (U':=[some (.tup [.int n,.lst (ws.map k9),m]),some (.lst qs),some (.int p),some (P3 p ws qs (fr 0 1)),a',b'])]
 .rfl
 .simp only[S5,aU1,Q8,w8,y9,k7,cB3,cC1,jn,cB2,aA4,ix1];exact h1
theorem ad0:∀(xs:List T),(∀x∈xs,∃U1,st x U=some U1/\e U1=some (f x))->Y4 U st t9 e xs=some (xs.map f)
 |[],_=>rfl
 |x::xs,h=>by
  obtain⟨U1,h1,h2⟩:=h x cK7;have ih:=ad0 xs λy hy=>h y (cK6 _ hy)
  simp only[Y4,h1,cB2,aZ9,if_true,h2,ih,cB4]
theorem aJ3(f:T->Bool):∀xs:List T,ag6 (xs.map λx=>.bl (f x))=some (xs.map f)
 |[]=>rfl
 |x::xs=>by simp only[cB4,ag6,aJ3 f xs,cB2]
theorem all_map(f:T->Bool)(xs:List T):as4 [.lst (xs.map λx=>.bl (f x))]=some (.bl (xs.all f)):=by
 simp only[as4,aJ3,cB2];congr 2;induction xs with
 |nil=>rfl
 |cons x xs ih=>simp only[cB4,cG6,id,ih]
theorem any_map(f:T->Bool)(xs:List T):aJ0 [.lst (xs.map λx=>.bl (f x))]=some (.bl (xs.any f)):=by
 simp only[aJ0,aJ3,cB2];congr 2;induction xs with
 |nil=>rfl
 |cons x xs ih=>simp only[cB4,cG9,id,ih]
theorem aj3(f:T->Bool)(h1:it U=some xs)(hl:xs.length<=lim)(h:∀x∈xs,∃U1,st x (X7 nT aC U)=some U1/\e U1=some (.bl (f x))):
  gN as4 [l9 it nT aC st t9 e] U=some (.bl (xs.all f)):=by
 simp only[A5,o7,y0,l9,h1,cB2,cP2 hl,ad0 (f:=λx=>.bl (f x)) xs h,all_map]
theorem bU6(f:T->Bool)(h1:it U=some xs)(hl:xs.length<=lim)(h:∀x∈xs,∃U1,st x (X7 nT aC U)=some U1/\e U1=some (.bl (f x))):
  gN aJ0 [l9 it nT aC st t9 e] U=some (.bl (xs.any f)):=by
 simp only[A5,o7,y0,l9,h1,cB2,cP2 hl,ad0 (f:=λx=>.bl (f x)) xs h,any_map]
noncomputable def plain:T->Bool
 |.ref _=>false
 |.scr _=>false
 |.obj _ _=>false
 |_=>true
noncomputable def ak4:T->Bool
 |.int _=>true
 |_=>false
theorem bV1(h:plain t=true):ah9 [t]=some (.bl (ak4 t)):=by
 rw[ah9,o0 1 _ _ _ rfl,aV9];cases t<;>first |(cases h;done)|rfl
theorem bX6(h:plain t=true):aa0 [t]=some (.bl (match t with |.tup xs=>xs.length==3|_=>false)):=by
 rw[aa0,o0 1 _ _ _ rfl,aO4];cases t<;>first |(cases h;done)|skip
 case tup xs=>
  simp only[y4,R0,D8,P4,w8,A5,o7,y0,k7,y9,o8,cB4,cB5,cB8,cB9,cC4,cC0,cC1,jn,cB2,ak0,isK,D5,if_true,aR3,P7,N4];have e:(((xs.length:Nat):Int)==3)=(xs.length==3):=by
   by_cases e:xs.length=3
   .rw[e];rfl
   .have e':¬(((xs.length:Nat):Int)=3):=by omega
    rw[cB1 e,cB1 e']
  rw[e]
 all_goals rfl
theorem bg3(h:plain t=true):Z9 [t,.int lo,.int hi]=some (.bl (match t with |.int i=>decide (lo<=i)&&decide (i<=hi)|_=>false)):=by
 rw[Z9,o0 3 _ _ _ rfl,aO3];simp only[y4,R0,D8,A5,o7,y0,k7,o8,cB4,cB5,cB8,cB9,cC4,cC0,cC1,cB3,jn,cB2,bV1 h,D5];cases t<;>first |rfl|skip
 case int i=>
  simp only[ak4,if_true,bc4,k7,cC1,cB3,jn,cB2,aZ6,D5];cases decide (lo<=i)<;>rfl
noncomputable def ak5(p lo hi u v r:Int):Bool:=decide (0<=u)&&(decide (u<=p-1)&&(decide (0<=v)&&(decide (v<=p-1)&&(!(u==v)&&(decide (lo<=r)&&decide (r<=hi))))))
theorem ct9:W0 [X5 u v r,.int p,.int lo,.int hi]=some (.bl (ak5 p lo hi u v r)):=by
 rw[W0,o0 4 _ _ _ rfl,be6];simp only[y4,R0,D8,A5,o7,y0,w8,y9,k7,o8,X5,cB4,cB5,cB8,cB9,cC4,cC0,cC1,cB3,jn,cB2,bX6 (t:=.tup [.int u,.int v,.int r]) rfl,D5,ix0,ix1,ix2,aw8,
  bg3 (t:=.int u) rfl,bg3 (t:=.int v) rfl,bg3 (t:=.int r) rfl,aZ5]
 unfold ak5;cases decide (0<=u)<;>cases decide (u<=p-1)<;>cases decide (0<=v)<;>cases decide (v<=p-1)<;>cases(u==v)<;>rfl
theorem av4:∀xs ys:List T,(C8 xs ys).length<=xs.length
 |[],_=>by simp[C8]
 |_::_,[]=>by simp[C8]
 |x::xs,y::ys=>by simp only[C8,cB8];have :=av4 xs ys;omega
theorem aj2:∀{xs ys:List T},t∈C8 xs ys->∃x∈xs,∃y∈ys,t=.tup [x,y]
 |[],_,h=>by simp[C8]at h
 |_::_,[],h=>by simp[C8]at h
 |x::xs,y::ys,h=>by
  rcases cA9 h with h|h
  .exact⟨x,cK7,y,cK7,h⟩
  .obtain⟨a,ha,b,hb,e⟩:=aj2 h;exact⟨a,cK6 _ ha,b,cK6 _ hb,e⟩
def bG2:T->Bool
 |.tup [.tup (.int a::.int b::_),.tup (.int c::.int d::_)]=>as1 [a,b] [c,d]
 |_=>false
def ai1:List (Int×Int×Int)->Bool
 |a::b::r=>as1 [a.1,a.2.1] [b.1,b.2.1]&&ai1 (b::r)
 |_=>true
theorem bb5:∀ws:List (Int×Int×Int),(C8 (ws.map k9) ((ws.map k9).drop 1)).all bG2=ai1 ws
 |[]=>rfl
 |[_]=>rfl
 |a::b::r=>by
  have ih:=bb5 (b::r);simp only[cB4,List.drop_succ_cons,cH5]at ih⊢;rw[C8,cG6,ih];rfl
theorem cA2(hl:ws.length<=lim):ac1 [.lst (ws.map k9)]=some (.bl (ai1 ws)):=by
 rw[ac1,o0 1 _ _ _ rfl,aK1,y4];rw[aj3 (xs:=C8 (ws.map k9) ((ws.map k9).drop 1)) bG2 rfl (cM5 (av4 _ _) (by simpa using hl))]
 .rw[bb5];rfl
 .intro x hx;obtain⟨a,ha,b,hb,rfl⟩:=aj2 hx;obtain⟨wa,_,rfl⟩:=cA8 ha;obtain⟨wb,_,rfl⟩:=cA8 (cL0 hb);exact⟨_,rfl,rfl⟩
theorem cA1(f:T->Bool)(h:∀t∈ts,W0 [t,.int p,.int 1,.int 20]=some (.bl (f t)))(hl:ts.length<=lim):
  ad7 [.lst ts,.int p]=if ts.length<=10 then(if ts.all f then ac1 [.lst ts]else some (.bl false))else some (.bl false):=by
 have k:=aj3 (U:=[some (.lst ts),some (.int p)]) (it:=itL d7) (nT:=1) (aC:=[1]) (st:=stN 0) (e:=gN W0 [d7,e7,e9,al6]) f rfl hl (λx hx=>⟨[some x,some (.int p)],rfl,h x hx⟩);rw[ad7,o0 2 _ _ _ rfl,aW3,y4];have s:o8 2 [.lst ts,.int p]=[some (.lst ts),some (.int p)]:=rfl;rw[s];simp only[R0,D8,k];simp only[P4,w8,A5,o7,y0,y9,k7,cC1,cB3,jn,cB2,ak0,isK,D5,if_true,G7,aZ6];by_cases h10:ts.length<=10
 .have :((ts.length:Nat):Int)<=10:=by omega
  simp only[cO9 this,if_true,cP2 h10];cases ts.all f with
  |false=>rfl
  |true=>
   simp only[if_true];cases ac1 [.lst ts]<;>rfl
 .have :¬((ts.length:Nat):Int)<=10:=by omega
  simp only[cO8 this,cP1 h10];rfl
theorem co5(f:T->Bool)(h:∀t∈ts,W0 [t,.int p,.int 1,.int 20]=some (.bl (f t)))(hl:ts.length<=lim):
  aa1 [.lst ts,.int p]=some (.bl (decide (1<=ts.length)&&(decide (ts.length<=3)&&ts.all f))):=by
 have k:=aj3 (U:=[some (.lst ts),some (.int p)]) (it:=itL d7) (nT:=1) (aC:=[1]) (st:=stN 0) (e:=gN W0 [d7,e7,e9,al6]) f rfl hl (λx hx=>⟨[some x,some (.int p)],rfl,h x hx⟩);rw[aa1,o0 2 _ _ _ rfl,aO7,y4];have s:o8 2 [.lst ts,.int p]=[some (.lst ts),some (.int p)]:=rfl;rw[s];simp only[R0,D8,k];simp only[bc4,P4,w8,A5,o7,y0,y9,k7,cC1,cB3,jn,cB2,ak0,isK,D5,if_true,G7,aZ6];have e1:decide ((1:Int)<=((ts.length:Nat):Int))=decide (1<=ts.length):=by
  by_cases q:1<=ts.length
  .rw[cO9 q,cO9 (by omega)]
  .rw[cO8 q,cO8 (by omega)]
 have e2:decide (((ts.length:Nat):Int)<=3)=decide (ts.length<=3):=by
  by_cases q:ts.length<=3
  .rw[cO9 q,cO9 (by omega)]
  .rw[cO8 q,cO8 (by omega)]
 rw[e1,e2];cases decide (1<=ts.length)<;>cases decide (ts.length<=3)<;>cases ts.all f<;>rfl
theorem bA4:ad6 [.tup [.int p,.lst ts,.lst us]]=if 2<=p/\p<=6 then((ad7 [.lst ts,.int p]).bind toB).bind λc=>if c then aa1 [.lst us,.int p]else some (.bl false)else some (.bl false):=by
 rw[ad6,o0 1 _ _ _ rfl,bp1,y4];simp only[R0,D8,A5,o7,y0,w8,y9,k7,o8,cB4,cB5,cB8,cB9,cC4,cC0,cC1,cB3,jn,cB2,bX6 (t:=.tup [.int p,.lst ts,.lst us]) rfl,D5,ix0,ix1,ix2,bg3 (t:=.int p) rfl];simp only[cO1,Nat.reduceAdd,cO7,if_true];by_cases h:2<=p/\p<=6
 .rw[cP2 h];simp only[cO9 h.1,cO9 h.2,Bool.and_self,if_true];cases((ad7 [.lst ts,.int p]).bind toB)with
  |none=>rfl
  |some c=>
   cases c with
   |false=>rfl
   |true=>
    simp only[cB2,if_true];cases aa1 [.lst us,.int p]<;>rfl
 .rw[cP1 h];have :(decide (2<=p)&&decide (p<=6))=false:=by
   rw[Bool.and_eq_false_iff];by_cases h2:2<=p
   .exact .inr (cO8 λz=>h ⟨h2,z⟩)
   .exact .inl (cO8 h2)
  simp only[this];rfl
noncomputable def Q6(p:Int)(w:Int×Int×Int):Bool:=ak5 p 1 20 w.1 w.2.1 w.2.2
structure N5(p:Int)(ws vs:List (Int×Int×Int)):Prop where
 p2:2<=p
 p5:p<=5
 wl:ws.length<=8
 wt:∀w∈ws,Q6 p w=true
 wr:ai1 ws=true
 v1:1<=vs.length
 v3:vs.length<=3
 vt:∀w∈vs,Q6 p w=true
noncomputable abbrev l7(p:Int)(ws vs:List (Int×Int×Int)):T:=.tup [.int p,.lst (ws.map k9),.lst (vs.map k9)]
noncomputable def aU2(p:Int):T->Bool
 |.tup [.int u,.int v,.int r]=>ak5 p 1 20 u v r
 |_=>false
theorem be1{p:Int}{ws:List (Int×Int×Int)}(h:∀w∈ws,Q6 p w=true):(ws.map k9).all (aU2 p)=true:=by
 rw[cG8,cG7];exact h
theorem bB7(ws:List (Int×Int×Int)):∀t∈ws.map k9,W0 [t,.int p,.int 1,.int 20]=some (.bl (aU2 p t)):=λt h=>by
 obtain⟨w,_,rfl⟩:=cA8 h;exact ct9
theorem Q7(h:n<=k)(hk:k<=1000000:=by decide):n<=lim:=cM5 h hk
theorem bq4{p:Int}{ws:List (Int×Int×Int)}(hl:ws.length<=10)(ht:∀w∈ws,Q6 p w=true)(hr:ai1 ws=true):ad7 [.lst (ws.map k9),.int p]=some (.bl true):=by
 rw[cA1 (aU2 p) (bB7 ws) (by simpa using Q7 hl),cP2 (by simpa using hl),be1 ht,cP2 rfl,cA2 (Q7 hl),hr]
theorem bM9{p:Int}{vs:List (Int×Int×Int)}(h1:1<=vs.length)(h3:vs.length<=3)(ht:∀w∈vs,Q6 p w=true):aa1 [.lst (vs.map k9),.int p]=some (.bl true):=by
 rw[co5 (aU2 p) (bB7 vs) (by simpa using Q7 h3),be1 ht];have a:decide (1<=(vs.map k9).length)=true:=cO9 (by simpa using h1);have b:decide ((vs.map k9).length<=3)=true:=cO9 (by simpa using h3);rw[a,b];rfl
theorem aB4{p:Int}{ws vs:List (Int×Int×Int)}(h:N5 p ws vs):ad6 [l7 p ws vs]=some (.bl true):=by
 rw[bA4,cP2 ⟨h.p2,by have :=h.p5;omega⟩,bq4 (by have :=h.wl;omega) h.wt h.wr];simp only[cB2,D5,if_true];exact bM9 h.v1 h.v3 h.vt
noncomputable def frB:T->Bool
 |.tup [.int n,.int d]=>decide (0<d)&&(Int.gcd n d==1)
 |_=>false
noncomputable def amB:T->Bool
 |.tup [.int n,.int d]=>(decide (0<d)&&(Int.gcd n d==1))&&decide (0<=n)
 |_=>false
theorem aW5(n d:Int):M1 [fr n d]=some (.bl (frB (fr n d))):=by
 rw[M1,o0 1 _ _ _ rfl,as7,y4];simp only[R0,D8,A5,o7,y0,P4,w8,y9,k7,o8,fr,cB4,cB5,cB8,cB9,cC4,cC0,cC1,cB3,jn,cB2,ak0,isK,D5,if_true,aR3,P7,ix0,ix1,bV1 (t:=.int n) rfl,bV1 (t:=.int d) rfl,ak4,aB9];by_cases h:0<d
 .simp only[cO9 h,if_true,co4 h,cB2,P7,frB,cD4];have e:((((Int.gcd n d:Nat):Int))==1)=(Int.gcd n d==1):=by
   by_cases q:Int.gcd n d=1
   .rw[q];rfl
   .rw[cB1 q,cB1 (by omega)]
  rw[e];rfl
 .simp only[cO8 h,frB,cC9];rfl
theorem bM3(h:plain t=true)(h2:∀a b,t≠.tup [a,b]):M1 [t]=some (.bl false):=by
 rw[M1,o0 1 _ _ _ rfl,as7,y4]
 match t,h,h2 with
 |.non,_,_=>rfl
 |.bl _,_,_=>rfl
 |.int _,_,_=>rfl
 |.str _,_,_=>rfl
 |.lst _,_,_=>rfl
 |.tup [],_,_=>rfl
 |.tup [_],_,_=>rfl
 |.tup [a,b],_,h2=>exact absurd rfl (h2 a b)
 |.tup (a::b::c::r),_,_=>
  simp only[R0,D8,A5,o7,y0,P4,w8,y9,k7,o8,cB4,cB5,cB8,cB9,cC4,cC0,cC1,jn,cB2,ak0,isK,D5,if_true,aR3,P7];have :(((r.length+1+1+1:Nat):Int)==2)=false:=cB1 (by omega);rw[this];rfl
theorem bM4:W3 [fr n d]=some (.bl (amB (fr n d))):=by
 rw[W3,o0 1 _ _ _ rfl,aO5,y4];simp only[R0,D8,A5,o7,y0,w8,y9,k7,o8,cB4,cB5,cB8,cB9,cC4,cC0,cC1,jn,cB2,aW5,D5,ix0,ce4];rw[show amB (fr n d)=(frB (fr n d)&&decide (0<=n))from rfl];cases frB (fr n d)<;>rfl
theorem ba5{ts:List T}{n:Nat}(f:T->Bool)(h:∀t∈ts,W3 [t]=some (.bl (f t)))(hl:ts.length<=lim):V0 [.lst ts,.int n]=some (.bl (decide (ts.length=n)&&ts.all f)):=by
 have k:=aj3 (U:=[some (.lst ts),some (.int n)]) (it:=itL d7) (nT:=1) (aC:=[]) (st:=stN 0) (e:=gN W3 [d7]) f rfl hl (λx hx=>⟨[some x],rfl,h x hx⟩);rw[V0,o0 2 _ _ _ rfl,bp0,y4];have s:o8 2 [.lst ts,.int n]=[some (.lst ts),some (.int n)]:=rfl;rw[s];simp only[R0,D8,k];simp only[P4,w8,A5,o7,y0,y9,k7,cC1,cB3,jn,cB2,ak0,isK,D5,if_true,G7,P7];by_cases e:ts.length=n
 .have :(((ts.length:Nat):Int)==((n:Nat):Int))=true:=by rw[e];exact cO7 _
  simp only[this,cO9 e,if_true,cD4,cB2,N4]
 .have :(((ts.length:Nat):Int)==((n:Nat):Int))=false:=cB1 (by omega);simp only[this,cO8 e,cC9];rfl
theorem bV3(f:T->Bool)(h:∀t∈ts,V0 [t,.int ws.length]=some (.bl (f t)))(hl:ts.length<=lim):O3 [.tup [p,.lst ws,.lst vs],.lst ts]=some (.bl (decide (ts.length=vs.length)&&ts.all f)):=by
 have k:=aj3 (U:=[some (.tup [p,.lst ws,.lst vs]),some (.lst ts)]) (it:=itL e7) (nT:=1) (aC:=[0]) (st:=stN 0) (e:=gN V0 [d7,gN C5 [d9 e7 e9]]) f rfl hl (λx hx=>⟨[some x,some (.tup [p,.lst ws,.lst vs])],rfl,by
  simp only[A5,o7,y0,w8,y9,k7,cC1,cB3,jn,cB2,ix1,G7];exact h x hx⟩)
 rw[O3,o0 2 _ _ _ rfl,az1,y4];have s:o8 2 [.tup [p,.lst ws,.lst vs],.lst ts]=[some (.tup [p,.lst ws,.lst vs]),some (.lst ts)]:=rfl;rw[s];simp only[R0,D8,k];simp only[P4,w8,A5,o7,y0,y9,k7,cC1,cB3,jn,cB2,ak0,isK,D5,if_true,G7,P7,ix2];by_cases e:ts.length=vs.length
 .have :(((ts.length:Nat):Int)==((vs.length:Nat):Int))=true:=by rw[e];exact cO7 _
  simp only[this,cO9 e,if_true,cD4,cB2,N4]
 .have :(((ts.length:Nat):Int)==((vs.length:Nat):Int))=false:=cB1 (by omega);simp only[this,cO8 e,cC9];rfl
theorem bp7:O3 [.tup [p,.lst ws,.lst vs],.non]=some (.bl false):=by
 rw[O3,o0 2 _ _ _ rfl,az1,y4];rfl
theorem bp8(h:ts.length≠vs.length):O3 [.tup [p,.lst ws,.lst vs],.lst ts]=some (.bl false):=by
 rw[O3,o0 2 _ _ _ rfl,az1,y4];have s:o8 2 [.tup [p,.lst ws,.lst vs],.lst ts]=[some (.tup [p,.lst ws,.lst vs]),some (.lst ts)]:=rfl;rw[s];simp only[R0,D8,P4,w8,A5,o7,y0,y9,k7,cC1,cB3,jn,cB2,ak0,isK,D5,if_true,G7,P7,ix2];have :(((ts.length:Nat):Int)==((vs.length:Nat):Int))=false:=cB1 (by omega);simp only[this];rfl
def Am(k:Nat)(t:T):Prop:=∃n d:Int,t=fr n d/\0<d/\Int.gcd n d=1/\n.natAbs<2^k/\d.natAbs<2^k/\0<=n
theorem Am.fz(h:Am k t):Fz k t:=by
 obtain⟨n,d,e,h1,h2,h3,h4,_⟩:=h;exact⟨n,d,e,h1,h2,h3,h4⟩
theorem Am.mono(h:Am k t)(hl:k<=l):Am l t:=by
 obtain⟨n,d,e,h1,h2,h3,h4,h5⟩:=h;have :=cN7 (n:=2) (by decide) hl;exact⟨n,d,e,h1,h2,by omega,by omega,h5⟩
theorem Am.yes(h:Am k t):W3 [t]=some (.bl true):=by
 obtain⟨n,d,rfl,h1,h2,h3,h4,h5⟩:=h;rw[bM4];simp[amB,fr,h1,h2,h5]
theorem bM6(hd:0<d)(hn:0<=n)(h1:n.natAbs<2^k)(h2:d.natAbs<2^k):Am k (nrm n d):=by
 obtain⟨p1,p2,p3,p4⟩:=aI1 (n:=n) hd;exact⟨_,_,rfl,p1,p2,by omega,by omega,Int.ediv_nonneg hn (by omega)⟩
theorem Am.add(ht:Am k t)(hu:Am l u):Am (k+l+1) (ae3 t u):=by
 obtain⟨a,b,rfl,hb,_,ha',hb',ha0⟩:=ht;obtain⟨c,d,rfl,hd,_,hc',hd',hc0⟩:=hu;have p0:0<b*d:=cF6 hb hd;have e1:(a*d).natAbs<2^(k+l):=by rw[cF9];exact Y1 ha' hd'
 have e2:(c*b).natAbs<2^(k+l):=by rw[cF9,cN2];exact Y1 hb' hc'
 have e3:(b*d).natAbs<2^(k+l):=by rw[cF9];exact Y1 hb' hd'
 have e4:(a*d+c*b).natAbs<2^(k+l+1):=by
  have :=Int.natAbs_add_le (a*d) (c*b);rw[cN8];omega
 have e5:(b*d).natAbs<2^(k+l+1):=by rw[cN8];omega
 exact bM6 p0 (Int.add_nonneg (cF4 ha0 (by omega)) (cF4 hc0 (by omega))) e4 e5
theorem aq1(c:T->Bool)(f:T->T):∀(xs:List T),(∀x∈xs,∃U1,st x U=some U1/\gc U1=some (c x)/\e U1=some (f x))->Y4 U st gc e xs=some ((xs.filter c).map f)
 |[],_=>rfl
 |x::xs,h=>by
  obtain⟨U1,h1,h2,h3⟩:=h x cK7;have ih:=aq1 c f xs λy hy=>h y (cK6 _ hy)
  simp only[Y4,h1,cB2,h2,h3,ih,cH7];cases c x<;>simp
noncomputable def isZ:T->Bool
 |.tup [.int n,.int d]=>n==0&&d==1
 |_=>false
theorem bz4(a b c d:Int):eqD 8 (fr a b) (fr c d)=some ((a==c)&&(b==d)):=by
 show(aa5 (eqD 7) [.int a,.int b] [.int c,.int d]).bind _=_;simp only[aa5,eqD,cB2];simp
theorem aZ8(h:Fz k t):fEq t (fr 0 1)=some (.bl (isZ t))/\fNe t (fr 0 1)=some (.bl (!isZ t)):=by
 obtain⟨n,d,rfl,_⟩:=h;exact⟨by simp only[fEq,bz4,cB2];rfl,by simp only[fNe,bz4,cB2];rfl⟩
noncomputable def aj1(u v:Int):T->Bool
 |.int i=> !([u,v].contains i)
 |_=>false
noncomputable def ap7(ws:List (Int×Int×Int))(r:List T):T->Bool
 |.int i=>isZ (P3 i ws r (fr 0 1))
 |_=>false
def aU0(p:Int)(ws:List (Int×Int×Int))(u v:Int)(r:List T):Bool:=(G9 0 p.toNat).all λx=> !(aj1 u v x)||ap7 ws r x
theorem al3(h:t∈G9 0 n):∃i:Nat,i<n/\t=.int (i:Int):=by
 unfold G9 at h
 (obtain⟨i,hi,rfl⟩:=cA8 h);exact⟨i,cB0 hi,by simp⟩
theorem at3(lo:Int)(n:Nat):(G9 lo n).length=n:=by simp[G9]
theorem bh2(h:Q6 p w=true):w.1≠w.2.1:=by
 simp only[Q6,ak5,cC7,cP0]at h;have :=h.2.2.2.2.1;simpa using this
structure bA0(k:Nat)(ws:List (Int×Int×Int))(r:List T):Prop where
 ne:∀w∈ws,w.1≠w.2.1
 fz:∀q∈r,Fz k q
 bits:1+ws.length*(k+1)<=3000
 kb:k<=3000
theorem cz0(h:bA0 k ws r)(hp:0<=p/\p<=6):aq3 [l7 p ws vs,k9 (u,v,m),.lst r]=some (.bl (aU0 p ws u v r)):=by
 rw[aq3,o0 3 _ _ _ rfl,aO2];have hr: -(lim:Int)<=p/\p<=(lim:Int):=by have :(lim:Int)=1000000:=rfl;omega
 rw[m8 (U':=[some (l7 p ws vs),some (k9 (u,v,m)),some (.lst r),some (.lst ((G9 0 p.toNat).filter (aj1 u v)))])]
 .rw[y4,aj3 (xs:=(G9 0 p.toNat).filter (aj1 u v)) (ap7 ws r) rfl]
  .rw[List.all_filter];rfl
  .refine cM5 (List.length_filter_le _ _) ?_;rw[at3];exact Q7 (k:=6) (by omega)
  .intro x hx;obtain⟨i,hi,rfl⟩:=al3 (List.mem_filter.mp hx).1;refine⟨_,rfl,?_⟩;obtain⟨ga,gb⟩:=bA6 (p:=(i:Int)) h.ne h.fz h.bits;show(((gN ar7 [d9 m7 e9,e7,d7]) [some (.int (i:Int)),some (.lst r),some (l7 p ws vs)])).bind (λx=>fEq x T4)=_;simp only[A5,o7,y0,w8,y9,k7,cC1,cB3,jn,cB2,ix1,ga];exact(aZ8 gb).1
 .simp only[A8,l9,ar1,w8,k7,y9,o8,cB4,cB5,cB8,cB9,cC4,cC0,cC1,cB3,jn,cB2,ix0,aa7,cP2 hr];rw[cP2 (by rw[at3];exact Q7 (k:=6) (by omega))];rw[aq1 (aj1 u v) id (G9 0 p.toNat)]
  .simp only[cB2,List.map_id];rfl
  .intro x hx;obtain⟨i,hi,rfl⟩:=al3 hx;exact⟨_,rfl,rfl,rfl⟩
def aw4(p:Int)(ws:List (Int×Int×Int)):T->Bool
 |.tup [.tup (.int u::.int v::_),.lst r]=>aU0 p ws u v r
 |_=>false
theorem cy8{k:Nat}{p:Int}{ws vs:List (Int×Int×Int)}{fs:List (List T)}(hp:0<=p/\p<=6)(h:∀r∈fs,bA0 k ws r)(hl:vs.length<=lim):Y5 [l7 p ws vs,.lst (fs.map T.lst)]=some (.bl ((C8 (vs.map k9) (fs.map T.lst)).all (aw4 p ws))):=by
 rw[Y5,o0 2 _ _ _ rfl,az0,y4,aj3 (xs:=C8 (vs.map k9) (fs.map T.lst)) (aw4 p ws) rfl]
 .rfl
 .exact cM5 (av4 _ _) (by simpa using hl)
 .intro x hx;obtain⟨a,ha,b,hb,rfl⟩:=aj2 hx;obtain⟨w,_,rfl⟩:=cA8 ha;obtain⟨r,hr,rfl⟩:=cA8 hb;refine⟨_,rfl,?_⟩;exact cz0 (m:=w.2.2) (h r hr) hp
noncomputable def ac5(ts:List T)(acc:T):T:=ts.foldl ae3 acc
theorem bB8(k:Nat):∀(ts:List T) (l:Nat) (acc:T) (x y:Option T),(∀q∈ts,Fz k q)->Fz l acc->l+ts.length*(k+1)<=3000->
  ∃y',G8 (stN 2) (u7 1 (gN X0 [e7,m7])) ts [x,some acc,y]=some (.nx [x,some (ac5 ts acc),y'])/\Fz (l+ts.length*(k+1)) (ac5 ts acc)
 |[],l,acc,x,y,_,ha,_=>⟨y,rfl,by simpa[ac5]using ha⟩
 |q::ts,l,acc,x,y,hq,ha,hl=>by
  rw[cB8,cO0]at hl;obtain⟨p1,p2⟩:=aK4 ha (hq q cK7) (by omega);obtain⟨y',h1,h2⟩:=bB8 k ts (l+k+1) (ae3 acc q) x (some q) (λz hz=>hq z (cK6 _ hz)) p2 (by omega);refine⟨y',?_,h2.mono (by rw[cB8,cO0];omega)⟩;rw[G8];simp only[bC5,cB2,A8,A5,o7,y0,k7,cC1,cB3,jn,cC2,cC3,p1];exact h1
theorem bg4(h:∀q∈ts,Fz k q)(hl:1+ts.length*(k+1)<=3000):ae1 [.lst ts]=some (ac5 ts (fr 0 1))/\Fz (1+ts.length*(k+1)) (ac5 ts (fr 0 1)):=by
 obtain⟨y',h1,h2⟩:=bB8 k ts 1 (fr 0 1) (some (.lst ts)) none h (ar5 0 (.inl rfl)) hl;refine⟨?_,h2⟩;rw[ae1,o0 1 _ _ _ rfl,bv2];rw[m8 (U':=[some (.lst ts),some (fr 0 1),none]) rfl];rw[m8 (U':=[some (.lst ts),some (ac5 ts (fr 0 1)),y'])]
 .rfl
 .simp only[S5,Q8,k7,cC1,jn,cB2,aA4];exact h1
theorem bq5(k:Nat):∀(ts:List T) (l:Nat) (acc:T) (x y:Option T),(∀q∈ts,Fz k q)->Fz l acc->l+ts.length*(k+1)<=3000->
  ∃y',G8 (stN 2) (u7 1 (gN S3 [e7,m7])) ts [x,some acc,y]=some (.nx [x,some (ac5 ts acc),y'])
 |[],l,acc,x,y,_,ha,_=>⟨y,rfl⟩
 |q::ts,l,acc,x,y,hq,ha,hl=>by
  rw[cB8,cO0]at hl;obtain⟨p1,p2⟩:=aK4 ha (hq q cK7) (by omega);have p3:=aM8 ha (hq q cK7) (by omega);obtain⟨y',h1⟩:=bq5 k ts (l+k+1) (ae3 acc q) x (some q) (λz hz=>hq z (cK6 _ hz)) p2 (by omega);refine⟨y',?_⟩;rw[G8];simp only[bC5,cB2,A8,A5,o7,y0,k7,cC1,cB3,jn,cC2,cC3,p3];exact h1
theorem aW4(h:∀q∈ts,Fz k q)(hl:1+ts.length*(k+1)<=3000):P8 [.lst ts]=some (ac5 ts (fr 0 1)):=by
 obtain⟨y',h1⟩:=bq5 k ts 1 (fr 0 1) (some (.lst ts)) none h (ar5 0 (.inl rfl)) hl;rw[P8,o0 1 _ _ _ rfl,bv1];rw[m8 (U':=[some (.lst ts),some (fr 0 1),none]) rfl];rw[m8 (U':=[some (.lst ts),some (ac5 ts (fr 0 1)),y'])]
 .rfl
 .simp only[S5,Q8,k7,cC1,jn,cB2,aA4];exact h1
noncomputable def aT8(t:T)(r:Int):Bool:=match t with
 |.tup [.int n,.int d]=>decide (r*d<n*1)
 |_=>false
theorem bM2(h:Fz k t)(hk:k<=3000)(hr:0<=r/\r<=1000):W2 [t,fr r 1]=some (.bl (aT8 t r))/\O2 [fr r 1,t]=some (.bl (aT8 t r)):=by
 obtain⟨n,d,rfl,_,_,h3,h4⟩:=h;have b1:sm 1=true:=rfl;have br:sm r=true:=by simp only[sm,cC7,cP0];omega
 constructor
 .rw[W2,o0 2 _ _ _ rfl,aJ9];simp only[y4,w8,y9,k7,o8,fr,cB4,cB5,cB8,cB9,cC4,cC0,cB3,cC1,jn,cB2,ix0,ix1,ah5 b1,aR2 br,aB9,N4];rfl
 .rw[O2,o0 2 _ _ _ rfl,aJ5];simp only[y4,w8,y9,k7,o8,fr,cB4,cB5,cB8,cB9,cC4,cC0,cB3,cC1,jn,cB2,ix0,ix1,ah5 b1,aR2 br,ab4,N4];rfl
noncomputable def am1(fs:List (List T))(i:Nat):List T:=fs.map λr=>(r[i]?).getD (fr 0 1)
theorem bn0{U:A7}{fs:List (List T)}{i:Nat}{it:GL}{aC:List Nat}(h1:it U=some (fs.map T.lst))(hl:fs.length<=lim)(hc:X7 1 aC U=[none,some (.int i)])(h:∀r∈fs,i<r.length):l9 it 1 aC (stN 0) t9 (d9 d7 e7) U=some (.lst (am1 fs i)):=by
 simp only[l9,h1,cB2,hc];rw[cP2 (by simpa using hl)];rw[ad0 (f:=λt=>match t with |.lst r=>(r[i]?).getD (fr 0 1)|_=>fr 0 1)]
 .simp only[cB2,cK2];rfl
 .intro x hx;obtain⟨r,hr,rfl⟩:=cA8 hx;refine⟨_,rfl,?_⟩;have hi:=h r hr;have e:r[i]?=some r[i]:=cI3 hi;show z8 (.lst r) (.int (i:Int))=_;rw[Y9 e];show some r[i]=some ((r[i]?).getD (fr 0 1));rw[e];rfl
theorem bK0(h:∀r∈fs,∀q∈r,Fz k q)(hi:∀r∈fs,i<r.length):∀q∈am1 fs i,Fz k q:=by
 intro q hq;obtain⟨r,hr,rfl⟩:=cA8 hq;have e:r[i]?=some (r[i]'(hi r hr)):=cI3 (hi r hr);rw[e];exact h r hr _ (cJ1 _)
theorem co3{k:Nat}{fs:List (List T)}{i:Nat}(hl:fs.length<=3)(h:∀r∈fs,∀q∈r,Fz k q)(hi:∀r∈fs,i<r.length)(hk:k<=500):aK5 [.lst (fs.map T.lst),.int i]=some (ac5 (am1 fs i) (fr 0 1))/\Fz 1600 (ac5 (am1 fs i) (fr 0 1)):=by
 have hlen:(am1 fs i).length=fs.length:=by simp[am1]
 have hb:1+(am1 fs i).length*(k+1)<=1600:=by
  rw[hlen];have :fs.length*(k+1)<=3*(k+1):=cN3 _ hl;omega
 obtain⟨t1,t2⟩:=bg4 (bK0 h hi) (by omega);refine⟨?_,t2.mono hb⟩;rw[aK5,o0 2 _ _ _ rfl,bL6,y4];have s:o8 2 [.lst (fs.map T.lst),.int i]=[some (.lst (fs.map T.lst)),some (.int i)]:=rfl;rw[s];simp only[A5,o7,y0];rw[bn0 (fs:=fs) (i:=i) rfl (Q7 (k:=3) hl) rfl hi];simp only[cB2,t1,N4]
theorem bb9:∀{xs:List T}{n:Nat},t∈J2 n xs->∃i x,xs[i]?=some x/\t=.tup [.int ((n+i:Nat):Int),x]
 |[],_,h=>by simp[J2]at h
 |x::xs,n,h=>by
  rcases cA9 h with h|h
  .exact⟨0,x,by simp,h⟩
  .obtain⟨i,y,h1,h2⟩:=bb9 (n:=n+1) h;refine⟨i+1,y,by simpa using h1,?_⟩;rw[h2];congr 3;omega
theorem ak1:∀(xs:List T) (n:Nat),(J2 n xs).length=xs.length
 |[],_=>rfl
 |_::xs,n=>by simp[J2,ak1 xs (n+1)]
noncomputable def al2(fs:List (List T)):T->Bool
 |.tup [.int i,.tup [_,_,.int r]]=>aT8 (ac5 (am1 fs i.toNat) (fr 0 1)) r
 |_=>false
theorem cg8(h:Q6 p w=true):0<=w.2.2/\w.2.2<=1000:=by
 simp only[Q6,ak5,cC7,cP0]at h;omega
structure aK3(k:Nat)(ws:List (Int×Int×Int))(fs:List (List T)):Prop where
 len:fs.length<=3
 fz:∀r∈fs,∀q∈r,Fz k q
 col:∀r∈fs,r.length=ws.length
 k500:k<=500
 bits:1+ws.length*(k+1)<=3000
 ne:∀w∈ws,w.1≠w.2.1
 rm:∀w∈ws,0<=w.2.2/\w.2.2<=1000
 wl:ws.length<=10
theorem aK3.row(h:aK3 k ws fs):∀r∈fs,bA0 k ws r:=λr hr=>⟨h.ne,h.fz r hr,h.bits,by have :=h.k500;omega⟩
theorem bd1(h:aK3 k ws fs)(ht:t∈J2 0 (ws.map k9)):∃(i:Nat) (w:Int×Int×Int),t=.tup [.int (i:Int),k9 w]/\(∀r∈fs,i<r.length)/\0<=w.2.2/\w.2.2<=1000:=by
 obtain⟨i,x,h1,h2⟩:=bb9 ht;rw[cI5]at h1;cases e:ws[i]? with
 |none=>rw[e]at h1;cases h1
 |some w=>
  rw[e]at h1;cases h1;have hi:i<ws.length:=by
   rcases cM8 i ws.length with q|q
   .exact q
   .rw[cI4 q]at e;cases e
  refine⟨i,w,by rw[h2];simp,λr hr=>by rw[h.col r hr];exact hi,h.rm w (cK9 e)⟩
theorem cz2(h:aK3 k ws fs):am7 [l7 p ws vs,.lst (fs.map T.lst)]=some (.bl (!((J2 0 (ws.map k9)).any (al2 fs)))):=by
 rw[am7,o0 2 _ _ _ rfl,aW0,y4];simp only[bu0,D8];rw[bU6 (xs:=J2 0 (ws.map k9)) (al2 fs) rfl]
 .rfl
 .rw[ak1,cJ3];exact Q7 h.wl
 .intro x hx;obtain⟨i,w,rfl,hi,hr⟩:=bd1 h hx;obtain⟨l1,l2⟩:=co3 h.len h.fz hi h.k500;refine⟨_,rfl,?_⟩;show(gN W2 [gN aK5 [m7,d7],A1 [d9 e7 v8,e9]]) [some (.int (i:Int)),some (k9 w),some (.lst (fs.map T.lst))]=_;simp only[A5,o7,y0,U8,w8,y9,k7,cC1,cB3,jn,cB2,k9,X5,ix2,l1];exact(bM2 l2 (by decide) hr).1
theorem aE5(good:T->Bool)(Iv:A7->Prop):∀(xs:List T) (U:A7),Iv U->(∀x∈xs,∀U,Iv U->∃U1,st x U=some U1/\(good x=true->∃U2,b U1=some (.nx U2)/\Iv U2)/\(good x=false->b U1=some (.ret (.bl false))))->
  (xs.all good=true->∃U',G8 st b xs U=some (.nx U')/\Iv U')/\(xs.all good=false->G8 st b xs U=some (.ret (.bl false)))
 |[],U,h0,_=>⟨λ_=>⟨U,rfl,h0⟩,λh=>by simp at h⟩
 |x::xs,U,h0,h=>by
  obtain⟨U1,h1,h2,h3⟩:=h x cK7 U h0;rw[cG6];cases hg:good x with
  |false=>
   refine⟨λz=>by simp at z,λ_=> ?_⟩;rw[G8];simp only[h1,cB2,h3 hg]
  |true=>
   obtain⟨U2,k1,k2⟩:=h2 hg;have ih:=aE5 good Iv xs U2 k2 λy hy=>h y (cK6 _ hy)
   rw[G8];simp only[h1,cB2,k1,cD4];exact ih
theorem ct4(hp:0<=p/\p<=6)(h:aK3 k ws fs):
  ax7 [l7 p ws vs,.lst (fs.map T.lst)]=some (.bl ((C8 (vs.map k9) (fs.map T.lst)).all (aw4 p ws)&& !((J2 0 (ws.map k9)).any (al2 fs)))):=by
 rw[ax7,o0 2 _ _ _ rfl,bo4];have hr: -(lim:Int)<=p/\p<=(lim:Int):=by have :(lim:Int)=1000000:=rfl;omega
 let Iv:A7->Prop:=λU=>∃a b c d e,U=[some (l7 p ws vs),some (.lst (fs.map T.lst)),a,b,c,d,e]
 have first :=aE5 (st:=st2 2 3) (b:=N6 (itR (d9 d7 k8)) (stN 4) (sIf (V4 (bOf (g2 S9 y6 (g1 (ag4 0 (some 2)) m7))) (bOf (g2 fNe (gN S4 [d7,n6,y6]) (A1 [k8,e9])))) (t8 (gC (.bl false))) A2))
  (aw4 p ws) Iv (C8 (vs.map k9) (fs.map T.lst)) (o8 7 [l7 p ws vs,.lst (fs.map T.lst)]) ⟨none,none,none,none,none,rfl⟩ (λx hx U zz=>by
   obtain⟨a,b,c,d,e,hU⟩:=zz;subst hU;obtain⟨x1,hx1,x2,hx2,rfl⟩:=aj2 hx;obtain⟨w,_,rfl⟩:=cA8 hx1;obtain⟨r,hr',rfl⟩:=cA8 hx2;have hrow:=h.row r hr';refine⟨[some (l7 p ws vs),some (.lst (fs.map T.lst)),some (k9 w),some (.lst r),c,d,e],rfl,?_⟩;have inner:=aE5 (st:=stN 4) (b:=sIf (V4 (bOf (g2 S9 y6 (g1 (ag4 0 (some 2)) m7))) (bOf (g2 fNe (gN S4 [d7,n6,y6]) (A1 [k8,e9])))) (t8 (gC (.bl false))) A2)
    (λx=> !(aj1 w.1 w.2.1 x)||ap7 ws r x) (λU=>∃c d e,U=[some (l7 p ws vs),some (.lst (fs.map T.lst)),some (k9 w),some (.lst r),c,d,e]) (G9 0 p.toNat)
    [some (l7 p ws vs),some (.lst (fs.map T.lst)),some (k9 w),some (.lst r),c,d,e] ⟨c,d,e,rfl⟩ (λy hy U zz=>by
     obtain⟨c,d,e,hU⟩:=zz;subst hU;obtain⟨i,hi,rfl⟩:=al3 hy;refine⟨[some (l7 p ws vs),some (.lst (fs.map T.lst)),some (k9 w),some (.lst r),some (.int (i:Int)),d,e],rfl,?_⟩;have ga:=co1 (p:=(i:Int)) (n:=p.toNat) (m:=.lst (vs.map k9)) hrow.ne hrow.fz hrow.bits hrow.kb;have gz:=(bA6 (p:=(i:Int)) hrow.ne hrow.fz hrow.bits).2;have hpn:((p.toNat:Nat):Int)=p:=cG3 hp.1;rw[hpn]at ga;have t1:(bOf (g2 S9 y6 (g1 (ag4 0 (some 2)) m7))) [some (l7 p ws vs),some (.lst (fs.map T.lst)),some (k9 w),some (.lst r),some (.int (i:Int)),d,e]=some (aj1 w.1 w.2.1 (.int (i:Int))):=rfl;have t2:(bOf (g2 fNe (gN S4 [d7,n6,y6]) (A1 [k8,e9]))) [some (l7 p ws vs),some (.lst (fs.map T.lst)),some (k9 w),some (.lst r),some (.int (i:Int)),d,e]=some (!(ap7 ws r (.int (i:Int)))):=by
      simp only[D8,w8,A5,o7,y0,U8,y9,k7,cC1,cB3,jn,cB2];rw[ga];simp only[cB2,(aZ8 gz).2,D5];rfl
     have t3:(V4 (bOf (g2 S9 y6 (g1 (ag4 0 (some 2)) m7))) (bOf (g2 fNe (gN S4 [d7,n6,y6]) (A1 [k8,e9])))) [some (l7 p ws vs),some (.lst (fs.map T.lst)),some (k9 w),some (.lst r),some (.int (i:Int)),d,e]=some (aj1 w.1 w.2.1 (.int (i:Int))&& !(ap7 ws r (.int (i:Int)))):=by
      rw[ap2,t1];simp only[cB2,t2];cases aj1 w.1 w.2.1 (.int (i:Int))<;>rfl
     rw[F0,t3];simp only[cB2];refine⟨λhg=>⟨_,?_,some (.int (i:Int)),d,e,rfl⟩,λhg=> ?_⟩
     .have :(aj1 w.1 w.2.1 (.int (i:Int))&& !(ap7 ws r (.int (i:Int))))=false:=by
       revert hg;cases aj1 w.1 w.2.1 (.int (i:Int))<;>cases ap7 ws r (.int (i:Int))<;>simp
      rw[this];rfl
     .have :(aj1 w.1 w.2.1 (.int (i:Int))&& !(ap7 ws r (.int (i:Int))))=true:=by
       revert hg;cases aj1 w.1 w.2.1 (.int (i:Int))<;>cases ap7 ws r (.int (i:Int))<;>simp
      rw[this];rfl)
   have itr:itR (d9 d7 k8) [some (l7 p ws vs),some (.lst (fs.map T.lst)),some (k9 w),some (.lst r),c,d,e]=some (G9 0 p.toNat):=by
    simp only[ar1,w8,y9,k7,cC1,jn,cB2,ix0,aa7,cP2 hr]
   rw[S5,itr];simp only[cB2];have ek:aw4 p ws (.tup [k9 w,.lst r])=(G9 0 p.toNat).all λx=> !(aj1 w.1 w.2.1 x)||ap7 ws r x:=rfl
   rw[ek];refine⟨λhg=> ?_,λhg=>inner.2 hg⟩;obtain⟨U',k1,c',d',e',rfl⟩:=inner.1 hg;exact⟨_,k1,some (k9 w),some (.lst r),c',d',e',rfl⟩)
 have l1:∀U,(N6 (itZ (d9 d7 v8) e7) (st2 2 3) (N6 (itR (d9 d7 k8)) (stN 4) (sIf (V4 (bOf (g2 S9 y6 (g1 (ag4 0 (some 2)) m7))) (bOf (g2 fNe (gN S4 [d7,n6,y6]) (A1 [k8,e9])))) (t8 (gC (.bl false))) A2))) (o8 7 [l7 p ws vs,.lst (fs.map T.lst)])=U ↔
   G8 (st2 2 3) (N6 (itR (d9 d7 k8)) (stN 4) (sIf (V4 (bOf (g2 S9 y6 (g1 (ag4 0 (some 2)) m7))) (bOf (g2 fNe (gN S4 [d7,n6,y6]) (A1 [k8,e9])))) (t8 (gC (.bl false))) A2)) (C8 (vs.map k9) (fs.map T.lst)) (o8 7 [l7 p ws vs,.lst (fs.map T.lst)])=U:=λU=>Iff.rfl
 cases hall:(C8 (vs.map k9) (fs.map T.lst)).all (aw4 p ws)with
 |false=>rw[Y6 ((l1 _).mpr (first.2 hall))];rfl
 |true=>
  obtain⟨U1,k1,a,b,c,d,e,rfl⟩:=first.1 hall
  rw[m8 ((l1 _).mpr k1)];have second:=aE5 (st:=st2 5 6) (b:=sIf (bOf (gN O2 [A1 [d9 D7 v8,e9],gN P8 [l9 (itL e7) 1 [5] (stN 0) t9 (d9 d7 e7)]])) (t8 (gC (.bl false))) A2)
   (λx=> !(al2 fs x)) Iv (J2 0 (ws.map k9)) [some (l7 p ws vs),some (.lst (fs.map T.lst)),a,b,c,d,e] ⟨a,b,c,d,e,rfl⟩ (λx hx U zz=>by
    obtain⟨a,b,c,d,e,hU⟩:=zz;subst hU;obtain⟨i,w,rfl,hi,hr'⟩:=bd1 h hx;obtain⟨_,l2⟩:=co3 h.len h.fz hi h.k500;have hlen:(am1 fs i).length=fs.length:=by simp[am1]
    have hb:1+(am1 fs i).length*(k+1)<=3000:=by
     rw[hlen];have :fs.length*(k+1)<=3*(k+1):=cN3 _ h.len;have :=h.k500;omega
    have wa:=aW4 (bK0 h.fz hi) hb;refine⟨[some (l7 p ws vs),some (.lst (fs.map T.lst)),a,b,c,some (.int (i:Int)),some (k9 w)],rfl,?_⟩;have t1:(bOf (gN O2 [A1 [d9 D7 v8,e9],gN P8 [l9 (itL e7) 1 [5] (stN 0) t9 (d9 d7 e7)]])) [some (l7 p ws vs),some (.lst (fs.map T.lst)),a,b,c,some (.int (i:Int)),some (k9 w)]=some (al2 fs (.tup [.int (i:Int),k9 w])):=by
     have cc:=bn0 (U:=[some (l7 p ws vs),some (.lst (fs.map T.lst)),a,b,c,some (.int (i:Int)),some (k9 w)]) (fs:=fs) (i:=i) (it:=itL e7) (aC:=[5]) rfl (Q7 (k:=3) h.len) rfl hi;simp only[D8,A5,o7,y0,cc,cB2,wa];simp only[U8,o7,y0,w8,y9,k7,cC1,cB3,jn,cB2,k9,X5,ix2];rw[(bM2 l2 (by decide) hr').2];rfl
    rw[F0,t1];simp only[cB2];refine⟨λhg=>⟨_,?_,a,b,c,some (.int (i:Int)),some (k9 w),rfl⟩,λhg=> ?_⟩
    .have :al2 fs (.tup [.int (i:Int),k9 w])=false:=by simpa using hg
     rw[this];rfl
    .have :al2 fs (.tup [.int (i:Int),k9 w])=true:=by simpa using hg
     rw[this];rfl)
  have l2:∀U,(N6 (itE (d9 d7 e9)) (st2 5 6) (sIf (bOf (gN O2 [A1 [d9 D7 v8,e9],gN P8 [l9 (itL e7) 1 [5] (stN 0) t9 (d9 d7 e7)]])) (t8 (gC (.bl false))) A2)) [some (l7 p ws vs),some (.lst (fs.map T.lst)),a,b,c,d,e]=U ↔
    G8 (st2 5 6) (sIf (bOf (gN O2 [A1 [d9 D7 v8,e9],gN P8 [l9 (itL e7) 1 [5] (stN 0) t9 (d9 d7 e7)]])) (t8 (gC (.bl false))) A2) (J2 0 (ws.map k9)) [some (l7 p ws vs),some (.lst (fs.map T.lst)),a,b,c,d,e]=U:=λU=>Iff.rfl
  have ea:(J2 0 (ws.map k9)).any (al2 fs)= !((J2 0 (ws.map k9)).all λx=> !(al2 fs x)):=by
   rw[List.not_all_eq_any_not];simp
  rw[ea];cases hs:(J2 0 (ws.map k9)).all λx=> !(al2 fs x)with
  |false=>rw[Y6 ((l2 _).mpr (second.2 hs))];rfl
  |true=>
   obtain⟨U2,k2,_⟩:=second.1 hs;rw[m8 ((l2 _).mpr k2)];rfl
noncomputable def aJ2(ws:List (Int×Int×Int)):T->T
 |.tup [.tup (_::.int v::_),.lst r]=>P3 v ws r (fr 0 1)
 |_=>fr 0 1
def aG3:GS:=t8 (l9 (itZ (d9 d7 v8) e7) 2 [0] (st2 0 1) t9 (gN ar7 [d9 m7 e9,e7,d9 d7 e9]))
theorem ct6(hp:0<=p)(h:aK3 k ws fs)(hl:vs.length<=lim):ai7 [l7 p ws vs,.lst (fs.map T.lst)]=some (.lst ((C8 (vs.map k9) (fs.map T.lst)).map (aJ2 ws))):=by
 rw[ai7,o0 2 _ _ _ rfl,aO0,y4];have it:itZ (d9 d7 v8) e7 (o8 2 [l7 p ws vs,.lst (fs.map T.lst)])=some (C8 (vs.map k9) (fs.map T.lst)):=rfl;simp only[l9,it,cB2];rw[cP2 (cM5 (av4 _ _) (by simpa using hl)),ad0 (f:=aJ2 ws)]
 .rfl
 .intro x hx;obtain⟨a,ha,b,hb,rfl⟩:=aj2 hx;obtain⟨w,_,rfl⟩:=cA8 ha;obtain⟨r,hr,rfl⟩:=cA8 hb;refine⟨_,rfl,?_⟩;have hrow:=h.row r hr;have ga:=co1 (p:=w.2.1) (n:=p.toNat) (m:=.lst (vs.map k9)) hrow.ne hrow.fz hrow.bits hrow.kb;have hpn:((p.toNat:Nat):Int)=p:=cG3 hp;rw[hpn]at ga;exact ga
theorem cs8(h:aK3 k ws fs)(hl:vs.length<=lim):A6 2 2 aG3 [l7 p ws vs,.lst (fs.map T.lst)]=some (.lst ((C8 (vs.map k9) (fs.map T.lst)).map (aJ2 ws))):=by
 rw[o0 2 _ _ _ rfl,aG3,y4];have it:itZ (d9 d7 v8) e7 (o8 2 [l7 p ws vs,.lst (fs.map T.lst)])=some (C8 (vs.map k9) (fs.map T.lst)):=rfl;simp only[l9,it,cB2];rw[cP2 (cM5 (av4 _ _) (by simpa using hl)),ad0 (f:=aJ2 ws)]
 .rfl
 .intro x hx;obtain⟨a,ha,b,hb,rfl⟩:=aj2 hx;obtain⟨w,_,rfl⟩:=cA8 ha;obtain⟨r,hr,rfl⟩:=cA8 hb;refine⟨_,rfl,?_⟩;have hrow:=h.row r hr;exact(bA6 (p:=w.2.1) hrow.ne hrow.fz hrow.bits).1
theorem ab6(h1:0<j)(h2:j<1000000):K7 (.int i) (.int j)=some (.int (i/j)):=ap1 h1 (T9 (k:=20) (by omega) (by decide))
theorem bA7(c k:Int):∃d:Int,V8 [.int c,.int k]=some (.int d)/\0<=d:=by
 have s1:sm 6364136223846793005=true:=rfl;have s2:sm 1442695040888963407=true:=rfl;have p1:(0:Int)<340282366920938463463374607431768211507:=by decide
 have p2:(0:Int)<340282366920938463463374607431768211297:=by decide
 have m0:=cE4 (c*6364136223846793005+(k+1)*1442695040888963407) (show(340282366920938463463374607431768211507:Int)≠0 by decide);have m1:=cE3 (c*6364136223846793005+(k+1)*1442695040888963407) p1;have e2:(2:Nat)^129=680564733841876926926749214863536422912:=by decide
 generalize hz:(c*6364136223846793005+(k+1)*1442695040888963407)%340282366920938463463374607431768211507=z at m0 m1;have hb:big z=true:=T9 (k:=129) (by omega) (by decide);refine⟨z*z%340282366920938463463374607431768211297,?_,cE4 _ (show(340282366920938463463374607431768211297:Int)≠0 by decide)⟩;rw[V8,o0 2 _ _ _ rfl,be4];rw[m8 (U':=[some (.int c),some (.int k),some (.int z)])]
 .simp only[y4,w8,y9,k7,cC1,cB3,jn,cB2,L8 hb hb,K4 p2,N4]
 .rw[<-hz];simp only[A8,w8,y9,k7,o8,cB4,cB5,cB8,cB9,cC4,cC0,cC1,cB3,jn,cB2,ah5 s1,ah5 s2,Q5,K4 p1];rfl
theorem ae0(Iv:Nat->A7->Prop):∀(xs:List T) (n:Nat) (U:A7),Iv n U->(∀i x,xs[i]?=some x->∀U,Iv (n+i) U->∃U1 U2,st x U=some U1/\b U1=some (.nx U2)/\Iv (n+i+1) U2)->
  ∃U',G8 st b xs U=some (.nx U')/\Iv (n+xs.length) U'
 |[],n,U,h0,_=>⟨U,rfl,h0⟩
 |x::xs,n,U,h0,h=>by
  obtain⟨U1,U2,h1,h2,h3⟩:=h 0 x (by simp) U h0;obtain⟨U',k1,k2⟩:=ae0 Iv xs (n+1) U2 h3 λi y hy U hi=>by
   have :=h (i+1) y (by simpa using hy) U (by rw[show n+(i+1)=n+1+i by omega];exact hi);rw[show n+(i+1)+1=n+1+i+1 by omega]at this;exact this
  refine⟨U',?_,by rw[cB8,show n+(xs.length+1)=n+1+xs.length by omega];exact k2⟩;rw[G8];simp only[h1,cB2,h2];exact k1
theorem bw5(h:(G9 0 n)[i]?=some x):i<n/\x=.int (i:Int):=by
 unfold G9 at h;rw[cI5]at h;cases e:(List.range n)[i]? with
 |none=>rw[e]at h;cases h
 |some j=>
  rw[e]at h;obtain⟨h1,h2⟩:=List.getElem?_eq_some_iff.mp e;simp at h1 h2;subst h2;cases h;exact⟨h1,by simp⟩
theorem at8(Iv:Nat->A7->Prop)(U:A7)(h0:Iv 0 U)(h:∀i,i<n->∀U,Iv i U->∃U2,b (U.set k (some (.int (i:Int))))=some (.nx U2)/\Iv (i+1) U2):
  ∃U',G8 (stN k) b (G9 0 n) U=some (.nx U')/\Iv n U':=by
 obtain⟨U',k1,k2⟩:=ae0 (st:=stN k) (b:=b) Iv (G9 0 n) 0 U h0 λi x hx U hi=>by
  obtain⟨hl,rfl⟩:=bw5 hx;rw[cO1]at hi⊢;obtain⟨U2,q1,q2⟩:=h i hl U hi;exact⟨_,U2,rfl,q1,q2⟩
 rw[at3,cO1]at k2;exact⟨U',k1,k2⟩
theorem aS7:∀{ws:List (Int×Int×Int)},ai1 ws=true->(∀w∈ws,as1 [w.1,w.2.1] [x.1,x.2.1]=true)->ai1 (ws++[x])=true
 |[],_,_=>rfl
 |[a],_,h=>by
  show(as1 [a.1,a.2.1] [x.1,x.2.1]&&true)=true;rw[h a cK7];rfl
 |a::b::r,hr,h=>by
  have hr':(as1 [a.1,a.2.1] [b.1,b.2.1]&&ai1 (b::r))=true:=hr;rw[cC7]at hr';have ih:=aS7 (ws:=b::r) hr'.2 λw hw=>h w (cK6 _ hw)
  show(as1 [a.1,a.2.1] [b.1,b.2.1]&&ai1 (b::r++[x]))=true;rw[hr'.1,ih];rfl
structure aF9(p:Int)(one other:Int)(ws:List (Int×Int×Int)):Prop where
 len:ws.length<=8
 tr:∀w∈ws,Q6 p w=true
 ri:ai1 ws=true
 lt:∀w∈ws,w.1<one\/(w.1=one/\w.2.1<other)
theorem cw8(h:a<c\/(a=c/\b<d)):as1 [a,b] [c,d]=true:=by
 unfold as1;rcases h with h|⟨h,h'⟩
 .rw[cP1 (by omega)];exact cO9 h
 .rw[cP2 h];unfold as1;rw[cP1 (by omega)];exact cO9 h'
theorem aF9.next(h:aF9 p one other ws):aF9 p one (other+1) ws:=⟨h.len,h.tr,h.ri,λw hw=>by have :=h.lt w hw;omega⟩
theorem aF9.snoc(h:aF9 p one other ws)(hl:ws.length<8)(h1:0<=one/\one<p)(h2:0<=other/\other<p)(hne:one≠other)(hr:1<=r/\r<=20):aF9 p one (other+1) (ws++[(one,other,r)]):=by
 refine⟨by simp;omega,λw hw=> ?_,aS7 h.ri λw hw=>cw8 (h.lt w hw),λw hw=> ?_⟩
 .rcases cC5 hw with hw|hw
  .exact h.tr w hw
  .simp only[cL2]at hw;subst hw;simp only[Q6,ak5,cC7,cP0];refine⟨h1.1,by omega,h2.1,by omega,?_,hr.1,hr.2⟩;simpa using hne
 .rcases cC5 hw with hw|hw
  .have :=h.lt w hw;omega
  .simp only[cL2]at hw;subst hw;exact .inr ⟨rfl,by show other<other+1;omega⟩
theorem ab5(a:Int)(h:0<b):0<=a%b/\a%b<b:=⟨cE4 a (by omega),cE3 a h⟩
theorem cw7(m:Int):∃r:Int,z8 (.lst [.int 3,.int 20]) (.int (m%2))=some (.int r)/\(r=3\/r=20):=by
 have :=ab5 m (b:=2) (by decide);have h:m%2=0\/m%2=1:=by omega
 rcases h with h|h<;>rw[h]
 .exact⟨3,rfl,.inl rfl⟩
 .exact⟨20,rfl,.inr rfl⟩
theorem cy7(m:Int):∃p ws vs,aN0 [.int m]=some (l7 p ws vs)/\N5 p ws vs:=by
 rw[aN0,o0 1 _ _ _ rfl,bv0];have hp:=ab5 m (b:=4) (by decide);generalize hpd:2+m%4=p;have hp2:2<=p/\p<=5:=by omega
 have hr: -(lim:Int)<=p/\p<=(lim:Int):=by have :(lim:Int)=1000000:=rfl;omega
 have hpn:((p.toNat:Nat):Int)=p:=cG3 (by omega);rw[m8 (U':=[some (.int m),some (.int p),none,none,none,none,none,none,none]) (by
  rw[<-hpd];simp only[A8,gM,C7,cB7,w8,y9,k7,o8,cB4,cB5,cB8,cB9,cC4,cC0,cC1,jn,cB2,K4 (show(0:Int)<4 by decide),Q5];rfl)]
 rw[m8 (U':=[some (.int m),some (.int p),some (.lst []),none,none,none,none,none,none]) rfl]
 let Iv:Int->Int->A7->Prop:=λone other U=>∃ws a b c,U=[some (.int m),some (.int p),some (.lst (List.map k9 ws)),a,b,c,none,none,none]/\aF9 p one other ws
 have loop1:∃U',G8 (stN 3) (N6 (gLM [2] (itR e7)) (stN 4) (n9 (u7 5 (gM [2] (gN V8 [d7,g2 z0 (g2 M0 Y3 n6) y6])))
  (sIf (V4 (bOf (g2 fNe n6 y6)) (V4 (bOf (g2 fLt (g2 J5 A3 (gI 5)) (g2 z0 v8 (g2 J5 (g2 K7 d7 Y3) al5)))) (bOf (g2 fLt (gN C5 [m7]) Y3)))) (aD3 2 (gM [2] (A1 [n6,y6,g2 z0 e9 (g2 J5 (g2 K7 A3 ai4) (d9 (C4 [al5,al6]) (g2 J5 (g2 K7 d7 ai4) v8)))]))) A2)))
   (G9 0 p.toNat) [some (.int m),some (.int p),some (.lst []),none,none,none,none,none,none]=some (.nx U')/\Iv (p.toNat:Int) 0 U':=by
  refine at8 (λi=>Iv (i:Int) 0) _ ⟨[],none,none,none,rfl,⟨by simp,by simp,rfl,by simp⟩⟩ λi hi U ⟨ws,a,b,c,hU,W⟩=> ?_
  subst hU;simp only[cC2,cC3];have inner:∃U',G8 (stN 4) (n9 (u7 5 (gM [2] (gN V8 [d7,g2 z0 (g2 M0 Y3 n6) y6])))
    (sIf (V4 (bOf (g2 fNe n6 y6)) (V4 (bOf (g2 fLt (g2 J5 A3 (gI 5)) (g2 z0 v8 (g2 J5 (g2 K7 d7 Y3) al5)))) (bOf (g2 fLt (gN C5 [m7]) Y3)))) (aD3 2 (gM [2] (A1 [n6,y6,g2 z0 e9 (g2 J5 (g2 K7 A3 ai4) (d9 (C4 [al5,al6]) (g2 J5 (g2 K7 d7 ai4) v8)))]))) A2))
     (G9 0 p.toNat) [some (.int m),some (.int p),some (.lst (List.map k9 ws)),some (.int (i:Int)),b,c,none,none,none]=some (.nx U')/\(∃ws b c,U'=[some (.int m),some (.int p),some (.lst (List.map k9 ws)),some (.int (i:Int)),b,c,none,none,none]/\aF9 p i (p.toNat:Int) ws):=by
   refine at8 (λj U=>∃ws b c,U=[some (.int m),some (.int p),some (.lst (List.map k9 ws)),some (.int (i:Int)),b,c,none,none,none]/\aF9 p i (j:Int) ws) _ ⟨ws,b,c,rfl,W⟩ λj hj U ⟨ws,b,c,hU,W⟩=> ?_
   subst hU;simp only[cC2,cC3];obtain⟨h,hd,h0⟩:=bA7 m (8*(i:Int)+(j:Int));rw[m8 (U':=[some (.int m),some (.int p),some (.lst (List.map k9 ws)),some (.int (i:Int)),some (.int (j:Int)),some (.int h),none,none,none]) (by
    simp only[A8,gM,C7,cB6,cB7,cC2,cC3,A5,o7,y0,w8,y9,k7,cC1,cB3,jn,cB2,aR2 (show sm 8=true from rfl),Q5,hd])]
   obtain⟨r,hr1,hr2⟩:=cw7 (m/64);have hrp:0<r:=by omega
   have hmr:=ab5 (h/64) hrp;have t:∃b,(V4 (bOf (g2 fNe n6 y6)) (V4 (bOf (g2 fLt (g2 J5 A3 (gI 5)) (g2 z0 v8 (g2 J5 (g2 K7 d7 Y3) al5)))) (bOf (g2 fLt (gN C5 [m7]) Y3)))) [some (.int m),some (.int p),some (.lst (List.map k9 ws)),some (.int (i:Int)),some (.int (j:Int)),some (.int h),none,none,none]=some b/\(b=true->i≠j/\ws.length<8):=by
    simp only[ap2,D8,A5,o7,y0,w8,y9,k7,cC1,cB3,jn,cB2,aZ5,D5,K4 (show(0:Int)<5 by decide),K4 (show(0:Int)<3 by decide),ab6 (i:=m) (j:=8) (by decide) (by decide),Q5,ab4,G7,cJ3];refine⟨!((i:Int)==(j:Int))&&(decide (h%5<2+m/8%3)&&decide (((ws.length:Nat):Int)<8)),?_,λhb=> ?_⟩
    .cases((i:Int)==(j:Int))<;>cases decide (h%5<2+m/8%3)<;>rfl
    .simp only[cC7,cP0]at hb;refine⟨λz=> ?_,by omega⟩;rw[z]at hb;simp at hb
   obtain⟨bb,t1,t2⟩:=t;rw[F0,t1];simp only[cB2];cases bb with
   |false=>exact⟨_,rfl,ws,_,_,rfl,W.next⟩
   |true=>
    obtain⟨hij,hl⟩:=t2 rfl;refine⟨[some (.int m),some (.int p),some (.lst (List.map k9 (ws++[((i:Int),(j:Int),1+h/64%r)]))),some (.int (i:Int)),some (.int (j:Int)),some (.int h),none,none,none],?_,_,_,_,rfl,?_⟩
    .simp only[if_true,aD3,gM,C7,cB6,cB7,cC2,cC3,U8,av2,o7,y0,w8,y9,k7,cC1,cB3,jn,cB2,K4 (show(0:Int)<2 by decide),ab6 (i:=m) (j:=64) (by decide) (by decide),ab6 (i:=h) (j:=64) (by decide) (by decide),hr1,K4 hrp,Q5];rw[cP2 (by rw[cJ3];exact cM7 hl (by decide)),cK0];rfl
    .refine W.snoc hl ⟨by omega,by omega⟩ ⟨by omega,by omega⟩ (by omega) ⟨by omega,by omega⟩
  obtain⟨U',k1,ws',b',c',rfl,W'⟩:=inner;refine⟨_,?_,ws',some (.int (i:Int)),b',c',rfl,⟨W'.len,W'.tr,W'.ri,λw hw=> ?_⟩⟩
  .simp only[S5,gLM,C7,cB6,cB7,cC2,cC3,ar1,k7,cC1,cB3,jn,cB2,aa7,cP2 hr];exact k1
  .have a1:=W'.lt w hw;have a2:=W'.tr w hw;simp only[Q6,ak5,cC7,cP0]at a2;left;show w.1<((i+1:Nat):Int);omega
 obtain⟨U1,k1,ws,a,b,c,rfl,W⟩:=loop1;rw[m8 (U':=[some (.int m),some (.int p),some (.lst (List.map k9 ws)),a,b,c,none,none,none]) (by
  simp only[S5,gLM,C7,cB6,cB7,cC2,cC3,ar1,k7,cC1,cB3,jn,cB2,aa7,cP2 hr];exact k1)]
 rw[m8 (U':=[some (.int m),some (.int p),some (.lst (List.map k9 ws)),a,b,c,some (.lst []),none,none]) rfl];have h3:=ab5 (m/256) (b:=3) (by decide);generalize hnd:1+m/256%3=n;have hn:1<=n/\n<=3:=by omega
 have hrn: -(lim:Int)<=n/\n<=(lim:Int):=by have :(lim:Int)=1000000:=rfl;omega
 have hnn:((n.toNat:Nat):Int)=n:=cG3 (by omega);have loop2:∃U',G8 (stN 7) (n9 (u7 5 (gM [6,2] (gN V8 [d7,g2 z0 (gI 70) V3])))
  (n9 (u7 8 (gM [6,2] (g2 J5 A3 e7)))
  (aD3 6 (gM [6,2] (A1 [R7,g2 J5 (g2 z0 (g2 z0 R7 e9) (g2 J5 (g2 K7 A3 Y3) (g2 aw9 e7 e9))) e7,g2 z0 e9 (g2 J5 (g2 K7 A3 ai4) (gI 9))])))))
   (G9 0 n.toNat) [some (.int m),some (.int p),some (.lst (List.map k9 ws)),a,b,c,some (.lst []),none,none]=some (.nx U')/\
    ∃vs c d e,U'=[some (.int m),some (.int p),some (.lst (List.map k9 ws)),a,b,c,some (.lst (List.map k9 vs)),d,e]/\vs.length=n.toNat/\∀w∈vs,Q6 p w=true:=by
  refine at8 (λi U=>∃vs c d e,U=[some (.int m),some (.int p),some (.lst (List.map k9 ws)),a,b,c,some (.lst (List.map k9 vs)),d,e]/\vs.length=i/\∀w∈vs,Q6 p w=true) _ ⟨[],c,none,none,rfl,rfl,by simp⟩ λi hi U ⟨vs,c,d,e,hU,hl,V⟩=> ?_
  subst hU;simp only[cC2,cC3];obtain⟨h,hd,h0⟩:=bA7 m (70+(i:Int));rw[m8 (U':=[some (.int m),some (.int p),some (.lst (List.map k9 ws)),a,b,some (.int h),some (.lst (List.map k9 vs)),some (.int (i:Int)),e]) (by
   simp only[A8,gM,C7,cB6,cB7,cC2,cC3,A5,o7,y0,w8,y9,k7,cC1,cB3,jn,cB2,Q5,hd])]
  have hpp:0<p:=by omega
  have hp1:0<p-1:=by omega
  have u1:=ab5 h hpp;rw[m8 (U':=[some (.int m),some (.int p),some (.lst (List.map k9 ws)),a,b,some (.int h),some (.lst (List.map k9 vs)),some (.int (i:Int)),some (.int (h%p))]) (by
   simp only[A8,gM,C7,cB6,cB7,cC2,cC3,w8,k7,cC1,cB3,jn,cB2,K4 hpp])]
  have u2:=ab5 (h/8) hp1;have u3:=ab5 (h%p+1+h/8%(p-1)) hpp;have u4:=ab5 (h/64) (b:=9) (by decide);refine⟨[some (.int m),some (.int p),some (.lst (List.map k9 ws)),a,b,some (.int h),some (.lst (List.map k9 (vs++[(h%p,(h%p+1+h/8%(p-1))%p,1+h/64%9)]))),some (.int (i:Int)),some (.int (h%p))],?_,_,_,_,_,rfl,by simp[hl],λw hw=> ?_⟩
  .simp only[aD3,gM,C7,cB6,cB7,cC2,cC3,U8,o7,y0,w8,y9,k7,cC1,cB3,jn,cB2,ab6 (i:=h) (j:=8) (by decide) (by decide),ab6 (i:=h) (j:=64) (by decide) (by decide),aw8,K4 hp1,K4 hpp,K4 (show(0:Int)<9 by decide),Q5];rw[cP2 (by rw[cJ3];exact cM7 (show vs.length<3 by omega) (by decide)),cK0];rfl
  .rcases cC5 hw with hw|hw
   .exact V w hw
   .simp only[cL2]at hw;subst hw;simp only[Q6,ak5,cC7,cP0];refine⟨u1.1,by omega,u3.1,by omega,?_,by omega,by omega⟩;rw[cD2,beq_eq_false_iff_ne];intro z;have w1:h%p+1+h/8%(p-1)-h%p=p*((h%p+1+h/8%(p-1))/p):=by
     have :=Int.mul_ediv_add_emod (h%p+1+h/8%(p-1)) p;omega
    have w2:1+h/8%(p-1)=p*((h%p+1+h/8%(p-1))/p):=by omega
    have w3:0<1+h/8%(p-1)/\1+h/8%(p-1)<p:=by omega
    generalize(h%p+1+h/8%(p-1))/p=q at w2;rw[w2]at w3;rcases cE8 q 1 with hq|hq
    .have :p*q<=p*0:=cF1 (by omega) (by omega);omega
    .have :p*1<=p*q:=cF1 (by omega) (by omega);omega
 obtain⟨U2,k2,vs,c',d',e',rfl,hvl,V⟩:=loop2;rw[m8 (U':=[some (.int m),some (.int p),some (.lst (List.map k9 ws)),a,b,c',some (.lst (List.map k9 vs)),d',e']) (by
  simp only[S5,gLM,C7,cB6,cB7,cC2,cC3,ar1,w8,y9,k7,cC1,cB3,jn,cB2,aa7,ab6 (i:=m) (j:=256) (by decide) (by decide),K4 (show(0:Int)<3 by decide),Q5];rw[hnd,cP2 hrn];exact k2)]
 refine⟨p,ws,vs,rfl,⟨hp2.1,hp2.2,W.len,W.tr,W.ri,by omega,by omega,V⟩⟩
noncomputable def aY9(i:Nat):T:=.int (i:Int)
noncomputable def M5(r:List Nat):T:=.lst (r.map aY9)
noncomputable def un(p:Int)(gs:List Int):Nat:=(List.range p.toNat).countP λ(i:Nat)=> !(gs.contains (i:Int))
theorem bd3(f g:α->Bool):∀(l:List α) (x:α),(∀y,g y=true->f y=true)->x∈l->f x=true->g x=false->l.countP g<l.countP f
 |[],_,_,h,_,_=>by simp at h
 |y::l,x,hm,h,h1,h2=>by
  have le:l.countP g<=l.countP f:=List.countP_mono_left λz _ hz=>hm z hz
  (rcases cA9 h with e|h)
  .subst e;rw[List.countP_cons_of_pos h1,List.countP_cons_of_neg (by simp[h2])];omega
  .have ih:=bd3 f g l x hm h h1 h2;rw[List.countP_cons,List.countP_cons];have :(if g y=true then 1 else 0)<=(if f y=true then 1 else 0):=by
    by_cases q:g y=true
    .rw[cP2 q,cP2 (hm y q)];exact cM3 _
    .rw[cP1 q];exact cO2 _
   omega
theorem aC8{p v:Int}{gs:List Int}(h0:0<=v)(h1:v<p)(h2:gs.contains v=false):un p (gs++[v])<un p gs:=by
 unfold un;refine bd3 _ _ _ v.toNat (λy hy=> ?_) (List.mem_range.mpr (by omega)) ?_ ?_
 .simp only[cD2,cH1,List.mem_append,decide_eq_false_iff_not]at hy⊢;exact λz=>hy (.inl z)
 .rw[cG3 h0,h2];rfl
 .rw[cG3 h0];simp
theorem aR0(gs:List Int):X3 (gs.map T.int)=some gs:=by
 induction gs with
 |nil=>rfl
 |cons g gs ih=>simp only[cB4,X3,ih,cB2]
theorem aT5(v:Int)(gs:List Int):S9 (.int v) (.lst (gs.map T.int))=some (.bl (!(gs.contains v))):=by
 simp only[S9,fIn,aR0,cB2]
theorem aR4:∀{xs:List T}{n i:Nat}{x:T},(J2 n xs)[i]?=some x->∃y,xs[i]?=some y/\x=.tup [.int ((n+i:Nat):Int),y]
 |[],n,i,x,h=>by simp[J2]at h
 |y::xs,n,0,x,h=>by
  simp[J2]at h;exact⟨y,by simp,h.symm⟩
 |y::xs,n,i+1,x,h=>by
  simp only[J2,cB3]at h;obtain⟨z,h1,h2⟩:=aR4 h;refine⟨z,by simpa using h1,?_⟩;rw[h2];congr 3;omega
theorem V6{α:Type}{xs:List α}{i:Nat}{x:α}(h:xs[i]?=some x):i<xs.length:=by
 rcases cM8 i xs.length with q|q
 .exact q
 .rw[cI4 q]at h;cases h
theorem cw6(n:Nat):1<=9^n:=Nat.one_le_pow _ _ (by decide)
abbrev Way:=Int×Int×Int
noncomputable def sel(ws:List Way)(f:Int->List (List Nat))(cur:Int)(seen:List Int)(j:Nat):List (List Nat):=match ws[j]? with
 |some w=>if w.1==cur&& !(seen.contains w.2.1)then(f w.2.1).map (j:: ·)else []
 |none=>[]
noncomputable def F9(ws:List Way)(goal:Int):Nat->Int->List Int->List (List Nat)
 |0,_,_=>[]
 |n+1,cur,seen=>if cur==goal then [[]]else(List.range ws.length).flatMap (sel ws (λv=>F9 ws goal n v (seen++[v])) cur seen)
noncomputable def frW(ws:List Way)(j:Nat):Int:=((ws[j]?).getD (0,0,0)).1
noncomputable def toW(ws:List Way)(j:Nat):Int:=((ws[j]?).getD (0,0,0)).2.1
noncomputable def rmW(ws:List Way)(j:Nat):Int:=((ws[j]?).getD (0,0,0)).2.2
theorem bt2(h:r∈sel ws f cur seen j):∃w r',ws[j]?=some w/\w.1=cur/\seen.contains w.2.1=false/\r'∈f w.2.1/\r=j::r':=by
 unfold sel at h;cases e:ws[j]? with
 |none=>rw[e]at h;cases h
 |some w=>
  rw[e]at h;dsimp only at h;split at h
  .rename_i c;simp only[cC7,beq_iff_eq,cD2]at c;obtain⟨r',h1,h2⟩:=cA8 h;exact⟨w,r',rfl,c.1,c.2,h1,h2.symm⟩
  .cases h
theorem aQ5(h:r∈F9 ws goal n cur seen):
  (cur=goal/\r=[])\/(cur≠goal/\∃m j w r',n=m+1/\ws[j]?=some w/\w.1=cur/\seen.contains w.2.1=false/\r'∈F9 ws goal m w.2.1 (seen++[w.2.1])/\r=j::r'):=by
 cases n with
 |zero=>cases h
 |succ m=>
  rw[F9]at h;split at h
  .rename_i c;refine .inl ⟨by simpa using c,by simpa using h⟩
  .rename_i c;obtain⟨j,_,h⟩:=List.mem_flatMap.mp h;obtain⟨w,r',h1,h2,h3,h4,h5⟩:=bt2 h;exact .inr ⟨by simpa using c,m,j,w,r',rfl,h1,h2,h3,h4,h5⟩
structure bu8(ws:List Way)(cur goal:Int)(seen:List Int)(r:List Nat):Prop where
 walk:Wlk (frW ws) (toW ws) r cur goal
 ix:∀i∈r,i<ws.length
 off:∀i∈r,seen.contains (toW ws i)=false
 nd:r.Nodup
theorem aL7:∀(n:Nat){cur:Int}{seen:List Int}{r:List Nat},r∈F9 ws goal n cur seen->bu8 ws cur goal seen r:=by
 intro n;induction n with
 |zero=>intro cur seen r h;cases h
 |succ n ih=>
  intro cur seen r h;rcases aQ5 h with⟨h1,h2⟩|⟨_,m,j,w,r',e,h1,h2,h3,h4,h5⟩
  .subst h2;exact⟨h1,by simp,by simp,List.nodup_nil⟩
  .cases e;subst h5;have I:=ih h4;have fj:frW ws j=w.1:=by unfold frW;rw[h1];rfl
   have tj:toW ws j=w.2.1:=by unfold toW;rw[h1];rfl
   refine⟨⟨fj.trans h2,by rw[tj];exact I.walk⟩,?_,?_,?_⟩
   .intro i hi;rcases cA9 hi with q|q
    .subst q;exact V6 h1
    .exact I.ix i q
   .intro i hi;rcases cA9 hi with q|q
    .subst q;rw[tj];exact h3
    .have :=I.off i q;rw[cH1,decide_eq_false_iff_not]at this⊢;exact λz=>this (cK3 _ z)
   .refine List.nodup_cons.mpr ⟨λz=> ?_,I.nd⟩;have :=I.off j z;rw[tj,cH1,decide_eq_false_iff_not]at this;exact this (cK4 _ (List.mem_singleton.mpr rfl))
theorem ca8(h:r∈F9 ws goal n cur seen)(hc:cur≠goal):r≠[]:=by
 rcases aQ5 h with⟨h1,_⟩|⟨_,m,j,w,r',e,h1,h2,h3,h4,h5⟩
 .exact absurd h1 hc
 .subst h5;simp
def bL3(p:Int)(ws:List Way):Prop:=ws.length<=8/\∀w∈ws,0<=w.2.1/\w.2.1<p
theorem N5.ways(N:N5 p ws vs):bL3 p ws:=⟨N.wl,λw hw=>by
 have h:=N.wt w hw;simp only[Q6,ak5,cC7,cP0]at h;omega⟩
theorem aQ7(f:α->List β)(B:Nat):∀(l:List α),(∀x∈l,(f x).length<=B)->(l.flatMap f).length<=l.length*B
 |[],_=>by simp
 |x::xs,h=>by
  have h1:=h x cK7;have h2:=aQ7 f B xs λy hy=>h y (cK6 _ hy)
  rw[List.flatMap_cons,cJ2,cB8,Nat.add_mul];omega
theorem bR1(W:bL3 p ws):∀(n:Nat) (cur:Int) (seen:List Int),(F9 ws goal n cur seen).length<=9^un p seen/\∀r∈F9 ws goal n cur seen,r.length<=un p seen:=by
 intro n;induction n with
 |zero=>intro cur seen;simp[F9]
 |succ n ih=>
  intro cur seen;have one:=cw6 (un p seen);refine⟨?_,?_⟩
  .rw[F9];split
   .simpa using one
   . --each way leads on at most as often as the places left
    cases hu:un p seen with
    |zero=>
     rw[show(List.range ws.length).flatMap (sel ws (λv=>F9 ws goal n v (seen++[v])) cur seen)=[]from ?_]
     .simp
     .rw[List.flatMap_eq_nil_iff];intro j _;cases e:sel ws (λv=>F9 ws goal n v (seen++[v])) cur seen j with
      |nil=>rfl
      |cons r rs=>
       obtain⟨w,r',h1,h2,h3,h4,h5⟩:=bt2 (r:=r) (by rw[e];exact cK7);obtain⟨v0,v1⟩:=W.2 w (cK9 h1);have :=aC8 v0 v1 h3;omega
    |succ k=>
     have b:=aQ7 (sel ws (λv=>F9 ws goal n v (seen++[v])) cur seen) (9^k) (List.range ws.length) λj _=>by
      unfold sel;cases e:ws[j]? with
      |none=>simp
      |some w=>
       dsimp only;split
       .rename_i c;simp only[cC7,beq_iff_eq,cD2]at c;obtain⟨v0,v1⟩:=W.2 w (cK9 e);have :=aC8 v0 v1 c.2;rw[cJ3];refine cM5 (ih w.2.1 _).1 (cN7 (by decide) (by omega))
       .simp
     rw[cJ4]at b;have :=cN3 (9^k) W.1;rw[cN8];omega
  .intro r hr;rcases aQ5 hr with⟨h1,h2⟩|⟨_,m,j,w,r',e,h1,h2,h3,h4,h5⟩
   .subst h2;simp
   .cases e;subst h5;obtain⟨v0,v1⟩:=W.2 w (cK9 h1);have :=aC8 v0 v1 h3;have :=(ih w.2.1 _).2 r' h4;rw[cB8];omega
theorem aH5(h:i<=n)(f:Nat->List β):((List.range i).flatMap f).length<=((List.range n).flatMap f).length:=by
 obtain⟨k,rfl⟩:∃k,n=i+k:=⟨n-i,by omega⟩
 rw[cL4,cH8,cJ2];omega
theorem bh3{ws:List Way}{i:Nat}{x:T}(h:(J2 0 (ws.map k9))[i]?=some x):∃w,ws[i]?=some w/\x=.tup [.int (i:Int),k9 w]:=by
 obtain⟨y,h1,h2⟩:=aR4 h;rw[cO1]at h2;rw[cI5]at h1;cases e:ws[i]? with
 |none=>rw[e]at h1;cases h1
 |some w=>rw[e]at h1;cases h1;exact⟨w,rfl,h2⟩
theorem aE2(xs:List T)(x:T):z8 (.lst (xs++[x])) (.int (-1))=some x:=by
 show(ixT (xs++[x]).length (-1)).bind _=_;have :ixT (xs++[x]).length (-1)=some xs.length:=by
  unfold ixT;rw[cP1 (by decide),cP2 (by simp;omega)];simp;omega
 rw[this];simp
theorem un5(hp:p<=5)(gs:List Int):un p gs<=5:=by
 unfold un;refine cM5 List.countP_le_length ?_;rw[cJ4];omega
theorem ag2(N:N5 p ws vs):(F9 ws goal n cur seen).length<=59049/\∀r∈F9 ws goal n cur seen,r.length<=5:=by
 obtain⟨h1,h2⟩:=bR1 N.ways (goal:=goal) n cur seen;have :=un5 N.p5 seen;refine⟨cM5 h1 (cM5 (cN7 (by decide) this) (by decide)),λr hr=>cM5 (h2 r hr) this⟩
theorem bj9{U:A7}{it:GL}{aC:List Nat}{sub:List (List Nat)}{i:Nat}(h1:it U=some (sub.map M5))(hc:X7 1 aC U=[none,some (.int (i:Int))])(hl:sub.length<=59049)(hr:∀r∈sub,r.length<=5):
  l9 it 1 aC (stN 0) t9 (g2 z0 (C4 [e7]) d7) U=some (.lst ((sub.map (i:: ·)).map M5)):=by
 simp only[l9,h1,cB2];rw[cP2 (by rw[cJ3];show sub.length<=1000000;omega),ad0 (f:=λt=>match t with |.lst r=>.lst (.int (i:Int)::r)|_=>t)]
 .simp only[cB2,cK2];congr 2
 .intro x hx;obtain⟨r,hrm,rfl⟩:=cA8 hx;rw[hc];refine⟨[some (M5 r),some (.int (i:Int))],rfl,?_⟩;have :=hr r hrm;simp only[w8,av2,o7,y0,k7,cC1,cB3,jn,cB2,M5,z0];rw[cP2 (by simp[lim];omega)];rfl
theorem bC7(h:ws[j]?=some w)(hb:((w.1==cur)&& !(seen.contains w.2.1))=false):sel ws f cur seen j=[]:=by
 unfold sel;rw[h];dsimp only;rw[hb];rfl
theorem br0(h:ws[j]?=some w)(hb:((w.1==cur)&& !(seen.contains w.2.1))=true):sel ws f cur seen j=(f w.2.1).map (j:: ·):=by
 unfold sel;rw[h];dsimp only;rw[hb];rfl
theorem aN9{gs:List Int}{v:Int}(h:gs.length<=100):z0 (.lst (gs.map T.int)) (.lst [.int v])=some (.lst ((gs++[v]).map T.int)):=by
 simp only[z0];rw[cP2 (by simp[lim];omega),cK0];rfl
theorem bi4{p:Int}{ws vs:List Way}(N:N5 p ws vs)(n:Nat)(first goal:Int)(gs:List Int)(hg:gs.length<=100)
  (ih:∀v,0<=v->v<p->gs.contains v=false->U6 n [l7 p ws vs,.int v,.int goal,.lst ((gs++[v]).map T.int)]=some (.lst ((F9 ws goal n v (gs++[v])).map M5))):
  U6 (n+1) [l7 p ws vs,.int first,.int goal,.lst (gs.map T.int)]=some (.lst ((F9 ws goal (n+1) first gs).map M5)):=by
 have LM:=ag2 N (goal:=goal) (cur:=first) (n:=n+1) (seen:=gs);rw[U6,o0 4 _ _ _ rfl,aS2];have st:o8 7 [l7 p ws vs,.int first,.int goal,.lst (gs.map T.int)]=[some (l7 p ws vs),some (.int first),some (.int goal),some (.lst (gs.map T.int)),none,none,none]:=rfl;rw[st];have test:(bOf (g2 fEq e7 m7)) [some (l7 p ws vs),some (.int first),some (.int goal),some (.lst (gs.map T.int)),none,none,none]=some (first ==goal):=rfl;rw[F9]at LM⊢;cases hfg:(first ==goal)with
 |true=>
  rw[Y6 (t:=.lst [.lst []]) (by rw[F0,test,hfg];rfl),cP2 rfl];rfl
 |false=>
  rw[hfg,cP1 (by decide)]at LM;rw[cP1 (by decide)];rw[m8 (U':=[some (l7 p ws vs),some (.int first),some (.int goal),some (.lst (gs.map T.int)),none,none,none]) (by rw[F0,test,hfg];rfl)];rw[m8 (U':=[some (l7 p ws vs),some (.int first),some (.int goal),some (.lst (gs.map T.int)),some (.lst []),none,none]) rfl];generalize hS:sel ws (λv=>F9 ws goal n v (gs++[v])) first gs=S at LM⊢
  have loop:=ae0 (st:=st2 5 6) (b:=sIf (V4 (bOf (g2 fEq (d9 D7 k8) e7)) (bOf (g2 S9 (d9 D7 e9) n6))) (u7 4 (g2 z0 y6 (l9 (itL (gN (U6 n) [d7,d9 D7 e9,m7,g2 z0 n6 (C4 [d9 D7 e9])])) 1 [5] (stN 0) t9 (g2 z0 (C4 [e7]) d7)))) A2)
   (λi U=>∃a b,U=[some (l7 p ws vs),some (.int first),some (.int goal),some (.lst (gs.map T.int)),some (.lst (((List.range i).flatMap S).map M5)),a,b]) (J2 0 (ws.map k9)) 0
   [some (l7 p ws vs),some (.int first),some (.int goal),some (.lst (gs.map T.int)),some (.lst []),none,none] ⟨none,none,rfl⟩ (λi x hx U zz=>by
    obtain⟨a,b,hU⟩:=zz;subst hU;rw[cO1];obtain⟨w,e,rfl⟩:=bh3 hx;have hi:=V6 e;have hwy:=N.ways.2 w (cK9 e);refine⟨[some (l7 p ws vs),some (.int first),some (.int goal),some (.lst (gs.map T.int)),some (.lst (((List.range i).flatMap S).map M5)),some (.int (i:Int)),some (k9 w)],[some (l7 p ws vs),some (.int first),some (.int goal),some (.lst (gs.map T.int)),some (.lst (((List.range (i+1)).flatMap S).map M5)),some (.int (i:Int)),some (k9 w)],rfl,?_,_,_,rfl⟩;have tst:(V4 (bOf (g2 fEq (d9 D7 k8) e7)) (bOf (g2 S9 (d9 D7 e9) n6))) [some (l7 p ws vs),some (.int first),some (.int goal),some (.lst (gs.map T.int)),some (.lst (((List.range i).flatMap S).map M5)),some (.int (i:Int)),some (k9 w)]=some ((w.1==first)&& !(gs.contains w.2.1)):=by
     simp only[ap2,D8,w8,y9,k7,cC1,cB3,jn,cB2,k9,X5,ix0,ix1,P7,D5,aT5];cases(w.1==first)<;>rfl
    rw[F0,tst];have LR:(List.range (i+1)).flatMap S=(List.range i).flatMap S++S i:=by rw[cL5,cH8];simp
    have ll:=cM5 (aH5 (show i+1<=ws.length by omega) S) LM.1;rw[LR,cJ2]at ll;cases hb:((w.1==first)&& !(gs.contains w.2.1))with
    |false=>
     have :S i=[]:=by rw[<-hS];exact bC7 e hb
     rw[LR,this,cH0];rfl
    |true=>
     have Si:S i=(F9 ws goal n w.2.1 (gs++[w.2.1])).map (i:: ·):=by rw[<-hS];exact br0 e hb
     simp only[cC7,cD2]at hb;have s1:=ih w.2.1 hwy.1 hwy.2 hb.2;have s2:=ag2 N (goal:=goal) (cur:=w.2.1) (n:=n) (seen:=gs++[w.2.1]);simp only[cB2,if_true];have call:(gN (U6 n) [d7,d9 D7 e9,m7,g2 z0 n6 (C4 [d9 D7 e9])]) [some (l7 p ws vs),some (.int first),some (.int goal),some (.lst (gs.map T.int)),some (.lst (((List.range i).flatMap S).map M5)),some (.int (i:Int)),some (k9 w)]=some (.lst ((F9 ws goal n w.2.1 (gs++[w.2.1])).map M5)):=by
      simp only[A5,av2,o7,y0,w8,y9,k7,cC1,cB3,jn,cB2,k9,X5,ix1,aN9 hg];exact s1
     have comp:=bj9 (U:=[some (l7 p ws vs),some (.int first),some (.int goal),some (.lst (gs.map T.int)),some (.lst (((List.range i).flatMap S).map M5)),some (.int (i:Int)),some (k9 w)]) (it:=itL (gN (U6 n) [d7,d9 D7 e9,m7,g2 z0 n6 (C4 [d9 D7 e9])])) (aC:=[5]) (i:=i) (by rw[Q8,call];rfl) rfl s2.1 s2.2;have fa2:z0 (.lst (((List.range i).flatMap S).map M5)) (.lst (((F9 ws goal n w.2.1 (gs++[w.2.1])).map (i:: ·)).map M5))=some (.lst (((List.range (i+1)).flatMap S).map M5)):=by
      rw[LR,Si];rw[Si]at ll;simp only[z0];rw[cP2 (by rw[cJ3,cJ3];show _<=1000000;omega),cK0]
     simp only[A8,w8,comp,k7,cC1,cB3,jn,cB2,fa2,cC2,cC3])
  obtain⟨U',k1,a,b,rfl⟩:=loop;rw[cO1,ak1,cJ3]at k1;rw[m8 (U':=[some (l7 p ws vs),some (.int first),some (.int goal),some (.lst (gs.map T.int)),some (.lst (((List.range ws.length).flatMap S).map M5)),a,b]) (by exact k1)];rfl
theorem cu1(N:N5 p ws vs):∀(n:Nat) (first goal:Int) (gs:List Int),un p gs<=n->gs.length+n<=50->
  U6 (n+1) [l7 p ws vs,.int first,.int goal,.lst (gs.map T.int)]=some (.lst ((F9 ws goal (n+1) first gs).map M5)):=by
 intro n;induction n with
 |zero=>
  intro first goal gs hu hg
  refine bi4 N 0 first goal gs (by omega) (λv hv0 hv1 hv=> ?_)
  have :=aC8 hv0 hv1 hv;omega
 |succ n ih=>
  intro first goal gs hu hg
  refine bi4 N (n+1) first goal gs (by omega) (λv hv0 hv1 hv=> ?_)
  have :=aC8 hv0 hv1 hv;exact ih v goal (gs++[v]) (by omega) (by simp;omega)
theorem bq6{p:Int}{ws vs:List Way}(N:N5 p ws vs)(n:Nat)(cur goal:Int)(pre:List Int)(hg:(pre++[cur]).length<=100)
  (ih:∀v,0<=v->v<p->(pre++[cur]).contains v=false->O1 n [.lst (ws.map k9),.lst (((pre++[cur])++[v]).map T.int),.int goal]=some (.lst ((F9 ws goal n v ((pre++[cur])++[v])).map M5))):
  O1 (n+1) [.lst (ws.map k9),.lst ((pre++[cur]).map T.int),.int goal]=some (.lst ((F9 ws goal (n+1) cur (pre++[cur])).map M5)):=by
 have LM:=ag2 N (goal:=goal) (cur:=cur) (n:=n+1) (seen:=pre++[cur]);have il:z8 (.lst ((pre++[cur]).map T.int)) (.int (-1))=some (.int cur):=by
  rw[cK0];exact aE2 _ _
 generalize hgs:pre++[cur]=gs at *;rw[O1,o0 3 _ _ _ rfl,aA2];have st:o8 6 [.lst (ws.map k9),.lst (gs.map T.int),.int goal]=[some (.lst (ws.map k9)),some (.lst (gs.map T.int)),some (.int goal),none,none,none]:=rfl;rw[st];have test:(bOf (g2 fEq (d9 e7 (g1 L9 e9)) m7)) [some (.lst (ws.map k9)),some (.lst (gs.map T.int)),some (.int goal),none,none,none]=some (cur==goal):=by
  simp only[D8,w8,P4,y9,k7,cC1,cB3,jn,cB2,Z0,il,P7,D5]
 rw[F9]at LM⊢;cases hfg:(cur==goal)with
 |true=>
  rw[Y6 (t:=.lst [.lst []]) (by rw[F0,test,hfg];rfl),cP2 rfl];rfl
 |false=>
  rw[hfg,cP1 (by decide)]at LM;rw[cP1 (by decide)];rw[m8 (U':=[some (.lst (ws.map k9)),some (.lst (gs.map T.int)),some (.int goal),none,none,none]) (by rw[F0,test,hfg];rfl)];rw[m8 (U':=[some (.lst (ws.map k9)),some (.lst (gs.map T.int)),some (.int goal),some (.lst []),none,none]) rfl];generalize hS:sel ws (λv=>F9 ws goal n v (gs++[v])) cur gs=S at LM⊢;have loop:=ae0 (st:=st2 4 5) (b:=sIf (V4 (bOf (g2 fEq (d9 A3 k8) (d9 e7 (g1 L9 e9)))) (bOf (g2 S9 (d9 A3 e9) e7))) (az2 3 (gM [3] (l9 (itL (gN (O1 n) [d7,g2 z0 e7 (C4 [d9 A3 e9]),m7])) 1 [4] (stN 0) t9 (g2 z0 (C4 [e7]) d7)))) A2)
   (λi U=>∃a b,U=[some (.lst (ws.map k9)),some (.lst (gs.map T.int)),some (.int goal),some (.lst (((List.range i).flatMap S).map M5)),a,b]) (J2 0 (ws.map k9)) 0
   [some (.lst (ws.map k9)),some (.lst (gs.map T.int)),some (.int goal),some (.lst []),none,none] ⟨none,none,rfl⟩ (λi x hx U zz=>by
    obtain⟨a,b,hU⟩:=zz;subst hU;rw[cO1];obtain⟨w,e,rfl⟩:=bh3 hx;have hi:=V6 e;have hwy:=N.ways.2 w (cK9 e);refine⟨[some (.lst (ws.map k9)),some (.lst (gs.map T.int)),some (.int goal),some (.lst (((List.range i).flatMap S).map M5)),some (.int (i:Int)),some (k9 w)],[some (.lst (ws.map k9)),some (.lst (gs.map T.int)),some (.int goal),some (.lst (((List.range (i+1)).flatMap S).map M5)),some (.int (i:Int)),some (k9 w)],rfl,?_,_,_,rfl⟩;have tst:(V4 (bOf (g2 fEq (d9 A3 k8) (d9 e7 (g1 L9 e9)))) (bOf (g2 S9 (d9 A3 e9) e7))) [some (.lst (ws.map k9)),some (.lst (gs.map T.int)),some (.int goal),some (.lst (((List.range i).flatMap S).map M5)),some (.int (i:Int)),some (k9 w)]=some ((w.1==cur)&& !(gs.contains w.2.1)):=by
     simp only[ap2,D8,w8,P4,y9,k7,cC1,cB3,jn,cB2,k9,X5,ix0,ix1,Z0,il,P7,D5,aT5];cases(w.1==cur)<;>rfl
    rw[F0,tst];have LR:(List.range (i+1)).flatMap S=(List.range i).flatMap S++S i:=by rw[cL5,cH8];simp
    have ll:=cM5 (aH5 (show i+1<=ws.length by omega) S) LM.1;rw[LR,cJ2]at ll;cases hb:((w.1==cur)&& !(gs.contains w.2.1))with
    |false=>
     have :S i=[]:=by rw[<-hS];exact bC7 e hb
     rw[LR,this,cH0];rfl
    |true=>
     have Si:S i=(F9 ws goal n w.2.1 (gs++[w.2.1])).map (i:: ·):=by rw[<-hS];exact br0 e hb
     simp only[cC7,cD2]at hb;have s1:=ih w.2.1 hwy.1 hwy.2 hb.2;have s2:=ag2 N (goal:=goal) (cur:=w.2.1) (n:=n) (seen:=gs++[w.2.1]);simp only[cB2,if_true];have mk:C7 [3] [some (.lst (ws.map k9)),some (.lst (gs.map T.int)),some (.int goal),some (.lst (((List.range i).flatMap S).map M5)),some (.int (i:Int)),some (k9 w)]=[some (.lst (ws.map k9)),some (.lst (gs.map T.int)),some (.int goal),none,some (.int (i:Int)),some (k9 w)]:=rfl;have call:(gN (O1 n) [d7,g2 z0 e7 (C4 [d9 A3 e9]),m7]) [some (.lst (ws.map k9)),some (.lst (gs.map T.int)),some (.int goal),none,some (.int (i:Int)),some (k9 w)]=some (.lst ((F9 ws goal n w.2.1 (gs++[w.2.1])).map M5)):=by
      simp only[A5,av2,o7,y0,w8,y9,k7,cC1,cB3,jn,cB2,k9,X5,ix1,aN9 hg];exact s1
     have comp:=bj9 (U:=[some (.lst (ws.map k9)),some (.lst (gs.map T.int)),some (.int goal),none,some (.int (i:Int)),some (k9 w)]) (it:=itL (gN (O1 n) [d7,g2 z0 e7 (C4 [d9 A3 e9]),m7])) (aC:=[4]) (i:=i) (by rw[Q8,call];rfl) rfl s2.1 s2.2;rw[Si]at ll;simp only[az2,gM,mk,comp,cC1,cB3,jn,cB2];rw[cP2 (by rw[cJ3,cJ3];show _<=1000000;omega),LR,Si,cK0];rfl)
  obtain⟨U',k1,a,b,rfl⟩:=loop;rw[cO1,ak1,cJ3]at k1;rw[m8 (U':=[some (.lst (ws.map k9)),some (.lst (gs.map T.int)),some (.int goal),some (.lst (((List.range ws.length).flatMap S).map M5)),a,b]) (by exact k1)];rfl
theorem cy3(N:N5 p ws vs):∀(n:Nat) (cur goal:Int) (pre:List Int),un p (pre++[cur])<=n->(pre++[cur]).length+n<=50->
  O1 (n+1) [.lst (ws.map k9),.lst ((pre++[cur]).map T.int),.int goal]=some (.lst ((F9 ws goal (n+1) cur (pre++[cur])).map M5)):=by
 intro n;induction n with
 |zero=>
  intro cur goal pre hu hg;refine bq6 N 0 cur goal pre (by omega) (λv hv0 hv1 hv=> ?_);have :=aC8 hv0 hv1 hv;omega
 |succ n ih=>
  intro cur goal pre hu hg;refine bq6 N (n+1) cur goal pre (by omega) (λv hv0 hv1 hv=> ?_);have :=aC8 hv0 hv1 hv;exact ih v goal (pre++[cur]) (by omega) (by rw[cJ2];simp at hg⊢;omega)
theorem aq6(h:g U=some t)(k:b (U.set i (some t))=o):n9 (u7 i g) b U=o:=by
 rw[m8 (U':=U.set i (some t)) (by unfold u7;rw[h];rfl)];exact k
theorem t5(h:a U=some x)(h2:gs l U=some xs):gs (a::l) U=some (x::xs):=by
 show(a U).bind _=_;rw[h,cB2,h2];rfl
theorem bg1(h:gs l U=some xs):A1 l U=some (.tup xs):=by unfold A1;rw[h];rfl
theorem ay5(h:gs l U=some xs):C4 l U=some (.lst xs):=by unfold C4;rw[h];rfl
theorem t7(h:a U=some x)(h2:b U=some y)(h3:f x y=some z):g2 f a b U=some z:=by unfold g2;rw[h,cB2,h2,cB2,h3]
theorem bf9(h:a U=some x)(h2:b U=some y)(h3:z8 x y=some z):d9 a b U=some z:=t7 h h2 h3
theorem Q4(i n)(h:M9 i U=some x)(h3:z8 x (.int n)=some z):d9 (M9 i) (gI n) U=some z:=t7 h rfl h3
theorem u0(h:gs l U=some xs)(h3:f xs=some z):gN f l U=some z:=by unfold gN;rw[h,cB2,h3]
theorem aZ1(h0:0<=i)(h1:i<(xs.length:Int)):∃t,z8 (.lst xs) (.int i)=some t/\t∈xs:=by
 have hi:i.toNat<xs.length:=by omega
 refine⟨xs[i.toNat],?_,cJ1 hi⟩;show(ixT xs.length i).bind _=_;unfold ixT;rw[cP2 h0,cP2 h1,cB2,cI3 hi]
theorem aw1(h:ad6 [t]=some (.bl true)):aa2 [t]=some (.val .non):=by
 have e:ad4 [some t]=some (.o (.nx [some t])):=by
  unfold ad4;simp only[rIf,ae6,bOf,gN,gs,M9,cC1,jn,cB2,h,toB];rfl
 show ac7 (ad4 [some t])=_;rw[e];rfl
theorem bW3(h:ad6 [t]=some (.bl false)):aa2 [t]=some (.exc "BadNet"):=by
 have e:ad4 [some t]=some (.exc "BadNet"):=by
  unfold ad4;simp only[rIf,ae6,bOf,gN,gs,M9,cC1,jn,cB2,h,toB];rfl
 show ac7 (ad4 [some t])=_;rw[e];rfl
theorem bH2(h:O3 [t,u]=some (.bl true)):am9 [t,u]=some (.val .non):=by
 have e:aq2 [some t,some u]=some (.o (.nx [some t,some u])):=by
  unfold aq2;simp only[rIf,ae6,bOf,gN,gs,M9,cC1,cB3,jn,cB2,h,toB];rfl
 show ac7 (aq2 [some t,some u])=_;rw[e];rfl
theorem bD7(h:gs l U=some xs)(h2:F xs=some (.exc c)):av6 (al0 F l) b U=some (.exc c):=by
 unfold av6 al0;rw[h,cB2,h2];rfl
theorem ak9(h:gs l U=some xs)(h2:F xs=some (.val t)):av6 (al0 F l) b U=b U:=by
 unfold av6 al0;rw[h,cB2,h2];rfl
theorem bT6(h:ad6 [t]=some (.bl true))(h2:O3 [t,u]=some (.bl true))(h3:Y5 [t,u]=some (.bl a))(h4:am7 [t,u]=some (.bl b)):aN1 [t,u]=some (.val (.bl (a&&b))):=by
 show ac7 (bp2 [some t,some u])=_;unfold bp2;rw[ak9 (xs:=[t]) rfl (aw1 h),ak9 (xs:=[t,u]) rfl (bH2 h2)];simp only[at4,t8,K6,bOf,gN,gs,M9,cC1,cB3,jn,cB2,h3,h4,toB];cases a<;>rfl
theorem bq2(h:ad6 [t]=some (.bl true))(h2:O3 [t,u]=some (.bl true))(h3:A6 2 2 aG3 [t,u]=some z)(hz:∀U,aG3 [some t,some u]≠some (.nx U)):at9 [t,u]=some (.val z):=by
 show ac7 (aK0 [some t,some u])=_;unfold aK0;rw[ak9 (xs:=[t]) rfl (aw1 h),ak9 (xs:=[t,u]) rfl (bH2 h2)];have h3':az4 (aG3 [some t,some u])=some z:=h3;show ac7 ((aG3 [some t,some u]).bind λo=>some (.o o))=_;cases e:aG3 [some t,some u]with
 |none=>rw[e]at h3';cases h3'
 |some o=>
  rw[e]at h3';cases o with
  |ret t'=>cases h3';rfl
  |nx U=>exact absurd e (hz U)
  |bk U=>cases h3'
  |ct U=>cases h3'
theorem cn6(t u:T):∀U,aG3 [some t,some u]≠some (.nx U):=λU h=>by
 unfold aG3 t8 at h;cases e:(l9 (itZ (d9 d7 v8) e7) 2 [0] (st2 0 1) t9 (gN ar7 [d9 m7 e9,e7,d9 d7 e9])) [some t,some u]with
 |none=>rw[e]at h;cases h
 |some x=>rw[e]at h;cases h
theorem bh5(h:F xs=some (.exc "BadNet")):aC9 F xs=some (.str "BadNet"):=by
 unfold aC9;rw[h];rfl
theorem bN5(h:F xs=some (.val t)):aC9 F xs=some t:=by
 unfold aC9;rw[h];rfl
theorem aU4(h:a U=some x)(h3:f x=some z):g1 f a U=some z:=by unfold g1;rw[h,cB2,h3]
theorem W5(h:xs.length+ys.length<=lim):z0 (.lst xs) (.lst ys)=some (.lst (xs++ys)):=cP2 h
theorem aQ6(f:T->T)(h1:it U=some xs)(hl:xs.length<=lim)(h:∀x∈xs,∃U1,st x (X7 nT aC U)=some U1/\e U1=some (f x)):l9 it nT aC st t9 e U=some (.lst (xs.map f)):=by
 unfold l9;rw[h1,cB2,cP2 hl,ad0 xs h];rfl
theorem M4(h:g U=some (.bl b)):bOf g U=some b:=by unfold bOf;rw[h];rfl
theorem aC1(h:g U=some b):ae6 g U=some !b:=by unfold ae6;rw[h];rfl
noncomputable def ae5(ws vs:List Way)(k:Nat):List (Nat×List Nat):=match vs[k]? with
 |some v=>(F9 ws v.2.1 7 v.1 [v.1]).map λr=>(k,r)
 |none=>[]
noncomputable def lns(ws vs:List Way):List (Nat×List Nat):=(List.range vs.length).flatMap (ae5 ws vs)
noncomputable def C6(l:Nat×List Nat):T:=.tup [.int (l.1:Int),M5 l.2]
theorem bt3(h:l∈lns ws vs):∃v,vs[l.1]?=some v/\l.2∈F9 ws v.2.1 7 v.1 [v.1]:=by
 obtain⟨k,_,h⟩:=List.mem_flatMap.mp h;unfold ae5 at h;cases e:vs[k]? with
 |none=>rw[e]at h;cases h
 |some v=>
  rw[e]at h;obtain⟨r,h1,h2⟩:=cA8 h;subst h2;exact⟨v,e,h1⟩
theorem cd1(h:vs[k]?=some v)(hr:r∈F9 ws v.2.1 7 v.1 [v.1]):(k,r)∈lns ws vs:=by
 refine List.mem_flatMap.mpr ⟨k,List.mem_range.mpr (V6 h),?_⟩;unfold ae5;rw[h];exact List.mem_map.mpr ⟨r,hr,rfl⟩
theorem bS9(N:N5 p ws vs)(k:Nat):(ae5 ws vs k).length<=59049:=by
 unfold ae5;cases vs[k]? with
 |none=>simp
 |some v=>dsimp only;rw[cJ3];exact(ag2 N).1
theorem au9(N:N5 p ws vs):(lns ws vs).length<=177147:=by
 have :=aQ7 (ae5 ws vs) 59049 (List.range vs.length) λk _=>bS9 N k
 rw[cJ4]at this;have h3:=N.v3;have :vs.length*59049<=3*59049:=cN3 _ h3;unfold lns;omega
theorem cp3(N:N5 p ws vs)(u v:Int):ai8 [.lst (ws.map k9),.lst [.int u],.int v]=some (.lst ((F9 ws v 7 u [u]).map M5)):=
 cy3 N 6 u v [] (cM5 (un5 N.p5 _) (by decide)) (by simp)
theorem bV7(N:N5 p ws vs)(u v:Int):aj4 [l7 p ws vs,.int u,.int v,.lst [.int u]]=some (.lst ((F9 ws v 7 u [u]).map M5)):=
 cu1 N 6 u v [u] (cM5 (un5 N.p5 _) (by decide)) (by simp)
theorem bv6(N:N5 p ws vs):ah8 [l7 p ws vs]=some (.lst ((lns ws vs).map C6)):=by
 rw[ah8,o0 1 _ _ _ rfl,aV8];rw[m8 (U':=[some (l7 p ws vs),some (.lst []),none,none]) rfl];have loop:=ae0 (st:=st2 2 3) (b:=az2 1 (gM [1] (l9 (itL (gN ai8 [d9 d7 e9,C4 [d9 n6 k8],d9 n6 e9])) 1 [2] (stN 0) t9 (A1 [e7,d7]))))
  (λi U=>∃a b,U=[some (l7 p ws vs),some (.lst (((List.range i).flatMap (ae5 ws vs)).map C6)),a,b]) (J2 0 (vs.map k9)) 0 [some (l7 p ws vs),some (.lst []),none,none] ⟨none,none,rfl⟩ (λi x hx U zz=>by
   obtain⟨a,b,hU⟩:=zz;subst hU;rw[cO1];obtain⟨v,e,rfl⟩:=bh3 hx;have hi:=V6 e;refine⟨[some (l7 p ws vs),some (.lst (((List.range i).flatMap (ae5 ws vs)).map C6)),some (.int (i:Int)),some (k9 v)],[some (l7 p ws vs),some (.lst (((List.range (i+1)).flatMap (ae5 ws vs)).map C6)),some (.int (i:Int)),some (k9 v)],rfl,?_,_,_,rfl⟩;have LR:(List.range (i+1)).flatMap (ae5 ws vs)=(List.range i).flatMap (ae5 ws vs)++ae5 ws vs i:=by rw[cL5,cH8];simp
   have Si:ae5 ws vs i=(F9 ws v.2.1 7 v.1 [v.1]).map λr=>(i,r):=by unfold ae5;rw[e]
   have ll:=cM5 (aH5 (show i+1<=vs.length by omega) (ae5 ws vs)) (au9 N);rw[LR,cJ2,Si,cJ3]at ll;have pl:=(ag2 N (goal:=v.2.1) (cur:=v.1) (n:=7) (seen:=[v.1])).1;have comp:(l9 (itL (gN ai8 [d9 d7 e9,C4 [d9 n6 k8],d9 n6 e9])) 1 [2] (stN 0) t9 (A1 [e7,d7])) [some (l7 p ws vs),none,some (.int (i:Int)),some (k9 v)]=some (.lst ((ae5 ws vs i).map C6)):=by
    rw[aQ6 (xs:=(F9 ws v.2.1 7 v.1 [v.1]).map M5) (f:=λt=>.tup [.int (i:Int),t])]
    .rw[Si,cK2,cK2];rfl
    .simp only[Q8,A5,av2,o7,y0,w8,y9,k7,cC1,cB3,jn,cB2,l7,k9,X5,ix0,ix1];rw[cp3 N];rfl
    .rw[cJ3];show _<=1000000;omega
    .intro x hx;exact⟨_,rfl,rfl⟩
   have mk:C7 [1] [some (l7 p ws vs),some (.lst (((List.range i).flatMap (ae5 ws vs)).map C6)),some (.int (i:Int)),some (k9 v)]=[some (l7 p ws vs),none,some (.int (i:Int)),some (k9 v)]:=rfl;simp only[az2,gM,mk,comp,cC1,cB3,jn,cB2];rw[cP2 (by rw[cJ3,cJ3,Si,cJ3];show _<=1000000;omega),LR,cK0];rfl)
 obtain⟨U',k1,a,b,rfl⟩:=loop;rw[cO1,ak1,cJ3]at k1;rw[m8 (U':=[some (l7 p ws vs),some (.lst ((lns ws vs).map C6)),a,b]) (by exact k1)];rfl
noncomputable def u9(ws vs:List Way):U5 where
 W:=vs.length
 P:=ws.length
 want:=rmW vs
 cap:=rmW ws
 n:=(lns ws vs).length
 of:=λl=>(((lns ws vs)[l]?).getD (0,[])).1
 on:=λl p=>(((lns ws vs)[l]?).getD (0,[])).2.contains p
theorem ak8(h:∀w∈ws,Q6 p w=true)(hk:k<ws.length):1<=rmW ws k/\rmW ws k<=20:=by
 unfold rmW;rw[cI3 hk];have :=h ws[k] (cJ1 hk);simp only[Q6,ak5,cC7,cP0]at this;show 1<=ws[k].2.2/\ws[k].2.2<=20;omega
theorem aM1(hl:l<(lns ws vs).length):∃k r v,(lns ws vs)[l]?=some (k,r)/\vs[k]?=some v/\r∈F9 ws v.2.1 7 v.1 [v.1]:=by
 obtain⟨v,h1,h2⟩:=bt3 (cJ1 hl);exact⟨_,_,v,cI3 hl,h1,h2⟩
theorem bs8(N:N5 p ws vs):(u9 ws vs).Ok where
 w0:=N.v1
 want:=λk hk=>by have :=ak8 N.vt hk;show 0<rmW vs k;omega
 cap:=λk hk=>by have :=ak8 N.wt hk;show 0<rmW ws k;omega
 of:=λl hl=>by
  obtain⟨k,r,v,h1,h2,_⟩:=aM1 hl;show(((lns ws vs)[l]?).getD (0,[])).1<vs.length;rw[h1];exact V6 h2
 on:=λl hl=>by
  obtain⟨k,r,v,h1,h2,h3⟩:=aM1 hl;have hv:=N.vt v (cK9 h2);have ne:=ca8 h3 (bh2 hv);obtain⟨j,r',rfl⟩:=List.exists_cons_of_ne_nil ne;refine⟨j,(aL7 7 h3).ix j cK7,?_⟩;show(((lns ws vs)[l]?).getD (0,[])).2.contains j=true;rw[h1];simp
def u8(f:Nat->Int)(n:Nat):List T:=mr n λj=>.int (f j)
def Q1(R:Nat->Nat->Int)(m L:Nat):List T:=mr (m+1) λi=>.lst (u8 (R i) (L+1))
def ar8(aB:Nat->Nat)(m:Nat):List T:=mr m λi=>.int (aB i:Int)
def bdA(q m L:Nat)(b:ABd):T:=bdT q (Q1 b.R m L) (ar8 b.aB m) b.u
noncomputable def ae4:Option Nat->T
 |some c=>.int (c:Int)
 |none=>.non
theorem aw7(q:Int)(rows os:List T)(u:Int):J6 "rows" (bdT q rows os u)=some (.lst rows):=rfl
theorem aE7(q:Int)(rows os:List T)(u:Int):J6 "owners" (bdT q rows os u)=some (.lst os):=rfl
theorem bc8(q:Int)(rows os:List T)(u:Int):J6 "under" (bdT q rows os u)=some (.int u):=rfl
theorem aU5(q:Int)(rows os:List T)(u:Int):J6 "sought" (bdT q rows os u)=some (.int q):=rfl
theorem bJ1(q:Int)(rows:List T)(u:Int):J6 "rows" (.obj fsV [.int q,.lst rows,.int u])=some (.lst rows):=rfl
theorem bz0(q:Int)(rows:List T)(u:Int):J6 "under" (.obj fsV [.int q,.lst rows,.int u])=some (.int u):=rfl
theorem L5(f:Nat->Int)(n:Nat):(u8 f n).length=n:=by simp[u8]
theorem bb4(R:Nat->Nat->Int)(m L:Nat):(Q1 R m L).length=m+1:=by simp[Q1]
theorem ao4(aB:Nat->Nat)(m:Nat):(ar8 aB m).length=m:=by simp[ar8]
theorem bi5{f:Nat->Int}{n j:Nat}(h:j<n):(u8 f n)[j]?=some (.int (f j)):=by simp[u8,h]
theorem aL1{f:Nat->Int}{n j:Nat}(h:j<n):z8 (.lst (u8 f n)) (.int (j:Int))=some (.int (f j)):=Y9 (bi5 h)
theorem an5{R:Nat->Nat->Int}{m L i:Nat}(h:i<m+1):z8 (.lst (Q1 R m L)) (.int (i:Int))=some (.lst (u8 (R i) (L+1))):=Y9 (by simp[Q1,h])
theorem bs7(h:i<m):z8 (.lst (ar8 aB m)) (.int (i:Int))=some (.int (aB i:Int)):=Y9 (by simp[ar8,h])
theorem aH3(f:Nat->Int)(n:Nat):z8 (.lst (u8 f (n+1))) (.int (-1))=some (.int (f n)):=by
 have :u8 f (n+1)=u8 f n++[.int (f n)]:=by unfold u8 mr;rw[cL5,cK0];rfl
 rw[this];exact aE2 _ _
theorem aS6(R:Nat->Nat->Int)(m L:Nat):z8 (.lst (Q1 R m L)) (.int (-1))=some (.lst (u8 (R m) (L+1))):=by
 have :Q1 R m L=(mr m λi=>.lst (u8 (R i) (L+1)))++[.lst (u8 (R m) (L+1))]:=by unfold Q1 mr;rw[cL5,cK0];rfl
 rw[this];exact aE2 _ _
theorem aH2{α:Type}(f:Nat->α)(n r:Nat)(x:α):(mr n f).set r x=mr n λi=>if i=r then x else f i:=by
 apply List.ext_getElem?;intro i;rw[List.getElem?_set];simp only[cI5,cJ3,cJ4];by_cases h:i<n
 .rw[cI6 h];by_cases e:r=i
  .subst e;simp[h]
  .simp[e];omega
 .rw[cI4 (by simpa using h)];by_cases e:r=i
  .subst e;simp[h]
  .simp[e]
structure Sz(m L:Nat)(b:ABd):Prop where
 up:0<b.u
 u:b.u.natAbs<2^100
 R:∀i j,i<m+1->j<L+1->(b.R i j).natAbs<2^100
theorem am2(h:x.natAbs<2^100):big x=true:=T9 h (by decide)
theorem bM7(f g:Nat->Int)(n:Nat):C8 (u8 f n) (u8 g n)=mr n λj=>.tup [.int (f j),.int (g j)]:=by
 have :∀l:List Nat,C8 (l.map λj=>.int (f j)) (l.map λj=>.int (g j))=l.map λj=>.tup [.int (f j),.int (g j)]:=by
  intro l;induction l with
  |nil=>rfl
  |cons a l ih=>simp only[cB4,C8,ih]
 exact this _
theorem bM1{m L q l r c:Nat}{b:ABd}(Z:Sz m L b)(hl:l<m+1)(hr:r<m+1)(hc:c<L+1)(hL:L+1<=lim):U7 [.lst (u8 (b.R l) (L+1)),.lst (u8 (b.R r) (L+1)),.int (c:Int),.int b.u]=some (.lst (u8 (λj=>(b.R l j*b.R r c-b.R r j*b.R l c)/b.u) (L+1))):=by
 rw[U7,o0 4 _ _ _ rfl,aJ7,y4];rw[aQ6 (xs:=mr (L+1) λj=>.tup [.int (b.R l j),.int (b.R r j)]) (f:=λt=>match t with |.tup [.int x,.int y]=>.int ((x*b.R r c-y*b.R l c)/b.u)|t=>t)]
 .rw[cK2];rfl
 .show(itZ d7 e7) _=_;rw[<-bM7];rfl
 .simpa using hL
 .intro x hx;obtain⟨j,hj,rfl⟩:=cA8 hx;have hj:=cB0 hj;refine⟨[some (.int (b.R l j)),some (.int (b.R r j)),some (.int b.u),some (.lst (u8 (b.R r) (L+1))),some (.int (c:Int)),some (.lst (u8 (b.R l) (L+1)))],rfl,?_⟩;simp only[w8,k7,cC1,cB3,jn,cB2,aL1 hc,L8 (am2 (Z.R l j hl hj)) (am2 (Z.R r c hr hc)),L8 (am2 (Z.R r j hr hj)) (am2 (Z.R l c hl hc)),aw8,ap1 Z.up (am2 Z.u)]
theorem bl0(f:Nat->Int)(n:Nat):as0 (.lst (u8 f n))=true:=by
 rw[as0];unfold u8 mr;generalize List.range n=l;induction l with
 |nil=>rfl
 |cons a l ih=>rw[cB4,at5,ih];rfl
theorem bH0(R:Nat->Nat->Int)(m L:Nat):as0 (.lst (Q1 R m L))=true:=by
 rw[as0];unfold Q1 mr;generalize List.range (m+1)=l;induction l with
 |nil=>rfl
 |cons a l ih=>rw[cB4,at5,ih,bl0];rfl
theorem cy4{q m L r c:Nat}{b:ABd}(Z:Sz m L b)(hr:r<m)(hc:c<L+1)(hL:L+1<=lim)(hm:m+1<=lim)(hp:0<b.R r c):am6 [bdA q m L b,.int (r:Int),.int (c:Int)]=some (bdA q m L (at0 b r c)):=by
 have hr1:r<m+1:=by omega
 unfold am6 aP4;rw[bo8];have st:o8 5 [bdA q m L b,.int (r:Int),.int (c:Int)]=[some (bdA q m L b),some (.int (r:Int)),some (.int (c:Int)),none,none]:=rfl;rw[st];have v1:∀x y z w,vw 0 [some (bdA q m L b),x,y,z,w]=[some (.obj fsV [.int (q:Int),.lst (Q1 b.R m L),.int b.u]),x,y,z,w]:=λ_ _ _ _=>rfl
 rw[m8 (U':=[some (bdA q m L b),some (.int (r:Int)),some (.int (c:Int)),some (.lst (u8 (b.R r) (L+1))),none])]
 .rw[m8 (U':=[some (bdA q m L b),some (.int (r:Int)),some (.int (c:Int)),some (.lst (u8 (b.R r) (L+1))),none])]
  .have comp:gV 0 (l9 (itL (g1 (J6 "rows") d7)) 1 [3,2,0] (stN 0) t9 (gN U7 [d7,e7,m7,g1 (J6 "under") n6])) [some (bdA q m L b),some (.int (r:Int)),some (.int (c:Int)),some (.lst (u8 (b.R r) (L+1))),none]=some (.lst (Q1 (λl j=>(b.R l j*b.R r c-b.R r j*b.R l c)/b.u) m L)):=by
    unfold gV;rw[v1];rw[aQ6 (xs:=Q1 b.R m L) (f:=λt=>match t with |.lst xs=>(U7 [.lst xs,.lst (u8 (b.R r) (L+1)),.int (c:Int),.int b.u]).getD .non|t=>t)]
    .have e:(Q1 b.R m L).map (λt=>match t with |.lst xs=>(U7 [.lst xs,.lst (u8 (b.R r) (L+1)),.int (c:Int),.int b.u]).getD .non|t=>t)=Q1 (λl j=>(b.R l j*b.R r c-b.R r j*b.R l c)/b.u) m L:=by
      unfold Q1;rw[cK2];refine cK1 λl hl=> ?_
      have hl:=cB0 hl;simp only[Function.comp];rw[bM1 (q:=q) Z hl hr1 hc hL];rfl
     rw[cB2,e,cP2 (bH0 _ m L)]
    .rfl
    .rw[bb4];exact hm
    .intro x hx;obtain⟨l,hl,rfl⟩:=cA8 hx;have hl:=cB0 hl;refine⟨[some (.lst (u8 (b.R l) (L+1))),some (.lst (u8 (b.R r) (L+1))),some (.int (c:Int)),some (.obj fsV [.int (q:Int),.lst (Q1 b.R m L),.int b.u])],rfl,?_⟩;simp only[A5,o7,y0,P4,k7,cC1,cB3,jn,cB2,bz0,bM1 (q:=q) Z hl hr1 hc hL];rfl
   unfold bf4;simp only[comp,k7,cC1,cB3,jn,cB2];unfold bw1 bdA bdT;simp only[aA4,aa7,bdP,bb4,ao4,L5,ao8 hr1,ao8 hr,ao8 hc,cB2,bi5 hc,cC2,cC3,cC1,jn];have e1:(Q1 (λl j=>(b.R l j*b.R r c-b.R r j*b.R l c)/b.u) m L).set r (T.lst (u8 (b.R r) (L+1)))=Q1 (at0 b r c).R m L:=by
    unfold Q1;rw[aH2];refine cK1 λl hl=> ?_
    show(if l=r then T.lst (u8 (b.R r) (L+1))else _)=T.lst (u8 (nxt b.R b.u r c l) (L+1));by_cases e:l=r
    .subst e;rw[cP2 rfl];congr 1;unfold u8;refine cK1 λj _=> ?_
     show _=T.int (if l=l then b.R l j else _);rw[cP2 rfl]
    .rw[cP1 e];congr 1;unfold u8;refine cK1 λj _=> ?_
     show _=T.int (if l=r then b.R r j else _);rw[cP1 e]
   have e2:(ar8 b.aB m).set r (T.int (c:Int))=ar8 (at0 b r c).aB m:=by
    unfold ar8;rw[aH2];refine cK1 λl hl=> ?_
    show _=T.int ((setN b.aB r c l:Nat):Int);unfold setN;split<;>rfl
   rw[e1,e2];rfl
  .rw[F0];simp only[D8,w8,y9,k7,cC1,cB3,jn,cB2,aL1 hc,ab4,D5];rw[cO8 (by omega)];rfl
 .rw[A8];unfold gV;rw[v1];simp only[w8,P4,k7,cC1,cB3,jn,cB2,bJ1,an5 hr1,bl0,if_true];rfl
theorem ce1(hc:c<n)(h1:f c<0)(h2:∀j,j<c->0<=f j):S7 f n=some c:=by
 cases e:S7 f n with
 |none=>have :=aI8 e c hc;omega
 |some d=>
  obtain⟨d1,d2,d3⟩:=ar4 e;rcases Nat.lt_trichotomy c d with q|q|q
  .have :=d3 c q;omega
  .rw[q]
  .have :=h2 d q;omega
theorem bT8(h:∀j,j<n->0<=f j):S7 f n=none:=by
 cases e:S7 f n with
 |none=>rfl
 |some d=>obtain⟨d1,d2,d3⟩:=ar4 e;have :=h d d1;omega
def bm6:GS:=sIf (bOf (g2 fLt m7 k8)) (t8 e7) A2
theorem bX0:∀(d k:Nat) (a x y:Option T),k+d=n->(∀j,j<k->0<=f j)->∃x' y',G8 (st2 1 2) bm6 (J2 k ((List.range' k d).map λj=>.int (f j))) [a,x,y]=some (match S7 f n with |some c=>.ret (.int (c:Int))|none=>.nx [a,x',y'])
 |0,k,a,x,y,h,hk=>⟨x,y,by rw[bT8 (λj hj=>hk j (by omega))];rfl⟩
 |d+1,k,a,x,y,h,hk=>by
  rw[List.range'_succ,cB4,J2,G8];have e1:st2 1 2 (.tup [.int (k:Int),.int (f k)]) [a,x,y]=some [a,some (.int (k:Int)),some (.int (f k))]:=rfl;rw[e1,cB2];have e2:bm6 [a,some (.int (k:Int)),some (.int (f k))]=if f k<0 then some (.ret (.int (k:Int)))else some (.nx [a,some (.int (k:Int)),some (.int (f k))]):=by
   unfold bm6;simp only[F0,D8,w8,y9,k7,cC1,cB3,jn,cB2,ab4,D5,cP0];rfl
  rw[e2];by_cases q:f k<0
  .rw[cP2 q,ce1 (by omega) q hk];exact⟨x,y,rfl⟩
  .rw[cP1 q];exact bX0 d (k+1) a _ _ (by omega) λj hj=>by
    by_cases e:j=k
    .subst e;omega
    .exact hk j (by omega)
theorem cz4(f:Nat->Int)(n:Nat):J3 [.lst (u8 f n)]=some (ae4 (S7 f n)):=by
 obtain⟨x',y',h⟩:=bX0 (f:=f) (n:=n) n 0 (some (.lst (u8 f n))) none none (by omega) (λj hj=>absurd hj (cN6 _));rw[<-List.range_eq_range']at h;rw[J3,o0 1 _ _ _ rfl,am4];have h':N6 (itE d7) (st2 1 2) (sIf (bOf (g2 fLt m7 k8)) (t8 e7) A2) (o8 3 [.lst (u8 f n)])=some (match S7 f n with |some c=>.ret (.int (c:Int))|none=>.nx [some (.lst (u8 f n)),x',y']):=h;cases e:S7 f n with
 |some c=>
  rw[e]at h';rw[Y6 h'];rfl
 |none=>
  rw[e]at h';rw[m8 h'];rfl
section
theorem cf4(Z:Sz m L b)(hc:c<L+1)(hi:i<m)(hk:k<m):ab9 [bdA q m L b,.int (c:Int),.int (i:Int),.int (k:Int)]=some (.bl (an2 b.R b.aB L c i k)):=by
 have i1:i<m+1:=by omega
 have k1:k<m+1:=by omega
 rw[ab9,o0 4 _ _ _ rfl,aJ8];have st:o8 7 [bdA q m L b,.int (c:Int),.int (i:Int),.int (k:Int)]=[some (bdA q m L b),some (.int (c:Int)),some (.int (i:Int)),some (.int (k:Int)),none,none,none]:=rfl;rw[st];rw[aq6 (t:=.lst (u8 (b.R i) (L+1))) (o:=_) (t7 (x:=.lst (Q1 b.R m L)) (y:=.int (i:Int)) rfl rfl (an5 i1)) rfl];rw[aq6 (t:=.lst (u8 (b.R k) (L+1))) (o:=_) (t7 (x:=.lst (Q1 b.R m L)) (y:=.int (k:Int)) rfl rfl (an5 k1)) rfl];simp only[cC2,cC3];rw[aq6 (t:=.int (b.R i L*b.R k c-b.R k L*b.R i c)) (o:=_) ?_ rfl]
 .simp only[cC2,cC3,y4,cm6,R0,D8,w8,P4,y9,k7,cC1,cB3,jn,cB2,ab4,P7,D5,bdA,aE7,bs7 hi,bs7 hk];unfold an2;by_cases h1:b.R i L*b.R k c-b.R k L*b.R i c<0
  .rw[cO9 h1];rfl
  .rw[cO8 h1];by_cases h2:b.R i L*b.R k c-b.R k L*b.R i c=0
   .rw[h2];simp only[Bool.false_or];have :decide ((b.aB i:Int)<(b.aB k:Int))=decide (b.aB i<b.aB k):=by
     by_cases h:b.aB i<b.aB k
     .rw[cO9 h,cO9 (by omega)]
     .rw[cO8 h,cO8 (by omega)]
    rw[this];rfl
   .have :(b.R i L*b.R k c-b.R k L*b.R i c==0)=false:=by simpa using h2
    rw[this,cO8 h2];rfl
 .simp only[w8,P4,y9,k7,cC1,cB3,jn,cB2,Z0,aH3,aL1 hc,L8 (am2 (Z.R i L i1 (by omega))) (am2 (Z.R k c k1 hc)),L8 (am2 (Z.R k L k1 (by omega))) (am2 (Z.R i c i1 hc)),aw8]
theorem cf7(h:tgt R aB L c n=some k):k<n:=(av5 h).1
theorem cu0(Z:Sz m L b)(hc:c<L+1)(hm:m<=lim):T5 [bdA q m L b,.int (c:Int)]=some (ae4 (tgt b.R b.aB L c m)):=by
 rw[T5,o0 2 _ _ _ rfl,aC3];have st:o8 4 [bdA q m L b,.int (c:Int)]=[some (bdA q m L b),some (.int (c:Int)),none,none]:=rfl;rw[st];rw[m8 (U':=[some (bdA q m L b),some (.int (c:Int)),some .non,none]) rfl];have loop:=at8 (k:=3) (n:=m) (b:=sIf (V4 (bOf (g2 fGt (d9 (d9 (g1 (J6 "rows") d7) n6) e7) k8)) (bOr (bOf (g2 (λx y=>match y with |.non=>aI9 x|_=>none) m7 (gC .non))) (bOf (gN ab9 [d7,e7,n6,m7])))) (u7 2 n6) A2)
  (λi U=>∃x,U=[some (bdA q m L b),some (.int (c:Int)),some (ae4 (tgt b.R b.aB L c i)),x]) [some (bdA q m L b),some (.int (c:Int)),some .non,none] ⟨none,rfl⟩ (λi hi U zz=>by
   obtain⟨x,hU⟩:=zz;subst hU;have i1:i<m+1:=by omega
   refine⟨[some (bdA q m L b),some (.int (c:Int)),some (ae4 (tgt b.R b.aB L c (i+1))),some (.int (i:Int))],?_,_,rfl⟩;simp only[cC2,cC3];have c1:(g2 fGt (d9 (d9 (g1 (J6 "rows") d7) n6) e7) k8) [some (bdA q m L b),some (.int (c:Int)),some (ae4 (tgt b.R b.aB L c i)),some (.int (i:Int))]=some (.bl (decide (0<b.R i c))):=by
    simp only[w8,P4,y9,k7,cC1,cB3,jn,cB2,bdA,aw7,an5 i1,aL1 hc,aB9]
   rw[tgt];by_cases h:0<b.R i c
   .rw[cP2 h];rw[cO9 h]at c1;cases e:tgt b.R b.aB L c i with
    |none=>
     rw[e]at c1;simp only[F0,ap2,bn9,D8,c1,cB2,D5,if_true];rfl
    |some k=>
     rw[e]at c1;have hk:=cf7 e;have t1:=cf4 (q:=q) (c:=c) (i:=i) (k:=k) Z hc hi (by omega);have d1:=M4 c1;have d2:(bOf (g2 (λx y=>match y with |.non=>aI9 x|_=>none) m7 (gC .non))) [some (bdA q m L b),some (.int (c:Int)),some (ae4 (some k)),some (.int (i:Int))]=some false:=rfl;have d3:(bOf (gN ab9 [d7,e7,n6,m7])) [some (bdA q m L b),some (.int (c:Int)),some (ae4 (some k)),some (.int (i:Int))]=some (an2 b.R b.aB L c i k):=M4 (u0 rfl t1);simp only[F0,ap2,bn9,d1,d2,d3,cB2,if_true,cD0,if_false];cases an2 b.R b.aB L c i k<;>rfl
   .rw[cP1 h];rw[cO8 h]at c1;simp only[F0,ap2,D8,c1,cB2,D5,cD0,if_false];rfl)
 obtain⟨U',k1,x,rfl⟩:=loop;rw[m8 (U':=[some (bdA q m L b),some (.int (c:Int)),some (ae4 (tgt b.R b.aB L c m)),x])]
 .rfl
 .rw[S5];have :(itR (gN C5 [g1 (J6 "owners") d7])) [some (bdA q m L b),some (.int (c:Int)),some .non,none]=some (G9 0 m):=by
   simp only[ar1,A5,o7,y0,P4,k7,cC1,jn,cB2,bdA,aE7,G7,aa7,ao4];rw[cP2 (by omega)];simp
  rw[this,cB2];exact k1
theorem cz9(hb:∀i,i<m->0<=b.R i L)(hm:m<=lim):X2 [bdA q m L b]=some .non:=by
 rw[X2,o0 1 _ _ _ rfl,ax5];rw[aq6 (t:=.lst []) (o:=some (.ret .non))]
 .rfl
 .have it:(itR (gN C5 [g1 (J6 "owners") d7])) (o8 2 [bdA q m L b])=some (G9 0 m):=by
   show(itR (gN C5 [g1 (J6 "owners") d7])) [some (bdA q m L b),none]=_;simp only[ar1,A5,o7,y0,P4,k7,cC1,jn,cB2,bdA,aE7,G7,aa7,ao4];rw[cP2 (by omega)];simp
  unfold l9;rw[it,cB2,cP2 (by rw[at3];exact hm)];rw[aq1 (c:=λ_=>false) (f:=λt=>t)]
  .simp
  .intro x hx;obtain⟨i,hi,rfl⟩:=al3 hx;refine⟨[some (.int (i:Int)),some (bdA q m L b)],rfl,?_,rfl⟩;simp only[D8,w8,P4,y9,k7,cC1,cB3,jn,cB2,Z0,bdA,aw7,an5 (show i<m+1 by omega),aH3,ab4,D5];have :=hb i hi;rw[cO8 (by omega)]
 .rfl
theorem cy9(hb:∀i,i<m->0<=b.R i L)(hm:m<=lim):ad9 [bdA q m L b]=some (bdA q m L b):=by
 unfold ad9 aP4;rw[as6];rw[m8 (U':=[some (bdA q m L b),some .non])]
 .rfl
 .rw[A8];unfold gF;show(((gN X2 [d7]) [some (bdA q m L b),none]).bind _).bind _=_;simp only[A5,o7,y0,k7,cC1,jn,cB2,cz9 hb hm];rfl
def bg2:G:=gF (gN J3 [gSl (d9 (g1 (J6 "rows") d7) (g1 L9 e9)) none (some (g1 L9 e9))])
def bn4:GB:=bOf (g2 (λx y=>match y with |.non=>aU7 x|_=>none) e7 (gC .non))
def aV3:GS:=n9 (aX7 0 am6 (gF (gN T5 [d7,e7])) (gF e7)) (u7 1 bg2)
theorem bU1(f:Nat->Int)(n:Nat):Z4 (u8 f (n+1)) none (some (-1))=u8 f n:=by
 unfold Z4 aP3;simp only[L5];rw[cP2 (by decide)];have :u8 f (n+1)=u8 f n++[.int (f n)]:=by unfold u8 mr;rw[cL5,cK0];rfl
 rw[this];have e:(-1+((n+1:Nat):Int)).toNat-0=n:=by omega
 rw[e,cH5,cM0 (by rw[L5];exact cM3 _),cM1 (by rw[L5];exact cM3 _)]
theorem bK1(x:Option T):bg2 [some (bdA q m L b),x]=some (ae4 (S7 (b.R m) L)):=by
 unfold bg2 gF;have :(gSl (d9 (g1 (J6 "rows") d7) (g1 L9 e9)) none (some (g1 L9 e9))) [some (bdA q m L b),x]=some (.lst (u8 (b.R m) L)):=by
  unfold gSl gPt;simp only[w8,P4,y9,k7,cC1,jn,cB2,Z0,bdA,aw7,aS6,aa7,bU1]
 simp only[A5,o7,y0,this,cB2,cz4];cases S7 (b.R m) L<;>rfl
theorem bK2(hL:L+1<=lim)(hm:m+1<=lim)(hz:∀b:ABd,St m L A s b.R b.aB b.u->Sz m L b):∀(k N:Nat) (b b':ABd),af1 m L N A s b.R b.aB b.u->clm m L k b=some b'->
  N2 bn4 aV3 k [some (bdA q m L b),some (ae4 (S7 (b.R m) L))]=some (.nx [some (bdA q m L b'),some .non])
 |0,_,_,_,_,h=>by cases h
 |k+1,N,b,b',W,h=>by
  rw[clm]at h;rw[N2];cases e:S7 (b.R m) L with
  |none=>
   rw[e]at h;cases h;rfl
  |some c=>
   rw[e]at h;dsimp only at h;obtain⟨c1,c2,c3⟩:=ar4 e;cases e2:tgt b.R b.aB L c m with
   |none=>rw[e2]at h;cases h
   |some r=>
    rw[e2]at h;dsimp only at h;obtain⟨r1,r2,r3⟩:=av5 e2;have Z:=hz b W.st;have Q:Stp m L b.R b.aB r c:=⟨c1,c2,c3,r1,r2,λi hi hp=>(r3 i hi hp).1,λi hi hp z=>(r3 i hi hp).2 z⟩
    have t:bn4 [some (bdA q m L b),some (ae4 (some c))]=some true:=rfl;rw[t,cB2,cP2 rfl];have bd:aV3 [some (bdA q m L b),some (ae4 (some c))]=some (.nx [some (bdA q m L (at0 b r c)),some (ae4 (S7 ((at0 b r c).R m) L))]):=by
     unfold aV3;rw[m8 (U':=[some (bdA q m L (at0 b r c)),some (ae4 (some c))])]
     .rw[A8,bK1,cB2];rfl
     .unfold aX7;have tr:=cu0 (q:=q) (b:=b) (c:=c) Z (by omega) (by omega);rw[e2]at tr;have g1':gF (gN T5 [d7,e7]) [some (bdA q m L b),some (ae4 (some c))]=some (.int (r:Int)):=by
       unfold gF;rw[u0 (xs:=[bdA q m L b,.int (c:Int)]) rfl tr];rfl
      have g2':gF e7 [some (bdA q m L b),some (ae4 (some c))]=some (.int (c:Int)):=rfl;rw[g1',cB2,g2',cB2];show((am6 [bdA q m L b,.int (r:Int),.int (c:Int)]).bind _)=_;rw[cy4 (q:=q) Z r1 (by omega) hL hm r2,cB2];rfl
    rw[bd];exact bK2 hL hm hz k (N+1) (at0 b r c) b' (W.step Q) h
theorem cz7(hL:L+1<=lim)(hm:m+1<=lim)(hm0:0<m)(hz:∀b:ABd,St m L A s b.R b.aB b.u->Sz m L b)(W:af1 m L 0 A s b.R b.aB b.u)(h:clm m L ((L+1)^m+1) b=some b'):aC5 [bdA q m L b]=some (bdA q m L b'):=by
 unfold aC5 aP4;rw[ba4];have st:o8 2 [bdA q m L b]=[some (bdA q m L b),none]:=rfl;rw[st];rw[m8 (U':=[some (bdA q m L b),some (ae4 (S7 (b.R m) L))])]
 .have fu:al7 [some (bdA q m L b),some (ae4 (S7 (b.R m) L))]=(L+1)^m+1:=by
   obtain⟨m',rfl⟩:∃m',m=m'+1:=⟨m-1,by omega⟩
   have e:Q1 b.R (m'+1) L=.lst (u8 (b.R 0) (L+1))::mr (m'+1) (λi=>.lst (u8 (b.R (i+1)) (L+1))):=by
    unfold Q1;unfold mr;rw[cL6,cB4,cK2];rfl
   unfold bdA bdT al7;rw[e];simp only[cC1,jn,L5,ao4]
  show(N2 bn4 aV3 (al7 _) _).bind _=_;rw[fu,bK2 hL hm hz _ 0 b b' W h];rfl
 .show u7 1 bg2 _=_;rw[A8,bK1,cB2];rfl
end
theorem af6(f:Nat->Int)(a b:Nat):u8 f (a+b)=u8 f a++u8 (λj=>f (a+j)) b:=by
 exact bH5
theorem ak7(h:∀j,j<n->f j=g j):u8 f n=u8 g n:=cK1 λj hj=>by rw[h j (cB0 hj)]
theorem bZ6(n:Nat):G9 0 n=mr n λi=>.int (i:Int):=by
 unfold G9;exact cK1 λi _=>by rw[cG4]
theorem ah4(h:g U=some (.int (n:Int)))(hn:n<=lim):itR g U=some (mr n λi=>.int (i:Int)):=by
 rw[ar1,h,cB2,aa7,cB2,cP2 (by omega),cG2,bZ6]
def aH0(m:Nat):List T:=mr m λi=>.lst (u8 (λj=>if j=i then 1 else 0) m)
theorem bv7(f g h:Nat->T)(l:List Nat):aa3 (l.map f) (l.map g) (l.map h)=l.map λi=>.tup [f i,g i,h i]:=by
 induction l with
 |nil=>rfl
 |cons a l ih=>simp only[cB4,aa3,ih]
theorem D4(g:Nat->T)(h1:it U=some (mr n f))(hl:n<=lim)(h:∀i,i<n->∃U1,st (f i) (X7 nT aC U)=some U1/\e U1=some (g i)):l9 it nT aC st t9 e U=some (.lst (mr n g)):=by
 simp only[l9,h1,cB2];rw[cP2 (by simpa using hl)];have :∀l:List Nat,(∀i∈l,i<n)->Y4 (X7 nT aC U) st t9 e (l.map f)=some (l.map g):=by
  intro l;induction l with
  |nil=>intro _;rfl
  |cons a l ih=>
   intro hl;obtain⟨U1,h2,h3⟩:=h a (hl a cK7);rw[cB4,Y4,h2,cB2,aZ9,cB2,cP2 rfl,h3,cB2,ih λi hi=>hl i (cK6 _ hi)];rfl
 rw[this _ λi hi=>cB0 hi];rfl
section
def R9(A:Nat->Vc)(q m:Nat):List T:=mr m λi=>.lst (u8 (λj=>A j i) q)
noncomputable def stA(q m:Nat)(A:Nat->Vc):ABd:=⟨λi j=>A j i,λi=>if i<m then q+i else q+m+1,1⟩
theorem cz1(P:ae7 q m A)(hg:∀j,j<q->A j m= -g j)(hb:∀i,i<m->A (q+m) i=bd i)(hq:q+m+1<=500000):aK6 [.lst (u8 g q),.lst (R9 A q m),.lst (u8 bd m)]=some (bdA q m (q+m) (stA q m A)):=by
 have lm:lim=1000000:=rfl;unfold aK6 bO0 by2 Gi1 Gi2 Gi3 Gi4 Gi5;have m0:C7 [0] (o8 5 [.non,.lst (u8 g q),.lst (R9 A q m),.lst (u8 bd m)])=[none,some (.lst (u8 g q)),some (.lst (R9 A q m)),some (.lst (u8 bd m)),none]:=rfl;have m1:∀sp,C7 [0] ((o8 5 [.non,.lst (u8 g q),.lst (R9 A q m),.lst (u8 bd m)]).set 4 (some sp))=[none,some (.lst (u8 g q)),some (.lst (R9 A q m)),some (.lst (u8 bd m)),some sp]:=λ_=>rfl
 have rl:(R9 A q m).length=m:=by simp[R9]
 have sp:(l9 (itR (gN C5 [m7])) 1 [2] (stN 0) t9 (l9 (itR (gN C5 [e7])) 1 [0] (stN 0) t9 (gIf (bOf (g2 fEq d7 e7)) e9 k8))) [none,some (.lst (u8 g q)),some (.lst (R9 A q m)),some (.lst (u8 bd m)),none]=some (.lst (aH0 m)):=by
  refine D4 (f:=λi=>.int (i:Int)) _ (ah4 (n:=m) ?_ (by omega)) (by omega) λi hi=>⟨[some (.int (i:Int)),some (.lst (R9 A q m))],rfl,?_⟩
  .simp only[A5,o7,y0,k7,cC1,cB3,jn,cB2,G7,rl]
  .refine D4 (f:=λi=>.int (i:Int)) (λj=>.int (if j=i then 1 else 0)) (ah4 (n:=m) ?_ (by omega)) (by omega) λj hj=>⟨[some (.int (j:Int)),some (.int (i:Int))],rfl,?_⟩
   .simp only[A5,o7,y0,k7,cC1,cB3,jn,cB2,G7,rl]
   .show(gIf (bOf (g2 fEq d7 e7)) e9 k8) [some (.int (j:Int)),some (.int (i:Int))]=_;unfold gIf;simp only[D8,w8,y9,k7,cC1,cB3,jn,cB2,P7,D5];by_cases e:j=i
    .subst e;simp
    .have e':¬((j:Int)=(i:Int)):=by omega
     rw[cP1 e];simp[e']
 rw[m0,sp,cB2,m1];have gq:(gN C5 [e7]) [none,some (.lst (u8 g q)),some (.lst (R9 A q m)),some (.lst (u8 bd m)),some (.lst (aH0 m))]=some (.int (q:Int)):=by
  simp only[A5,o7,y0,k7,cC1,cB3,jn,cB2,G7,L5]
 have gr:(l9 (bT3 m7 y6 n6) 3 [] (st3 0 1 2) t9 (g2 z0 (g2 z0 d7 e7) (C4 [m7]))) [none,some (.lst (u8 g q)),some (.lst (R9 A q m)),some (.lst (u8 bd m)),some (.lst (aH0 m))]=some (.lst (mr m λi=>.lst (u8 (λj=>A j i) (q+m+1)))):=by
  refine D4 (f:=λi=>.tup [.lst (u8 (λj=>A j i) q),.lst (u8 (λj=>if j=i then 1 else 0) m),.int (bd i)]) (λi=>.lst (u8 (λj=>A j i) (q+m+1))) ?_ (by omega) λi hi=>⟨[some (.lst (u8 (λj=>A j i) q)),some (.lst (u8 (λj=>if j=i then 1 else 0) m)),some (.int (bd i))],rfl,?_⟩
  .exact congrArg some (bv7 _ _ _ _)
  .simp only[w8,av2,o7,y0,k7,cC1,cB3,jn,cB2];rw[W5 (by rw[L5,L5,lm];omega),cB2,W5 (by rw[cJ2,L5,L5,lm];simp;omega)];have e:u8 (λj=>A j i) (q+m+1)=u8 (λj=>A j i) q++u8 (λj=>if j=i then 1 else 0) m++[.int (bd i)]:=by
    rw[af6,af6];congr 1
    .congr 1;exact ak7 λj hj=>by
      rw[P.aB j i hj (by omega)];by_cases e:j=i
      .subst e;simp
      .rw[cP1 λz=>e z.symm,cP1 e]
    .show[T.int (A (q+m+0) i)]=_;rw[Nat.add_zero,hb i hi]
   rw[e]
 have ga:(g2 z0 (l9 (itL e7) 1 [] (stN 0) t9 (g1 L9 d7)) (l9 (itR (g2 z0 (gN C5 [m7]) e9)) 1 [] (stN 0) t9 k8)) [none,some (.lst (u8 g q)),some (.lst (R9 A q m)),some (.lst (u8 bd m)),some (.lst (aH0 m))]=some (.lst (u8 (λj=>A j m) (q+m+1))):=by
  refine t7 (x:=.lst (u8 (λj=>A j m) q)) (y:=.lst (u8 (λ_=>0) (m+1))) ?_ ?_ ?_
  .refine D4 (f:=λj=>.int (g j)) (λj=>.int (A j m)) rfl (by omega) λj hj=>⟨[some (.int (g j))],rfl,?_⟩
   simp only[P4,k7,cC1,jn,cB2,Z0,hg j hj]
  .refine D4 (f:=λi=>.int (i:Int)) (λ_=>.int 0) (ah4 (n:=m+1) ?_ (by omega)) (by omega) λj hj=>⟨_,rfl,rfl⟩
   simp only[w8,y9,A5,o7,y0,k7,cC1,cB3,jn,cB2,G7,rl,Q5];rfl
  .rw[W5 (by rw[L5,L5,lm];omega)];rw[cM2,af6 (λj=>A j m) q (m+1)];congr 3;refine ak7 λj hj=> ?_
   show(0:Int)=A (q+j) m;by_cases e:j<m
   .rw[P.aB j m e (by omega),cP1 (by omega)]
   .rw[show j=m by omega,P.lz]
 have go:(l9 (itR (gN C5 [m7])) 1 [1] (stN 0) t9 (g2 z0 (gN C5 [e7]) d7)) [none,some (.lst (u8 g q)),some (.lst (R9 A q m)),some (.lst (u8 bd m)),some (.lst (aH0 m))]=some (.lst (ar8 (stA q m A).aB m)):=by
  refine D4 (f:=λi=>.int (i:Int)) (λi=>.int ((stA q m A).aB i:Int)) (ah4 (n:=m) ?_ (by omega)) (by omega) λi hi=>⟨[some (.int (i:Int)),some (.lst (u8 g q))],rfl,?_⟩
  .simp only[A5,o7,y0,k7,cC1,cB3,jn,cB2,G7,rl]
  .simp only[w8,A5,o7,y0,k7,cC1,cB3,jn,cB2,G7,L5,Q5];show _=some (T.int (((if i<m then q+i else q+m+1:Nat)):Int));rw[cP2 hi,Int.natCast_add]
 rw[gq,gr,ga,go];simp only[cB2];rw[cP2 (by simp[lm];omega)];unfold bdA Q1;unfold mr;rw[cL5,cK0];rfl
theorem aY4(h:0<u):nrm 0 u=fr 0 1:=by
 unfold nrm;rw[Int.gcd_zero_left,cG0 (by omega),Int.ediv_self (by omega)];simp
theorem ci0{U:A7}{r:List T}{i:Nat}{t:T}{gi g:G}(k:Nat)(h1:g U=some t)(h2:gi U=some (.int (i:Int)))(h3:(U[k]?).join=some (.lst r))(h4:i<r.length):aX6 k gi g U=some (.nx (U.set k (some (.lst (r.set i t))))):=by
 unfold aX6;rw[h1,cB2,h2,cB2,h3];dsimp only;rw[ao8 h4];rfl
theorem sIx_nat(n d k:Nat):aP3 n d (some (k:Int))=min k n:=by
 show(if(k:Int)<0 then((k:Int)+(n:Int)).toNat else min (k:Int).toNat n)=_;rw[cP1 (by omega),cG2]
theorem bC9(n d:Nat):aP3 (n+1) d (some (-1))=n:=by
 show(if(-1:Int)<0 then((-1:Int)+((n+1:Nat):Int)).toNat else min (-1:Int).toNat (n+1))=_;rw[cP2 (by decide)];omega
theorem cA3(Z:Sz m L b)(inj:∀i k,i<m->k<m->b.aB i=b.aB k->i=k)(hm:m<=lim)(hq:q<=lim):ah0 [bdA q m L b,.int 1]=some (.lst (mr q λj=>nrm (amt m L b.R b.aB j) b.u)):=by
 rw[ah0,o0 2 _ _ _ rfl,aK2];have st:o8 5 [bdA q m L b,.int 1]=[some (bdA q m L b),some (.int 1),none,none,none]:=rfl;rw[st];rw[m8 (U':=[some (bdA q m L b),some (.int 1),some (.lst (mr q λj=>nrm (amt 0 L b.R b.aB j) b.u)),none,none])]
 .have loop:=ae0 (st:=st2 3 4) (b:=sIf (bOf (g2 fLt y6 (g1 (J6 "sought") d7))) (aX6 2 y6 (gF (gN V9 [d9 (d9 (g1 (J6 "rows") d7) n6) (g1 L9 e9),g2 M0 (g1 (J6 "under") d7) e7]))) A2)
   (λi U=>∃x y,U=[some (bdA q m L b),some (.int 1),some (.lst (mr q λj=>nrm (amt i L b.R b.aB j) b.u)),x,y]) (J2 0 (ar8 b.aB m)) 0 [some (bdA q m L b),some (.int 1),some (.lst (mr q λj=>nrm (amt 0 L b.R b.aB j) b.u)),none,none] ⟨none,none,rfl⟩ (λi x hx U zz=>by
    obtain⟨y,z,hU⟩:=zz;subst hU;rw[cO1];obtain⟨t,h1,h2⟩:=aR4 hx;rw[cO1]at h2;have hi:i<m:=by have :=V6 h1;rw[ao4]at this;exact this
    have ht:t=.int (b.aB i:Int):=by
     have :(ar8 b.aB m)[i]?=some (.int (b.aB i:Int)):=by simp[ar8,hi]
     rw[this]at h1;cases h1;rfl
    subst ht;subst h2;refine⟨[some (bdA q m L b),some (.int 1),some (.lst (mr q λj=>nrm (amt i L b.R b.aB j) b.u)),some (.int (i:Int)),some (.int (b.aB i:Int))],[some (bdA q m L b),some (.int 1),some (.lst (mr q λj=>nrm (amt (i+1) L b.R b.aB j) b.u)),some (.int (i:Int)),some (.int (b.aB i:Int))],rfl,?_,_,_,rfl⟩;have nx:∀j,amt (i+1) L b.R b.aB j=if b.aB i=j then b.R i L else amt i L b.R b.aB j:=λj=>by
     unfold amt;rw[j6];by_cases e:b.aB i=j
     .rw[cP2 e,cP2 e,D9 λk hk=>cP1 λz=> ?_,cG4];have :=inj k i (by omega) hi (z.trans e.symm);omega
     .rw[cP1 e,cP1 e,cE2]
    have tst:(bOf (g2 fLt y6 (g1 (J6 "sought") d7))) [some (bdA q m L b),some (.int 1),some (.lst (mr q λj=>nrm (amt i L b.R b.aB j) b.u)),some (.int (i:Int)),some (.int (b.aB i:Int))]=some (decide (b.aB i<q)):=by
     simp only[D8,w8,P4,k7,cC1,cB3,jn,cB2,bdA,aU5,ab4,D5];by_cases e:b.aB i<q
     .rw[cO9 e,cO9 (by omega)]
     .rw[cO8 e,cO8 (by omega)]
    rw[F0,tst];by_cases e:b.aB i<q
    .rw[cO9 e,cB2,cP2 rfl];have red:V9 [.int (b.R i L),.int b.u]=some (nrm (b.R i L) b.u):=bg5 Z.up Z.u (by decide);have val:(gF (gN V9 [d9 (d9 (g1 (J6 "rows") d7) n6) (g1 L9 e9),g2 M0 (g1 (J6 "under") d7) e7])) [some (bdA q m L b),some (.int 1),some (.lst (mr q λj=>nrm (amt i L b.R b.aB j) b.u)),some (.int (i:Int)),some (.int (b.aB i:Int))]=some (nrm (b.R i L) b.u):=by
      unfold gF;simp only[A5,o7,y0,w8,P4,y9,k7,cC1,cB3,jn,cB2,Z0,bdA,aw7,bc8,an5 (show i<m+1 by omega),aH3,ah5 (show sm 1=true by decide),cF5,red];rfl
     have :=ci0 (U:=[some (bdA q m L b),some (.int 1),some (.lst (mr q λj=>nrm (amt i L b.R b.aB j) b.u)),some (.int (i:Int)),some (.int (b.aB i:Int))]) (gi:=y6) 2 val rfl rfl (by simpa using e);rw[this];simp only[cC2,cC3,aH2];have ee:(mr q λj=>if j=b.aB i then nrm (b.R i L) b.u else nrm (amt i L b.R b.aB j) b.u)=mr q λj=>nrm (amt (i+1) L b.R b.aB j) b.u:=cK1 λj _=>by
      rw[nx j];by_cases e2:b.aB i=j
      .rw[cP2 e2.symm,cP2 e2]
      .rw[cP1 λz=>e2 z.symm,cP1 e2]
     rw[ee]
    .rw[cO8 e,cB2];have :(mr q λj=>nrm (amt (i+1) L b.R b.aB j) b.u)=mr q λj=>nrm (amt i L b.R b.aB j) b.u:=cK1 λj hj=>by
      have hj:=cB0 hj;rw[nx j,cP1 (by omega)]
     rw[this];rfl)
  obtain⟨U',k1,x,y,rfl⟩:=loop;rw[cO1,ak1,ao4]at k1;rw[m8 (U':=[some (bdA q m L b),some (.int 1),some (.lst (mr q λj=>nrm (amt m L b.R b.aB j) b.u)),x,y])]
  .rfl
  .exact k1
 .have comp:(l9 (itR (g1 (J6 "sought") d7)) 1 [] (stN 0) t9 (gC T4)) [some (bdA q m L b),some (.int 1),none,none,none]=some (.lst (mr q λj=>nrm (amt 0 L b.R b.aB j) b.u)):=by
   refine D4 (f:=λi=>.int (i:Int)) _ (ah4 (n:=q) rfl hq) hq λj hj=>⟨_,rfl,?_⟩
   show some T4=some (nrm (j6 _ 0) b.u);rw[j6,aY4 Z.up];rfl
  rw[A8];unfold gFr gM;show(((l9 (itR (g1 (J6 "sought") d7)) 1 [] (stN 0) t9 (gC T4)) [some (bdA q m L b),some (.int 1),none,none,none]).bind _).bind _=_;rw[comp];rfl
theorem cy6(Z:Sz m (q+m) b)(hm:m<=lim):ai9 [bdA q m (q+m) b]=some (.lst (mr m λk=>nrm (b.R m (q+k)) b.u)):=by
 rw[ai9,o0 1 _ _ _ rfl,aO1,y4];have sl:(gSl (d9 (g1 (J6 "rows") d7) (g1 L9 e9)) (some (g1 (J6 "sought") d7)) (some (g1 L9 e9))) (o8 1 [bdA q m (q+m) b])=some (.lst (mr m λk=>.int (b.R m (q+k)))):=by
  unfold gSl gPt;simp only[w8,P4,y9,k7,o8,cB4,cB5,cB8,cB9,cC4,cC0,cC1,jn,cB2,Z0,bdA,aw7,aU5,aS6,aa7];congr 2;unfold Z4;rw[L5,sIx_nat,bC9,cN1 (by omega),cM2 q m 1,af6 (b.R m) q (m+1),List.drop_append_of_le_length (by rw[L5];exact cM3 _),cH4 (by rw[L5];exact cM3 _),cC0];have e:q+m-q=m:=by omega
  rw[e,af6,cM0 (by rw[L5];exact cM3 _),cM1 (by rw[L5];exact cM3 _)];rfl
 rw[D4 (n:=m) (f:=λk=>.int (b.R m (q+k))) (λk=>nrm (b.R m (q+k)) b.u)]
 .rfl
 .rw[Q8,sl];rfl
 .exact hm
 .intro k hk;refine⟨[some (.int (b.R m (q+k))),some (bdA q m (q+m) b)],rfl,?_⟩;simp only[A5,o7,y0,P4,k7,cC1,cB3,jn,cB2,bdA,bc8];exact bg5 Z.up Z.u (by decide)
end
theorem bn2:∀{k:Nat}{b b':ABd}(j:Nat),clm m L k b=some b'->clm m L (k+j) b=some b'
 |0,_,_,_,h=>by cases h
 |k+1,b,b',j,h=>by
  rw[show k+1+j=(k+j)+1 by omega,clm];rw[clm]at h;cases e:S7 (b.R m) L with
  |none=>rw[e]at h;exact h
  |some c=>
   rw[e]at h;dsimp only at h⊢;cases e2:tgt b.R b.aB L c m with
   |none=>rw[e2]at h;cases h
   |some r=>rw[e2]at h;exact bn2 j h
theorem bJ3:∀m,m<=11->fac (m+1)*20^(m+1)<2^100:=by decide
theorem bx5(N:N5 p ws vs)(j k:Nat):((u9 ws vs).A j k).natAbs<=20:=by
 have v:∀k,k<(u9 ws vs).W->((u9 ws vs).want k).natAbs<=20:=λk hk=>by have :=ak8 N.vt hk;show(rmW vs k).natAbs<=20;omega
 have w:∀k,k<(u9 ws vs).P->((u9 ws vs).cap k).natAbs<=20:=λk hk=>by have :=ak8 N.wt hk;show(rmW ws k).natAbs<=20;omega
 unfold U5.A;split
 .split
  .rename_i h;exact v k h
  .split<;>decide
 .split
  .split
   .split<;>decide
   .split
    .split<;>decide
    .decide
  .split
   .split<;>decide
   .split
    .split
     .decide
     .split
      .rename_i h1 h2;exact w _ (by unfold U5.m at h2;omega)
      .decide
    .split<;>decide
noncomputable def gl0:Nat->Int:=λj=>if j=0 then 1 else 0
noncomputable def bdN(ws vs:List Way):Nat->Int:=λi=>if i<vs.length then 0 else rmW ws (i-vs.length)
theorem cz5(bd:Nat->Int)(m:Nat):ac0 [.lst (mr m λi=>fr (bd i) 1)]=some (.int 1):=by
 rw[ac0,o0 1 _ _ _ rfl,aC4];rw[m8 (U':=[some (.lst (mr m λi=>fr (bd i) 1)),some (.int 1),none]) rfl];have loop:=ae0 (st:=stN 2) (b:=u7 1 (g2 M0 e7 (d9 m7 e9))) (λi U=>∃x,U=[some (.lst (mr m λi=>fr (bd i) 1)),some (.int 1),x]) (mr m λi=>fr (bd i) 1) 0 [some (.lst (mr m λi=>fr (bd i) 1)),some (.int 1),none] ⟨none,rfl⟩ (λi x hx U zz=>by
  obtain⟨y,hU⟩:=zz;subst hU;rw[cI5]at hx;cases e:(List.range m)[i]? with
  |none=>rw[e]at hx;cases hx
  |some k=>
   rw[e]at hx;cases hx;refine⟨[some (.lst (mr m λi=>fr (bd i) 1)),some (.int 1),some (fr (bd k) 1)],[some (.lst (mr m λi=>fr (bd i) 1)),some (.int 1),some (fr (bd k) 1)],rfl,?_,_,rfl⟩;simp only[A8,w8,y9,k7,cC1,cB3,jn,cB2,ix1,ah5 (show sm 1=true by decide),cF5,cC2,cC3])
 obtain⟨U',k1,x,rfl⟩:=loop;rw[m8 (U':=[some (.lst (mr m λi=>fr (bd i) 1)),some (.int 1),x]) (by exact k1)];rfl
structure aR9(ws vs:List Way)(u:Int)(x:Nat->Int)(price height:Nat->Int):Prop where
 B:U5.Best (u9 ws vs) u x price height
 us:u.natAbs<2^100
 xs:∀j,j<(u9 ws vs).q->(x j).natAbs<2^100
 ps:∀j,j<ws.length->(price j).natAbs<2^100
 hs:∀j,j<vs.length->(height j).natAbs<2^100
theorem cu5(N:N5 p ws vs):∃u x y,aR9 ws vs u x (λj=>y ((u9 ws vs).W+j)) y/\
  aC6 [.lst (u8 gl0 (u9 ws vs).q),.lst (R9 (u9 ws vs).A (u9 ws vs).q (u9 ws vs).m),.lst ((List.range (u9 ws vs).m).map λi=>fr (bdN ws vs i) 1)]=some (.tup [.lst ((List.range (u9 ws vs).q).map λj=>nrm (x j) u),.lst ((List.range (u9 ws vs).m).map λk=>nrm (y k) u)]):=by
 have O:=bs8 N;have P:=U5.prob O;have hW:(u9 ws vs).W=vs.length:=rfl;have hP:(u9 ws vs).P=ws.length:=rfl;have w0:=O.w0;have m11:(u9 ws vs).m<=11:=by have h1:=N.v3;have h2:=N.wl;show vs.length+ws.length<=11;omega
 have ql:(u9 ws vs).q<=177148:=by have h1:=au9 N;show 1+(lns ws vs).length<=177148;omega
 have m0:0<(u9 ws vs).m:=by unfold U5.m;omega
 have want0:∀j,j<(u9 ws vs).q->(u9 ws vs).A j (u9 ws vs).m= -gl0 j:=λj hj=>by
  rw[U5.goal j hj];unfold gl0;split<;>rfl
 have bd0:∀i,i<(u9 ws vs).m->(u9 ws vs).A ((u9 ws vs).q+(u9 ws vs).m) i=bdN ws vs i:=λi hi=>by
  unfold U5.A;rw[cP1 (by unfold U5.q;omega),cP1 (by omega),cP1 (by omega),cP2 rfl];unfold bdN;by_cases e:i<vs.length
  .rw[cP2 (by rw[hW];exact e),cP2 e]
  .rw[cP1 (by rw[hW];exact e),cP1 e,cP2 hi];rfl
 have smallA:∀j k,((u9 ws vs).A j k).natAbs<=20:=bx5 N;have init:=cz1 P want0 bd0 (by omega);generalize hdd:u9 ws vs=d at *;obtain⟨s,S0⟩:=P.start;have hz:∀b:ABd,St d.m (d.q+d.m) d.A s b.R b.aB b.u->Sz d.m (d.q+d.m) b:=λb S=>by
  obtain⟨h1,h2⟩:=S.T.small (K:=20) λj k _ _=>smallA j k
  have f:=bJ3 d.m m11;exact⟨S.T.pos,Nat.lt_of_le_of_lt h1 f,λi j hi hj=>Nat.lt_of_le_of_lt (h2 i j hi (by omega)) f⟩
 have W:af1 d.m (d.q+d.m) 0 d.A s (stA d.q d.m d.A).R (stA d.q d.m d.A).aB (stA d.q d.m d.A).u:=af1.start S0;have q0:0<d.q:=by unfold U5.q;omega
 obtain⟨b',c1,S,hb,h0⟩:=bn3 P U5.goal q0 (U5.noray O) ((d.q+d.m)^d.m) 0 (stA d.q d.m d.A) (by omega) W (.inr (by
  show d.A 0 d.m<0;rw[U5.goal 0 q0];decide))
 have Z:=hz b' S;have fu:(d.q+d.m)^d.m<=(d.q+d.m+1)^d.m:=Nat.pow_le_pow_left (by omega) _;have c2:=bn2 ((d.q+d.m+1)^d.m+1-(d.q+d.m)^d.m) c1;rw[show(d.q+d.m)^d.m+((d.q+d.m+1)^d.m+1-(d.q+d.m)^d.m)=(d.q+d.m+1)^d.m+1 by omega]at c2;have cl:=cz7 (q:=d.q) (by show _<=1000000;omega) (by show _<=1000000;omega) m0 hz W c2;have Bst:=U5.best O S hb h0;refine⟨b'.u,amt d.m (d.q+d.m) b'.R b'.aB,λk=>b'.R d.m (d.q+k),⟨hdd▸Bst,Z.u,λj hj=> ?_,λj hj=> ?_,λj hj=> ?_⟩,?_⟩
 .by_cases e:Bs d.m b'.aB j
  .obtain⟨i,hi,e⟩:=e;rw[<-e,cf2 S hi];exact Z.R i _ (by omega) (by omega)
  .rw[cf3 e];decide
 .exact Z.R _ _ (by omega) (by unfold U5.m;omega)
 .exact Z.R _ _ (by omega) (by unfold U5.m;omega)
 .rw[aC6,o0 3 _ _ _ rfl,bp3];have st:∀a b c,o8 5 [a,b,c]=[some a,some b,some c,none,none]:=λ_ _ _=>rfl
  rw[st];rw[aq6 (t:=.int 1) (o:=some (.ret (.tup [.lst (mr d.q λj=>nrm (amt d.m (d.q+d.m) b'.R b'.aB j) b'.u),.lst (mr d.m λk=>nrm (b'.R d.m (d.q+k)) b'.u)])))]
  .rfl
  .exact u0 rfl (cz5 _ _)
  .simp only[cC2,cC3];unfold bf5;have bds:(l9 (itL m7) 1 [3] (stN 0) t9 (g2 M0 (d9 d7 k8) (g2 K7 e7 (d9 d7 e9)))) [some (.lst (u8 gl0 d.q)),some (.lst (R9 d.A d.q d.m)),some (.lst (mr d.m λi=>fr (bdN ws vs i) 1)),some (.int 1),none]=some (.lst (u8 (bdN ws vs) d.m)):=by
    refine D4 (f:=λi=>fr (bdN ws vs i) 1) (λi=>.int (bdN ws vs i)) rfl (by show _<=1000000;omega) λi hi=>⟨[some (fr (bdN ws vs i) 1),some (.int 1)],rfl,?_⟩
    simp only[w8,y9,k7,cC1,cB3,jn,cB2,ix0,ix1,ap1 (show(0:Int)<1 by decide) (show big 1=true by decide +kernel)];rw[show(1:Int)/1=1 by decide,ah5 (by decide),cF5]
   simp only[o7,y0,k7,cC1,cB3,jn,cB2,bds,init,cy9 (q:=d.q) (b:=stA d.q d.m d.A) (m:=d.m) (L:=d.q+d.m) (λi hi=>S0.fe i hi) (by show _<=1000000;omega),cl,cC2,cC3];have am:=cA3 (q:=d.q) Z (λi k hi hk e=>(S.T.inj (l:=k) (i:=i) (by omega) (by omega) e)) (by show _<=1000000;omega) (by show _<=1000000;omega);have pr:=cy6 (q:=d.q) Z (by show _<=1000000;omega);simp only[U8,A5,o7,y0,k7,cC1,cB3,jn,cB2,am,pr]
theorem S6(hb:0<b):∃n d,nrm a b=fr n d/\0<d/\Int.gcd n d=1/\n*b=a*d:=by
 obtain⟨p1,p2,_,_⟩:=aI1 (n:=a) hb;refine⟨_,_,rfl,p1,p2,?_⟩;have ha:(Int.gcd a b:Int)*(a/(Int.gcd a b:Int))=a:=Int.mul_ediv_cancel' (Int.gcd_dvd_left ..);have hb':(Int.gcd a b:Int)*(b/(Int.gcd a b:Int))=b:=Int.mul_ediv_cancel' (cE6 ..);generalize a/(Int.gcd a b:Int)=x at *;generalize b/(Int.gcd a b:Int)=y at *;generalize(Int.gcd a b:Int)=g at *;rw[<-ha,<-hb',cF2,cE9]
theorem cl5(hd:0<d)(he:0<e)(g1:Int.gcd n d=1)(g2:Int.gcd m e=1)(h:n*e=m*d):n=m/\d=e:=by
 have h1:d.natAbs∣e.natAbs:=by
  have c:Nat.Coprime d.natAbs n.natAbs:=by rw[Nat.Coprime,Nat.gcd_comm];exact g1
  refine c.dvd_of_dvd_mul_right ⟨m.natAbs,?_⟩;have :=congrArg Int.natAbs h;rw[cF9,cF9]at this;rw[cN2,this,cN2]
 have h2:e.natAbs∣d.natAbs:=by
  have c:Nat.Coprime e.natAbs m.natAbs:=by rw[Nat.Coprime,Nat.gcd_comm];exact g2
  refine c.dvd_of_dvd_mul_right ⟨n.natAbs,?_⟩;have :=congrArg Int.natAbs h;rw[cF9,cF9]at this;rw[cN2,<-this,cN2]
 have e1:=Nat.dvd_antisymm h1 h2;have e2:d=e:=by omega
 subst e2;exact⟨cE5 (by omega) h,rfl⟩
theorem bk8(hb:0<b)(hd:0<d)(h:a*d=c*b):nrm a b=nrm c d:=by
 obtain⟨n,e,h1,h2,h3,h4⟩:=S6 (a:=a) hb;obtain⟨m,f,k1,k2,k3,k4⟩:=S6 (a:=c) hd;have :n*f=m*e:=by
  have z1:(n*f)*(b*d)=(m*e)*(b*d):=by
   calc (n*f)*(b*d)=(n*b)*(f*d):=by simp only[cF0,cF2]
    _=(a*e)*(f*d):=by rw[h4]
    _=(a*d)*(e*f):=by simp only[cF0,cF2]
    _=(c*b)*(e*f):=by rw[h]
    _=(c*f)*(b*e):=by simp only[cF0,cF2]
    _=(m*d)*(b*e):=by rw[k4]
    _=(m*e)*(b*d):=by simp only[cF0,cF2]
  exact cE5 (by have :=cF6 hb hd;omega) z1
 obtain⟨r1,r2⟩:=cl5 h2 k2 h3 k3 this;rw[h1,k1,r1,r2]
section
variable {u:Int}(hu:0<u)
include hu
theorem ao1(a b:Int):ae3 (nrm a u) (nrm b u)=nrm (a+b) u:=by
 obtain⟨n,e,h1,h2,h3,h4⟩:=S6 (a:=a) hu;obtain⟨m,f,k1,k2,k3,k4⟩:=S6 (a:=b) hu;rw[h1,k1];show nrm (n*f+m*e) (e*f)=_;refine bk8 (cF6 h2 k2) hu ?_
 calc (n*f+m*e)*u=(n*u)*f+(m*u)*e:=by rw[cE1];simp only[cF0,cF2]
  _=(a*e)*f+(b*f)*e:=by rw[h4,k4]
  _=(a+b)*(e*f):=by rw[cE1];simp only[cF0,cF2]
theorem aP9(a:Int):aH7 (nrm a u)=nrm (-a) u:=by
 obtain⟨n,e,h1,h2,h3,h4⟩:=S6 (a:=a) hu;rw[h1];show fr (-n) e=_;rw[<-aT4 (n:= -n) (d:=e) (by simpa[Int.gcd]using h3)];exact bk8 h2 hu (by rw[cG1,h4,cG1])
theorem bt7(a:Int):isZ (nrm a u)=decide (a=0):=by
 obtain⟨n,e,h1,h2,h3,h4⟩:=S6 (a:=a) hu;by_cases z:a=0
 .subst z;rw[aY4 hu];rfl
 .rw[h1,cO8 z];show(n==0&&e==1)=false;have :¬n=0:=λq=>by
   rw[q,cG5]at h4;rcases Int.mul_eq_zero.mp h4.symm with w|w
   .exact z w
   .omega
  rw[cB1 this];rfl
theorem bS7(a r:Int):aT8 (nrm a u) r=decide (r*u<a):=by
 obtain⟨n,e,h1,h2,h3,h4⟩:=S6 (a:=a) hu;rw[h1];show decide (r*e<n*1)=_;rw[cF5];by_cases z:r*u<a
 .rw[cO9 z,cO9];have :(r*u)*e<a*e:=cF3 z h2;rw[<-h4,cF7]at this;exact cE7 this (by omega)
 .rw[cO8 z,cO8];intro q;apply z;have :(r*e)*u<n*u:=cF3 q hu;rw[h4,cF7]at this;exact cE7 this (by omega)
theorem aS4(h1:a.natAbs<2^k)(h2:u.natAbs<2^k):Fz k (nrm a u):=bp4 hu h1 h2
theorem cA5(h0:0<=a)(h1:a.natAbs<2^k)(h2:u.natAbs<2^k):Am k (nrm a u):=bM6 hu h0 h1 h2
theorem cu2(h1:a.natAbs<2^k)(h2:b.natAbs<2^k)(h3:u.natAbs<2^k)(hk:k<=1000):X0 [nrm a u,nrm b u]=some (nrm (a+b) u):=by
 rw[(aK4 (aS4 hu h1 h3) (aS4 hu h2 h3) (by omega)).1,ao1 hu]
theorem cu3(h1:a.natAbs<2^k)(h2:b.natAbs<2^k)(h3:u.natAbs<2^k)(hk:k<=1000):ah7 [nrm a u,nrm b u]=some (nrm (a-b) u):=by
 rw[(co2 (aS4 hu h1 h3) (aS4 hu h2 h3) (by omega)).1,aP9 hu,ao1 hu];rfl
theorem bi7:∀(ks:List Int) (a:Int),ac5 (ks.map λk=>nrm k u) (nrm a u)=nrm (a+ks.sum) u
 |[],a=>by simp[ac5]
 |k::ks,a=>by
  have :=bi7 ks (a+k);unfold ac5 at this⊢;rw[cB4,cB6,ao1 hu,this,List.sum_cons,Int.add_assoc]
theorem ay0(ks:List Int):ac5 (ks.map λk=>nrm k u) (fr 0 1)=nrm ks.sum u:=by
 rw[<-aY4 hu,bi7 hu,cG4]
end
noncomputable def gtB:T->T->Bool
 |.tup [.int a,.int b],.tup [.int c,.int d]=>decide (c*b<a*d)
 |_,_=>false
theorem bA5(ht:Fz k t)(hs:Fz k s)(hk:k<=2000):W2 [t,s]=some (.bl (gtB t s))/\O2 [s,t]=some (.bl (gtB t s)):=by
 obtain⟨a,b,rfl,hb,_,ha',hb'⟩:=ht;obtain⟨c,d,rfl,hd,_,hc',hd'⟩:=hs;have B:∀{x:Int},x.natAbs<2^k->big x=true:=λh=>T9 h (by omega)
 constructor
 .rw[W2,o0 2 _ _ _ rfl,aJ9];simp only[y4,w8,y9,k7,o8,fr,cB4,cB5,cB8,cB9,cC4,cC0,cB3,cC1,jn,cB2,ix0,ix1,L8 (B ha') (B hd'),L8 (B hc') (B hb'),aB9,N4];rfl
 .rw[O2,o0 2 _ _ _ rfl,aJ5];simp only[y4,w8,y9,k7,o8,fr,cB4,cB5,cB8,cB9,cC4,cC0,cB3,cC1,jn,cB2,ix0,ix1,L8 (B ha') (B hd'),L8 (B hc') (B hb'),ab4,N4];rfl
theorem bI5(hu:0<u)(a c:Int):gtB (nrm a u) (nrm c u)=decide (c<a):=by
 obtain⟨n,e,h1,h2,h3,h4⟩:=S6 (a:=a) hu;obtain⟨m,f,k1,k2,k3,k4⟩:=S6 (a:=c) hu;rw[h1,k1];show decide (m*e<n*f)=_;have key:(m*e)*u=c*(e*f)/\(n*f)*u=a*(e*f):=by
  constructor
  .calc (m*e)*u=(m*u)*e:=by simp only[cF0,cF2]
    _=(c*f)*e:=by rw[k4]
    _=c*(e*f):=by simp only[cF0,cF2]
  .calc (n*f)*u=(n*u)*f:=by simp only[cF0,cF2]
    _=(a*e)*f:=by rw[h4]
    _=a*(e*f):=by simp only[cF0,cF2]
 have ef:=cF6 h2 k2;by_cases z:c<a
 .rw[cO9 z,cO9];have :c*(e*f)<a*(e*f):=cF3 z ef;rw[<-key.1,<-key.2]at this;exact cE7 this (by omega)
 .rw[cO8 z,cO8];intro q;apply z;have :(m*e)*u<(n*f)*u:=cF3 q hu;rw[key.1,key.2]at this;exact cE7 this (by omega)
noncomputable def W7(t:T)(z:Int):T:=match t with
 |.tup [.int a,.int b]=>nrm (a*z) b
 |t=>t
theorem bp6(ht:Fz k t)(hk:k<=3000)(z:Int)(hz:z.natAbs<2^60):av3 [t,fr z 1]=some (W7 t z)/\R6 [t,fr z 1]=some (W7 t z):=by
 obtain⟨a,b,rfl,hb,hg,ha',hb'⟩:=ht;have B:∀{x:Int},x.natAbs<2^k->big x=true:=λh=>T9 h (by omega)
 have b1:big 1=true:=T9 (k:=1) (by decide) (by decide);have bz:big z=true:=T9 hz (by decide);constructor
 .rw[av3,o0 2 _ _ _ rfl,bv3];simp only[y4,A5,o7,y0,w8,y9,k7,o8,fr,cB4,cB5,cB8,cB9,cC4,cC0,cB3,cC1,jn,cB2,ix0,ix1,L8 (B ha') bz,L8 (B hb') b1,cF5,bg5 hb hb' (by omega:k<=4000),N4];rfl
 .rw[R6,o0 2 _ _ _ rfl,aJ6];simp only[y4,A5,o7,y0,w8,y9,k7,o8,fr,cB4,cB5,cB8,cB9,cC4,cC0,cB3,cC1,jn,cB2,ix0,ix1,L8 (B ha') bz,L8 (B hb') b1,cF5,bV2 hb hb' (by omega:k<=4000),N4];rfl
theorem bp5(ht:Fz k t)(z:Int)(hz:z.natAbs<2^60):Fz (k+60) (W7 t z):=by
 obtain⟨a,b,rfl,hb,hg,ha',hb'⟩:=ht;refine bp4 hb ?_ (cM7 hb' (cN7 (by decide) (by omega)));rw[cF9];exact Y1 ha' hz
theorem av7(hu:0<u)(a z:Int):W7 (nrm a u) z=nrm (a*z) u:=by
 obtain⟨n,e,h1,h2,h3,h4⟩:=S6 (a:=a) hu;rw[h1];show nrm (n*z) e=_;refine bk8 h2 hu ?_;rw[cF7,h4,cF7]
noncomputable def aI7(v:Int):List Way->List Int->Int
 |w::ws,k::ks=>(hit w.2.1 v-hit w.1 v)*k+aI7 v ws ks
 |_,_=>0
theorem bm3(hu:0<u)(v:Int):∀(ws:List Way) (ks:List Int) (a:Int),P3 v ws (ks.map λk=>nrm k u) (nrm a u)=nrm (a+aI7 v ws ks) u
 |[],ks,a=>by simp[P3,aI7]
 |w::ws,[],a=>by simp[P3,aI7]
 |(x,y,r)::ws,k::ks,a=>by
  rw[cB4,P3];have :af0 v x y (nrm k u) (nrm a u)=nrm (a+(hit y v-hit x v)*k) u:=by
   unfold af0 hit;by_cases h1:y=v<;>by_cases h2:x=v
   .simp[h1,h2,aP9 hu,ao1 hu,Int.add_neg_cancel_right]
   .simp[h1,h2,ao1 hu]
   .simp[h1,h2,aP9 hu,ao1 hu]
   .simp[h1,h2]
  rw[this,bm3 hu v ws ks];congr 1;show _=a+((hit y v-hit x v)*k+aI7 v ws ks);omega
section
variable (of:Nat->Nat)(x:Nat->Int)(k:Nat)(w:Int)
noncomputable def lft:Nat->Int
 |0=>w
 |i+1=>lft i-(if of i=k then(if lft i<x i then lft i else x i)else 0)
noncomputable def tkn(i:Nat):Int:=if of i=k then(if lft of x k w i<x i then lft of x k w i else x i)else 0
variable {of x k w}
theorem bl5(i:Nat):lft of x k w (i+1)=lft of x k w i-tkn of x k w i:=rfl
theorem aM0:∀i,lft of x k w i=w-j6 (tkn of x k w) i
 |0=>by simp[lft,j6]
 |i+1=>by rw[bl5,aM0 i,j6];omega
theorem aI4(hx:∀i,0<=x i)(hw:0<=w):∀i,0<=lft of x k w i
 |0=>hw
 |i+1=>by
  have :=aI4 hx hw i;rw[lft];split
  .split<;>omega
  .omega
theorem bh7(hx:∀i,0<=x i)(hw:0<=w)(i:Nat):0<=tkn of x k w i:=by
 have :=aI4 (of:=of) (k:=k) hx hw i;have :=hx i;unfold tkn;split
 .split<;>omega
 .omega
theorem bC0(i:Nat):tkn of x k w i<=if of i=k then x i else 0:=by
 unfold tkn;split
 .split<;>omega
 .omega
theorem bH8(hx:∀i,0<=x i)(hw:0<=w):∀i,lft of x k w i=0\/lft of x k w i=w-j6 (λl=>if of l=k then x l else 0) i
 |0=>.inr (by simp[lft,j6])
 |i+1=>by
  rw[lft,j6];have :=hx i;rcases bH8 hx hw i with h|h
  .left;rw[h];split
   .split<;>omega
   .omega
  .by_cases e:of i=k
   .rw[cP2 e,cP2 e];by_cases q:lft of x k w i<x i
    .rw[cP2 q];left;omega
    .rw[cP1 q];right;omega
   .rw[cP1 e,cP1 e];right;omega
theorem bY3(hx:∀i,0<=x i)(hw:0<=w)(h:w<=j6 (λl=>if of l=k then x l else 0) n):j6 (tkn of x k w) n=w:=by
 have h1:=aM0 (of:=of) (x:=x) (k:=k) (w:=w) n;have h2:=aI4 (of:=of) (k:=k) hx hw n;rcases bH8 (of:=of) (k:=k) hx hw n with q|q<;>omega
theorem aO9(hx:∀i,0<=x i)(hw:0<=w)(c:Nat->Bool)(i:Nat):0<=j6 (λl=>if c l then tkn of x k w l else 0) i/\j6 (λl=>if c l then tkn of x k w l else 0) i<=w:=by
 have h1:=aM0 (of:=of) (x:=x) (k:=k) (w:=w) i;have h2:=aI4 (of:=of) (k:=k) hx hw i;have a:=ab0 (f:=λ_=>0) (g:=λl=>if c l then tkn of x k w l else 0) (n:=i) λl _=>by
  have :=bh7 (of:=of) (k:=k) hx hw l;split<;>omega
 have b:=ab0 (f:=λl=>if c l then tkn of x k w l else 0) (g:=tkn of x k w) (n:=i) λl _=>by
  have :=bh7 (of:=of) (k:=k) hx hw l;split<;>omega
 rw[T6]at a;omega
end
theorem bq3:∀{xs ys:List T}{i:Nat}{t:T},(C8 xs ys)[i]?=some t->∃a b,xs[i]?=some a/\ys[i]?=some b/\t=.tup [a,b]
 |[],_,i,t,h=>by simp[C8]at h
 |_::_,[],i,t,h=>by simp[C8]at h
 |x::xs,y::ys,0,t,h=>by simp[C8]at h;exact⟨x,y,rfl,rfl,h.symm⟩
 |x::xs,y::ys,i+1,t,h=>by
  rw[C8,cB3]at h;obtain⟨a,b,h1,h2,h3⟩:=bq3 h;exact⟨a,b,by simpa using h1,by simpa using h2,h3⟩
theorem ba7:∀xs ys:List T,xs.length=ys.length->(C8 xs ys).length=xs.length
 |[],_,_=>by simp[C8]
 |_::_,[],h=>by simp at h
 |x::xs,y::ys,h=>by simp[C8,ba7 xs ys (by simpa using h)]
theorem bI2(j:Nat)(r:List Nat):fIn (.int (j:Int)) (M5 r)=some (.bl (r.contains j)):=by
 have :X3 (r.map aY9)=some (r.map λ(i:Nat)=>(i:Int)):=by
  have :=aR0 (r.map λ(i:Nat)=>(i:Int));rwa[cK2]at this
 show(X3 (r.map aY9)).bind _=_;rw[this,cB2];congr 2;rw[cH1,cH1];by_cases h:j∈r
 .rw[cO9 h,cO9];exact List.mem_map.mpr ⟨j,h,rfl⟩
 .rw[cO8 h,cO8];intro z;obtain⟨i,h1,h2⟩:=cA8 z;apply h;have :i=j:=by omega
  rwa[<-this]
theorem aV0(f:Nat->T)(n:Nat):J2 0 (mr n f)=mr n λj=>.tup [.int (j:Int),f j]:=by
 have :∀(d k:Nat),J2 k ((List.range' k d).map f)=(List.range' k d).map λj=>.tup [.int (j:Int),f j]:=by
  intro d;induction d with
  |zero=>intro k;rfl
  |succ d ih=>intro k;rw[List.range'_succ,cB4,J2,ih (k+1)];rfl
 unfold mr;rw[List.range_eq_range'];exact this n 0
noncomputable def ofL(ls:List (Nat×List Nat))(l:Nat):Nat:=((ls[l]?).getD (0,[])).1
noncomputable def onL(ls:List (Nat×List Nat))(l p:Nat):Bool:=((ls[l]?).getD (0,[])).2.contains p
theorem cz3{u:Int}(hu:0<u){ls:List (Nat×List Nat)}{x:Nat->Int}{k P:Nat}{w:Int}(hx:∀i,0<=x i)(hw:0<=w)(bu:u.natAbs<2^200)(bw:w.natAbs<2^200)(bx:∀i,i<ls.length->(x i).natAbs<2^200)(hP:P<=lim):
  am8 [.int (P:Int),.lst (ls.map C6),.lst (mr ls.length λl=>nrm (x l) u),.int (k:Int),nrm w u]=some (.lst (mr P λj=>nrm (j6 (λl=>if onL ls l j then tkn (ofL ls) x k w l else 0) ls.length) u)):=by
 rw[am8,o0 5 _ _ _ rfl,aW1];have st:∀a b c d e,o8 10 [a,b,c,d,e]=[some a,some b,some c,some d,some e,none,none,none,none,none]:=λ_ _ _ _ _=>rfl
 rw[st]
 let A:=some (T.lst (mr ls.length λl=>nrm (x l) u))
 let row:=λi=>some (T.lst (mr P λj=>nrm (j6 (λl=>if onL ls l j then tkn (ofL ls) x k w l else 0) i) u))
 let lf:=λi=>some (nrm (lft (ofL ls) x k w i) u)
 show az4 (n9 _ _ [some (.int (P:Int)),some (.lst (ls.map C6)),A,some (.int (k:Int)),some (nrm w u),none,none,none,none,none])=_;rw[m8 (U':=[some (.int (P:Int)),some (.lst (ls.map C6)),A,some (.int (k:Int)),some (nrm w u),row 0,none,none,none,none])]
 .rw[m8 (U':=[some (.int (P:Int)),some (.lst (ls.map C6)),A,some (.int (k:Int)),some (nrm w u),row 0,lf 0,none,none,none]) rfl];have loop:=ae0 (st:=st2 7 8) (b:=sIf (bOf (g2 fEq (d9 V3 k8) n6)) (n9 (u7 9 (gIf (bOf (gN W2 [R7,D7])) D7 R7))
  (n9 (u7 6 (gN ah7 [D7,by7]))
  (u7 5 (l9 (itE A3) 2 [9,7] (st2 0 1) t9 (gIf (bOf (g2 fIn d7 (d9 n6 e9))) (gN X0 [e7,m7]) e7))))) A2)
   (λi U=>∃a b c,U=[some (.int (P:Int)),some (.lst (ls.map C6)),A,some (.int (k:Int)),some (nrm w u),row i,lf i,a,b,c]) (C8 (ls.map C6) (mr ls.length λl=>nrm (x l) u)) 0 [some (.int (P:Int)),some (.lst (ls.map C6)),A,some (.int (k:Int)),some (nrm w u),row 0,lf 0,none,none,none] ⟨none,none,none,rfl⟩ (λi t ht U zz=>by
    obtain⟨a,b,c,hU⟩:=zz;subst hU;rw[cO1];obtain⟨s,y,h1,h2,h3⟩:=bq3 ht;rw[cI5]at h1 h2;cases e:ls[i]? with
    |none=>rw[e]at h1;cases h1
    |some l=>
     rw[e]at h1;cases h1;have hi:=V6 e;rw[cI6 hi]at h2;cases h2;subst h3;have ofi:ofL ls i=l.1:=by unfold ofL;rw[e];rfl
     have oni:∀j,onL ls i j=l.2.contains j:=λj=>by unfold onL;rw[e];rfl
     have l0:=aI4 (of:=ofL ls) (k:=k) hx hw i;have lw:=aM0 (of:=ofL ls) (x:=x) (k:=k) (w:=w) i;have sp:0<=j6 (tkn (ofL ls) x k w) i/\j6 (tkn (ofL ls) x k w) i<=w:=by
      have :=aO9 (of:=ofL ls) (x:=x) (k:=k) (w:=w) hx hw (λ_=>true) i;simpa using this
     have bl:(lft (ofL ls) x k w i).natAbs<2^200:=by omega
     have t0:=bh7 (of:=ofL ls) (k:=k) hx hw i;have t1:=bC0 (of:=ofL ls) (x:=x) (k:=k) (w:=w) i;have x0:=hx i;have bxi:=bx i hi;have bt:(tkn (ofL ls) x k w i).natAbs<2^200:=by split at t1<;>omega
     have tst:(bOf (g2 fEq (d9 V3 k8) n6)) [some (.int (P:Int)),some (.lst (ls.map C6)),A,some (.int (k:Int)),some (nrm w u),row i,lf i,some (C6 l),some (nrm (x i) u),c]=some (decide (ofL ls i=k)):=by
      simp only[D8,w8,y9,k7,cC1,cB3,jn,cB2,C6,ix0,P7,D5,ofi];by_cases q:l.1=k
      .rw[q];simp
      .have :¬((l.1:Int)=(k:Int)):=by omega
       simp[q,this]
     by_cases q:ofL ls i=k
     .have tk:tkn (ofL ls) x k w i=if lft (ofL ls) x k w i<x i then lft (ofL ls) x k w i else x i:=by unfold tkn;rw[cP2 q]
      refine⟨[some (.int (P:Int)),some (.lst (ls.map C6)),A,some (.int (k:Int)),some (nrm w u),row i,lf i,some (C6 l),some (nrm (x i) u),c],[some (.int (P:Int)),some (.lst (ls.map C6)),A,some (.int (k:Int)),some (nrm w u),row (i+1),lf (i+1),some (C6 l),some (nrm (x i) u),some (nrm (tkn (ofL ls) x k w i) u)],rfl,?_,_,_,_,rfl⟩;rw[F0,tst,cO9 q,cB2,cP2 rfl];have mo:=(bA5 (aS4 hu bxi bu) (aS4 hu bl bu) (by decide)).1;rw[bI5 hu]at mo;rw[m8 (U':=[some (.int (P:Int)),some (.lst (ls.map C6)),A,some (.int (k:Int)),some (nrm w u),row i,lf i,some (C6 l),some (nrm (x i) u),some (nrm (tkn (ofL ls) x k w i) u)])]
      .rw[m8 (U':=[some (.int (P:Int)),some (.lst (ls.map C6)),A,some (.int (k:Int)),some (nrm w u),row i,lf (i+1),some (C6 l),some (nrm (x i) u),some (nrm (tkn (ofL ls) x k w i) u)])]
       .have comp:(l9 (itE A3) 2 [9,7] (st2 0 1) t9 (gIf (bOf (g2 fIn d7 (d9 n6 e9))) (gN X0 [e7,m7]) e7)) [some (.int (P:Int)),some (.lst (ls.map C6)),A,some (.int (k:Int)),some (nrm w u),row i,lf (i+1),some (C6 l),some (nrm (x i) u),some (nrm (tkn (ofL ls) x k w i) u)]=row (i+1):=by
         refine D4 (f:=λj=>.tup [.int (j:Int),nrm (j6 (λl=>if onL ls l j then tkn (ofL ls) x k w l else 0) i) u]) _ ?_ hP λj hj=>⟨[some (.int (j:Int)),some (nrm (j6 (λl=>if onL ls l j then tkn (ofL ls) x k w l else 0) i) u),some (nrm (tkn (ofL ls) x k w i) u),some (C6 l)],rfl,?_⟩
         .rw[cm5,Q8];show(some (J2 0 _))=_;rw[aV0]
         .have s2:=aO9 (of:=ofL ls) (x:=x) (k:=k) (w:=w) hx hw (λl=>onL ls l j) i;have pl:=cu2 hu (k:=200) (a:=j6 (λl=>if onL ls l j then tkn (ofL ls) x k w l else 0) i) (by omega) bt bu (by decide);unfold gIf;simp only[D8,w8,y9,k7,cC1,cB3,jn,cB2,C6,ix1,bI2,D5,A5,o7,y0,pl];rw[j6,oni j];cases l.2.contains j<;>simp
        rw[A8,comp];rfl
       .have mi:=cu3 hu (k:=200) bl bt bu (by decide);rw[A8];simp only[A5,o7,y0,k7,cC1,cB3,jn,cB2,lf,mi];rfl
      .rw[A8];unfold gIf;simp only[D8,A5,o7,y0,k7,cC1,cB3,jn,cB2,lf,mo,D5,tk];by_cases z:lft (ofL ls) x k w i<x i
       .rw[cO9 z,cP2 z];rfl
       .rw[cO8 z,cP1 z];rfl
     .have tz:tkn (ofL ls) x k w i=0:=by unfold tkn;rw[cP1 q]
      have r1:row (i+1)=row i:=by
       show some (T.lst _)=some (T.lst _);congr 2;refine cK1 λj _=> ?_
       rw[j6,tz];congr 1;split<;>omega
      have r2:lf (i+1)=lf i:=by
       show some (nrm (lft (ofL ls) x k w (i+1)) u)=_;rw[bl5,tz,Int.sub_zero]
      refine⟨[some (.int (P:Int)),some (.lst (ls.map C6)),A,some (.int (k:Int)),some (nrm w u),row i,lf i,some (C6 l),some (nrm (x i) u),c],[some (.int (P:Int)),some (.lst (ls.map C6)),A,some (.int (k:Int)),some (nrm w u),row i,lf i,some (C6 l),some (nrm (x i) u),c],rfl,?_,_,_,_,by rw[r1,r2]⟩;rw[F0,tst,cO8 q];rfl)
  obtain⟨U',k1,a,b,c,rfl⟩:=loop;rw[cO1,ba7 _ _ (by simp),cJ3]at k1;rw[m8 (U':=[some (.int (P:Int)),some (.lst (ls.map C6)),A,some (.int (k:Int)),some (nrm w u),row ls.length,lf ls.length,a,b,c]) (by exact k1)];rfl
 .have comp:(l9 (itR d7) 1 [] (stN 0) t9 (gC T4)) [some (.int (P:Int)),some (.lst (ls.map C6)),A,some (.int (k:Int)),some (nrm w u),none,none,none,none,none]=row 0:=by
   refine D4 (f:=λi=>.int (i:Int)) _ (ah4 (n:=P) rfl hP) hP λj hj=>⟨_,rfl,?_⟩
   show some T4=some (nrm (j6 _ 0) u);rw[j6,aY4 hu];rfl
  rw[A8,comp];rfl
theorem at7(d:α)(l:List α):l=mr l.length λi=>(l[i]?).getD d:=by
 apply List.ext_getElem?;intro i;rw[cI5];by_cases h:i<l.length
 .rw[cI6 h,cI3 h];simp[h]
 .rw[cI4 (by omega),cI4 (by simp;omega)];rfl
noncomputable def K0(vs:List Way)(k:Nat):T:=X5 (frW vs k) (toW vs k) (rmW vs k)
theorem O4(vs:List Way):vs.map k9=mr vs.length (K0 vs):=by
 conv=>lhs;rw[at7 (0,0,0) vs,cK2]
 rfl
theorem ax9(f g:Nat->T)(n:Nat):C8 (mr n f) (mr n g)=mr n λj=>.tup [f j,g j]:=by
 have :∀l:List Nat,C8 (l.map f) (l.map g)=l.map λj=>.tup [f j,g j]:=by
  intro l;induction l with
  |nil=>rfl
  |cons a l ih=>simp only[cB4,C8,ih]
 exact this _
theorem aX8(h:∀w∈ws,Q6 p w=true)(hk:k<ws.length):(rmW ws k).natAbs<2^60:=by
 have :=ak8 h hk;omega
theorem bA8(N:N5 p ws vs)(t:Nat->T)(ht:∀i,i<vs.length->Fz k (t i))(hk:k<=3000):V5 [l7 p ws vs,.lst (mr vs.length t)]=some (.lst (mr vs.length λi=>W7 (t i) (rmW vs i))):=by
 rw[V5,o0 2 _ _ _ rfl,aW2,y4];have h3:=N.v3;rw[D4 (n:=vs.length) (f:=λi=>.tup [t i,K0 vs i]) (λi=>W7 (t i) (rmW vs i))]
 .rfl
 .rw[<-ax9,<-O4];rfl
 .show _<=1000000;omega
 .intro i hi;refine⟨[some (t i),some (K0 vs i)],rfl,?_⟩;simp only[A5,U8,o7,y0,w8,y9,k7,cC1,cB3,jn,cB2,K0,X5,ix2];exact(bp6 (ht i hi) hk _ (aX8 N.vt hi)).1
theorem az5(ls:List (Nat×List Nat)):ls.map C6=mr ls.length λl=>C6 ((ls[l]?).getD (0,[])):=by
 conv=>lhs;rw[at7 (0,[]) ls,cK2]
 rfl
theorem cc6(hk:k<vs.length):(u9 ws vs).A 0 k=rmW vs k:=by
 have hW:k<(u9 ws vs).W:=hk;unfold U5.A;rw[cP2 rfl,cP2 hW];rfl
theorem cc5(hk:k<vs.length)(hl:l<(lns ws vs).length):(u9 ws vs).A (1+l) k=if ofL (lns ws vs) l=k then -1 else 0:=by
 have hW:k<(u9 ws vs).W:=hk;have hq:1+l<(u9 ws vs).q:=by show 1+l<1+(lns ws vs).length;omega
 unfold U5.A;rw[cP1 (show¬(1+l=0) by omega),cP2 hq,cP2 hW,show 1+l-1=l by omega];rfl
theorem cc8(hj:j<ws.length):(u9 ws vs).A 0 (vs.length+j)=0:=by
 have hW:¬vs.length+j<(u9 ws vs).W:=by show¬vs.length+j<vs.length;omega
 have hm:vs.length+j<(u9 ws vs).m:=by show vs.length+j<vs.length+ws.length;omega
 unfold U5.A;rw[cP2 rfl,cP1 hW,cP2 hm]
theorem cc7(hj:j<ws.length)(hl:l<(lns ws vs).length):(u9 ws vs).A (1+l) (vs.length+j)=if onL (lns ws vs) l j then 1 else 0:=by
 have hW:¬vs.length+j<(u9 ws vs).W:=by show¬vs.length+j<vs.length;omega
 have hm:vs.length+j<(u9 ws vs).m:=by show vs.length+j<vs.length+ws.length;omega
 have hq:1+l<(u9 ws vs).q:=by show 1+l<1+(lns ws vs).length;omega
 have e:vs.length+j-(u9 ws vs).W=j:=by show vs.length+j-vs.length=j;omega
 unfold U5.A;rw[cP1 (show¬(1+l=0) by omega),cP2 hq,cP1 hW,cP2 hm,show 1+l-1=l by omega,e];rfl
section
variable (N:N5 p ws vs)
include N
theorem ct8(k:Nat)(hk:k<vs.length):am5 [.int (rmW vs k),.lst ((lns ws vs).map C6),.non,.int (k:Int)]=some (.lst (u8 (λj=>(u9 ws vs).A j k) (u9 ws vs).q)):=by
 have ll:=au9 N;rw[am5,o0 4 _ _ _ rfl,aV5,y4];rw[t7 (x:=.lst [.int (rmW vs k)]) (y:=.lst (u8 (λl=>if ofL (lns ws vs) l=k then -1 else 0) (lns ws vs).length)) (z:=.lst (u8 (λj=>(u9 ws vs).A j k) (u9 ws vs).q))]
 .rfl
 .rfl
 .rw[az5];refine D4 (f:=λl=>C6 (((lns ws vs)[l]?).getD (0,[]))) (λl=>.int (if ofL (lns ws vs) l=k then -1 else 0)) rfl (by show _<=1000000;omega) λl hl=>⟨[some (C6 (((lns ws vs)[l]?).getD (0,[]))),some (.int (k:Int))],rfl,?_⟩
  unfold gIf;simp only[D8,w8,P4,y9,k7,cC1,cB3,jn,cB2,C6,ix0,P7,D5,Z0];show(if((ofL (lns ws vs) l:Int)==(k:Int))=true then _ else _)=_;by_cases e:ofL (lns ws vs) l=k
  .rw[e];simp
  .have :¬((ofL (lns ws vs) l:Int)=(k:Int)):=by omega
   simp[e,this]
 .rw[W5 (by rw[L5];simp;show _<=1000000;omega)];have :u8 (λj=>(u9 ws vs).A j k) (u9 ws vs).q=u8 (λj=>(u9 ws vs).A j k) 1++u8 (λl=>(u9 ws vs).A (1+l) k) (lns ws vs).length:=af6 _ 1 _;rw[this];congr 3
  .show[T.int _]=[T.int ((u9 ws vs).A 0 k)];rw[cc6 hk]
  .exact ak7 λl hl=>(cc5 hk hl).symm
theorem ct7(j:Nat)(hj:j<ws.length):ar6 [.lst ((lns ws vs).map C6),.int (j:Int)]=some (.lst (u8 (λi=>(u9 ws vs).A i (vs.length+j)) (u9 ws vs).q)):=by
 have ll:=au9 N;rw[ar6,o0 2 _ _ _ rfl,be2,y4];rw[t7 (x:=.lst [.int 0]) (y:=.lst (u8 (λl=>if onL (lns ws vs) l j then 1 else 0) (lns ws vs).length)) (z:=.lst (u8 (λi=>(u9 ws vs).A i (vs.length+j)) (u9 ws vs).q))]
 .rfl
 .rfl
 .rw[az5];refine D4 (f:=λl=>C6 (((lns ws vs)[l]?).getD (0,[]))) (λl=>.int (if onL (lns ws vs) l j then 1 else 0)) rfl (by show _<=1000000;omega) λl hl=>⟨[some (C6 (((lns ws vs)[l]?).getD (0,[]))),some (.int (j:Int))],rfl,?_⟩
  unfold gIf;simp only[D8,w8,y9,k7,cC1,cB3,jn,cB2,C6,ix1,bI2,D5];show(if onL (lns ws vs) l j=true then _ else _)=_;cases onL (lns ws vs) l j<;>rfl
 .rw[W5 (by rw[L5];simp;show _<=1000000;omega)];have :u8 (λi=>(u9 ws vs).A i (vs.length+j)) (u9 ws vs).q=u8 (λi=>(u9 ws vs).A i (vs.length+j)) 1++u8 (λl=>(u9 ws vs).A (1+l) (vs.length+j)) (lns ws vs).length:=af6 _ 1 _;rw[this];congr 3
  .show[T.int _]=[T.int ((u9 ws vs).A 0 (vs.length+j))];rw[cc8 hj]
  .exact ak7 λl hl=>(cc7 hj hl).symm
theorem cA0:aq4 [l7 p ws vs,.lst (mr vs.length λ_=>.non)]=some (.lst ((List.range (u9 ws vs).m).map λi=>fr (bdN ws vs i) 1)):=by
 have h3:=N.v3;have h8:=N.wl;rw[aq4,o0 2 _ _ _ rfl,aO6];rw[aq6 (t:=.lst (mr vs.length λ_=>fr 0 1)) (o:=some (.ret (.lst ((List.range (u9 ws vs).m).map λi=>fr (bdN ws vs i) 1))))]
 .rfl
 .refine u0 (xs:=[l7 p ws vs,.lst (mr vs.length λ_=>fr 0 1)]) (t5 rfl (t5 (D4 (f:=λ_=>.non) _ rfl (by show _<=1000000;omega) λi hi=>⟨_,rfl,rfl⟩) rfl)) ?_;rw[bA8 N (k:=1) (λ_=>fr 0 1) (λ_ _=>ar5 0 (.inl rfl)) (by decide)];congr 2;refine cK1 λi _=> ?_
  show nrm (0*rmW vs i) 1=_;rw[cG5,aY4 (by decide)]
 .rw[y4];have w:(l9 (itL (d9 d7 e9)) 1 [] (stN 0) t9 (A1 [d9 d7 v8,e9])) ((o8 3 [l7 p ws vs,.lst (mr vs.length λ_=>.non)]).set 2 (some (.lst (mr vs.length λ_=>fr 0 1))))=some (.lst (mr ws.length λi=>fr (rmW ws i) 1)):=by
   refine D4 (f:=K0 ws) _ ?_ (by show _<=1000000;omega) λi hi=>⟨[some (K0 ws i)],rfl,?_⟩
   .rw[<-O4];rfl
   .simp only[U8,o7,y0,w8,y9,k7,cC1,jn,cB2,K0,X5,ix2]
  rw[t7 (x:=.lst (mr vs.length λ_=>fr 0 1)) rfl w (z:=.lst ((List.range (u9 ws vs).m).map λi=>fr (bdN ws vs i) 1))]
  .rfl
  .rw[W5 (by simp;show _<=1000000;omega)];have :(u9 ws vs).m=vs.length+ws.length:=rfl;rw[this,cL4,cK0,cK2];congr 3
   .refine cK1 λi hi=> ?_
    have :=cB0 hi;unfold bdN;rw[cP2 this]
   .refine cK1 λi hi=> ?_
    show _=fr (bdN ws vs (vs.length+i)) 1;unfold bdN;rw[cP1 (by omega),show vs.length+i-vs.length=i by omega]
noncomputable def ac8(ws vs:List Way)(x:Nat->Int)(k j:Nat):Int:=j6 (λl=>if onL (lns ws vs) l j then tkn (ofL (lns ws vs)) (λl=>x (1+l)) k (x 0*rmW vs k) l else 0) (lns ws vs).length
def P5(ws vs:List Way)(u:Int)(x:Nat->Int):List (List T):=mr vs.length λk=>mr ws.length λj=>nrm (ac8 ws vs x k j) u
def ae8(ws vs:List Way)(u:Int)(x y:Nat->Int):T:=.tup [nrm (x 0) u,.lst ((P5 ws vs u x).map T.lst),.tup [.lst (mr ws.length λj=>nrm (y (vs.length+j)) u),.lst (mr vs.length λk=>nrm (y k) u)]]
theorem cy5:∃u x y,aR9 ws vs u x (λj=>y ((u9 ws vs).W+j)) y/\ax8 [l7 p ws vs,.lst (mr vs.length λ_=>.non)]=some (ae8 ws vs u x y):=by
 obtain⟨u,x,y,TD,bst⟩:=cu5 N;refine⟨u,x,y,TD,?_⟩;have h3:=N.v3;have h8:=N.wl;have hu:=TD.B.pos;have ll:=au9 N;have hq:(u9 ws vs).q=1+(lns ws vs).length:=rfl;have hm:(u9 ws vs).m=vs.length+ws.length:=rfl;have us2:u.natAbs<2^200:=cM7 TD.us (cN7 (by decide) (by decide));rw[ax8,o0 2 _ _ _ rfl,bo9]
 let n:=l7 p ws vs
 let h:=T.lst (mr vs.length λ_=>T.non)
 let la:=T.lst ((lns ws vs).map C6)
 let W:=T.int (vs.length:Int)
 let r1:=T.lst (mr vs.length λk=>T.lst (u8 (λj=>(u9 ws vs).A j k) (u9 ws vs).q))
 let r2:=T.lst (R9 (u9 ws vs).A (u9 ws vs).q (u9 ws vs).m)
 let bt:=T.tup [.lst ((List.range (u9 ws vs).q).map λj=>nrm (x j) u),.lst ((List.range (u9 ws vs).m).map λk=>nrm (y k) u)]
 let wt:=T.lst (mr vs.length λk=>nrm (x 0*rmW vs k) u)
 let fl:=T.lst ((P5 ws vs u x).map T.lst)
 have st:o8 9 [l7 p ws vs,.lst (mr vs.length λ_=>.non)]=[some n,some h,none,none,none,none,none,none,none]:=rfl;rw[st];rw[m8 (U':=[some n,some h,some la,none,none,none,none,none,none]) ?a1];rw[m8 (U':=[some n,some h,some la,some W,none,none,none,none,none]) ?a2];rw[m8 (U':=[some n,some h,some la,some W,some r1,none,none,none,none]) ?a3];rw[m8 (U':=[some n,some h,some la,some W,some r2,none,none,none,none]) ?a4];rw[m8 (U':=[some n,some h,some la,some W,some r2,some bt,none,none,none]) ?a5];rw[m8 (U':=[some n,some h,some la,some W,some r2,some bt,some (nrm (x 0) u),none,none]) ?a6];rw[m8 (U':=[some n,some h,some la,some W,some r2,some bt,some (nrm (x 0) u),some wt,none]) ?a7];rw[m8 (U':=[some n,some h,some la,some W,some r2,some bt,some (nrm (x 0) u),some wt,some fl]) ?a8]
 case a1=>
  show(ah8 [l7 p ws vs]).bind _=_;rw[bv6 N];rfl
 case a2=>
  show some (Out.nx [some n,some h,some la,some (.int ((vs.map k9).length:Int)),none,none,none,none,none])=_;rw[cJ3]
 case a3=>
  have comp:(l9 (itR n6) 1 [2,1,0] (stN 0) t9 (gN am5 [d9 (d9 (d9 n6 v8) d7) v8,e7,d9 m7 d7,d7])) [some n,some h,some la,some W,none,none,none,none,none]=some r1:=by
   refine D4 (f:=λi=>.int (i:Int)) _ (ah4 (n:=vs.length) rfl (by show _<=1000000;omega)) (by show _<=1000000;omega) λk hk=>⟨[some (.int (k:Int)),some la,some h,some n],rfl,?_⟩
   have e1:z8 (.lst (vs.map k9)) (.int (k:Int))=some (K0 vs k):=Y9 (by rw[O4];simp[hk]);have e2:z8 (.lst (mr vs.length λ_=>T.non)) (.int (k:Int))=some .non:=Y9 (by simp[hk]);have e3:z8 (K0 vs k) (.int 2)=some (.int (rmW vs k)):=by simp only[K0,X5,ix2]
   have e4:z8 n (.int 2)=some (.lst (vs.map k9)):=by show z8 (l7 p ws vs) _=_;simp only[l7,ix2]
   refine u0 (xs:=[.int (rmW vs k),la,.non,.int (k:Int)]) (t5 (t7 (t7 (t7 rfl rfl e4) rfl e1) rfl e3) (t5 rfl (t5 (t7 rfl rfl e2) rfl))) (ct8 N k hk)
  rw[A8];unfold gFr gM;show(((l9 _ 1 [2,1,0] (stN 0) t9 _) [some n,some h,some la,some W,none,none,none,none,none]).bind _).bind _=_;rw[comp];rfl
 case a4=>
  have comp:(l9 (itR (gN C5 [d9 d7 e9])) 1 [2] (stN 0) t9 (gN ar6 [e7,d7])) [some n,some h,some la,some W,none,none,none,none,none]=some (.lst (mr ws.length λj=>T.lst (u8 (λi=>(u9 ws vs).A i (vs.length+j)) (u9 ws vs).q))):=by
   have e4:z8 n (.int 1)=some (.lst (ws.map k9)):=by show z8 (l7 p ws vs) _=_;simp only[l7,ix1]
   refine D4 (f:=λi=>.int (i:Int)) _ (ah4 (n:=ws.length) ?_ (by show _<=1000000;omega)) (by show _<=1000000;omega) λj hj=>⟨[some (.int (j:Int)),some la],rfl,u0 rfl (ct7 N j hj)⟩
   refine u0 (t5 (t7 rfl rfl e4) rfl) ?_;rw[G7,cJ3]
  unfold az2 gM;show((l9 _ 1 [2] (stN 0) t9 _) [some n,some h,some la,some W,none,none,none,none,none]).bind _=_;rw[comp,cB2];show(if _ then _ else _)=_;rw[cP2 (by simp;show _<=1000000;omega)];show some (Out.nx [some n,some h,some la,some W,some (.lst _),none,none,none,none])=_;have :R9 (u9 ws vs).A (u9 ws vs).q (u9 ws vs).m=(mr vs.length λk=>T.lst (u8 (λj=>(u9 ws vs).A j k) (u9 ws vs).q))++mr ws.length λj=>T.lst (u8 (λi=>(u9 ws vs).A i (vs.length+j)) (u9 ws vs).q):=by
   unfold R9;rw[hm,bH5]
  show _=some (Out.nx [some n,some h,some la,some W,some (.lst (R9 (u9 ws vs).A (u9 ws vs).q (u9 ws vs).m)),none,none,none,none]);rw[this]
 case a5=>
  have gl:(g2 z0 (C4 [e9]) (l9 (itL m7) 1 [] (stN 0) t9 k8)) [some n,some h,some la,some W,some r2,none,none,none,none]=some (.lst (u8 gl0 (u9 ws vs).q)):=by
   refine t7 (x:=.lst [.int 1]) (y:=.lst (u8 (λ_=>0) (lns ws vs).length)) rfl ?_ ?_
   .refine D4 (f:=λl=>C6 (((lns ws vs)[l]?).getD (0,[]))) (λ_=>.int 0) ?_ (by show _<=1000000;omega) λl hl=>⟨_,rfl,rfl⟩
    rw[<-az5];rfl
   .rw[W5 (by rw[L5];simp;show _<=1000000;omega),hq,af6 gl0 1];congr 3;exact ak7 λl hl=>by unfold gl0;rw[cP1 (by omega)]
  rw[A8];unfold gM;show((gN aC6 _) [some n,some h,some la,some W,some r2,none,none,none,none]).bind _=_;rw[u0 (xs:=[.lst (u8 gl0 (u9 ws vs).q),r2,.lst ((List.range (u9 ws vs).m).map λi=>fr (bdN ws vs i) 1)]) (z:=bt) (t5 gl (t5 rfl (t5 (u0 rfl (cA0 N)) rfl))) bst];rfl
 case a6=>
  rw[A8];unfold gM;show((d9 _ _) [some n,some h,some la,some W,some r2,some bt,none,none,none]).bind _=_;have e1:z8 bt (.int 0)=some (.lst ((List.range (u9 ws vs).q).map λj=>nrm (x j) u)):=ix0 _ _;have e2:z8 (.lst ((List.range (u9 ws vs).q).map λj=>nrm (x j) u)) (.int 0)=some (nrm (x 0) u):=Y9 (i:=0) (by rw[cI5,cI6 (by omega)];rfl);rw[bf9 (bf9 rfl rfl e1) rfl e2];rfl
 case a7=>
  rw[A8];unfold gM;show((gN V5 _) [some n,some h,some la,some W,some r2,some bt,some (nrm (x 0) u),none,none]).bind _=_;rw[u0 (xs:=[l7 p ws vs,.lst (mr vs.length λ_=>nrm (x 0) u)]) (z:=wt)]
  .rfl
  .exact t5 rfl (t5 (D4 (f:=λ_=>.non) _ rfl (by show _<=1000000;omega) λi hi=>⟨_,rfl,rfl⟩) rfl)
  .rw[bA8 N (k:=100) (λ_=>nrm (x 0) u) (λ_ _=>aS4 hu (TD.xs 0 (by omega)) TD.us) (by decide)];congr 2;exact cK1 λk _=>av7 hu _ _
 case a8=>
  have comp:(l9 (itR n6) 1 [2,7,0,5] (stN 0) t9 (gN am8 [gN C5 [d9 n6 e9],e7,g1 (ag4 1 none) (d9 y6 k8),d7,d9 m7 d7])) [some n,some h,some la,some W,some r2,some bt,some (nrm (x 0) u),some wt,none]=some (.lst (mr vs.length λk=>T.lst (mr ws.length λj=>nrm (ac8 ws vs x k j) u))):=by
   refine D4 (f:=λi=>.int (i:Int)) _ (ah4 (n:=vs.length) rfl (by show _<=1000000;omega)) (by show _<=1000000;omega) λk hk=>⟨[some (.int (k:Int)),some la,some wt,some n,some bt],rfl,?_⟩
   have e4:z8 n (.int 1)=some (.lst (ws.map k9)):=by show z8 (l7 p ws vs) _=_;simp only[l7,ix1]
   have e1:z8 bt (.int 0)=some (.lst ((List.range (u9 ws vs).q).map λj=>nrm (x j) u)):=ix0 _ _;have e2:ag4 1 none (.lst ((List.range (u9 ws vs).q).map λj=>nrm (x j) u))=some (.lst ((List.range (lns ws vs).length).map λl=>nrm (x (1+l)) u)):=by
    show some (T.lst (List.drop 1 _))=_;rw[hq,cL4,cK0,cK2];rfl
   have e3:z8 wt (.int (k:Int))=some (nrm (x 0*rmW vs k) u):=Y9 (by simp[hk]);have rm:=ak8 N.vt hk;have x00:=TD.B.x0 0;have xs0:=TD.xs 0 (by omega);have mul:x 0*rmW vs k<=x 0*20:=cF1 rm.2 x00;have mul0:0<=x 0*rmW vs k:=cF4 x00 (by omega);refine u0 (xs:=[.int (ws.length:Int),la,.lst ((List.range (lns ws vs).length).map λl=>nrm (x (1+l)) u),.int (k:Int),nrm (x 0*rmW vs k) u]) (t5 (u0 (t5 (t7 rfl rfl e4) rfl) (by rw[G7,cJ3])) (t5 rfl (t5 (aU4 (t7 rfl rfl e1) e2) (t5 rfl (t5 (t7 rfl rfl e3) rfl))))) ?_;exact cz3 hu (λl=>TD.B.x0 _) mul0 us2 (by omega) (λl hl=>cM7 (TD.xs (1+l) (by omega)) (cN7 (by decide) (by decide))) (by show _<=1000000;omega)
  rw[A8];unfold gM;show((l9 _ 1 [2,7,0,5] (stN 0) t9 _) [some n,some h,some la,some W,some r2,some bt,some (nrm (x 0) u),some wt,none]).bind _=_;rw[comp];show some (Out.nx [some n,some h,some la,some W,some r2,some bt,some (nrm (x 0) u),some wt,some (.lst _)])=some (Out.nx [some n,some h,some la,some W,some r2,some bt,some (nrm (x 0) u),some wt,some (.lst ((P5 ws vs u x).map T.lst))]);unfold P5;rw[cK2];rfl
 have e1:z8 bt (.int 1)=some (.lst ((List.range (u9 ws vs).m).map λk=>nrm (y k) u)):=ix1 _ _ _;have ml:((List.range (u9 ws vs).m).map λk=>nrm (y k) u).length=vs.length+ws.length:=by simp[hm]
 have sp:(List.range (u9 ws vs).m).map (λk=>nrm (y k) u)=(mr vs.length λk=>nrm (y k) u)++mr ws.length λj=>nrm (y (vs.length+j)) u:=by
  rw[hm,cL4,cK0,cK2];rfl
 have s1:(gSl (d9 A3 e9) (some n6) none) [some n,some h,some la,some W,some r2,some bt,some (nrm (x 0) u),some wt,some fl]=some (.lst (mr ws.length λj=>nrm (y (vs.length+j)) u)):=by
  unfold gSl gPt;rw[bf9 rfl rfl e1,cB2];show some (T.lst (Z4 _ (some (vs.length:Int)) none))=_;congr 2;unfold Z4;rw[ml,sIx_nat,cN1 (by omega),sp];rw[List.drop_append_of_le_length (by simp),cH4 (by simp),cC0];show List.take (vs.length+ws.length-vs.length) _=_;rw[cM1 (by simp)]
 have s2:(gSl (d9 A3 e9) none (some n6)) [some n,some h,some la,some W,some r2,some bt,some (nrm (x 0) u),some wt,some fl]=some (.lst (mr vs.length λk=>nrm (y k) u)):=by
  unfold gSl gPt;rw[bf9 rfl rfl e1,cB2];show some (T.lst (Z4 _ none (some (vs.length:Int))))=_;congr 2;unfold Z4;rw[ml,sIx_nat,cN1 (by omega),sp];show List.take (vs.length-0) (List.drop 0 _)=_;rw[cH5,Nat.sub_zero,cM0 (by simp),cM1 (by simp)]
 rw[y4,bg1 (t5 rfl (t5 rfl (t5 (bg1 (t5 s1 (t5 s2 rfl))) rfl)))];rfl
end
theorem bc2(v:Int):∀(ws:List Way) (f:Nat->Int),aI7 v ws (mr ws.length f)=j6 (λj=>(hit (toW ws j) v-hit (frW ws j) v)*f j) ws.length
 |[],f=>rfl
 |w::ws,f=>by
  unfold mr;rw[cB8,cL6,cB4,cK2,aI7,show ws.length+1=1+ws.length by omega,U5.sumN_first];have :=bc2 v ws (f∘Nat.succ);rw[this];congr 1;exact v9 λj hj=>by
   have e:∀j,(w::ws)[1+j]?=ws[j]?:=λj=>by rw[Nat.add_comm,cB3]
   unfold toW frW;rw[e];show _*f (j+1)=_*f (1+j);rw[Nat.add_comm]
theorem aD1(f:Nat->Int):∀n,(mr n f).sum=j6 f n
 |0=>rfl
 |n+1=>by unfold mr;rw[cL5,cK0,List.sum_append,aD1 f n,j6];simp
theorem aG7(g:Nat->Int):∀(r:List Nat) (P:Nat),r.Nodup->(∀i∈r,i<P)->j6 (λj=>if r.contains j then g j else 0) P=(r.map g).sum
 |[],P,_,_=>by
  rw[D9 λj _=>by simp];rfl
 |a::r,P,nd,h=>by
  obtain⟨n1,n2⟩:=List.nodup_cons.mp nd;have ih:=aG7 g r P n2 λi hi=>h i (cK6 _ hi)
  rw[cB4,List.sum_cons,<-ih];have one:j6 (λj=>if j=a then g j else 0) P=g a:=by
   rw[F8 (k:=a) (h a cK7) λi _ hne=>cP1 hne,cP2 rfl]
  rw[<-one,<-W6];refine v9 λj _=> ?_
  by_cases e:j=a
  .subst e;have :r.contains j=false:=by rw[cH1];exact cO8 n1
   simp[n1]
  .have :(a::r).contains j=r.contains j:=by simp[e]
   rw[this,cP1 e,cG4]
section
variable (N:N5 p ws vs)(TD:aR9 ws vs u x (λj=>y ((u9 ws vs).W+j)) y)
theorem aY7(hl:l<(lns ws vs).length):∃r,(lns ws vs)[l]?=some (ofL (lns ws vs) l,r)/\ofL (lns ws vs) l<vs.length/\bu8 ws (frW vs (ofL (lns ws vs) l)) (toW vs (ofL (lns ws vs) l)) [frW vs (ofL (lns ws vs) l)] r/\∀j,onL (lns ws vs) l j=r.contains j:=by
 obtain⟨k,r,v,h1,h2,h3⟩:=aM1 hl;have e:ofL (lns ws vs) l=k:=by unfold ofL;rw[h1];rfl
 have f:frW vs k=v.1:=by unfold frW;rw[h2];rfl
 have g:toW vs k=v.2.1:=by unfold toW;rw[h2];rfl
 rw[e,f,g];refine⟨r,h1,V6 h2,aL7 7 h3,λj=> ?_⟩;unfold onL;rw[h1];rfl
include N TD
theorem aX0(k:Nat)(hk:k<vs.length):0<=x 0*rmW vs k:=cF4 (TD.B.x0 0) (by have :=ak8 N.vt hk;omega)
theorem bY1(k:Nat)(hk:k<vs.length):x 0*rmW vs k<2^105:=by
 have rm:=ak8 N.vt hk;have mul:x 0*rmW vs k<=x 0*20:=cF1 rm.2 (TD.B.x0 0);have xs:=TD.xs 0 (by show 0<1+_;omega);omega
theorem cl6(k j:Nat)(hk:k<vs.length):0<=ac8 ws vs x k j/\ac8 ws vs x k j<=x 0*rmW vs k:=
 aO9 (of:=ofL (lns ws vs)) (k:=k) (λl=>TD.B.x0 (1+l)) (aX0 N TD k hk) (λl=>onL (lns ws vs) l j) (lns ws vs).length
theorem bY4(k:Nat)(hk:k<vs.length):j6 (tkn (ofL (lns ws vs)) (λl=>x (1+l)) k (x 0*rmW vs k)) (lns ws vs).length=x 0*rmW vs k:=by
 refine bY3 (λl=>TD.B.x0 (1+l)) (aX0 N TD k hk) ?_;have :=TD.B.less k hk;rw[cF0];exact this
theorem bI8(k:Nat)(hk:k<vs.length)(v:Int):aI7 v ws (mr ws.length (ac8 ws vs x k))=(hit (toW vs k) v-hit (frW vs k) v)*(x 0*rmW vs k):=by
 have ta:=bY4 N TD k hk;have tz:∀l,ofL (lns ws vs) l≠k->tkn (ofL (lns ws vs)) (λl=>x (1+l)) k (x 0*rmW vs k) l=0:=λl e=>by unfold tkn;rw[cP1 e]
 have ld:∀j,ac8 ws vs x k j=j6 (λl=>if onL (lns ws vs) l j then tkn (ofL (lns ws vs)) (λl=>x (1+l)) k (x 0*rmW vs k) l else 0) (lns ws vs).length:=λ_=>rfl
 generalize tkn (ofL (lns ws vs)) (λl=>x (1+l)) k (x 0*rmW vs k)=τ at ta tz ld;rw[bc2];have e1:j6 (λj=>(hit (toW ws j) v-hit (frW ws j) v)*ac8 ws vs x k j) ws.length=j6 (λj=>j6 (λl=>(hit (toW ws j) v-hit (frW ws j) v)*(if onL (lns ws vs) l j then τ l else 0)) (lns ws vs).length) ws.length:=
  v9 λj _=>by rw[K9,ld]
 rw[e1,af4 (λl j=>(hit (toW ws j) v-hit (frW ws j) v)*(if onL (lns ws vs) l j then τ l else 0)) (lns ws vs).length ws.length];rw[<-ta,<-K9];refine v9 λl hl=> ?_
 obtain⟨r,h1,h2,h3,h4⟩:=aY7 hl;by_cases e:ofL (lns ws vs) l=k
 .rw[e]at h3;have s:=aG7 (λj=>hit (toW ws j) v-hit (frW ws j) v) r ws.length h3.nd h3.ix;rw[h3.walk.gain v]at s;rw[<-s,cF0,<-K9];refine v9 λj _=> ?_
  rw[h4 j];cases r.contains j
  .simp
  .simp[cF0]
 .rw[tz l e,cF8];exact D9 λj _=>by simp
theorem bD3(j:Nat)(hj:j<ws.length):j6 (λk=>ac8 ws vs x k j) vs.length<=u*rmW ws j:=by
 have e1:j6 (λk=>ac8 ws vs x k j) vs.length=j6 (λl=>j6 (λk=>if onL (lns ws vs) l j then tkn (ofL (lns ws vs)) (λl=>x (1+l)) k (x 0*rmW vs k) l else 0) vs.length) (lns ws vs).length:=
  af4 (λl k=>if onL (lns ws vs) l j then tkn (ofL (lns ws vs)) (λl=>x (1+l)) k (x 0*rmW vs k) l else 0) _ _
 rw[e1];refine Int.le_trans (ab0 λl hl=> ?_) (TD.B.room j hj);obtain⟨r,h1,h2,h3,h4⟩:=aY7 hl;have on:(u9 ws vs).on l j=onL (lns ws vs) l j:=rfl;rw[on];cases onL (lns ws vs) l j with
 |false=>
  rw[D9 λk _=>by simp];simp
 |true=>
  simp only[if_true];rw[F8 (k:=ofL (lns ws vs) l) h2 λk _ hne=>by unfold tkn;rw[cP1 λz=>hne z.symm]];have :=bC0 (of:=ofL (lns ws vs)) (x:=λl=>x (1+l)) (k:=ofL (lns ws vs) l) (w:=x 0*rmW vs (ofL (lns ws vs) l)) l;rw[cP2 rfl]at this;exact this
end
structure Tri(ws vs:List Way)(s:T)(fs:List (List T))(P H:Nat->T):Prop where
 s:Fz 300 s
 fl:fs.length=vs.length
 row:∀r∈fs,r.length=ws.length/\∀t∈r,Fz 300 t
 ps:∀j,j<ws.length->Fz 300 (P j)
 hs:∀k,k<vs.length->Fz 300 (H k)
def ak6(ws vs:List Way)(s:T)(fs:List (List T))(P H:Nat->T):T:=.tup [s,.lst (fs.map T.lst),.tup [.lst (mr ws.length P),.lst (mr vs.length H)]]
theorem Fz.am(h:Fz k t):W3 [t]=some (.bl (amB t)):=by
 obtain⟨n,d,rfl,_⟩:=h;exact bM4
theorem Fz.num(h:Fz k t):∃n d,t=fr n d/\amB t=decide (0<=n):=by
 obtain⟨n,d,rfl,hd,hg,_⟩:=h;refine⟨n,d,rfl,?_⟩;show((decide (0<d)&&(Int.gcd n d==1))&&decide (0<=n))=_;rw[cO9 hd,hg];rfl
theorem Am.amB(h:Am k t):L3.amB t=true:=by
 have :=h.fz.am;rw[h.yes]at this;injection this with this
 injection this with this
 exact this.symm
theorem Tri.fs{p:Int}{ws vs:List Way}(N:N5 p ws vs){s:T}{fs:List (List T)}{P H:Nat->T}(R:Tri ws vs s fs P H):aK3 300 ws fs where
 len:=by rw[R.fl];exact N.v3
 fz:=λr hr=>(R.row r hr).2
 col:=λr hr=>(R.row r hr).1
 k500:=by decide
 bits:=by have :=N.wl;omega
 ne:=λw hw=>bh2 (N.wt w hw)
 rm:=λw hw=>cg8 (N.wt w hw)
 wl:=by have :=N.wl;omega
theorem bc9(n:Nat):∀(xs ys:List T),(∀x∈xs,∃a b,x=fr a b)->(∀x∈ys,∃a b,x=fr a b)->∃b,aa5 (eqD (n+2)) xs ys=some b/\(xs=ys->b=true)/\(b=true->xs.length=ys.length->xs=ys)
 |[],ys,_,_=>⟨true,rfl,λ_=>rfl,λ_ h=>by cases ys with |nil=>rfl|cons _ _=>simp at h⟩
 |x::xs,[],_,_=>⟨true,rfl,λ_=>rfl,λ_ h=>by simp at h⟩
 |x::xs,y::ys,hx,hy=>by
  obtain⟨b,h1,h2,h3⟩:=bc9 n xs ys (λz hz=>hx z (cK6 _ hz)) (λz hz=>hy z (cK6 _ hz));obtain⟨a,c,rfl⟩:=hx x cK7;obtain⟨a',c',rfl⟩:=hy y cK7;have e:eqD (n+2) (fr a c) (fr a' c')=some ((a==a')&&(c==c')):=by
   show(aa5 (eqD (n+1)) [.int a,.int c] [.int a',.int c']).bind _=_;simp only[aa5,eqD,cB2];simp
  refine⟨((a==a')&&(c==c'))&&b,by rw[aa5,e,cB2,h1];rfl,λz=> ?_,λz hl=> ?_⟩
  .cases z;rw[h2 rfl];simp
  .simp only[cC7,beq_iff_eq]at z;rw[z.1.1,z.1.2,h3 z.2 (by simpa using hl)]
theorem cn1(hx:∀x∈xs,∃a b,x=fr a b)(hy:∀x∈ys,∃a b,x=fr a b):∃b,fEq (.lst xs) (.lst ys)=some (.bl b)/\fNe (.lst xs) (.lst ys)=some (.bl !b)/\(xs=ys->b=true)/\(b=true->xs=ys):=by
 by_cases h:xs.length=ys.length
 .obtain⟨b,h1,h2,h3⟩:=bc9 5 xs ys hx hy;have e:eqD 8 (.lst xs) (.lst ys)=some b:=by
   show(if xs.length=ys.length then aa5 (eqD 7) xs ys else some false)=_;rw[cP2 h,h1]
  exact⟨b,by unfold fEq;rw[e];rfl,by unfold fNe;rw[e];rfl,h2,λz=>h3 z h⟩
 .have e:eqD 8 (.lst xs) (.lst ys)=some false:=by
   show(if xs.length=ys.length then aa5 (eqD 7) xs ys else some false)=_;rw[cP1 h]
  exact⟨false,by unfold fEq;rw[e];rfl,by unfold fNe;rw[e];rfl,λz=>absurd (congrArg _ z) h,λz=>by cases z⟩
theorem bJ5(ht:Fz k t)(hs:Fz l s):∃b,fEq t s=some (.bl b)/\(t=s->b=true)/\(b=true->t=s):=by
 obtain⟨n,d,rfl,_⟩:=ht;obtain⟨n',d',rfl,_⟩:=hs;refine⟨(n==n')&&(d==d'),by unfold fEq;rw[bz4];rfl,λz=> ?_,λz=> ?_⟩
 .cases z;simp
 .simp only[cC7,beq_iff_eq]at z;rw[z.1,z.2]
def ab7(ws vs:List Way)(fs:List (List T)):List T:=(C8 (vs.map k9) (fs.map T.lst)).map (aJ2 ws)
def X6(vs:List Way)(s:T):List T:=mr vs.length λi=>W7 s (rmW vs i)
def goB(p:Int)(ws vs:List Way)(fs:List (List T)):Bool:=(C8 (vs.map k9) (fs.map T.lst)).all (aw4 p ws)&& !((J2 0 (ws.map k9)).any (al2 fs))
noncomputable def flB(fs:List (List T)):Bool:=fs.all λr=>r.all amB
def paB(n:Nat)(P:Nat->T):Bool:=(mr n P).all amB
noncomputable def aa6(P:Nat->T)(r:List Nat):T:=ac5 (r.map P) (fr 0 1)
noncomputable def htB(ws vs:List Way)(P H:Nat->T):Bool:=(lns ws vs).all λl=> !gtB (H l.1) (aa6 P l.2)
def aa9(vs:List Way)(H:Nat->T):T:=ac5 (mr vs.length λi=>W7 (H i) (rmW vs i)) (fr 0 1)
section
variable (N:N5 p ws vs)(R:Tri ws vs s fs P H)
include N R
theorem cs9:∀x∈ab7 ws vs fs,∃a b,x=fr a b:=λx hx=>by
 obtain⟨t,ht,rfl⟩:=cA8 hx;obtain⟨a,ha,b,hb,rfl⟩:=aj2 ht;obtain⟨w,_,rfl⟩:=cA8 ha;obtain⟨r,hr,rfl⟩:=cA8 hb;have hrow:=(R.fs N).row r hr;obtain⟨n,d,e,_⟩:=(bA6 (p:=w.2.1) hrow.ne hrow.fz hrow.bits).2;exact⟨n,d,e⟩
theorem cs2:∀x∈X6 vs s,∃a b,x=fr a b:=λx hx=>by
 obtain⟨i,hi,rfl⟩:=cA8 hx;obtain⟨n,d,e,_⟩:=bp5 R.s _ (aX8 N.vt (cB0 hi));exact⟨n,d,e⟩
theorem bm1:O3 [l7 p ws vs,.lst (fs.map T.lst)]=some (.bl (flB fs)):=by
 have h8:=N.wl;have h3:=N.v3;have hl:=R.fl;rw[bV3 (λt=>match t with |.lst r=>r.all amB|_=>false) (λt ht=> ?_) (by rw[cJ3];exact Q7 (k:=3) (by omega))]
 .rw[cO9 (by simp[R.fl]),cD4,cG8];rfl
 .obtain⟨r,hr,rfl⟩:=cA8 ht;obtain⟨r1,r2⟩:=R.row r hr;rw[cJ3,ba5 L3.amB (λt ht=>(r2 t ht).am) (by rw[r1];exact Q7 h8),cO9 r1,cD4]
theorem bn7:∃e,ag9 [l7 p ws vs,.lst (fs.map T.lst),.lst (mr vs.length λ_=>s)]=some (.bl (flB fs&&(goB p ws vs fs&&e)))/\fNe (.lst (ab7 ws vs fs)) (.lst (X6 vs s))=some (.bl !e)/\(ab7 ws vs fs=X6 vs s->e=true)/\(e=true->ab7 ws vs fs=X6 vs s):=by
 have h3:=N.v3;obtain⟨e,e1,e2,e3,e4⟩:=cn1 (cs9 N R) (cs2 N R);refine⟨e,?_,e2,e3,e4⟩;rw[ag9,o0 3 _ _ _ rfl,aS3,y4];have st:∀a b c,o8 3 [a,b,c]=[some a,some b,some c]:=λ_ _ _=>rfl
 rw[st];have f1:(gN O3 [d7,e7]) [some (l7 p ws vs),some (.lst (fs.map T.lst)),some (.lst (mr vs.length λ_=>s))]=some (.bl (flB fs)):=u0 rfl (bm1 N R);cases hf:flB fs with
 |false=>
  rw[hf]at f1;simp only[R0,D8,f1,cB2,D5];rfl
 |true=>
  rw[hf]at f1;have net:=aB4 N;have isf:=bm1 N R;rw[hf]at isf;have hp:0<=p/\p<=6:=by have :=N.p2;have :=N.p5;omega
  have ln:=cy8 (vs:=vs) hp (R.fs N).row (Q7 (k:=3) h3);have hr:=cz2 (p:=p) (vs:=vs) (R.fs N);have go:=bT6 net isf ln hr;have br:=bq2 net isf (cs8 (R.fs N) (Q7 (k:=3) h3)) (cn6 _ _);have f2:(gN (ae2 aN1) [d7,e7]) [some (l7 p ws vs),some (.lst (fs.map T.lst)),some (.lst (mr vs.length λ_=>s))]=some (.bl (goB p ws vs fs)):=u0 (xs:=[l7 p ws vs,.lst (fs.map T.lst)]) rfl (by unfold ae2;rw[go];rfl);have f3:(gN (ae2 at9) [d7,e7]) [some (l7 p ws vs),some (.lst (fs.map T.lst)),some (.lst (mr vs.length λ_=>s))]=some (.lst (ab7 ws vs fs)):=u0 (xs:=[l7 p ws vs,.lst (fs.map T.lst)]) rfl (by unfold ae2;rw[br];rfl);have f4:(gN V5 [d7,m7]) [some (l7 p ws vs),some (.lst (fs.map T.lst)),some (.lst (mr vs.length λ_=>s))]=some (.lst (X6 vs s)):=u0 (xs:=[l7 p ws vs,.lst (mr vs.length λ_=>s)]) rfl (bA8 N (k:=300) (λ_=>s) (λ_ _=>R.s) (by decide));simp only[R0,D8,f1,f2,cB2,D5,if_true,t7 f3 f4 e1];cases goB p ws vs fs<;>rfl
omit N in
theorem bd4(r:List Nat)(hr:∀j∈r,j<ws.length):∀q∈r.map P,Fz 300 q:=λq hq=>by
 obtain⟨j,hj,rfl⟩:=cA8 hq;exact R.ps j (hr j hj)
omit N in
theorem aR5(r:List Nat)(hr:∀j∈r,j<ws.length)(hl:r.length<=5):ae1 [.lst (r.map P)]=some (aa6 P r)/\P8 [.lst (r.map P)]=some (aa6 P r)/\Fz 1600 (aa6 P r):=by
 have lm:(r.map P).length=r.length:=cJ3 ..;have b:1+(r.map P).length*(300+1)<=3000:=by omega
 obtain⟨h1,h2⟩:=bg4 (k:=300) (bd4 R r hr) b;have h3:=aW4 (k:=300) (bd4 R r hr) b;have h4:1+(r.map P).length*(300+1)<=1600:=by omega
 exact⟨h1,h3,h2.mono h4⟩
omit N R in
theorem bb7{U:A7}{it:GL}{aC:List Nat}{r:List Nat}{n:Nat}{f:Nat->T}(hr:∀j∈r,j<n)(hl:r.length<=5)(h1:it U=some (r.map aY9))(hc:X7 1 aC U=[none,some (.lst (mr n f))]):l9 it 1 aC (stN 0) t9 (d9 e7 d7) U=some (.lst (r.map f)):=by
 simp only[l9,h1,cB2,hc];rw[cP2 (by rw[cJ3];show _<=1000000;omega),ad0 (f:=λt=>match t with |.int i=>f i.toNat|t=>t)]
 .rw[cK2];rfl
 .intro x hx;obtain⟨j,hj,rfl⟩:=cA8 hx;refine⟨[some (aY9 j),some (.lst (mr n f))],rfl,?_⟩;simp only[w8,k7,cC1,cB3,jn,cB2,aY9,cG2];exact Y9 (by simp[hr j hj])
end
theorem ay6(g:α->T)(good:α->Bool)(Iv:A7->Prop):∀(l:List α) (U:A7),Iv U->(∀a∈l,∀U,Iv U->∃U1,st (g a) U=some U1/\(good a=true->∃U2,b U1=some (.nx U2)/\Iv U2)/\(good a=false->b U1=some (.ret (.bl false))))->
  (l.all good=true->∃U',G8 st b (l.map g) U=some (.nx U')/\Iv U')/\(l.all good=false->G8 st b (l.map g) U=some (.ret (.bl false)))
 |[],U,h0,_=>⟨λ_=>⟨U,rfl,h0⟩,λh=>by simp at h⟩
 |x::xs,U,h0,h=>by
  obtain⟨U1,h1,h2,h3⟩:=h x cK7 U h0;rw[cG6,cB4];cases hg:good x with
  |false=>
   refine⟨λz=>by simp at z,λ_=> ?_⟩;rw[G8];simp only[h1,cB2,h3 hg]
  |true=>
   obtain⟨U2,k1,k2⟩:=h2 hg;have ih:=ay6 g good Iv xs U2 k2 λy hy=>h y (cK6 _ hy)
   rw[G8];simp only[h1,cB2,k1,cD4];exact ih
theorem ay9{α:Type}{U:A7}{it:GL}{nT:Nat}{aC:List Nat}{st:St1}{e:G}{l:List α}{g:α->T}(h:α->T)(h1:it U=some (l.map g))(hl:l.length<=lim)(hh:∀a∈l,∃U1,st (g a) (X7 nT aC U)=some U1/\e U1=some (h a)):l9 it nT aC st t9 e U=some (.lst (l.map h)):=by
 simp only[l9,h1,cB2];rw[cP2 (by rw[cJ3];exact hl)];have :∀l:List α,(∀a∈l,∃U1,st (g a) (X7 nT aC U)=some U1/\e U1=some (h a))->Y4 (X7 nT aC U) st t9 e (l.map g)=some (l.map h):=by
  intro l;induction l with
  |nil=>intro _;rfl
  |cons a l ih=>
   intro hl;obtain⟨U1,h2,h3⟩:=hl a cK7;rw[cB4,Y4,h2,cB2,aZ9,cB2,cP2 rfl,h3,cB2,ih λi hi=>hl i (cK6 _ hi)];rfl
 rw[this _ hh];rfl
theorem ct0(f:α->Bool)(l:List α):aJ0 [.lst (l.map λa=>.bl (f a))]=some (.bl (l.any f)):=by
 have :ag6 (l.map λa=>.bl (f a))=some (l.map f):=by
  induction l with
  |nil=>rfl
  |cons a l ih=>rw[cB4,ag6,ih];rfl
 show(ag6 _).bind _=_;rw[this,cB2,List.any_map];rfl
theorem Q9(h1:a U=some (.bl x))(h2:b U=some (.bl y)):K6 a b U=some (.bl (x&&y)):=by
 rw[R0,M4 h1,cB2,h2];cases x<;>rfl
theorem ce0(h1:a U=some (.bl x)):aZ3 a U=some (.bl !x):=by
 rw[bu0,M4 h1,cB2]
theorem ai6(h1:a U=some x)(h2:b U=some y):bOr a b U=some (x||y):=by
 rw[bn9,h1,cB2,h2];cases x<;>rfl
theorem bI1(f:α->Int)(l:List α):X3 (l.map λa=>.int (f a))=some (l.map f):=by
 have :=aR0 (l.map f);rwa[cK2]at this
theorem aQ4:∀(x:Int) (is:List Int),∃m,ao5 (x::is)=some m/\decide (m<0)=(x::is).any λi=>decide (i<0)
 |x,[]=>⟨x,rfl,by simp⟩
 |x,y::is=>by
  obtain⟨m,h1,h2⟩:=aQ4 y is;rw[ao5,h1];refine⟨_,rfl,?_⟩;rw[cG9,<-h2];by_cases q:m<x
  .rw[cP2 q];by_cases z:m<0
   .simp[z]
   .rw[cO8 z,cO8 (show¬x<0 by omega)];rfl
  .rw[cP1 q];by_cases z:x<0
   .simp[z]
   .rw[cO8 z,cO8 (show¬m<0 by omega)];rfl
noncomputable def ar9:T->Int
 |.tup (.int n::_)=>n
 |_=>0
theorem aT3(h:Fz k t):z8 t (.int 0)=some (.int (ar9 t))/\amB t= !decide (ar9 t<0):=by
 obtain⟨n,d,rfl,e⟩:=h.num;refine⟨ix0 _ _,?_⟩;rw[e];show decide (0<=n)= !decide (n<0);by_cases z:0<=n
 .rw[cO9 z,cO8 (by omega)];rfl
 .rw[cO8 z,cO9 (by omega)];rfl
theorem bu7{k:Nat}{l:List T}(h:∀t∈l,Fz k t):(l.map ar9).any (λi=>decide (i<0))= !(l.all amB):=by
 induction l with
 |nil=>rfl
 |cons a l ih=>
  rw[cB4,cG9,cG6,ih λt ht=>h t (cK6 _ ht),(aT3 (h a cK7)).2];cases decide (ar9 a<0)<;>rfl
section
variable (N:N5 p ws vs)(R:Tri ws vs s fs P H)
include N R
theorem bN4(hl:l∈lns ws vs):l.1<vs.length/\(∀j∈l.2,j<ws.length)/\l.2.length<=5:=by
 obtain⟨v,h1,h2⟩:=bt3 hl;exact⟨V6 h1,(aL7 7 h2).ix,(ag2 N).2 _ h2⟩
theorem cz6(hr:∀j∈r,j<ws.length)(hl:r.length<=5):aW6 [.lst (mr ws.length P),M5 r]=some (aa6 P r):=by
 rw[aW6,o0 2 _ _ _ rfl,bL9,y4];rw[u0 (t5 (bb7 (f:=P) hr hl rfl rfl) rfl) (aR5 R r hr hl).1];rfl
theorem cb6:ad5 [l7 p ws vs,.tup [.lst (mr ws.length P),.lst (mr vs.length H)]]=some (.bl (true&&(paB ws.length P&&(paB vs.length H&&htB ws vs P H)))):=by
 have h3:=N.v3;have h8:=N.wl;have ll:=au9 N;rw[ad5,o0 2 _ _ _ rfl,aG2,y4];have row:∀(n:Nat) (f:Nat->T),n<=8->(∀j,j<n->Fz 300 (f j))->V0 [.lst (mr n f),.int (n:Int)]=some (.bl (paB n f)):=λn f hn hf=>by
  rw[ba5 amB (λt ht=> ?_) (by simp;show _<=1000000;omega),cO9 (by simp),cD4]
  .rfl
  .obtain⟨j,hj,rfl⟩:=cA8 ht;exact(hf j (cB0 hj)).am
 have e0:z8 (.tup [.lst (mr ws.length P),.lst (mr vs.length H)]) (.int 0)=some (.lst (mr ws.length P)):=ix0 _ _;have e1:z8 (.tup [.lst (mr ws.length P),.lst (mr vs.length H)]) (.int 1)=some (.lst (mr vs.length H)):=ix1 _ _ _;have n1:z8 (l7 p ws vs) (.int 1)=some (.lst (ws.map k9)):=by simp only[l7,ix1]
 have n2:z8 (l7 p ws vs) (.int 2)=some (.lst (vs.map k9)):=by simp only[l7,ix2]
 rw[Q9 (x:=true) (y:=paB ws.length P&&(paB vs.length H&&htB ws vs P H)) (u0 (xs:=[.tup [.lst (mr ws.length P),.lst (mr vs.length H)]]) rfl rfl) (Q9 ?_ (Q9 ?_ ?_))]
 .rfl
 .exact u0 (t5 (t7 rfl rfl e0) (t5 (u0 (t5 (t7 rfl rfl n1) rfl) (by rw[G7,cJ3])) rfl)) (row ws.length P h8 R.ps)
 .exact u0 (t5 (t7 rfl rfl e1) (t5 (u0 (t5 (t7 rfl rfl n2) rfl) (by rw[G7,cJ3])) rfl)) (row vs.length H (by omega) R.hs)
 .have :htB ws vs P H= !((lns ws vs).any λl=>gtB (H l.1) (aa6 P l.2)):=by
   unfold htB;rw[List.not_any_eq_all_not]
  rw[this];refine ce0 (u0 (t5 (ay9 (l:=lns ws vs) (g:=C6) (λl=>.bl (gtB (H l.1) (aa6 P l.2))) ?_ (by show _<=1000000;omega) λl hl=>⟨[some (C6 l),some (.tup [.lst (mr ws.length P),.lst (mr vs.length H)])],rfl,?_⟩) rfl) (ct0 _ _))
  .rw[Q8,u0 (xs:=[l7 p ws vs]) rfl (bv6 N)];rfl
  .obtain⟨t1,t2,t3⟩:=bN4 N R hl;have l0:z8 (C6 l) (.int 0)=some (.int (l.1:Int)):=ix0 _ _;have l1:z8 (C6 l) (.int 1)=some (M5 l.2):=ix1 _ _ _;have hx:z8 (.lst (mr vs.length H)) (.int (l.1:Int))=some (H l.1):=Y9 (by simp[t1]);refine u0 (t5 (t7 (t7 rfl rfl e1) (t7 rfl rfl l0) hx) (t5 (u0 (t5 (t7 rfl rfl e0) (t5 (t7 rfl rfl l1) rfl)) (cz6 N R t2 t3)) rfl)) ?_;exact(bA5 ((R.hs _ t1).mono (by decide)) (aR5 R l.2 t2 t3).2.2 (by decide)).1
theorem aX3:ae1 [.lst (mr vs.length λi=>W7 (H i) (rmW vs i))]=some (aa9 vs H)/\P8 [.lst (mr vs.length λi=>W7 (H i) (rmW vs i))]=some (aa9 vs H)/\Fz 3000 (aa9 vs H):=by
 have h3:=N.v3;have lm:(mr vs.length λi=>W7 (H i) (rmW vs i)).length=vs.length:=by simp
 have hf:∀q∈mr vs.length (λi=>W7 (H i) (rmW vs i)),Fz 360 q:=λq hq=>by
  obtain⟨i,hi,rfl⟩:=cA8 hq;have hi:=cB0 hi;exact bp5 (R.hs i hi) _ (aX8 N.vt hi)
 have b:1+(mr vs.length λi=>W7 (H i) (rmW vs i)).length*(360+1)<=3000:=by omega
 obtain⟨h1,h2⟩:=bg4 (k:=360) hf b;exact⟨h1,aW4 (k:=360) hf b,h2.mono b⟩
theorem aW9:ae1 [.lst (mr ws.length λi=>W7 (P i) (rmW ws i))]=some (aa9 ws P)/\P8 [.lst (mr ws.length λi=>W7 (P i) (rmW ws i))]=some (aa9 ws P)/\Fz 3000 (aa9 ws P):=by
 have h3:=N.wl;have lm:(mr ws.length λi=>W7 (P i) (rmW ws i)).length=ws.length:=by simp
 have hf:∀q∈mr ws.length (λi=>W7 (P i) (rmW ws i)),Fz 360 q:=λq hq=>by
  obtain⟨i,hi,rfl⟩:=cA8 hq;have hi:=cB0 hi;exact bp5 (R.ps i hi) _ (aX8 N.wt hi)
 have b:1+(mr ws.length λi=>W7 (P i) (rmW ws i)).length*(360+1)<=3000:=by omega
 obtain⟨h1,h2⟩:=bg4 (k:=360) hf b;exact⟨h1,aW4 (k:=360) hf b,h2.mono b⟩
theorem aD0(hF:∀t z,Fz 300 t->z.natAbs<2^60->F [t,fr z 1]=some (W7 t z))(hx:∀w∈xs,Q6 p w=true)(hl:xs.length<=8)(hf:∀i,i<xs.length->Fz 300 (f i))(h1:it U=some (C8 (mr xs.length f) (xs.map k9))):
  l9 it 2 [] (st2 0 1) t9 (gN F [d7,A1 [d9 e7 v8,e9]]) U=some (.lst (mr xs.length λi=>W7 (f i) (rmW xs i))):=by
 refine D4 (n:=xs.length) (f:=λi=>.tup [f i,K0 xs i]) (λi=>W7 (f i) (rmW xs i)) ?_ (by show _<=1000000;omega) λi hi=>⟨[some (f i),some (K0 xs i)],rfl,?_⟩
 .rw[h1,O4,ax9]
 .simp only[A5,U8,o7,y0,w8,y9,k7,cC1,cB3,jn,cB2,K0,X5,ix2];exact hF _ _ (hf i hi) (aX8 hx hi)
theorem ct3:aM9 [l7 p ws vs,.lst (mr ws.length P)]=some (aa9 ws P):=by
 rw[aM9,o0 2 _ _ _ rfl,bu9,y4];rw[u0 (t5 (aD0 N R (F:=av3) (xs:=ws) (f:=P) (λt z h1 h2=>(bp6 h1 (by decide) z h2).1) N.wt N.wl R.ps rfl) rfl) (aW9 N R).1];rfl
theorem ct5:aG4 [l7 p ws vs,.lst (mr ws.length P)]=some (aa9 ws P):=by
 rw[aG4,o0 2 _ _ _ rfl,bo5,y4];rw[u0 (t5 (aD0 N R (F:=R6) (xs:=ws) (f:=P) (λt z h1 h2=>(bp6 h1 (by decide) z h2).2) N.wt N.wl R.ps rfl) rfl) (aW9 N R).2.1];rfl
end
theorem N7:gs [] U=some []:=rfl
theorem bo0:∀{l:List α},(∀a∈l,f a=g a)->l.all f=l.all g
 |[],_=>rfl
 |a::l,h=>by rw[cG6,cG6,h a cK7,bo0 λb hb=>h b (cK6 _ hb)]
def hrB(ws vs:List Way)(P H:Nat->T):Bool:=paB ws.length P&&(paB vs.length H&&htB ws vs P H)
section
variable (N:N5 p ws vs)(R:Tri ws vs s fs P H)
include N R
theorem aX4:∃e c1 c2,E9 [l7 p ws vs,ak6 ws vs s fs P H]=some (.val (.bl ((flB fs&&(goB p ws vs fs&&e))&&(hrB ws vs P H&&(c1&&c2)))))/\
  fNe (.lst (ab7 ws vs fs)) (.lst (X6 vs s))=some (.bl !e)/\(ab7 ws vs fs=X6 vs s->e=true)/\(e=true->ab7 ws vs fs=X6 vs s)/\fEq (aa9 vs H) (fr 1 1)=some (.bl c1)/\(aa9 vs H=fr 1 1->c1=true)/\fEq (aa9 ws P) s=some (.bl c2)/\(aa9 ws P=s->c2=true):=by
 obtain⟨e,b1,b2,b3,b4⟩:=bn7 N R;obtain⟨c1,d1,d2,_⟩:=bJ5 (aX3 N R).2.2 (ar5 (k:=1) 1 (.inr (.inl rfl)));obtain⟨c2,d3,d4,_⟩:=bJ5 (aW9 N R).2.2 R.s;refine⟨e,c1,c2,?_,b2,b3,b4,d1,d2,d3,d4⟩;show ac7 (N0 [some (l7 p ws vs),some (ak6 ws vs s fs P H)])=_;unfold N0;rw[ak9 (xs:=[l7 p ws vs]) rfl (aw1 (aB4 N))]
 let pap:=T.tup [.lst (mr ws.length P),.lst (mr vs.length H)]
 have t0:z8 (ak6 ws vs s fs P H) (.int 0)=some s:=ix0 _ _;have t1:z8 (ak6 ws vs s fs P H) (.int 1)=some (.lst (fs.map T.lst)):=ix1 _ _ _;have t2:z8 (ak6 ws vs s fs P H) (.int 2)=some pap:=ix2 _ _ _ _;have e0:z8 pap (.int 0)=some (.lst (mr ws.length P)):=ix0 _ _;have e1:z8 pap (.int 1)=some (.lst (mr vs.length H)):=ix1 _ _ _;have n2:z8 (l7 p ws vs) (.int 2)=some (.lst (vs.map k9)):=by simp only[l7,ix2]
 have h3:=N.v3;have fr1:M1 [s]=some (.bl true):=by
  obtain⟨n,d,rfl,hd,hg,_⟩:=R.s;rw[aW5];show some (T.bl (decide (0<d)&&(Int.gcd n d==1)))=_;rw[cO9 hd,hg];rfl
 have shs:(l9 (itL (d9 d7 v8)) 1 [1] (stN 0) t9 (d9 e7 k8)) [some (l7 p ws vs),some (ak6 ws vs s fs P H)]=some (.lst (mr vs.length λ_=>s)):=by
  refine D4 (f:=K0 vs) _ ?_ (by show _<=1000000;omega) λi hi=>⟨[some (K0 vs i),some (ak6 ws vs s fs P H)],rfl,t7 rfl rfl t0⟩
  rw[<-O4];rfl
 have all:=Q9 (a:=gN aa0 [e7]) (U:=[some (l7 p ws vs),some (ak6 ws vs s fs P H)]) (x:=true) (u0 (xs:=[ak6 ws vs s fs P H]) rfl rfl)
  (Q9 (u0 (t5 (Q4 1 0 rfl t0) N7) fr1)
   (Q9 (u0 (t5 (a:=d7) rfl (t5 (Q4 1 1 rfl t1) (t5 shs N7))) b1)
    (Q9 (u0 (t5 (a:=d7) rfl (t5 (Q4 1 2 rfl t2) N7)) (cb6 N R))
     (Q9 (t7 (u0 (t5 (u0 (t5 (a:=d7) rfl (t5 (t7 (Q4 1 2 rfl t2) (b:=e9) rfl e1) N7)) (bA8 N (k:=300) H R.hs (by decide))) N7) (aX3 N R).1) (b:=gC bz7) rfl d1)
      (t7 (u0 (t5 (a:=d7) rfl (t5 (t7 (Q4 1 2 rfl t2) (b:=k8) rfl e0) N7)) (ct3 N R)) (Q4 1 0 rfl t0) d3)))))
 show ac7 ((t8 _ [some (l7 p ws vs),some (ak6 ws vs s fs P H)]).bind _)=_;rw[y4,all];simp only[cD4];rfl
theorem cu4:V2 [l7 p ws vs,.tup [.lst (mr ws.length P),.lst (mr vs.length H)]]=some (.bl (hrB ws vs P H)):=by
 have h1:=N.v1;have h3:=N.v3;have h8:=N.wl;rw[V2,o0 2 _ _ _ rfl,as9]
 let pap:=T.tup [.lst (mr ws.length P),.lst (mr vs.length H)]
 let ps:=T.lst (mr ws.length P)
 let hs:=T.lst (mr vs.length H)
 rw[m8 (U':=[some (l7 p ws vs),some pap,some ps,some hs,none,none,none]) rfl];have n1:z8 (l7 p ws vs) (.int 1)=some (.lst (ws.map k9)):=by simp only[l7,ix1]
 have n2:z8 (l7 p ws vs) (.int 2)=some (.lst (vs.map k9)):=by simp only[l7,ix2]
 have allf:∀t∈mr ws.length P++mr vs.length H,Fz 300 t:=λt ht=>by
  rcases cC5 ht with ht|ht
  .obtain⟨j,hj,rfl⟩:=cA8 ht;exact R.ps j (cB0 hj)
  .obtain⟨j,hj,rfl⟩:=cA8 ht;exact R.hs j (cB0 hj)
 have comp:(l9 (itL (g2 z0 m7 n6)) 1 [] (stN 0) t9 (d9 d7 k8)) [some (l7 p ws vs),some pap,some ps,some hs,none,none,none]=some (.lst ((mr ws.length P++mr vs.length H).map λt=>.int (ar9 t))):=by
  refine ay9 (l:=mr ws.length P++mr vs.length H) (g:=id) _ ?_ (by simp;show _<=1000000;omega) λt ht=>⟨[some t],rfl,t7 rfl rfl (aT3 (allf t ht)).1⟩
  rw[List.map_id,Q8,t7 rfl rfl (W5 (by simp;show _<=1000000;omega))];rfl
 have tst:∃m,ay7 [.lst ((mr ws.length P++mr vs.length H).map λt=>.int (ar9 t))]=some (.int m)/\decide (m<0)= !(paB ws.length P&&paB vs.length H):=by
  have e:=bu7 allf;rw[List.all_append]at e;have ne:(mr ws.length P++mr vs.length H).map ar9≠[]:=by
   intro z;have :=congrArg List.length z;rw[cJ3,cJ2,cJ3,cJ3,cJ4,cJ4,cB9]at this;omega
  obtain⟨a,l,hl⟩:=List.exists_cons_of_ne_nil ne;obtain⟨m,k1,k2⟩:=aQ4 a l;rw[<-hl]at k1 k2;refine⟨m,?_,k2.trans e⟩;show(X3 _).bind _=_;rw[bI1,cB2,k1];rfl
 obtain⟨m,m1,m2⟩:=tst;have c1:(bOf (g2 fLt (gN ay7 [l9 (itL (g2 z0 m7 n6)) 1 [] (stN 0) t9 (d9 d7 k8)]) k8)) [some (l7 p ws vs),some pap,some ps,some hs,none,none,none]=some (!(paB ws.length P&&paB vs.length H)):=by
  rw[<-m2];exact M4 (t7 (u0 (t5 comp rfl) m1) rfl ab4)
 have c2:(bOf (g2 fNe (gN C5 [m7]) (gN C5 [d9 d7 e9]))) [some (l7 p ws vs),some pap,some ps,some hs,none,none,none]=some false:=by
  refine M4 (t7 (x:=.int (ws.length:Int)) (y:=.int (ws.length:Int)) (u0 (xs:=[ps]) rfl (by show some (T.int _)=_;simp)) (u0 (t5 (t7 rfl rfl n1) rfl) (by rw[G7,cJ3])) (by simp))
 have c3:(bOf (g2 fNe (gN C5 [n6]) (gN C5 [d9 d7 v8]))) [some (l7 p ws vs),some pap,some ps,some hs,none,none,none]=some false:=by
  refine M4 (t7 (x:=.int (vs.length:Int)) (y:=.int (vs.length:Int)) (u0 (xs:=[hs]) rfl (by show some (T.int _)=_;simp)) (u0 (t5 (t7 rfl rfl n2) rfl) (by rw[G7,cJ3])) (by simp))
 have test:=ai6 c1 (ai6 c2 c3);simp only[Bool.or_false]at test;unfold hrB;rw[<-Bool.and_assoc];cases hpa:(paB ws.length P&&paB vs.length H)with
 |false=>
  rw[hpa]at test;rw[Y6 (t:=.bl false) (by rw[F0,test];rfl)];rfl
 |true=>
  rw[hpa]at test;rw[m8 (U':=[some (l7 p ws vs),some pap,some ps,some hs,none,none,none]) (by rw[F0,test];rfl),cD4];have inner:∀k,k<vs.length->∀x,(let good:=λr=> !gtB (H k) (aa6 P r)
    let rows:=F9 ws (toW vs k) 7 (frW vs k) [frW vs k]
    let body:=(N6 (itL (gN aj4 [d7,d9 y6 k8,d9 y6 e9,C4 [d9 y6 k8]])) (stN 6) (sIf (bOf (gN O2 [gN P8 [l9 (itL D7) 1 [2] (stN 0) t9 (d9 e7 d7)],A3])) (t8 (gC (.bl false))) A2)) [some (l7 p ws vs),some pap,some ps,some hs,some (K0 vs k),some (H k),x]
    (rows.all good=true->∃x',body=some (.nx [some (l7 p ws vs),some pap,some ps,some hs,some (K0 vs k),some (H k),x']))/\(rows.all good=false->body=some (.ret (.bl false)))):=by
   intro k hk x;dsimp only;have i0:z8 (K0 vs k) (.int 0)=some (.int (frW vs k)):=ix0 _ _;have i1:z8 (K0 vs k) (.int 1)=some (.int (toW vs k)):=ix1 _ _ _;have it:(itL (gN aj4 [d7,d9 y6 k8,d9 y6 e9,C4 [d9 y6 k8]])) [some (l7 p ws vs),some pap,some ps,some hs,some (K0 vs k),some (H k),x]=some ((F9 ws (toW vs k) 7 (frW vs k) [frW vs k]).map M5):=by
    rw[Q8,u0 (t5 (a:=d7) rfl (t5 (Q4 4 0 rfl i0) (t5 (Q4 4 1 rfl i1) (t5 (ay5 (t5 (Q4 4 0 rfl i0) rfl)) rfl)))) (bV7 N _ _)];rfl
   have F:=ay6 (st:=stN 6) (b:=sIf (bOf (gN O2 [gN P8 [l9 (itL D7) 1 [2] (stN 0) t9 (d9 e7 d7)],A3])) (t8 (gC (.bl false))) A2) M5 (λr=> !gtB (H k) (aa6 P r)) (λU=>∃x,U=[some (l7 p ws vs),some pap,some ps,some hs,some (K0 vs k),some (H k),x]) (F9 ws (toW vs k) 7 (frW vs k) [frW vs k]) [some (l7 p ws vs),some pap,some ps,some hs,some (K0 vs k),some (H k),x] ⟨x,rfl⟩ (λr hr U zz=>by
    obtain⟨y,hU⟩:=zz;subst hU;have ok:=aL7 7 hr;have hl:=(ag2 N).2 r hr;have cf:=aR5 R r ok.ix hl;have un:=(bA5 ((R.hs k hk).mono (by decide)) cf.2.2 (by decide)).2;have t:(bOf (gN O2 [gN P8 [l9 (itL D7) 1 [2] (stN 0) t9 (d9 e7 d7)],A3])) [some (l7 p ws vs),some pap,some ps,some hs,some (K0 vs k),some (H k),some (M5 r)]=some (gtB (H k) (aa6 P r)):=M4 (u0 (t5 (u0 (t5 (bb7 (f:=P) ok.ix hl rfl rfl) rfl) cf.2.1) (t5 (a:=A3) rfl rfl)) un);refine⟨[some (l7 p ws vs),some pap,some ps,some hs,some (K0 vs k),some (H k),some (M5 r)],rfl,λz=>⟨[some (l7 p ws vs),some pap,some ps,some hs,some (K0 vs k),some (H k),some (M5 r)],?_,_,rfl⟩,λz=> ?_⟩
    .rw[F0,t];have :gtB (H k) (aa6 P r)=false:=by simpa using z
     rw[this];rfl
    .rw[F0,t];have :gtB (H k) (aa6 P r)=true:=by simpa using z
     rw[this];rfl)
   rw[S5,it,cB2];exact⟨λz=>by obtain⟨U',f1,x',rfl⟩:=F.1 z;exact⟨x',f1⟩,F.2⟩
  have O:=ay6 (st:=st2 4 5) (b:=(N6 (itL (gN aj4 [d7,d9 y6 k8,d9 y6 e9,C4 [d9 y6 k8]])) (stN 6) (sIf (bOf (gN O2 [gN P8 [l9 (itL D7) 1 [2] (stN 0) t9 (d9 e7 d7)],A3])) (t8 (gC (.bl false))) A2))) (λk=>T.tup [K0 vs k,H k]) (λk=>(F9 ws (toW vs k) 7 (frW vs k) [frW vs k]).all λr=> !gtB (H k) (aa6 P r)) (λU=>∃a b x,U=[some (l7 p ws vs),some pap,some ps,some hs,a,b,x]) (List.range vs.length) [some (l7 p ws vs),some pap,some ps,some hs,none,none,none] ⟨none,none,none,rfl⟩ (λk hk U zz=>by
   obtain⟨a,b,x,hU⟩:=zz;subst hU;have hk:=cB0 hk;have I:=inner k hk x;refine⟨[some (l7 p ws vs),some pap,some ps,some hs,some (K0 vs k),some (H k),x],rfl,λz=> ?_,λz=>I.2 z⟩;obtain⟨x',h⟩:=I.1 z;exact⟨_,h,_,_,_,rfl⟩)
  have same:(List.range vs.length).all (λk=>(F9 ws (toW vs k) 7 (frW vs k) [frW vs k]).all λr=> !gtB (H k) (aa6 P r))=htB ws vs P H:=by
   unfold htB lns;rw[List.all_flatMap];refine bo0 λk hk=> ?_
   have hk:=cB0 hk;unfold ae5;rw[cI3 hk];have f:frW vs k=vs[k].1:=by unfold frW;rw[cI3 hk];rfl
   have g:toW vs k=vs[k].2.1:=by unfold toW;rw[cI3 hk];rfl
   rw[f,g];dsimp only;rw[cG8];rfl
  have it:(itZ (d9 d7 v8) n6) [some (l7 p ws vs),some pap,some ps,some hs,none,none,none]=some (mr vs.length λk=>T.tup [K0 vs k,H k]):=by
   rw[<-ax9,<-O4];rw[aU1,Q8,Q4 0 2 rfl n2];rfl
  rw[same]at O;cases hh:htB ws vs P H with
  |true=>
   obtain⟨U',o1,a,b,x,rfl⟩:=O.1 hh;rw[m8 (U':=[some (l7 p ws vs),some pap,some ps,some hs,a,b,x]) (by rw[S5,it,cB2];exact o1)];rfl
  |false=>
   rw[Y6 (t:=.bl false) (by rw[S5,it,cB2];exact O.2 hh)];rfl
end
section
variable (N:N5 p ws vs)(R:Tri ws vs s fs P H)
include N R
theorem cg4(am:amB s=true)(he:fNe (.lst (ab7 ws vs fs)) (.lst (X6 vs s))=some (.bl !e))(h1:fEq (aa9 vs H) (fr 1 1)=some (.bl c1))(h2:fEq (aa9 ws P) s=some (.bl c2)):
  ak3 [l7 p ws vs,ak6 ws vs s fs P H]=some (.bl ((flB fs&&(goB p ws vs fs&&e))&&(hrB ws vs P H&&(c1&&c2)))):=by
 have h3:=N.v3;have h8:=N.wl;have hp:0<=p/\p<=6:=by have :=N.p2;have :=N.p5;omega
 rw[ak3,o0 2 _ _ _ rfl,be3]
 let n:=l7 p ws vs
 let tr:=ak6 ws vs s fs P H
 let fl:=T.lst (fs.map T.lst)
 let pap:=T.tup [.lst (mr ws.length P),.lst (mr vs.length H)]
 have n1:z8 n (.int 1)=some (.lst (ws.map k9)):=by show z8 (l7 p ws vs) _=_;simp only[l7,ix1]
 have n2:z8 n (.int 2)=some (.lst (vs.map k9)):=by show z8 (l7 p ws vs) _=_;simp only[l7,ix2]
 have e0:z8 pap (.int 0)=some (.lst (mr ws.length P)):=ix0 _ _;have e1:z8 pap (.int 1)=some (.lst (mr vs.length H)):=ix1 _ _ _;rw[m8 (U':=[some n,some tr,some s,some fl,some pap,none,none,none]) rfl];have O:=ay6 (st:=stN 5) (b:=(sIf (bOr (bOf (g2 fNe (gN C5 [A3]) (gN C5 [d9 d7 e9]))) (bOf (g2 fLt (gN ay7 [g2 z0 (C4 [k8]) (l9 (itL A3) 1 [] (stN 0) t9 (d9 d7 k8))]) k8))) (t8 (gC (.bl false))) A2)) T.lst (λr=>r.all amB) (λU=>∃x,U=[some n,some tr,some s,some fl,some pap,x,none,none]) fs [some n,some tr,some s,some fl,some pap,none,none,none] ⟨none,rfl⟩ (λr hr U zz=>by
  obtain⟨x,hU⟩:=zz;subst hU;obtain⟨r1,r2⟩:=R.row r hr;have d1:(bOf (g2 fNe (gN C5 [A3]) (gN C5 [d9 d7 e9]))) [some n,some tr,some s,some fl,some pap,some (.lst r),none,none]=some false:=by
   refine M4 (t7 (x:=.int (ws.length:Int)) (y:=.int (ws.length:Int)) (u0 (xs:=[.lst r]) rfl (by rw[G7,r1])) (u0 (t5 (t7 rfl rfl n1) rfl) (by rw[G7,cJ3])) (by simp))
  have comp:(l9 (itL A3) 1 [] (stN 0) t9 (d9 d7 k8)) [some n,some tr,some s,some fl,some pap,some (.lst r),none,none]=some (.lst (r.map λt=>.int (ar9 t))):=by
   refine ay9 (l:=r) (g:=id) _ ?_ (by rw[r1];show _<=1000000;omega) λt ht=>⟨[some t],rfl,t7 rfl rfl (aT3 (r2 t ht)).1⟩
   rw[List.map_id];rfl
  obtain⟨m,k1,k2⟩:=aQ4 0 (r.map ar9);have k3:decide (m<0)= !(r.all amB):=by
   rw[k2,cG9,bu7 r2];rfl
  have d2:(bOf (g2 fLt (gN ay7 [g2 z0 (C4 [k8]) (l9 (itL A3) 1 [] (stN 0) t9 (d9 d7 k8))]) k8)) [some n,some tr,some s,some fl,some pap,some (.lst r),none,none]=some (!(r.all amB)):=by
   rw[<-k3];refine M4 (t7 (x:=.int m) (u0 (xs:=[.lst (.int 0::r.map λt=>.int (ar9 t))]) (t5 (t7 (x:=.lst [.int 0]) rfl comp ?_) rfl) ?_) rfl ab4)
   .rw[W5 (by simp[r1];show _<=1000000;omega)];rfl
   .have :X3 (.int 0::r.map λt=>.int (ar9 t))=some (0::r.map ar9):=by
     rw[X3,bI1];rfl
    show(X3 _).bind _=_;rw[this,cB2,k1];rfl
  have t:=ai6 d1 d2;refine⟨[some n,some tr,some s,some fl,some pap,some (.lst r),none,none],rfl,λz=>⟨_,by rw[F0,t,z];rfl,_,rfl⟩,λz=>by rw[F0,t,z];rfl⟩)
 have it:(itL n6) [some n,some tr,some s,some fl,some pap,none,none,none]=some (fs.map T.lst):=rfl;cases hf:flB fs with
 |false=>
  rw[Y6 (t:=.bl false) (by rw[S5,it,cB2];exact O.2 hf)];rfl
 |true=>
  obtain⟨U',o1,x,rfl⟩:=O.1 hf;rw[m8 (U':=[some n,some tr,some s,some fl,some pap,x,none,none]) (by rw[S5,it,cB2];exact o1)];rw[m8 (U':=[some n,some tr,some s,some fl,some pap,x,some (.lst (X6 vs s)),none]) ?_]
  .have s0:=aT3 R.s;rw[s0.2]at am;have d1:(bOf (g2 fLt (d9 m7 k8) k8)) [some n,some tr,some s,some fl,some pap,x,some (.lst (X6 vs s)),none]=some false:=by
    have :=M4 (t7 (f:=fLt) (a:=d9 m7 k8) (b:=k8) (U:=[some n,some tr,some s,some fl,some pap,x,some (.lst (X6 vs s)),none]) (Q4 2 0 rfl s0.1) rfl ab4);rw[this];simpa using am
   have d2:(ae6 (bOf (gN ax7 [d7,n6]))) [some n,some tr,some s,some fl,some pap,x,some (.lst (X6 vs s)),none]=some (!goB p ws vs fs):=aC1 (M4 (u0 (xs:=[n,fl]) rfl (ct4 hp (R.fs N))));have d3:(bOf (g2 fNe (gN ai7 [d7,n6]) D7)) [some n,some tr,some s,some fl,some pap,x,some (.lst (X6 vs s)),none]=some (!e):=M4 (t7 (u0 (xs:=[n,fl]) rfl (ct6 hp.1 (R.fs N) (Q7 (k:=3) h3))) rfl he);have d4:(ae6 (bOf (gN V2 [d7,y6]))) [some n,some tr,some s,some fl,some pap,x,some (.lst (X6 vs s)),none]=some (!hrB ws vs P H):=aC1 (M4 (u0 (xs:=[n,pap]) rfl (cu4 N R)));have t:=ai6 d1 (ai6 d2 (ai6 d3 d4));have tg:(false||(!goB p ws vs fs||(!e|| !hrB ws vs P H)))= !(goB p ws vs fs&&(e&&hrB ws vs P H)):=by
    cases goB p ws vs fs<;>cases e<;>cases hrB ws vs P H<;>rfl
   rw[tg]at t;have re:((true&&(goB p ws vs fs&&e))&&(hrB ws vs P H&&(c1&&c2)))=((goB p ws vs fs&&(e&&hrB ws vs P H))&&(c1&&c2)):=by
    cases goB p ws vs fs<;>cases e<;>cases hrB ws vs P H<;>rfl
   rw[re];cases hg:(goB p ws vs fs&&(e&&hrB ws vs P H))with
   |false=>
    rw[hg]at t;rw[Y6 (t:=.bl false) (by rw[F0,t];rfl)];rfl
   |true=>
    rw[hg]at t;rw[m8 (U':=[some n,some tr,some s,some fl,some pap,x,some (.lst (X6 vs s)),none]) (by rw[F0,t];rfl)];rw[m8 (U':=[some n,some tr,some s,some fl,some pap,x,some (.lst (X6 vs s)),some (aa9 vs H)]) ?_]
    .rw[y4,Q9 (x:=c1) (y:=c2) (t7 (x:=aa9 vs H) rfl rfl h1) (t7 (u0 (t5 (a:=d7) rfl (t5 (Q4 4 0 rfl e0) N7)) (ct5 N R)) rfl h2)];rfl
    .rw[A8];have it2:(itZ (d9 y6 e9) (d9 d7 v8)) [some n,some tr,some s,some fl,some pap,x,some (.lst (X6 vs s)),none]=some (C8 (mr vs.length H) (vs.map k9)):=by
      rw[aU1,Q8,Q8,Q4 4 1 rfl e1,Q4 0 2 rfl n2];rfl
     rw[u0 (t5 (aD0 N R (F:=R6) (xs:=vs) (f:=H) (λt z h1 h2=>(bp6 h1 (by decide) z h2).2) N.vt (by omega) R.hs it2) N7) (aX3 N R).2.1];rfl
  .rw[A8];have comp:(l9 (itL (d9 d7 v8)) 1 [2] (stN 0) t9 (gN R6 [e7,A1 [d9 d7 v8,e9]])) [some n,some tr,some s,some fl,some pap,x,none,none]=some (.lst (X6 vs s)):=by
    refine D4 (f:=K0 vs) _ ?_ (by show _<=1000000;omega) λi hi=>⟨[some (K0 vs i),some s],rfl,?_⟩
    .rw[<-O4,Q8,Q4 0 2 rfl n2];rfl
    .simp only[A5,U8,o7,y0,w8,y9,k7,cC1,cB3,jn,cB2,K0,X5,ix2];exact(bp6 R.s (by decide) _ (aX8 N.vt hi)).2
   rw[comp];rfl
end
section
variable (N:N5 p ws vs)(TD:aR9 ws vs u x (λj=>y ((u9 ws vs).W+j)) y)
include N TD
theorem aK9(h0:0<=a)(h1:a<2^105):Am 105 (nrm a u):=cA5 TD.B.pos h0 (by omega) (by have :=TD.us;omega)
theorem bO1(k:Nat):mr ws.length (λj=>nrm (ac8 ws vs x k j) u)=(mr ws.length (ac8 ws vs x k)).map λa=>nrm a u:=by rw[cK2];rfl
theorem cd0(k j:Nat)(hk:k<vs.length):Am 105 (nrm (ac8 ws vs x k j) u):=by
 have h1:=cl6 N TD k j hk;have h2:=bY1 N TD k hk;exact aK9 N TD h1.1 (by omega)
theorem af2(hn:105<=n):(Am n (nrm (x 0) u))/\(∀r∈P5 ws vs u x,r.length=ws.length/\∀t∈r,Am n t)/\(∀j,j<ws.length->Am n (nrm (y (vs.length+j)) u))/\(∀k,k<vs.length->Am n (nrm (y k) u)):=by
 have x0:=TD.B.x0 0;have xs:=TD.xs 0 (by show 0<1+_;omega);refine⟨(aK9 N TD x0 (by omega)).mono hn,λr hr=> ?_,λj hj=> ?_,λk hk=> ?_⟩
 .obtain⟨k,hk,rfl⟩:=cA8 hr;refine⟨by simp,λt ht=> ?_⟩;obtain⟨j,hj,rfl⟩:=cA8 ht;exact(cd0 N TD k j (cB0 hk)).mono hn
 .have h1:0<=y (vs.length+j):=TD.B.p0 j hj;have h2:(y (vs.length+j)).natAbs<2^100:=TD.ps j hj;exact(aK9 N TD h1 (by omega)).mono hn
 .have h1:=TD.B.h0 k hk;have h2:=TD.hs k hk;exact(aK9 N TD h1 (by omega)).mono hn
theorem bh8:Tri ws vs (nrm (x 0) u) (P5 ws vs u x) (λj=>nrm (y (vs.length+j)) u) (λk=>nrm (y k) u):=by
 obtain⟨h1,h2,h3,h4⟩:=af2 N TD (n:=300) (by decide);exact⟨h1.fz,by simp[P5],λr hr=>⟨(h2 r hr).1,λt ht=>((h2 r hr).2 t ht).fz⟩,λj hj=>(h3 j hj).fz,λk hk=>(h4 k hk).fz⟩
theorem bY2(hk:k<vs.length):frW vs k≠toW vs k:=by
 have h:=bh2 (N.vt vs[k] (cJ1 hk));unfold frW toW;rw[cI3 hk];exact h
theorem bc3(k:Nat)(hk:k<vs.length)(v:Int):P3 v ws (mr ws.length λj=>nrm (ac8 ws vs x k j) u) (fr 0 1)=nrm ((hit (toW vs k) v-hit (frW vs k) v)*(x 0*rmW vs k)) u:=by
 rw[bO1 N TD,<-aY4 TD.B.pos,bm3 TD.B.pos,cG4,bI8 N TD k hk]
theorem bh0:C8 (vs.map k9) ((P5 ws vs u x).map T.lst)=mr vs.length λk=>.tup [K0 vs k,.lst (mr ws.length λj=>nrm (ac8 ws vs x k j) u)]:=by
 rw[O4];unfold P5;rw[cK2,<-ax9];rfl
theorem ce2:flB (P5 ws vs u x)=true:=by
 unfold flB;rw[cG7];intro r hr;rw[cG7];intro t ht;exact(((af2 N TD (n:=300) (by decide)).2.1 r hr).2 t ht).amB
theorem cd8:goB p ws vs (P5 ws vs u x)=true:=by
 unfold goB;rw[cC7];constructor
 .rw[bh0 N TD,cG8,cG7];intro k hk;have hk:=cB0 hk;show aU0 p ws (frW vs k) (toW vs k) _=true;unfold aU0;rw[cG7];intro v hv;obtain⟨i,hi,rfl⟩:=al3 hv;rw[cD3];by_cases o:aj1 (frW vs k) (toW vs k) (.int (i:Int))=true
  .right;show isZ (P3 (i:Int) ws _ (fr 0 1))=true;rw[bc3 N TD k hk,bt7 TD.B.pos,cO9];simp only[aj1,List.contains_cons,List.contains_nil,Bool.or_false,cD2,Bool.or_eq_false_iff,beq_eq_false_iff_ne,ne_eq]at o;unfold hit;rw[cP1 λz=>o.2 z.symm,cP1 λz=>o.1 z.symm];simp
  .left;simpa using o
 .rw[cD2,List.any_eq_false];intro t ht;rw[O4,aV0]at ht;obtain⟨i,hi,rfl⟩:=cA8 ht;have hi:=cB0 hi;show¬aT8 (ac5 (am1 (P5 ws vs u x) (Int.toNat (i:Int))) (fr 0 1)) (rmW ws i)=true;have :am1 (P5 ws vs u x) (Int.toNat (i:Int))=(mr vs.length λk=>ac8 ws vs x k i).map λa=>nrm a u:=by
   unfold am1 P5;rw[cK2,cK2,cG2];refine cK1 λk _=> ?_
   simp only[Function.comp];rw[cI5,cI6 hi];rfl
  rw[this,ay0 TD.B.pos,bS7 TD.B.pos,aD1];have :=bD3 N TD i hi;rw[cF0];simpa using this
theorem bu5:ab7 ws vs (P5 ws vs u x)=X6 vs (nrm (x 0) u):=by
 unfold ab7 X6;rw[bh0 N TD,cK2];refine cK1 λk hk=> ?_
 have hk:=cB0 hk;show P3 (toW vs k) ws _ (fr 0 1)=_;rw[bc3 N TD k hk,av7 TD.B.pos];unfold hit;rw[cP2 rfl,cP1 (bY2 N TD hk)];simp
theorem cd6:hrB ws vs (λj=>nrm (y (vs.length+j)) u) (λk=>nrm (y k) u)=true:=by
 obtain⟨_,_,h3,h4⟩:=af2 N TD (n:=300) (by decide);unfold hrB paB;rw[cC7,cC7];refine⟨?_,?_,?_⟩
 .rw[cG8,cG7];exact λj hj=>(h3 j (cB0 hj)).amB
 .rw[cG8,cG7];exact λj hj=>(h4 j (cB0 hj)).amB
 .unfold htB;rw[cG7];intro l hl;obtain⟨i,hi,e⟩:=List.mem_iff_getElem.mp hl;obtain⟨r,r1,r2,r3,r4⟩:=aY7 hi;rw[cI3 hi,e]at r1;injection r1 with r1
  have lane:=TD.B.lane i hi;have s:=aG7 (λj=>y (vs.length+j)) r ws.length r3.nd r3.ix;have cost:aa6 (λj=>nrm (y (vs.length+j)) u) l.2=nrm (r.map λj=>y (vs.length+j)).sum u:=by
   unfold aa6;rw[r1];have :(r.map λj=>nrm (y (vs.length+j)) u)=(r.map λj=>y (vs.length+j)).map λa=>nrm a u:=by rw[cK2];rfl
   rw[this,ay0 TD.B.pos]
  rw[cost,bI5 TD.B.pos,r1];have :(u9 ws vs).of i=ofL (lns ws vs) i:=rfl;rw[this]at lane;have e2:j6 (λp=>if(u9 ws vs).on i p then y ((u9 ws vs).W+p)else 0) (u9 ws vs).P=j6 (λj=>if r.contains j then y (vs.length+j)else 0) ws.length:=v9 λj _=>by
   have :(u9 ws vs).on i j=onL (lns ws vs) i j:=rfl;rw[this,r4 j];rfl
  rw[e2,s]at lane;simpa using lane
theorem bS1:aa9 vs (λk=>nrm (y k) u)=fr 1 1:=by
 unfold aa9;have :(mr vs.length λi=>W7 (nrm (y i) u) (rmW vs i))=(mr vs.length λi=>y i*rmW vs i).map λa=>nrm a u:=by
  rw[cK2];exact cK1 λi _=>av7 TD.B.pos _ _
 rw[this,ay0 TD.B.pos,aD1];have e:j6 (λi=>y i*rmW vs i) vs.length=u:=by
  rw[<-TD.B.one];exact v9 λi _=>cF0 _ _
 rw[e];unfold nrm;rw[Int.gcd_self,cG0 (by have :=TD.B.pos;omega),Int.ediv_self (by have :=TD.B.pos;omega)]
theorem bJ9:aa9 ws (λj=>nrm (y (vs.length+j)) u)=nrm (x 0) u:=by
 unfold aa9;have :(mr ws.length λi=>W7 (nrm (y (vs.length+i)) u) (rmW ws i))=(mr ws.length λi=>y (vs.length+i)*rmW ws i).map λa=>nrm a u:=by
  rw[cK2];exact cK1 λi _=>av7 TD.B.pos _ _
 rw[this,ay0 TD.B.pos,aD1];congr 1;rw[<-TD.B.cost];exact v9 λi _=>cF0 _ _
theorem bC3:ak3 [l7 p ws vs,ae8 ws vs u x y]=some (.bl true)/\E9 [l7 p ws vs,ae8 ws vs u x y]=some (.val (.bl true)):=by
 have R:=bh8 N TD;obtain⟨e,c1,c2,h1,h2,h3,h4,h5,h6,h7,h8⟩:=aX4 N R;have so:=cg4 N R (af2 N TD (n:=300) (by decide)).1.amB h2 h5 h7;rw[ce2 N TD,cd8 N TD,cd6 N TD,h3 (bu5 N TD),h6 (bS1 N TD),h8 (bJ9 N TD)]at h1 so;exact⟨so,h1⟩
theorem bG9:(x 0=0) ↔∃k,k<vs.length/\F9 ws (toW vs k) 7 (frW vs k) [frW vs k]=[]:=by
 rw[U5.Best.none (bs8 N) TD.B];constructor
 .intro⟨k,hk,h⟩;have hk':k<vs.length:=hk;refine⟨k,hk',?_⟩;cases e:F9 ws (toW vs k) 7 (frW vs k) [frW vs k]with
  |nil=>rfl
  |cons r rs=>
   exfalso;have f:frW vs k=vs[k].1:=by unfold frW;rw[cI3 hk'];rfl
   have g:toW vs k=vs[k].2.1:=by unfold toW;rw[cI3 hk'];rfl
   have :r∈F9 ws vs[k].2.1 7 vs[k].1 [vs[k].1]:=by rw[<-f,<-g,e];exact cK7
   obtain⟨i,hi,e2⟩:=List.mem_iff_getElem.mp (cd1 (cI3 hk') this);apply h i hi;show(((lns ws vs)[i]?).getD (0,[])).1=k;rw[cI3 hi,e2];rfl
 .intro⟨k,hk,h⟩;refine⟨k,hk,λl hl e=> ?_⟩;obtain⟨j,r,v,h1,h2,h3⟩:=aM1 hl;have ej:j=k:=by
   have :(((lns ws vs)[l]?).getD (0,[])).1=k:=e;rw[h1]at this;exact this
  subst ej;have f:frW vs j=v.1:=by unfold frW;rw[h2];rfl
  have g:toW vs j=v.2.1:=by unfold toW;rw[h2];rfl
  rw[f,g]at h;rw[h]at h3;cases h3
end
theorem Fz.fr(h:Fz k t):M1 [t]=some (.bl true):=by
 obtain⟨n,d,rfl,hd,hg,_⟩:=h;rw[aW5];show some (T.bl (decide (0<d)&&(Int.gcd n d==1)))=_;rw[cO9 hd,hg];rfl
theorem cs7(ts:List T)(a:Nat):Z4 ts none (some (a:Int))=ts.take (min a ts.length):=by
 unfold Z4;rw[sIx_nat];show List.take (_-0) (List.drop 0 ts)=_;rw[Nat.sub_zero,cH5]
theorem cs6(ts:List T)(a b:Nat):Z4 ts (some (a:Int)) (some (b:Int))=(ts.drop (min a ts.length)).take (min b ts.length-min a ts.length):=by
 unfold Z4;rw[sIx_nat,sIx_nat]
theorem cs5(ts:List T)(b:Nat):Z4 ts (some (b:Int)) none=(ts.drop (min b ts.length)).take (ts.length-min b ts.length):=by
 unfold Z4;rw[sIx_nat];rfl
theorem bf6(h2:h U=some (.int y)):gPt (some h) U=some (some y):=by
 show(h U).bind _=_;rw[h2];rfl
theorem cg6(h1:a U=some (.lst ts))(h2:h U=some (.int y)):gSl a none (some h) U=some (.lst (Z4 ts none (some y))):=by
 unfold gSl;rw[h1,cB2,bf6 h2];rfl
theorem cw0(h1:a U=some (.lst ts))(h2:l U=some (.int x))(h3:h U=some (.int y)):gSl a (some l) (some h) U=some (.lst (Z4 ts (some x) (some y))):=by
 unfold gSl;rw[h1,cB2,bf6 h2,bf6 h3];rfl
theorem cv9(h1:a U=some (.lst ts))(h2:l U=some (.int x)):gSl a (some l) none U=some (.lst (Z4 ts (some x) none)):=by
 unfold gSl;rw[h1,cB2,bf6 h2];rfl
theorem co0(hd:0<d)(hg:Int.gcd n d=1)(h1:n.natAbs<2^k)(h2:d.natAbs<2^k):Fz k (fr n d):=⟨n,d,rfl,hd,hg,h1,h2⟩
theorem bV4(hl:ts.length<=10)(hf:∀t∈ts,Fz 105 t)(m:Int):∃ts',ap4 [.lst ts,.int m]=some (.lst ts')/\ts'.length=ts.length/\∀t∈ts',Fz 110 t:=by
 rw[ap4,o0 2 _ _ _ rfl,bo7];have st:o8 4 [.lst ts,.int m]=[some (.lst ts),some (.int m),none,none]:=rfl;rw[st];have mx:ay8 [.int 1,.int (ts.length:Int)]=some (.int (if(ts.length:Int)>1 then(ts.length:Int)else 1)):=rfl;have mp:0<(if(ts.length:Int)>1 then(ts.length:Int)else 1):=by split<;>omega
 obtain⟨a0,a1⟩:=ab5 m mp;generalize hc:(if(ts.length:Int)>1 then(ts.length:Int)else 1)=c at *;obtain⟨a,ha⟩:∃a:Nat,m%c=(a:Int):=⟨(m%c).toNat,(cG3 a0).symm⟩
 have h1:(g2 J5 e7 (gN ay8 [e9,gN C5 [d7]])) [some (.lst ts),some (.int m),none,none]=some (.int (a:Int)):=by
  rw[<-ha];exact t7 (x:=.int m) rfl (u0 (xs:=[.int 1,.int (ts.length:Int)]) rfl mx) (K4 mp)
 obtain⟨b0,b1⟩:=ab5 (m/64) (b:=4) (by decide);obtain⟨ch,c1,c2⟩:=aZ1 (xs:=[fr 1 7,fr (-1) 7,fr (-9) 1,fr 5 1]) b0 (by simpa using b1);have cz:Fz 4 ch:=by
  simp only[cK5,cK8,or_false]at c2;rcases c2 with rfl|rfl|rfl|rfl<;>exact co0 (by decide) (by decide) (by decide) (by decide)
 have h2:(d9 (C4 [A1 [e9,gI 7],A1 [g1 L9 e9,gI 7],A1 [g1 L9 (gI 9),e9],A1 [gI 5,e9]]) (g2 J5 (g2 K7 e7 ai4) (gI 4))) [some (.lst ts),some (.int m),some (.int (a:Int)),none]=some ch:=
  t7 (x:=.lst [fr 1 7,fr (-1) 7,fr (-9) 1,fr 5 1]) rfl (t7 (t7 (x:=.int m) rfl rfl (ab6 (by decide) (by decide))) rfl (K4 (by decide))) c1
 rw[aq6 (o:=_) h1 rfl];simp only[cC2,cC3];rw[aq6 (o:=_) h2 rfl];simp only[cC2,cC3]
 let U:A7:=[some (.lst ts),some (.int m),some (.int (a:Int)),some ch]
 have p1:(g2 z0 m7 e9) U=some (.int ((a+1:Nat):Int)):=t7 (x:=.int (a:Int)) rfl rfl Q5;have s1:=cg6 (U:=U) (a:=d7) (h:=m7) (ts:=ts) (y:=(a:Int)) rfl rfl;have s2:=cw0 (U:=U) (a:=d7) (l:=m7) (ts:=ts) (x:=(a:Int)) rfl rfl p1;have s3:=cv9 (U:=U) (a:=d7) (ts:=ts) rfl p1;rw[cs7]at s1;rw[cs6]at s2;rw[cs5]at s3;have i1:min a ts.length<=min (a+1) ts.length:=by simp only[Nat.le_min];exact⟨Nat.le_succ_of_le (Nat.min_le_left ..),Nat.min_le_right ..⟩
 have i2:min (a+1) ts.length<=ts.length:=Nat.min_le_right ..;generalize min a ts.length=i at *;generalize min (a+1) ts.length=j at *;have comp:(l9 (itL (gSl d7 (some m7) (some (g2 z0 m7 e9)))) 1 [3] (stN 0) t9 (gN S3 [d7,e7])) U=some (.lst (((ts.drop i).take (j-i)).map λt=>ae3 t ch)):=by
  refine ay9 (l:=(ts.drop i).take (j-i)) (g:=id) _ ?_ (cM5 (List.length_take_le ..) (by show _<=1000000;omega)) λt ht=>⟨[some t,some ch],rfl,u0 (xs:=[t,ch]) rfl (aM8 (hf t (cL0 (cL1 ht))) cz (by decide))⟩
  rw[List.map_id,Q8,s2];rfl
 refine⟨(ts.take i++((ts.drop i).take (j-i)).map λt=>ae3 t ch)++(ts.drop j).take (ts.length-j),?_,?_,λt ht=> ?_⟩
 .show az4 (t8 _ U)=_;rw[y4,t7 (t7 s1 comp (W5 (by simp;exact cM5 (Nat.add_le_add (Nat.min_le_left ..) (Nat.min_le_left ..)) (by show _<=1000000;omega)))) s3 (W5 (by simp;exact cM5 (Nat.add_le_add (Nat.add_le_add (Nat.min_le_left ..) (Nat.min_le_left ..)) (cM3 _)) (by show _<=1000000;omega)))];rfl
 .rw[cJ2,cJ2,cJ3,cJ8,cJ8,cJ8,List.length_drop,List.length_drop,cN1 (cM5 i1 i2),cN1 (Nat.sub_le_sub_right i2 i),Nat.min_self];omega
 .rcases cC5 ht with ht|ht
  .rcases cC5 ht with ht|ht
   .exact(hf t (cL1 ht)).mono (by decide)
   .obtain⟨s,hs,rfl⟩:=cA8 ht;exact(aK4 (hf s (cL0 (cL1 hs))) cz (by decide)).2
  .exact(hf t (cL0 (cL1 ht))).mono (by decide)
section
variable (N:N5 p ws vs)
include N
theorem cr9:∃u x y,aR9 ws vs u x (λj=>y ((u9 ws vs).W+j)) y/\N3 [l7 p ws vs]=some (.val (ae8 ws vs u x y)):=by
 obtain⟨u,x,y,TD,h⟩:=cy5 N;have h3:=N.v3;refine⟨u,x,y,TD,?_⟩;show ac7 (W9 [some (l7 p ws vs)])=_;unfold W9;rw[ak9 (xs:=[l7 p ws vs]) rfl (aw1 (aB4 N))];have n2:z8 (l7 p ws vs) (.int 2)=some (.lst (vs.map k9)):=by simp only[l7,ix2]
 have comp:(l9 (itL (d9 d7 v8)) 1 [] (stN 0) t9 (gC .non)) [some (l7 p ws vs)]=some (.lst (mr vs.length λ_=>.non)):=by
  refine D4 (f:=K0 vs) _ ?_ (by show _<=1000000;omega) λi hi=>⟨_,rfl,rfl⟩
  rw[<-O4,Q8,Q4 0 2 rfl n2];rfl
 show ac7 ((t8 _ [some (l7 p ws vs)]).bind _)=_;rw[y4,u0 (t5 (a:=d7) rfl (t5 comp N7)) h];rfl
theorem aB8(h1:a U=some (.bl false)):K6 a b U=some (.bl false):=by
 rw[R0,M4 h1];rfl
theorem bq9:(l9 (itL (d9 d7 v8)) 1 [1] (stN 0) t9 (d9 e7 k8)) [some (l7 p ws vs),some (.tup [s,f,g])]=some (.lst (mr vs.length λ_=>s)):=by
 have h3:=N.v3;have n2:z8 (l7 p ws vs) (.int 2)=some (.lst (vs.map k9)):=by simp only[l7,ix2]
 have t0:z8 (.tup [s,f,g]) (.int 0)=some s:=ix0 _ _;refine D4 (f:=K0 vs) _ ?_ (by show _<=1000000;omega) λi hi=>⟨[some (K0 vs i),some (.tup [s,f,g])],rfl,t7 rfl rfl t0⟩
 rw[<-O4,Q8,Q4 0 2 rfl n2];rfl
theorem bb2(hB:M1 [s]=some (.bl false)):E9 [l7 p ws vs,.tup [s,f,g]]=some (.val (.bl false)):=by
 show ac7 (N0 [some (l7 p ws vs),some (.tup [s,f,g])])=_;unfold N0;rw[ak9 (xs:=[l7 p ws vs]) rfl (aw1 (aB4 N))];have t0:z8 (.tup [s,f,g]) (.int 0)=some s:=ix0 _ _;show ac7 ((t8 _ [some (l7 p ws vs),some (.tup [s,f,g])]).bind _)=_;rw[y4,Q9 (x:=true) (y:=false) (u0 (xs:=[.tup [s,f,g]]) rfl rfl) (aB8 N (u0 (t5 (Q4 1 0 rfl t0) N7) hB))];rfl
theorem bb1(hB:M1 [s]=some (.bl true))(hC:ag9 [l7 p ws vs,f,.lst (mr vs.length λ_=>s)]=some (.bl false)):E9 [l7 p ws vs,.tup [s,f,g]]=some (.val (.bl false)):=by
 show ac7 (N0 [some (l7 p ws vs),some (.tup [s,f,g])])=_;unfold N0;rw[ak9 (xs:=[l7 p ws vs]) rfl (aw1 (aB4 N))];have t0:z8 (.tup [s,f,g]) (.int 0)=some s:=ix0 _ _;have t1:z8 (.tup [s,f,g]) (.int 1)=some f:=ix1 _ _ _;show ac7 ((t8 _ [some (l7 p ws vs),some (.tup [s,f,g])]).bind _)=_;rw[y4,Q9 (x:=true) (y:=true&&false) (u0 (xs:=[.tup [s,f,g]]) rfl rfl) (Q9 (u0 (t5 (Q4 1 0 rfl t0) N7) hB)
  (aB8 N (u0 (t5 (a:=d7) rfl (t5 (Q4 1 1 rfl t1) (t5 (bq9 N) N7))) hC)))]
 rfl
theorem aH1(hB:M1 [s]=some (.bl true))(hC:ag9 [l7 p ws vs,f,.lst (mr vs.length λ_=>s)]=some (.bl c))(hD:ad5 [l7 p ws vs,g]=some (.bl false)):E9 [l7 p ws vs,.tup [s,f,g]]=some (.val (.bl false)):=by
 show ac7 (N0 [some (l7 p ws vs),some (.tup [s,f,g])])=_;unfold N0;rw[ak9 (xs:=[l7 p ws vs]) rfl (aw1 (aB4 N))];have t0:z8 (.tup [s,f,g]) (.int 0)=some s:=ix0 _ _;have t1:z8 (.tup [s,f,g]) (.int 1)=some f:=ix1 _ _ _;have t2:z8 (.tup [s,f,g]) (.int 2)=some g:=ix2 _ _ _ _;show ac7 ((t8 _ [some (l7 p ws vs),some (.tup [s,f,g])]).bind _)=_;rw[y4,Q9 (x:=true) (y:=true&&(c&&false)) (u0 (xs:=[.tup [s,f,g]]) rfl rfl) (Q9 (u0 (t5 (Q4 1 0 rfl t0) N7) hB)
  (Q9 (u0 (t5 (a:=d7) rfl (t5 (Q4 1 1 rfl t1) (t5 (bq9 N) N7))) hC)
   (aB8 N (u0 (t5 (a:=d7) rfl (t5 (Q4 1 2 rfl t2) N7)) hD))))]
 cases c<;>rfl
theorem bd6(h:O3 [l7 p ws vs,f]=some (.bl false)):ag9 [l7 p ws vs,f,s]=some (.bl false):=by
 rw[ag9,o0 3 _ _ _ rfl,aS3,y4,aB8 N (u0 (xs:=[l7 p ws vs,f]) rfl h)];rfl
theorem bk3(h1:V0 [.lst a,.int (ws.length:Int)]=some (.bl c))(h2:V0 [.lst b,.int (vs.length:Int)]=some (.bl false)):ad5 [l7 p ws vs,.tup [.lst a,.lst b]]=some (.bl false):=by
 rw[ad5,o0 2 _ _ _ rfl,aG2,y4];have e0:z8 (.tup [.lst a,.lst b]) (.int 0)=some (.lst a):=ix0 _ _;have e1:z8 (.tup [.lst a,.lst b]) (.int 1)=some (.lst b):=ix1 _ _ _;have n1:z8 (l7 p ws vs) (.int 1)=some (.lst (ws.map k9)):=by simp only[l7,ix1]
 have n2:z8 (l7 p ws vs) (.int 2)=some (.lst (vs.map k9)):=by simp only[l7,ix2]
 rw[Q9 (x:=true) (y:=c&&false) (u0 (xs:=[.tup [.lst a,.lst b]]) rfl rfl) (Q9 (u0 (t5 (Q4 1 0 rfl e0) (t5 (u0 (t5 (Q4 0 1 rfl n1) N7) (by rw[G7,cJ3])) N7)) h1)
  (aB8 N (u0 (t5 (Q4 1 1 rfl e1) (t5 (u0 (t5 (Q4 0 2 rfl n2) N7) (by rw[G7,cJ3])) N7)) h2)))]
 cases c<;>rfl
end
theorem bS6(hb:0<b)(hd:0<d)(h:nrm a b=nrm c d):a*d=c*b:=by
 obtain⟨n,e,h1,h2,h3,h4⟩:=S6 (a:=a) hb;obtain⟨m,f,k1,k2,k3,k4⟩:=S6 (a:=c) hd;rw[h1,k1]at h;cases h;refine cE5 (show e≠0 by omega) ?_
 calc (a*d)*e=(a*e)*d:=cF7 ..
  _=(n*b)*d:=by rw[h4]
  _=(n*d)*b:=cF7 ..
  _=(c*e)*b:=by rw[k4]
  _=(c*b)*e:=cF7 ..
noncomputable def bS5(s f a b:T)(hs:List T):List T:=[.tup [s,.lst [],.tup [a,b]],.tup [s,.non,.tup [a,b]],.tup [s,f,.tup [.lst [],.lst []]],.tup [s,f,.non],.tup [fr 2 2,f,.tup [a,b]],.tup [s,f,.tup [a,.lst (hs++[fr 0 1])]],.tup [.non,f,.tup [a,b]],.tup [fr (-1) 1,f,.tup [a,b]]]
section
variable (N:N5 p ws vs)(TD:aR9 ws vs u x (λj=>y ((u9 ws vs).W+j)) y)
include N TD
theorem bU7:∀t∈bS5 (nrm (x 0) u) (.lst ((P5 ws vs u x).map T.lst)) (.lst (mr ws.length λj=>nrm (y (vs.length+j)) u)) (.lst (mr vs.length λk=>nrm (y k) u)) (mr vs.length λk=>nrm (y k) u),E9 [l7 p ws vs,t]=some (.val (.bl false)):=by
 have R:=bh8 N TD;have h1:=N.v1;have h3:=N.v3;have h8:=N.wl;have fs:=R.s.fr;obtain⟨e,br,_⟩:=bn7 N R;have row:∀(n:Nat) (l:List T),l.length<=100->(∀t∈l,Fz 300 t)->V0 [.lst l,.int (n:Int)]=some (.bl (decide (l.length=n)&&l.all amB)):=λn l hn hf=>ba5 amB (λt ht=>(hf t ht).am) (by show _<=1000000;omega)
 intro t ht;simp only[bS5,cK5,cK8,or_false]at ht;rcases ht with rfl|rfl|rfl|rfl|rfl|rfl|rfl|rfl
 .exact bb1 N fs (bd6 N (bp8 (by simp;omega)))
 .exact bb1 N fs (bd6 N bp7)
 .refine aH1 N fs br (bk3 N (row ws.length [] (by simp) (by simp)) ?_);rw[row vs.length [] (by simp) (by simp),cO8 (by simp;omega)];rfl
 .exact aH1 N fs br rfl
 .refine bb2 N ?_;rw[aW5];rfl
 .refine aH1 N fs br (bk3 N (row ws.length _ (by simp;omega) λt ht=> ?_) ?_)
  .obtain⟨j,hj,rfl⟩:=cA8 ht;exact R.ps j (cB0 hj)
  .rw[row vs.length _ (by simp;omega) λt ht=> ?_,cO8 (by simp)]
   .rfl
   .rcases cC5 ht with ht|ht
    .obtain⟨j,hj,rfl⟩:=cA8 ht;exact R.hs j (cB0 hj)
    .rw[List.mem_singleton.mp ht];exact ar5 0 (.inl rfl)
 .exact bb2 N (bM3 rfl (by intro a b z;cases z))
 .have R':Tri ws vs (fr (-1) 1) (P5 ws vs u x) (λj=>nrm (y (vs.length+j)) u) (λk=>nrm (y k) u):=⟨co0 (by decide) (by decide) (by decide) (by decide),R.fl,R.row,R.ps,R.hs⟩
  obtain⟨e',c1,c2,q1,q2,q3,q4,_⟩:=aX4 N R';have q1:E9 [l7 p ws vs,.tup [fr (-1) 1,.lst ((P5 ws vs u x).map T.lst),.tup [.lst (mr ws.length λj=>nrm (y (vs.length+j)) u),.lst (mr vs.length λk=>nrm (y k) u)]]]=_:=q1;have :e'=false:=by
   cases e' with
   |false=>rfl
   |true=>
    exfalso;have z:=q4 rfl;rw[bu5 N TD]at z;have z:=congrArg (λl=>l[0]?) z;unfold X6 at z;simp only[cI5,cI6 (show 0<vs.length by omega),Option.map_some]at z;injection z with z
    rw[av7 TD.B.pos]at z;have z:nrm (x 0*rmW vs 0) u=nrm (-1*rmW vs 0) 1:=z;have z:=bS6 TD.B.pos (by decide) z;have w:=ak8 N.vt (show 0<vs.length by omega);have a0:=aX0 N TD 0 (by omega);have b0:=cF6 (show 0<rmW vs 0 by omega) TD.B.pos;rw[cF5,cG1,Int.one_mul,cG1]at z;omega
  rw[q1,this];simp
end
theorem cx6:N3 [.tup [.int 1,.lst [],.lst [.tup [.int 0,.int 1,.int 1]]]]=some (.exc "BadNet"):=by
 show ac7 (W9 [some (.tup [.int 1,.lst [],.lst [.tup [.int 0,.int 1,.int 1]]])])=_;unfold W9;rw[bD7 (xs:=[.tup [.int 1,.lst [],.lst [.tup [.int 0,.int 1,.int 1]]]]) rfl (bW3 (by rw[bA4,cP1 (by decide)]))];rfl
theorem cx5(t:T):E9 [.tup [.int 2,.lst [],.lst []],t]=some (.exc "BadNet"):=by
 show ac7 (N0 [some (.tup [.int 2,.lst [],.lst []]),some t])=_;unfold N0;rw[bD7 (xs:=[.tup [.int 2,.lst [],.lst []]]) rfl (bW3 ?_)]
 .rfl
 .rw[bA4,cP2 (by decide)];have a:=bq4 (p:=2) (ws:=[]) (by decide) (by simp) rfl;have b:=co5 (ts:=[]) (p:=2) (λ_=>true) (by simp) (by decide);simp only[cB5]at a;rw[a,cB2,D5,cB2,cP2 rfl,b];rfl
noncomputable def rs(a:Nat->Option T)(i:Nat):Nat->A7
 |0=>[]
 |n+1=>a i::rs a (i+1) n
theorem ck5(xs:List T):fNe (.lst xs) (.lst [])=some (.bl (!xs.isEmpty)):=by
 cases xs<;>rfl
theorem cn0(xs:List T):fEq (.lst xs) (.lst [])=some (.bl xs.isEmpty):=by
 cases xs<;>rfl
theorem aF1:∀{xs:List T},(∀x∈xs,f x x=some true)->aa5 f xs xs=some true
 |[],_=>rfl
 |x::xs,h=>by rw[aa5,h x cK7,cB2,aF1 λy hy=>h y (cK6 _ hy)];rfl
theorem aU9(h:∀x∈xs,eqD n x x=some true):eqD (n+1) (.lst xs) (.lst xs)=some true:=by
 show(if xs.length=xs.length then aa5 (eqD n) xs xs else some false)=_;rw[cP2 rfl,aF1 h]
theorem bm7(h:∀x∈xs,eqD n x x=some true):eqD (n+1) (.tup xs) (.tup xs)=some true:=by
 show(aa5 (eqD n) xs xs).bind (λb=>some (b&&xs.length==xs.length))=_;rw[aF1 h];simp
theorem aM2(h:Fz k t):eqD (n+2) t t=some true:=by
 obtain⟨a,b,rfl,_⟩:=h;refine bm7 λx hx=> ?_
 simp only[cK5,cK8,or_false]at hx;rcases hx with rfl|rfl<;>simp[eqD]
theorem cn4(xs:List T)(x:T):Z4 (xs++[x]) none (some (-1))=xs:=by
 unfold Z4;rw[cJ2,cJ7,bC9];show List.take (xs.length-0) (List.drop 0 _)=_;rw[cH5,Nat.sub_zero,cM0 (cM3 _),cM1 (cM3 _)]
theorem bx1(d:Int):∃t,z8 (.lst [a,b]) (.int (d%2))=some t/\(t=a\/t=b):=by
 obtain⟨a0,a1⟩:=ab5 d (b:=2) (by decide);obtain⟨t,h1,h2⟩:=aZ1 (xs:=[a,b]) a0 (by simpa using a1);exact⟨t,h1,by simpa using h2⟩
theorem cq9(c:Bool):∃t,z8 (.lst [a,b]) (.int (if c then 1 else 0))=some t/\(t=a\/t=b):=by
 cases c
 .exact⟨a,rfl,.inl rfl⟩
 .exact⟨b,rfl,.inr rfl⟩
theorem aM3(n:Nat)(h:n<=60):K7 (.int i) (.int (2^n))=some (.int (i/2^n)):=by
 have e:(2:Int)^n=((2^n:Nat):Int):=by simp
 have h2:2^n<2^61:=Nat.pow_lt_pow_right (by decide) (by omega);have h1:0<2^n:=Nat.pow_pos (by decide);refine ap1 (by rw[e];omega) (T9 (k:=61) ?_ (by decide));rw[e];exact h2
section
variable (N:N5 p ws vs)(TD:aR9 ws vs u x (λj=>y ((u9 ws vs).W+j)) y)
include N TD
theorem bY5:fNe (ae8 ws vs u x y) (ae8 ws vs u x y)=some (.bl false):=by
 obtain⟨h1,h2,h3,h4⟩:=af2 N TD (n:=300) (by decide);have :eqD 8 (ae8 ws vs u x y) (ae8 ws vs u x y)=some true:=by
  refine bm7 λt ht=> ?_
  simp only[cK5,cK8,or_false]at ht;rcases ht with rfl|rfl|rfl
  .exact aM2 h1.fz
  .refine aU9 λt ht=> ?_
   obtain⟨r,hr,rfl⟩:=cA8 ht;exact aU9 λt ht=>aM2 ((h2 r hr).2 t ht).fz
  .refine bm7 λt ht=> ?_
   simp only[cK5,cK8,or_false]at ht;rcases ht with rfl|rfl
   .refine aU9 λt ht=> ?_
    obtain⟨j,hj,rfl⟩:=cA8 ht;exact aM2 (h3 j (cB0 hj)).fz
   .refine aU9 λt ht=> ?_
    obtain⟨j,hj,rfl⟩:=cA8 ht;exact aM2 (h4 j (cB0 hj)).fz
 unfold fNe;rw[this];rfl
theorem bS3(ns k br:Option T)(dr:Int)(j:Int)(a:Nat->Option T):let E:=λl=>ns::k::some (.int dr)::some (l7 p ws vs)::some (ae8 ws vs u x y)::br::some (nrm (x 0) u)::some (.lst ((P5 ws vs u x).map T.lst))::some (.tup [.lst (mr ws.length λj=>nrm (y (vs.length+j)) u),.lst (mr vs.length λk=>nrm (y k) u)])::some (.int j)::l
  ∃b,lB (E (rs a 10 8))=some (.nx (E (rs b 10 8))):=by
 intro E;have h1:=N.v1;have h3:=N.v3;have h8:=N.wl;obtain⟨t1,t2,t3,t4⟩:=af2 N TD (n:=105) (by decide);obtain⟨d2,hd2,_⟩:=bA7 dr (90+j)
 let net:=l7 p ws vs
 let tr:=ae8 ws vs u x y
 let sh:=nrm (x 0) u
 let fl:=T.lst ((P5 ws vs u x).map T.lst)
 let psl:=mr ws.length λj=>nrm (y (vs.length+j)) u
 let hsl:=mr vs.length λk=>nrm (y k) u
 let pap:=T.tup [.lst psl,.lst hsl]
 have fne:P5 ws vs u x≠[]:=by
  intro z;have :=congrArg List.length z;unfold P5 at this;rw[cJ3,cJ4,cB9]at this;omega
 obtain⟨ini,las,hfl⟩:∃ini las,P5 ws vs u x=ini++[las]:=⟨_,_,(List.dropLast_concat_getLast fne).symm⟩
 have hfm:(P5 ws vs u x).map T.lst=ini.map T.lst++[.lst las]:=by rw[hfl,cK0];rfl
 have fll:ini.length+1=vs.length:=by
  have :=congrArg List.length hfl;unfold P5 at this;rw[cJ3,cJ4,cJ2]at this;simpa using this.symm
 have lm:=t2 las (by rw[hfl];simp);obtain⟨las',q1,q2,q3⟩:=bV4 (ts:=las) (by rw[lm.1];omega) (λt ht=>(lm.2 t ht).fz) (d2/8);have e11:∃fs':List (List T),lp1 (E (some (.int d2)::rs a 11 7))=some (.lst (fs'.map T.lst))/\fs'.length=vs.length/\∀r∈fs',r.length=ws.length/\∀t∈r,Fz 300 t:=by
  have v7:V3 (E (some (.int d2)::rs a 11 7))=some (.lst (ini.map T.lst++[.lst las])):=by
   show some fl=_;show some (T.lst _)=_;rw[hfm]
  have s1:=cg6 (a:=V3) (h:=g1 L9 e9) (y:= -1) v7 rfl;rw[cn4]at s1;have s2:(d9 V3 (g1 L9 e9)) (E (some (.int d2)::rs a 11 7))=some (.lst las):=t7 v7 rfl (aE2 _ _);have s3:(g2 K7 Y2 Y3) (E (some (.int d2)::rs a 11 7))=some (.int (d2/8)):=t7 (x:=.int d2) rfl rfl (ab6 (by decide) (by decide));have s4:=t7 (f:=z0) s1 (ay5 (t5 (u0 (t5 s2 (t5 s3 N7)) q1) N7)) (W5 (xs:=ini.map T.lst) (ys:=[.lst las']) (by simp;show _<=1000000;omega));have s5:(g2 J5 Y2 v8) (E (some (.int d2)::rs a 11 7))=some (.int (d2%2)):=t7 (x:=.int d2) rfl rfl (K4 (by decide));obtain⟨t,k1,k2⟩:=bx1 (a:=.lst (ini.map T.lst++[.lst las'])) (b:=.lst (ini.map T.lst++[.lst las])) d2;have main:=t7 (f:=z8) (ay5 (t5 s4 (t5 v7 N7))) s5 k1;rcases k2 with rfl|rfl
  .refine⟨ini++[las'],by rw[cK0];exact main,by simpa using fll,λr hr=> ?_⟩;rcases cC5 hr with hr|hr
   .have :=t2 r (by rw[hfl];exact cK3 _ hr);exact⟨this.1,λt ht=>(this.2 t ht).fz.mono (by decide)⟩
   .rw[List.mem_singleton.mp hr];exact⟨q2.trans lm.1,λt ht=>(q3 t ht).mono (by decide)⟩
  .refine⟨ini++[las],by rw[cK0];exact main,by simpa using fll,λr hr=> ?_⟩;have :=t2 r (by rw[hfl];exact hr);exact⟨this.1,λt ht=>(this.2 t ht).fz.mono (by decide)⟩
 obtain⟨fs',f1,f2,f3⟩:=e11;have mem:∀(n:Nat) (f:Nat->T),(∀j,j<n->Am 105 (f j))->∀t∈mr n f,Fz 105 t:=λn f hf t ht=>by
  obtain⟨j,hj,rfl⟩:=cA8 ht;exact(hf j (cB0 hj)).fz
 have e0:z8 pap (.int 0)=some (.lst psl):=ix0 _ _;have e1:z8 pap (.int 1)=some (.lst hsl):=ix1 _ _ _;have e12:∃l:List T,lp2 (E (some (.int d2)::some (.lst (fs'.map T.lst))::rs a 12 6))=some (.lst l)/\l.length=ws.length/\∀t∈l,Fz 300 t:=by
  obtain⟨l',r1,r2,r3⟩:=bV4 (ts:=psl) (by simp[psl];omega) (mem _ _ t3) (d2/2^12);have s2:(d9 R7 k8) (E (some (.int d2)::some (.lst (fs'.map T.lst))::rs a 12 6))=some (.lst psl):=t7 (x:=pap) rfl rfl e0;have s3:(g2 K7 Y2 (g2 az6 v8 (gI 12))) (E (some (.int d2)::some (.lst (fs'.map T.lst))::rs a 12 6))=some (.int (d2/2^12)):=t7 (x:=.int d2) (y:=.int (2^12)) rfl rfl (aM3 12 (by decide));have s5:(g2 J5 (g2 K7 Y2 v8) v8) (E (some (.int d2)::some (.lst (fs'.map T.lst))::rs a 12 6))=some (.int (d2/2%2)):=t7 (t7 (x:=.int d2) rfl rfl (ab6 (by decide) (by decide))) rfl (K4 (by decide));obtain⟨t,k1,k2⟩:=bx1 (a:=.lst l') (b:=.lst psl) (d2/2);have main:=t7 (f:=z8) (ay5 (t5 (u0 (t5 s2 (t5 s3 N7)) r1) (t5 s2 N7))) s5 k1;rcases k2 with rfl|rfl
  .exact⟨l',main,by rw[r2];simp[psl],λt ht=>(r3 t ht).mono (by decide)⟩
  .exact⟨psl,main,by simp[psl],λt ht=>(mem _ _ t3 t ht).mono (by decide)⟩
 obtain⟨pl,p1,p2,p3⟩:=e12;have e13:∃l:List T,lp3 (E (some (.int d2)::some (.lst (fs'.map T.lst))::some (.lst pl)::rs a 13 5))=some (.lst l)/\l.length=vs.length/\∀t∈l,Fz 300 t:=by
  obtain⟨l',r1,r2,r3⟩:=bV4 (ts:=hsl) (by simp[hsl];omega) (mem _ _ t4) (d2/2^24);have s2:(d9 R7 e9) (E (some (.int d2)::some (.lst (fs'.map T.lst))::some (.lst pl)::rs a 13 5))=some (.lst hsl):=t7 (x:=pap) rfl rfl e1;have s3:(g2 K7 Y2 (g2 az6 v8 (gI 24))) (E (some (.int d2)::some (.lst (fs'.map T.lst))::some (.lst pl)::rs a 13 5))=some (.int (d2/2^24)):=t7 (x:=.int d2) (y:=.int (2^24)) rfl rfl (aM3 24 (by decide));have s5:(g2 J5 (g2 K7 Y2 (gI 4)) v8) (E (some (.int d2)::some (.lst (fs'.map T.lst))::some (.lst pl)::rs a 13 5))=some (.int (d2/4%2)):=t7 (t7 (x:=.int d2) rfl rfl (ab6 (by decide) (by decide))) rfl (K4 (by decide));obtain⟨t,k1,k2⟩:=bx1 (a:=.lst l') (b:=.lst hsl) (d2/4);have main:=t7 (f:=z8) (ay5 (t5 (u0 (t5 s2 (t5 s3 N7)) r1) (t5 s2 N7))) s5 k1;rcases k2 with rfl|rfl
  .exact⟨l',main,by rw[r2];simp[hsl],λt ht=>(r3 t ht).mono (by decide)⟩
  .exact⟨hsl,main,by simp[hsl],λt ht=>(mem _ _ t4 t ht).mono (by decide)⟩
 obtain⟨hl,w1,w2,w3⟩:=e13;have e14:∃s',lp4 (E (some (.int d2)::some (.lst (fs'.map T.lst))::some (.lst pl)::some (.lst hl)::rs a 14 4))=some s'/\Am 300 s':=by
  have nine:Am 4 (fr 1 9):=⟨1,9,rfl,by decide,by decide,by decide,by decide,by decide⟩
  have s2:(gN S3 [D7,A1 [e9,gI 9]]) (E (some (.int d2)::some (.lst (fs'.map T.lst))::some (.lst pl)::some (.lst hl)::rs a 14 4))=some (ae3 sh (fr 1 9)):=u0 (xs:=[sh,fr 1 9]) rfl (aM8 t1.fz nine.fz (by decide));have s3:(g2 K7 Y2 (g2 az6 v8 (gI 40))) (E (some (.int d2)::some (.lst (fs'.map T.lst))::some (.lst pl)::some (.lst hl)::rs a 14 4))=some (.int (d2/2^40)):=t7 (x:=.int d2) (y:=.int (2^40)) rfl rfl (aM3 40 (by decide));have s5:=u0 (f:=ax0) (t5 (t7 (f:=fEq) (t7 (f:=J5) s3 (b:=gI 4) rfl (K4 (by decide))) (b:=k8) rfl P7) N7) rfl;obtain⟨t,k1,k2⟩:=cq9 (a:=sh) (b:=ae3 sh (fr 1 9)) (d2/2^40%4==0);have main:=t7 (f:=z8) (ay5 (t5 (a:=D7) (x:=sh) rfl (t5 s2 N7))) s5 k1;refine⟨t,main,?_⟩;rcases k2 with rfl|rfl
  .exact t1.mono (by decide)
  .exact(t1.add nine).mono (by decide)
 obtain⟨s',g1',g2'⟩:=e14;have R:Tri ws vs s' fs' (λj=>(pl[j]?).getD .non) (λj=>(hl[j]?).getD .non):=⟨g2'.fz,f2,f3,λj hj=>by
   rw[cI3 (by omega)];exact p3 _ (cJ1 _),λj hj=>by
   rw[cI3 (by omega)];exact w3 _ (cJ1 _)⟩
 have tri:T.tup [s',.lst (fs'.map T.lst),.tup [.lst pl,.lst hl]]=ak6 ws vs s' fs' (λj=>(pl[j]?).getD .non) (λj=>(hl[j]?).getD .non):=by
  unfold ak6;rw[<-p2,<-w2,<-at7,<-at7]
 obtain⟨e,c1,c2,z1,z2,_,_,z5,_,z7,_⟩:=aX4 N R;have so:=cg4 N R g2'.amB z2 z5 z7;rw[<-tri]at z1 so;generalize((flB fs'&&(goB p ws vs fs'&&e))&&(hrB ws vs (λj=>(pl[j]?).getD .non) (λj=>(hl[j]?).getD .non)&&(c1&&c2)))=bb at z1 so;refine⟨λi=>M9 (i-10) (some (.int d2)::some (.lst (fs'.map T.lst))::some (.lst pl)::some (.lst hl)::some s'::some (.tup [s',.lst (fs'.map T.lst),.tup [.lst pl,.lst hl]])::some (.bl bb)::rs a 17 1),?_⟩;show(lB) (E (rs a 10 8))=some (.nx (E (some (.int d2)::some (.lst (fs'.map T.lst))::some (.lst pl)::some (.lst hl)::some s'::some (.tup [s',.lst (fs'.map T.lst),.tup [.lst pl,.lst hl]])::some (.bl bb)::rs a 17 1)));unfold lB;rw[m8 (U':=E (some (.int d2)::rs a 11 7)) (by
  rw[A8,u0 (t5 (a:=m7) (x:=.int dr) rfl (t5 (t7 (x:=.int 90) (y:=.int j) rfl rfl Q5) N7)) hd2];rfl)]
 rw[m8 (U':=E (some (.int d2)::some (.lst (fs'.map T.lst))::rs a 12 6)) (by rw[A8,f1];rfl)];rw[m8 (U':=E (some (.int d2)::some (.lst (fs'.map T.lst))::some (.lst pl)::rs a 13 5)) (by rw[A8,p1];rfl)];rw[m8 (U':=E (some (.int d2)::some (.lst (fs'.map T.lst))::some (.lst pl)::some (.lst hl)::rs a 14 4)) (by rw[A8,w1];rfl)];rw[m8 (U':=E (some (.int d2)::some (.lst (fs'.map T.lst))::some (.lst pl)::some (.lst hl)::some s'::rs a 15 3)) (by rw[A8,g1'];rfl)];rw[m8 (U':=E (some (.int d2)::some (.lst (fs'.map T.lst))::some (.lst pl)::some (.lst hl)::some s'::some (.tup [s',.lst (fs'.map T.lst),.tup [.lst pl,.lst hl]])::rs a 16 2)) rfl];rw[m8 (U':=E (some (.int d2)::some (.lst (fs'.map T.lst))::some (.lst pl)::some (.lst hl)::some s'::some (.tup [s',.lst (fs'.map T.lst),.tup [.lst pl,.lst hl]])::some (.bl bb)::rs a 17 1)) (by
  rw[A8,u0 (xs:=[net,.tup [s',.lst (fs'.map T.lst),.tup [.lst pl,.lst hl]]]) (z:=.bl bb) rfl (by unfold ae2;rw[z1];rfl)];rfl)]
 rw[F0,ai6 (x:=false) (y:=false) (aC1 (b:=true) (M4 (aU4 (x:=.bl bb) rfl rfl))) (M4 (t7 (x:=.bl bb) rfl (u0 (xs:=[net,.tup [s',.lst (fs'.map T.lst),.tup [.lst pl,.lst hl]]]) rfl so) (by
  show(eqD 8 (.bl bb) (.bl bb)).bind _=_;rw[show eqD 8 (.bl bb) (.bl bb)=some (bb==bb)from rfl,cO7];rfl)))]
 rfl
end
theorem cz8(ns:List Int)(k:Nat)(hk:k<4)(hl:ns.length<=63):∃c:Int,aG5 [.scr ns,.int k]=some (.int c):=by
 rw[aG5,o0 2 _ _ _ rfl,bo6];have st:o8 2 [.scr ns,.int k]=[some (.scr ns),some (.int k)]:=rfl;rw[st];have tst:(bOf (g2 fEq d7 (C4 []))) [some (.scr ns),some (.int k)]=some ns.isEmpty:=rfl;cases e:ns.isEmpty with
 |true=>
  rw[Y6 (t:=.int ((k:Int)*7919)) (by
   rw[F0,tst,e];simp only[cB2,if_true,y4,w8,y9,k7,cB3,cC1,jn,ah5 (show sm 7919=true from rfl)])]
  exact⟨_,rfl⟩
 |false=>
  have hn:0<ns.length:=by
   cases ns with
   |nil=>simp at e
   |cons=>simp
  rw[m8 (U':=[some (.scr ns),some (.int k)]) (by rw[F0,tst,e];rfl)];have q:=ab5 (k:Int) (b:=(ns.length:Int)) (by omega);have hq:(((k:Int)%(ns.length:Int)).toNat:Int)=(k:Int)%(ns.length:Int):=cG3 q.1;have hql:((k:Int)%(ns.length:Int)).toNat<ns.length:=by omega
  obtain⟨z,ix⟩:∃z,z8 (.scr ns) (.int ((k:Int)%(ns.length:Int)))=some (.int z):=by
   rw[<-hq];generalize((k:Int)%(ns.length:Int)).toNat=j at hql;refine⟨ns[j],?_⟩;show(ixT ns.length _).bind _=_;rw[ao8 hql];simp only[cB2];rw[cI3 hql];rfl
  simp only[y4,w8,A5,o7,y0,y9,k7,cB3,cC1,jn,cB2,C5,K4 (show(0:Int)<((ns.length:Nat):Int) by omega),ix,ab6 (i:=(k:Int)) (j:=((ns.length:Nat):Int)) (by omega) (by omega),ah5 (show sm 104729=true from rfl),Q5,N4];exact⟨_,rfl⟩
noncomputable def aR8(ws:List Way):T->Bool
 |.tup [.int a,.int b,_]=>(F9 ws b 7 a [a]).isEmpty
 |_=>false
theorem bS2{ns:List Int}(hl:ns.length<=63){k:Nat}(hk:k<4)(a:Nat->Option T):∃b,lA (some (.scr ns)::some (.int k)::rs a 2 16)=some (.nx (some (.scr ns)::rs b 1 17)):=by
 obtain⟨cl,hc⟩:=cz8 ns k hk hl;obtain⟨dr,hd,hd0⟩:=bA7 cl k;obtain⟨p,ws,vs,hn,N⟩:=cy7 dr;obtain⟨u,x,y,TD,gr⟩:=cr9 N;obtain⟨so,sh⟩:=bC3 N TD;have h1:=N.v1;have h3:=N.v3;have h8:=N.wl;obtain⟨t1,t2,t3,t4⟩:=af2 N TD (n:=300) (by decide)
 let net:=l7 p ws vs
 let tr:=ae8 ws vs u x y
 let shr:=nrm (x 0) u
 let fl:=T.lst ((P5 ws vs u x).map T.lst)
 let psl:=T.lst (mr ws.length λj=>nrm (y (vs.length+j)) u)
 let hsl:=mr vs.length λk=>nrm (y k) u
 let pap:=T.tup [psl,.lst hsl]
 let bar:=T.lst (((vs.map k9).filter (aR8 ws)).map λt=>t)
 let E:A7->A7:=λl=>some (.scr ns)::some (.int k)::l
 let F:A7->A7:=λl=>E (some (.int dr)::some net::some tr::some bar::some shr::some fl::some pap::l)
 have told:aC9 N3 [l7 p ws vs]=some (ae8 ws vs u x y):=bN5 gr;have vgr:ae2 N3 [l7 p ws vs]=some (ae8 ws vs u x y):=by unfold ae2;rw[gr];rfl
 have vsh:ae2 E9 [l7 p ws vs,ae8 ws vs u x y]=some (.bl true):=by unfold ae2;rw[sh];rfl
 have n2:z8 net (.int 2)=some (.lst (vs.map k9)):=by show z8 (l7 p ws vs) _=_;simp only[l7,ix2]
 have tr0:z8 tr (.int 0)=some shr:=ix0 _ _
 let E5:=E (some (.int dr)::some net::some tr::rs a 5 13)
 have bcomp:bT1 E5=some bar:=by
  unfold bT1 l9;rw[Q8,Q4 3 2 (x:=net) rfl n2];show(if(vs.map k9).length<=lim then _ else none)=_;rw[cP2 (by rw[cJ3];show _<=1000000;omega)];rw[aq1 (c:=aR8 ws) (f:=λt=>t)]
  .rfl
  .intro t ht;obtain⟨v,hv,rfl⟩:=cA8 ht;refine⟨[some (k9 v),some net],rfl,?_,rfl⟩;have i0:z8 (k9 v) (.int 0)=some (.int v.1):=ix0 _ _;have i1:z8 (k9 v) (.int 1)=some (.int v.2.1):=ix1 _ _ _;have rw':=bV7 N v.1 v.2.1;refine M4 (t7 (u0 (t5 (a:=e7) (x:=net) rfl (t5 (Q4 0 0 rfl i0) (t5 (Q4 0 1 rfl i1) (t5 (ay5 (t5 (Q4 0 0 rfl i0) N7)) N7)))) rw') (y:=.lst []) rfl ?_);rw[cn0];congr 2;show _=(F9 ws v.2.1 7 v.1 [v.1]).isEmpty;cases F9 ws v.2.1 7 v.1 [v.1]<;>rfl
 have barred:decide (x 0=0)= !(((vs.map k9).filter (aR8 ws)).map λt=>t).isEmpty:=by
  have nt:=bG9 N TD;by_cases z:x 0=0
  .rw[cO9 z];obtain⟨j,hj,e⟩:=nt.mp z;have :K0 vs j∈(vs.map k9).filter (aR8 ws):=by
    refine List.mem_filter.mpr ⟨by rw[O4];exact List.mem_map.mpr ⟨j,List.mem_range.mpr hj,rfl⟩,?_⟩;show(F9 ws (toW vs j) 7 (frW vs j) [frW vs j]).isEmpty=true;rw[e];rfl
   rw[List.map_id'];cases e2:(vs.map k9).filter (aR8 ws)with
   |nil=>rw[e2]at this;cases this
   |cons=>rfl
  .rw[cO8 z,List.map_id'];cases e2:(vs.map k9).filter (aR8 ws)with
   |nil=>rfl
   |cons t l=>
    exfalso;apply z;have :t∈(vs.map k9).filter (aR8 ws):=by rw[e2];exact cK7
    obtain⟨m1,m2⟩:=List.mem_filter.mp this;rw[O4]at m1;obtain⟨j,hj,rfl⟩:=cA8 m1;refine nt.mpr ⟨j,cB0 hj,?_⟩;have m2:(F9 ws (toW vs j) 7 (frW vs j) [frW vs j]).isEmpty=true:=m2;exact List.isEmpty_iff.mp m2
 let Iv:Nat->A7->Prop:=λ_ U=>∃b,U=F (rs b 9 9)
 have loop:=ae0 (st:=stN 9) (b:=lB) Iv (G9 0 6) 0 (F (rs a 9 9)) ⟨a,rfl⟩ (λi t ht U zz=>by
  obtain⟨b,rfl⟩:=zz;obtain⟨j,rfl⟩:∃j:Int,t=.int j:=by
   have :=cK9 ht;unfold G9 at this;obtain⟨a,_,rfl⟩:=cA8 this;exact⟨_,rfl⟩
  obtain⟨c,h⟩:=bS3 N TD (some (.scr ns)) (some (.int k)) (some bar) dr j b;exact⟨_,_,rfl,h,λi=>M9 (i-9) (some (.int j)::rs c 10 8),rfl⟩)
 obtain⟨U',l1,b,rfl⟩:=loop
 let B:=λx=>rs b 9 8++[x]
 let od:=bS5 shr fl psl (.lst hsl) hsl
 have o5:∀z,z0 (.lst hsl) (.lst [z])=some (.lst (hsl++[z])):=λz=>W5 (by simp[hsl];show _<=1000000;omega)
 obtain⟨m0,m1⟩:=ab5 (dr/2^20) (b:=8) (by decide);obtain⟨ot,ot1,ot2⟩:=aZ1 (xs:=od) m0 (by show _<((8:Nat):Int);simpa using m1);have osh:=bU7 N TD ot ot2;have vosh:ae2 E9 [l7 p ws vs,ot]=some (.bl false):=by unfold ae2;rw[osh];rfl
 refine⟨λi=>M9 i (F (B (some (.lst od)))),?_⟩
 . 
  show(lA) (E (rs a 2 16))=some (.nx (F (B (some (.lst od)))));unfold lA;rw[m8 (U':=E (some (.int dr)::rs a 3 15)) (by
   rw[A8,u0 (t5 (u0 (xs:=[.scr ns,.int k]) rfl hc) (t5 (a:=e7) (x:=.int k) rfl N7)) hd];rfl)]
  rw[m8 (U':=E (some (.int dr)::some net::rs a 4 14)) (by
   rw[A8,u0 (xs:=[.int dr]) rfl hn];rfl)]
  rw[m8 (U':=E5) (by
   rw[A8,u0 (xs:=[net]) (z:=tr) rfl (by exact told)];rfl)]
  rw[m8 (U':=E5) (by
   rw[F0,ai6 (x:=false) (y:=false||false) (aC1 (b:=true) (M4 (aU4 (x:=tr) rfl rfl))) (ai6 (M4 (t7 (u0 (xs:=[tr]) (z:=.int 3) rfl rfl) (y:=.int 3) rfl rfl)) (aC1 (b:=true) (M4 (u0 (xs:=[net,tr]) rfl so))))];rfl)]
  rw[m8 (U':=E5) (by
   rw[F0,ai6 (x:=false) (y:=false) (M4 (aU4 (u0 (xs:=[net,tr]) rfl vsh) rfl)) (M4 (t7 (u0 (xs:=[net]) rfl vgr) (y:=tr) rfl (bY5 N TD)))];rfl)]
  rw[m8 (U':=E (some (.int dr)::some net::some tr::some bar::rs a 6 12)) (by
   rw[A8,bcomp];rfl)]
  rw[m8 (U':=E (some (.int dr)::some net::some tr::some bar::rs a 6 12)) (by
   rw[F0,M4 (b:=false) (t7 (t7 (f:=fEq) (t7 (a:=y6) (b:=k8) (x:=tr) rfl rfl tr0) (y:=fr 0 1) rfl (aZ8 t1.fz).1) (t7 (f:=fNe) (a:=A3) (x:=bar) rfl (y:=.lst []) rfl (ck5 _)) (by
    rw[bt7 TD.B.pos,barred];show(eqD 8 (.bl _) (.bl _)).bind _=_;rw[show∀b,eqD 8 (.bl b) (.bl b)=some (b==b)from λ_=>rfl,cO7];rfl))];rfl)]
  rw[m8 (U':=F (rs a 9 9)) rfl];rw[m8 (U':=F (rs b 9 9)) (by rw[S5];exact l1)];rw[m8 (U':=F (B (some (.lst (od.take 3))))) rfl];rw[m8 (U':=F (B (some (.lst (od.take 5))))) rfl];rw[m8 (U':=F (B (some (.lst (od.take 7))))) (by
   rw[A8];have g8:(d9 R7 k8) (F (B (some (.lst (od.take 5)))))=some psl:=t7 (x:=pap) rfl rfl (ix0 _ _);have g9:(g2 z0 (d9 R7 e9) (C4 [A1 [k8,e9]])) (F (B (some (.lst (od.take 5)))))=some (.lst (hsl++[fr 0 1])):=t7 (t7 (x:=pap) rfl rfl (ix1 _ _ _)) rfl (o5 _);rw[t7 (f:=z0) (x:=.lst (od.take 5)) (y:=.lst [.tup [shr,fl,.tup [psl,.lst (hsl++[fr 0 1])]],.tup [.non,fl,pap]]) (z:=.lst (od.take 7)) rfl (ay5 (t5 (bg1 (t5 (a:=D7) (x:=shr) rfl (t5 (a:=V3) (x:=fl) rfl (t5 (bg1 (t5 g8 (t5 g9 N7))) N7)))) (t5 (x:=.tup [.non,fl,pap]) rfl N7))) rfl];rfl)]
  rw[m8 (U':=F (B (some (.lst od)))) rfl];rw[m8 (U':=F (B (some (.lst od)))) (by
   rw[F0,M4 (b:=false) (aU4 (f:=aE9 false) (u0 (t5 (a:=n6) (x:=net) rfl (t5 (t7 (a:=M9 17) (x:=.lst od) rfl (t7 (t7 (a:=m7) (b:=g2 az6 v8 al6) (x:=.int dr) (y:=.int (2^20)) rfl rfl (aM3 20 (by decide))) (b:=Y3) rfl (K4 (by decide))) ot1) N7)) vosh) rfl)];rfl)]
  rw[m8 (U':=F (B (some (.lst od)))) (by
   rw[F0,M4 (b:=false) (t7 (u0 (xs:=[]) (z:=.str "BadNet") rfl (by
    unfold aK8;rw[t5 (xs:=[]) (x:=.tup [.int 1,.lst [],.lst [.tup [.int 0,.int 1,.int 1]]]) rfl rfl];exact bh5 cx6)) rfl rfl)];rfl)]
  rw[F0,M4 (b:=false) (t7 (u0 (xs:=[tr]) (z:=.str "BadNet") rfl (by
    unfold aK8;rw[t5 (xs:=[tr]) (x:=.tup [.int 2,.lst [],.lst []]) rfl rfl];exact bh5 (cx5 tr))) rfl rfl)]
  rfl
theorem bT2(ns:List Int)(hl:ns.length<=63):bg6 [.scr ns]=some (.bl true):=by
 rw[bg6,o0 1 _ _ _ rfl]
 suffices h:aV7 (o8 18 [.scr ns])=some (.ret (.bl true)) by rw[h];rfl
 let R:=some (.scr ns)::rs (λ_=>none) 1 17
 show aV7 R=_;have hcount:∃n:Nat,n<=4/\(itR (gN ay8 [e9,gN aU8 [v8,gN C5 [d7]]])) R=some (G9 0 n):=by
  have e1:(gN ay8 [e9,gN aU8 [v8,gN C5 [d7]]]) R=some (.int (if(if(ns.length:Int)<2 then(ns.length:Int)else 2)>1 then(if(ns.length:Int)<2 then(ns.length:Int)else 2)else 1)):=rfl;have hb:(1:Int)<=(if(if(ns.length:Int)<2 then(ns.length:Int)else 2)>1 then(if(ns.length:Int)<2 then(ns.length:Int)else 2)else 1)/\(if(if(ns.length:Int)<2 then(ns.length:Int)else 2)>1 then(if(ns.length:Int)<2 then(ns.length:Int)else 2)else 1)<=4:=by
   split<;>split<;>omega
  generalize(if(if(ns.length:Int)<2 then(ns.length:Int)else 2)>1 then(if(ns.length:Int)<2 then(ns.length:Int)else 2)else(1:Int))=z at e1 hb;refine⟨z.toNat,by omega,?_⟩;unfold itR;rw[e1];show(if -(lim:Int)<=z/\z<=(lim:Int)then some (G9 0 z.toNat)else none)=_;have hL:(lim:Int)=1000000:=rfl;rw[cP2 (by omega)]
 obtain⟨n,hn,hit⟩:=hcount;unfold aV7;have loop:=ae0 (st:=stN 1) (b:=_) (λ_ U=>∃b,U=some (.scr ns)::rs b 1 17) (G9 0 n) 0 R ⟨_,rfl⟩ (λi x hx U zz=>by
  obtain⟨b,rfl⟩:=zz;obtain⟨j,hj,rfl⟩:∃j:Nat,j<4/\x=.int j:=by
   have :=cK9 hx;unfold G9 at this;obtain⟨a,ha,rfl⟩:=cA8 this;exact⟨a,by have :=cB0 ha;omega,by simp⟩
  obtain⟨c,h⟩:=bS2 hl hj b;exact⟨_,_,rfl,h,c,rfl⟩)
 obtain⟨U',h1,b,rfl⟩:=loop;rw[m8 (U':=some (.scr ns)::rs b 1 17) (by rw[S5,hit];exact h1)];rfl
end L3
end
open PySem PySem.Spec PyProof.Rows L2 L3
namespace Sw
abbrev fnI(x:Str)(i:Nat)(kV doc pm:Value)(an:Option Addr)(cdv ct:Value):=W.fnOf x x (aC0 (top i)) (N8 (top i)) (r8 (top i)) .none kV doc pm an cdv ct
def u5(K:cO5)(x:Str)(i:Nat):Prop:=∃f oc od kV doc pm an cdv ct osl,W.nsIn K mainGlobals x=some (some (.ref f))/\
 K.lookup f=some ⟨oc,od,.func (fnI x i kV doc pm an cdv ct),osl⟩/\W.codeIn K cdv x=true
def aM7(K:cO5)(x:Str)(i:Nat)(P:Addr):Prop:=∃f oc od kV doc pm an c ct osl,W.nsIn K mainGlobals x=some (some (.ref f))/\
 K.lookup f=some ⟨oc,od,.func (fnI x i kV doc pm an (.ref c) ct),osl⟩/\W.codeIn K (.ref c) x=true/\W.codeHdIn K c P=true
section
variable {K:cO5}{x:Str}{i:Nat}
theorem mkF(a:W.nsIn K mainGlobals x=some (some (.ref f)))(b:K.lookup f=some ⟨oc,od,.func (fnI x i kv doc pm an cdv ct),osl⟩)(c:W.codeIn K cdv x=true):u5 K x i:=⟨f,oc,od,kv,doc,pm,an,cdv,ct,osl,a,b,c⟩
theorem cl4(a:W.nsIn K mainGlobals x=some (some (.ref f)))(b:K.lookup f=some ⟨oc,od,.func (fnI x i kv doc pm an (.ref c) ct),osl⟩)(d:W.codeIn K (.ref c) x=true)(e:W.codeHdIn K c P=true):aM7 K x i P:=⟨f,oc,od,kv,doc,pm,an,c,ct,osl,a,b,d,e⟩
theorem aY8(b:K.lookup f=some ⟨oc,od,.func fd,osl⟩):W.keepIn K (.ref f)=true:=by
 unfold W.keepIn;dsimp only;rw[b]
variable {h:Heap}{mg:Str->Option Value}(X:K.In h)(G:h.Ns mainGlobals mg)
include X G
theorem ai5(F:u5 K x i):∃f fd,Fun K x x (top i) f fd/\mg x=some (.ref f):=by
 obtain⟨f,oc,od,kV,doc,pm,an,cdv,ct,osl,a,b,c⟩:=F;exact⟨f,_,⟨⟨oc,od,kV,doc,pm,an,cdv,ct,osl,rfl,b,c⟩,aY8 b⟩,W.mg_of X G a⟩
theorem bu1{P:Addr}(F:aM7 K x i P):∃f fd c,bA3 K x x (top i) f fd c/\mg x=some (.ref f)/\W.codeHdIn K c P=true:=by
 obtain⟨f,oc,od,kV,doc,pm,an,c,ct,osl,a,b,d,e⟩:=F;exact⟨f,_,c,⟨⟨oc,od,kV,doc,pm,an,ct,osl,rfl,b,d⟩,aY8 b⟩,W.mg_of X G a,e⟩
end
def ak2(K:cO5)(x:Str)(i:Int):Prop:=∃t,W.nsIn K mainGlobals x=some (some (.int i t))
theorem mkN{K:cO5}{x:Str}{i:Int}{t:Tok}(a:W.nsIn K mainGlobals x=some (some (.int i t))):ak2 K x i:=⟨t,a⟩
def aG0(K:cO5)(x:Str)(i j:Int):Prop:=∃a o t u n,W.nsIn K mainGlobals x=some (some (.ref a))/\K.lookup a=some o/\o.cls=.type "tuple"/\o.data=.seq #[.int i t,.int j u] n
theorem mkP{K:cO5}{x:Str}{i j:Int}{a:Addr}{od:Option Addr}{t u:Tok}{n:Nat}{sl:Array (Option Value)}(e:W.nsIn K mainGlobals x=some (some (.ref a)))(b:K.lookup a=some ⟨.type "tuple",od,.seq #[.int i t,.int j u] n,sl⟩):aG0 K x i j:=⟨a,_,t,u,n,e,b,rfl,rfl⟩
theorem bs6{K:cO5}{h:Heap}{mg:Str->Option Value}{x:Str}{i j:Int}(X:K.In h)(G:h.Ns mainGlobals mg)(F:aG0 K x i j):∃a,mg x=some (.ref a)/\∀G,Rep K G (.tup [.int i,.int j]) (.ref a):=by
 obtain⟨a,o,t,u,n,e1,e2,e3,e4⟩:=F;refine⟨a,W.mg_of X G e1,λG=> ?_⟩;simp only[Rep];refine⟨a,[.int i,.int j],rfl,.inr ⟨o,_,n,e2,e3,e4,by show 2<=sizeLine;decide,.cons ⟨t,rfl⟩ (.cons ⟨u,rfl⟩ .nil)⟩,?_⟩;exact j8.cons (by simp[Rep]) (j8.cons (by simp[Rep]) j8.nil)
def ba6(K:cO5)(x:Str)(b1 b2 b3:Bool):Prop:=∃D C1 C2 C3 W,PySem.W.nsIn K mainGlobals x=some (some (.ref D))/\PySem.W.nsIn K mainGlobals "BadNet"=some (some (.ref C1))/\PySem.W.nsIn K mainGlobals "BadFlow"=some (some (.ref C2))/\PySem.W.nsIn K mainGlobals "BadFloor"=some (some (.ref C3))/\PySem.W.nsIn K mainGlobals "WareError"=some (some (.ref W))/\
 PySem.W.excIn K D [.type "ValueError",.type "Exception",.type "BaseException",.type "object"] "ValueError.__new__"=true/\aN2 K D/\PySem.W.kitOne K (.ref D) (.ref C1)=some b1/\PySem.W.kitOne K (.ref D) (.ref C2)=some b2/\PySem.W.kitOne K (.ref D) (.ref C3)=some b3/\PySem.W.kitOne K (.ref D) (.type "ValueError")=some true/\PySem.W.exmOne K (.ref D) (.ref W)=some true
theorem mkE{K:cO5}{x:Str}{b1 b2 b3:Bool}{D C1 C2 C3 W:Addr}(a1:PySem.W.nsIn K mainGlobals x=some (some (.ref D)))(a2:PySem.W.nsIn K mainGlobals "BadNet"=some (some (.ref C1)))(a3:PySem.W.nsIn K mainGlobals "BadFlow"=some (some (.ref C2)))(a4:PySem.W.nsIn K mainGlobals "BadFloor"=some (some (.ref C3)))(a5:PySem.W.nsIn K mainGlobals "WareError"=some (some (.ref W)))
  (a6:PySem.W.excIn K D [.type "ValueError",.type "Exception",.type "BaseException",.type "object"] "ValueError.__new__"=true) (l1:PySem.W.findIn K (.ref D) "__getattribute__"=some (some (.builtin "BaseException.__getattribute__"))) (l2:PySem.W.findIn K (.ref D) "__getattr__"=some none)
  (l3:PySem.W.findObj K D none "__class__"=some (.bind (.builtin "getset_descriptor.__get__") (.builtin "object.__class__"))) (l4:PySem.W.mroIn K D (.type "object")=some true) (l5:PySem.W.mroIn K D (.type "BaseException")=some true) (l6:(PySem.W.clsIn K D).isSome=true)
  (a7:PySem.W.kitOne K (.ref D) (.ref C1)=some b1) (a8:PySem.W.kitOne K (.ref D) (.ref C2)=some b2) (a9:PySem.W.kitOne K (.ref D) (.ref C3)=some b3) (a10:PySem.W.kitOne K (.ref D) (.type "ValueError")=some true) (a11:PySem.W.exmOne K (.ref D) (.ref W)=some true):ba6 K x b1 b2 b3:=
 ⟨D,C1,C2,C3,W,a1,a2,a3,a4,a5,a6,⟨l1,l2,l3,l4,l5,l6⟩,a7,a8,a9,a10,a11⟩
def bV5(K:cO5)(x:Str):Prop:=∃D,W.nsIn K mainGlobals x=some (some (.ref D))/\W.excIn K D [.type "ValueError",.type "Exception",.type "BaseException",.type "object"] "ValueError.__new__"=true
theorem mkX{K:cO5}{x:Str}{D:Addr}(a:W.nsIn K mainGlobals x=some (some (.ref D)))(b:W.excIn K D [.type "ValueError",.type "Exception",.type "BaseException",.type "object"] "ValueError.__new__"=true):bV5 K x:=⟨D,a,b⟩
def aK7(K:cO5):Prop:=∃C fI ft,W.nsIn K mainGlobals "Board"=some (some (.ref C))/\Cls K C/\(∀f∈fsB,O9 K C f)/\Mk K C fI/\ba3 K C "turn" ft/\(∃d,Fun K "__init__" "Board.__init__" (mth 0) fI d)/\∃d,Fun K "turn" "Board.turn" (mth 1) ft d
theorem mkM{K:cO5}{x q:Str}{j:Nat}{f:Addr}{oc:Value}{od:Option Addr}{kV doc pm:Value}{an:Option Addr}{cdv ct:Value}{osl:Array (Option Value)}
  (b:K.lookup f=some ⟨oc,od,.func (W.fnOf x q (aC0 (mth j)) (N8 (mth j)) (r8 (mth j)) .none kV doc pm an cdv ct),osl⟩) (c:W.codeIn K cdv q=true):∃d,Fun K x q (mth j) f d:=⟨_,⟨⟨oc,od,kV,doc,pm,an,cdv,ct,osl,rfl,b,c⟩,aY8 b⟩⟩
theorem mkB{K:cO5}{C fI ft:Addr}(a:W.nsIn K mainGlobals "Board"=some (some (.ref C)))(c1:W.plainGet K C Str.empty=true)(c2:W.hasDictIn K C=true)(c3:W.plainOver K C=true)(c4:W.findIn K (.ref C) "__setattr__"=some (some (.builtin "object.__setattr__")))
  (n1:W.findIn K (.ref C) "sought"=some none) (n2:W.findIn K (.ref C) "rows"=some none) (n3:W.findIn K (.ref C) "owners"=some none) (n4:W.findIn K (.ref C) "under"=some none)
  (m1:W.makesIn K C=true) (m2:W.findIn K (.ref C) "__init__"=some (some (.ref fI))) (m3:W.isFn K (.ref fI)=true) (m4:W.keepIn K (.ref C)=true)
  (t1:W.findIn K (.ref C) "turn"=some (some (.ref ft))) (t2:W.isFn K (.ref ft)=true) (t3:W.keepIn K (.ref ft)=true)
  (fi:∃d,Fun K "__init__" "Board.__init__" (mth 0) fI d) (tt:∃d,Fun K "turn" "Board.turn" (mth 1) ft d):aK7 K:=
 ⟨C,fI,ft,a,⟨c1,c2,c3,c4⟩,λf hf=>by
  simp only[fsB,cK5,cK8,or_false]at hf;rcases hf with rfl|rfl|rfl|rfl
  .exact n1
  .exact n2
  .exact n3
  .exact n4,⟨m1,m2,m3,m4⟩,⟨t1,t2,t3⟩,fi,tt⟩
structure cp1(K:cO5):Prop where
 b0:W.nsIn K mainGlobals "ValueError"=some none
 b1:W.nsIn K mainGlobals "abs"=some none
 b2:W.nsIn K mainGlobals "all"=some none
 b3:W.nsIn K mainGlobals "any"=some none
 b4:W.nsIn K mainGlobals "bool"=some none
 b5:W.nsIn K mainGlobals "enumerate"=some none
 b6:W.nsIn K mainGlobals "int"=some none
 b7:W.nsIn K mainGlobals "isinstance"=some none
 b8:W.nsIn K mainGlobals "len"=some none
 b9:W.nsIn K mainGlobals "list"=some none
 b10:W.nsIn K mainGlobals "max"=some none
 b11:W.nsIn K mainGlobals "min"=some none
 b12:W.nsIn K mainGlobals "range"=some none
 b13:W.nsIn K mainGlobals "sum"=some none
 b14:W.nsIn K mainGlobals "tuple"=some none
 b15:W.nsIn K mainGlobals "zip"=some none
structure co8(K:cO5):Prop where
 c0:ak2 K "LEAST_AMOUNT" 1
 c1:ak2 K "LEAST_PLACES" 2
 c2:ak2 K "LEAST_WARES" 1
 c3:ak2 K "MOST_AMOUNT" 20
 c4:ak2 K "MOST_PLACES" 6
 c5:ak2 K "MOST_WARES" 3
 c6:ak2 K "MOST_WAYS" 10
 c7:aG0 K "NOUGHT" 0 1
 c8:aG0 K "ONE" 1 1
structure FnK(K:cO5):Prop where
 f0:u5 K "is_whole" 3
 f1:u5 K "common_divisor" 4
 f2:u5 K "is_fraction" 5
 f3:u5 K "reduced" 6
 f4:u5 K "plus" 7
 f5:u5 K "minus" 8
 f6:u5 K "times" 9
 f7:u5 K "total" 10
 f8:u5 K "is_more" 11
 f9:u5 K "turned_row" 14
 f12:u5 K "common_under" 16
 f14:u5 K "first_below_nought" 19
 f15:u5 K "keep_bounds" 17
 f16:u5 K "is_tighter" 22
 f17:u5 K "tightest_row" 21
 f18:u5 K "climb" 20
 f19:u5 K "amounts_of" 23
 f20:u5 K "prices_of" 24
 f21:u5 K "best" 15
 f22:u5 K "is_pair" 43
 f23:u5 K "is_triple" 44
 f24:u5 K "is_within" 45
 f25:u5 K "is_trip" 48
 f26:u5 K "are_rising" 49
 f27:u5 K "are_ways" 46
 f28:u5 K "are_wares" 47
 f29:u5 K "is_net" 42
 f30:u5 K "is_amount" 52
 f31:u5 K "is_row" 51
 f32:u5 K "is_flow" 50
 f33:u5 K "gain" 55
 f34:u5 K "keeps_all" 54
 f35:u5 K "loses_nothing" 53
 f36:u5 K "load" 57
 f37:u5 K "has_room" 56
 f38:u5 K "need_net" 38
 f39:u5 K "need_flow" 39
 f40:u5 K "goes" 40
 f41:u5 K "brought" 41
 f42:u5 K "trails_of" 63
 f43:u5 K "lanes_of" 62
 f44:u5 K "ware_row" 64
 f45:u5 K "way_row" 65
 f46:u5 K "by_wants" 68
 f47:u5 K "bounds_of" 66
 f48:u5 K "flow_row" 67
 f49:u5 K "raised" 61
 f50:u5 K "cost" 71
 f51:u5 K "worth" 72
 f52:u5 K "greatest_share" 59
 f53:u5 K "brings" 69
 f54:u5 K "is_paper" 70
 f55:u5 K "shows_share" 60
 f56:u5 K "_law_cell" 74
 f57:u5 K "_law_drawn" 75
 f58:u5 K "_law_made" 78
 f59:u5 K "_law_plus" 79
 f60:u5 K "_law_times" 80
 f61:u5 K "_law_all" 81
 f62:u5 K "_law_under" 82
 f63:u5 K "_law_net" 84
 f64:u5 K "_law_net_at" 85
 f65:u5 K "_law_goes" 86
 f66:u5 K "_law_brought" 87
 f67:u5 K "_law_rows" 88
 f68:u5 K "_law_heights_right" 89
 f69:u5 K "_law_cost" 90
 f70:u5 K "_law_bent" 91
 f71:u5 K "_law_is_so" 92
 wo:u5 K "_law_word" 76
 tl:u5 K "_law_told" 77
 f13:aM7 K "broken_row" 18 129
 f72:aM7 K "law" 93 530
abbrev BA(x:Str)(i:Nat)(ps:List Str):Prop:=∀kV doc pm an cdv ct (us:List Value),us.length=ps.length->bindArgs (fnI x i kV doc pm an cdv ct) ⟨us,[]⟩=pure (ps.zip us)
structure Ct(P:Program)(w:World)(aD:Heap)(K:cO5)(h:Heap)(mg:Str->Option Value):Prop extends FnK K where
 X:K.In h
 G:h.Ns mainGlobals mg
 B:Blt mg
 C:Cst K mg
 Z:co6 K mg
section
variable {P:Program}{w:World}{aD:Heap}{K:cO5}{mg:Str->Option Value}(q:Ct P w aD K h mg)(F:u5 K x i)(n:Nat)(N:List Str)
abbrev Ct.c(_:Ct P w aD K h mg):=Cal P w K mg aD
abbrev Ct.r(_:Ct P w aD K h mg):=bB2 P w K mg aD
include q F
theorem mkT{g:GS}(b:∀{f cdv A o s H E},J9 k (A.deeper (envOfC x (r8 (top i)) s.sz f cdv))->Wd (ap3 (F7 CX0 P w K mg aD N x (r8 (top i)) f cdv A o s H E).nox (N8 (top i)) g))(S:O8 N (N.take n) (r8 (top i)):=by constructor<;>first |rfl|decide +kernel)(bi:BA x i (N.take n):=by rintro _ _ _ _ _ _ (_|⟨_,_|⟨_,_|⟨_,_|⟨_,_|⟨_,_|_⟩⟩⟩⟩⟩) h<;>first |rfl|cases h)(np:(N.take n).length<=N.length:=by decide):q.c x (k+1) (N.take n).length (A6 (N.take n).length N.length g):=by
 obtain⟨f,fd,F,m⟩:=ai5 q.X q.G F;exact⟨f,fd,_,m,F.kp,F.binds bi,fnT F S np λ_ _ _ _ _ _ hr=>(b hr).run⟩
theorem mkO{g:GS}(b:∀{f cdv A o s H E},J9 k (A.deeper (envOfC x (r8 (top i)) s.sz f cdv))->az9 (F7 CX0 P w K mg aD N x (r8 (top i)) f cdv A o s H E).nox [] [] (N8 (top i)) g)(S:O8 N (N.take n) (r8 (top i)):=by constructor<;>first |rfl|decide +kernel)(bi:BA x i (N.take n):=by rintro _ _ _ _ _ _ (_|⟨_,_|⟨_,_|⟨_,_|⟨_,_|⟨_,_|_⟩⟩⟩⟩⟩) h<;>first |rfl|cases h)(np:(N.take n).length<=N.length:=by decide):q.c x (k+1) (N.take n).length (A6 (N.take n).length N.length g):=by
 obtain⟨f,fd,F,m⟩:=ai5 q.X q.G F;exact⟨f,fd,_,m,F.kp,F.binds bi,fnO F S np λ_ _ _ _ _ _=>b⟩
theorem mkR{g:GR}(b:∀{f cdv A o s H E},J9 k (A.deeper (envOfC x (r8 (top i)) s.sz f cdv))->aJ4 (F7 (CX1 P w) P w K mg aD N x (r8 (top i)) f cdv A o s H E) E (N8 (top i)) g)(S:O8 N (N.take n) (r8 (top i)):=by constructor<;>first |rfl|decide +kernel)(bi:BA x i (N.take n):=by rintro _ _ _ _ _ _ (_|⟨_,_|⟨_,_|⟨_,_|⟨_,_|⟨_,_|_⟩⟩⟩⟩⟩) h<;>first |rfl|cases h)(np:(N.take n).length<=N.length:=by decide):q.r x (k+1) (N.take n).length (aD5 (N.take n).length N.length g):=by
 obtain⟨f,fd,F,m⟩:=ai5 q.X q.G F;exact⟨f,fd,_,m,F.kp,F.binds bi,fnR F S np λ_ _ _ _ _ _=>b⟩
end
section
variable {P:Program}{w:World}{aD:Heap}{K:cO5}{mg:Str->Option Value}(q:Ct P w aD K h mg)
include q
theorem g0:q.c "is_whole" 2 1 ah9:=mkT q q.f0 1 ["thing"] λhr=>
 j9 (m9 (C0 (ab1 .int q.B.isinstance q.B.int boot_int d8) (O5 (aY1 (ab1 .bool q.B.isinstance q.B.bool boot_bool d8)))))
theorem g1:q.c "common_divisor" 2 2 X1:=mkT q q.f1 2 ["top","under","rest"] λhr=>
 m6 (aS8 an1 (ab2 hr e8 j4) (m6 (y8 2 (M7 d8 e8)) (m6 (y8 0 e8) (j9 (y8 1 n8))))) (j9 (m9 d8))
theorem g2:q.c "is_fraction" 3 1 M1:=mkT q q.f2 1 ["thing"] λhr=>
 j9 (m9 (C0 (ab1 .tuple q.B.isinstance q.B.tuple boot_tuple d8) (C0 (T8 hr (D3 q.B.len (d0 d8)) j4) (C0 (j7 (g0 q) hr (d0 (h9 d8))) (C0 (j7 (g0 q) hr (d0 (h9 d8))) (C0 (bE2 (h9 d8) j4) (O5 (T8 hr (j7 (g1 q) hr (c9 (h9 d8) (d0 (h9 d8)))) j4))))))))
theorem g3:q.c "reduced" 3 2 V9:=mkT q q.f3 2 ["top","under","divisor"] λhr=>
 m6 (y8 2 (j7 (g1 q) hr (c9 d8 (d0 e8)))) (j9 (m9 (z9 (c9 (L7 d8 n8) (d0 (L7 e8 n8))))))
theorem g4:q.c "plus" 4 2 X0:=mkT q q.f4 2 ["one","other"] λhr=>
 j9 (m9 (j7 (g3 q) hr (c9 (B9 (J4 (h9 d8) (h9 e8)) (J4 (h9 e8) (h9 d8))) (d0 (J4 (h9 d8) (h9 e8))))))
theorem g5:q.c "minus" 5 2 ah7:=mkT q q.f5 2 ["one","other"] λhr=>
 j9 (m9 (j7 (g4 q) hr (c9 d8 (by exact(c9 (by exact(z9 (c9 (M3 (h9 e8)) (d0 (h9 e8))))) o9)))))
theorem g6:q.c "times" 4 2 av3:=mkT q q.f6 2 ["one","other"] λhr=>
 j9 (m9 (j7 (g3 q) hr (c9 (J4 (h9 d8) (h9 e8)) (d0 (J4 (h9 d8) (h9 e8))))))
theorem g7:q.c "total" 5 1 ae1:=mkT q q.f7 1 ["parts","found","part"] λhr=>
 m6 (y8 1 (aj0 q.C.NOUGHT)) (m6 (N9 (A0 d8) (o6 2) (j9 (y8 1 (j7 (g4 q) hr (c9 e8 (d0 n8)))))) (j9 (m9 e8)))
theorem g8:q.c "is_more" 2 2 W2:=mkT q q.f8 2 ["one","other"] λhr=>
 j9 (m9 (bE2 (J4 (h9 d8) (h9 e8)) (J4 (h9 e8) (h9 d8))))
theorem g9:q.c "turned_row" 2 4 U7:=mkT q q.f9 4 ["row","kept","column","under"] λhr=>
 j9 (m9 (C9 (S1 q.B.zip (c9 d8 (d0 e8))) (J7 0 1) r9 (L7 (au1 (J4 d8 (A4 w9 B8)) (J4 e8 (A4 I0 B8))) n8)))
theorem g12:q.c "common_under" 2 1 ac0:=mkT q q.f12 1 ["fractions","found","fraction"] λhr=>
 m6 (y8 1 j4) (m6 (N9 (A0 d8) (o6 2) (j9 (y8 1 (J4 e8 (h9 n8))))) (j9 (m9 e8)))
theorem g13(bm:BM mg aD):q.c "broken_row" 2 1 X2:=by
 obtain⟨_,_,_,V,n,hcdI⟩:=bu1 q.X q.G q.f13;have hp:((129:Addr),("broken_row.<locals>.<lambda>":Str))∈af3:=by decide +kernel
 have hq:(("broken_row":Str)++".<locals>.")++"<lambda>"="broken_row.<locals>.<lambda>":=by decide +kernel
 exact⟨_,_,["board"],n,V.kp,V.toFun.binds λ_ _ _ _ _ _=>bl6 λ_=>rfl,cm9 (k:=1) (N:=["board","broken"]) (ps:=["board"]) (g:=ax5) V (by constructor<;>first |rfl|decide +kernel) (by decide) λ_ _ _ _ _ hr=>
 (Wd.run (m6 (au0 1 (J8 q.B.range (d0 (D3 q.B.len (d0 (M8 d8))))) (o6 0) (aH6 (al1 (A4 (A4 (M8 e8) d8) (M3 j4)) j4)) d8) (j9 (m9 (bQ5 bm rfl rfl q.B.min hp hq rfl hcdI rfl rfl e8 W4)))))⟩
theorem g14:q.c "first_below_nought" 2 1 J3:=mkT q q.f14 1 ["numbers","column","number"] λhr=>
 m6 (N9 (ac2 q.B.enumerate (d0 d8)) (J7 1 2) (j9 (M6 (al1 n8 j4) (j9 (m9 e8)) K3))) (j9 (m9 W4))
theorem g16:q.c "is_tighter" 2 4 ab9:=mkT q q.f16 4 ["board","column","one","other","row","rival","gap"] λhr=>
 m6 (y8 4 (A4 (M8 d8) n8)) (m6 (y8 5 (A4 (M8 d8) w9)) (m6 (y8 6 (au1 (J4 (A4 B8 (M3 j4)) (A4 I0 e8)) (J4 (A4 I0 (M3 j4)) (A4 B8 e8)))) (j9 (m9 (ch5 (bj1 L6 j4) (O5 (C0 (T8 hr L6 j4) (O5 (bj1 (A4 (M8 d8) n8) (A4 (M8 d8) w9))))))))))
theorem g17:q.c "tightest_row" 3 2 T5:=mkT q q.f17 2 ["board","column","chosen","number"] λhr=>
 m6 (y8 2 W4) (m6 (N9 (J8 q.B.range (d0 (D3 q.B.len (d0 (M8 d8))))) (o6 3) (j9 (M6 (ah1 (an8 (bE5 (A4 (A4 (M8 d8) w9) e8) j4) (aq7 (ah1 (X9 (aL5 n8 W4) (af8 (Y0 (j7 (g16 q) hr (c9 d8 (c9 e8 (c9 w9 (d0 n8)))))))))))) (j9 (y8 2 w9)) K3))) (j9 (m9 n8)))
theorem g19:q.c "amounts_of" 4 2 ah0:=mkO q q.f19 2 ["board","scale","found","number","column"] λhr=>
 E8 (bb6 2 (J8 q.B.range (d0 (M8 d8))) (o6 0) r9 (aj0 q.C.NOUGHT)) (E8 (ao0 (ac2 q.B.enumerate (d0 (M8 d8))) (J7 3 4) (Q2 (aL6 (al1 B8 (M8 d8)) (Q2 (bQ6 2 (j7 (g3 q) hr (c9 (A4 (A4 (M8 d8) w9) (M3 j4)) (d0 (J4 (M8 d8) e8)))) B8)) aD8))) (Q2 (an9 n8)))
theorem g20:q.c "prices_of" 4 1 ai9:=mkT q q.f20 1 ["board"] λhr=>
 j9 (m9 (C9 (A0 (br9 (A4 (M8 d8) (M3 j4)) (M8 d8) (M3 j4))) (o6 0) r9 (j7 (g3 q) hr (c9 d8 (d0 (M8 e8))))))
theorem g22:q.c "is_pair" 2 1 be7:=mkT q q.f22 1 ["thing"] λhr=>
 j9 (m9 (C0 (ab1 .tuple q.B.isinstance q.B.tuple boot_tuple d8) (O5 (T8 hr (D3 q.B.len (d0 d8)) j4))))
theorem g23:q.c "is_triple" 2 1 aa0:=mkT q q.f23 1 ["thing"] λhr=>
 j9 (m9 (C0 (ab1 .tuple q.B.isinstance q.B.tuple boot_tuple d8) (O5 (T8 hr (D3 q.B.len (d0 d8)) j4))))
theorem g24:q.c "is_within" 3 3 Z9:=mkT q q.f24 3 ["thing","least","most"] λhr=>
 j9 (m9 (C0 (j7 (g0 q) hr (d0 d8)) (O5 (bj2 e8 d8 n8))))
theorem g25:q.c "is_trip" 4 4 W0:=mkT q q.f25 4 ["thing","places","least","most"] λhr=>
 j9 (m9 (C0 (j7 (g23 q) hr (d0 d8)) (C0 (j7 (g24 q) hr (c9 (h9 d8) (c9 j4 (d0 (au1 e8 j4))))) (C0 (j7 (g24 q) hr (c9 (h9 d8) (c9 j4 (d0 (au1 e8 j4))))) (C0 (bE1 hr (h9 d8) (h9 d8)) (O5 (j7 (g24 q) hr (c9 (h9 d8) (c9 n8 (d0 w9))))))))))
theorem g26:q.c "are_rising" 2 1 ac1:=mkT q q.f26 1 ["ways"] λhr=>
 j9 (m9 (an7 q.B.all (d0 (C9 (S1 q.B.zip (c9 d8 (d0 (au4 1 none d8 (.inl au5) ao3)))) (J7 0 1) r9 (ca0 hr.units0 (au4 0 (some 2) d8 (.inr ⟨rfl,ao3⟩) au5) (au4 0 (some 2) e8 (.inr ⟨rfl,ao3⟩) au5))))))
theorem g27:q.c "are_ways" 5 2 ad7:=mkT q q.f27 2 ["things","places"] λhr=>
 j9 (m9 (C0 (ab1 .list q.B.isinstance q.B.list boot_list d8) (C0 (ch6 (D3 q.B.len (d0 d8)) (ac6 q.C.MOST_WAYS)) (C0 (an7 q.B.all (d0 (C9 (A0 d8) (o6 0) r9 (j7 (g25 q) hr (c9 d8 (c9 e8 (c9 (ac6 q.C.LEAST_AMOUNT) (d0 (ac6 q.C.MOST_AMOUNT))))))))) (O5 (j7 (g26 q) hr (d0 d8)))))))
theorem g28:q.c "are_wares" 5 2 aa1:=mkT q q.f28 2 ["things","places"] λhr=>
 j9 (m9 (C0 (ab1 .list q.B.isinstance q.B.list boot_list d8) (C0 (bj2 (ac6 q.C.LEAST_WARES) (D3 q.B.len (d0 d8)) (ac6 q.C.MOST_WARES)) (O5 (an7 q.B.all (d0 (C9 (A0 d8) (o6 0) r9 (j7 (g25 q) hr (c9 d8 (c9 e8 (c9 (ac6 q.C.LEAST_AMOUNT) (d0 (ac6 q.C.MOST_AMOUNT)))))))))))))
theorem g29:q.c "is_net" 6 1 ad6:=mkT q q.f29 1 ["net"] λhr=>
 j9 (m9 (C0 (j7 (g23 q) hr (d0 d8)) (C0 (j7 (g24 q) hr (c9 (h9 d8) (c9 (ac6 q.C.LEAST_PLACES) (d0 (ac6 q.C.MOST_PLACES))))) (C0 (j7 (g27 q) hr (c9 (h9 d8) (d0 (h9 d8)))) (O5 (j7 (g28 q) hr (c9 (h9 d8) (d0 (h9 d8)))))))))
theorem g30:q.c "is_amount" 4 1 W3:=mkT q q.f30 1 ["thing"] λhr=>
 j9 (m9 (C0 (j7 (g2 q) hr (d0 d8)) (O5 (ch7 (h9 d8) j4))))
theorem g31:q.c "is_row" 5 2 V0:=mkT q q.f31 2 ["row","length"] λhr=>
 j9 (m9 (C0 (ab1 .list q.B.isinstance q.B.list boot_list d8) (C0 (T8 hr (D3 q.B.len (d0 d8)) e8) (O5 (an7 q.B.all (d0 (C9 (A0 d8) (o6 0) r9 (j7 (g30 q) hr (d0 d8)))))))))
theorem g32:q.c "is_flow" 6 2 O3:=mkT q q.f32 2 ["net","flow"] λhr=>
 j9 (m9 (C0 (ab1 .list q.B.isinstance q.B.list boot_list e8) (C0 (T8 hr (D3 q.B.len (d0 e8)) (D3 q.B.len (d0 (h9 d8)))) (O5 (an7 q.B.all (d0 (C9 (A0 e8) (o6 0) r9 (j7 (g31 q) hr (c9 d8 (d0 (D3 q.B.len (d0 (h9 e8)))))))))))))
theorem g33:q.c "gain" 6 3 ar7:=mkT q q.f33 3 ["ways","row","place","found","way","amount"] λhr=>
 m6 (y8 3 (aj0 q.C.NOUGHT)) (m6 (N9 (S1 q.B.zip (c9 d8 (d0 e8))) (J7 4 5) (m6 (M6 (af9 hr (h9 B8) n8) (j9 (y8 3 (j7 (g4 q) hr (c9 w9 (d0 I0))))) K3) (j9 (M6 (af9 hr (h9 B8) n8) (j9 (y8 3 (j7 (g5 q) hr (c9 w9 (d0 I0))))) K3)))) (j9 (m9 w9)))
theorem g34:q.c "keeps_all" 7 3 aq3:=mkT q q.f34 3 ["net","ware","row","between"] λhr=>
 m6 (au0 3 (J8 q.B.range (d0 (h9 d8))) (o6 0) (aH6 (ay2 d8 (au4 0 (some 2) e8 (.inr ⟨rfl,ao3⟩) au5))) d8) (j9 (m9 (an7 q.B.all (d0 (C9 (A0 w9) (o6 0) r9 (T8 hr (j7 (g33 q) hr (c9 (h9 n8) (c9 e8 (d0 d8)))) (aj0 q.C.NOUGHT)))))))
theorem g35:q.c "loses_nothing" 8 2 Y5:=mkT q q.f35 2 ["net","flow"] λhr=>
 j9 (m9 (an7 q.B.all (d0 (C9 (S1 q.B.zip (c9 (h9 d8) (d0 e8))) (J7 0 1) r9 (j7 (g34 q) hr (c9 n8 (c9 d8 (d0 e8))))))))
theorem g36:q.c "load" 6 2 aK5:=mkT q q.f36 2 ["flow","number"] λhr=>
 j9 (m9 (j7 (g7 q) hr (d0 (C9 (A0 d8) (o6 0) r9 (A4 d8 e8)))))
theorem g37:q.c "has_room" 7 2 am7:=mkT q q.f37 2 ["net","flow"] λhr=>
 j9 (m9 (aY1 (bs1 q.B.any (d0 (C9 (ac2 q.B.enumerate (d0 (h9 d8))) (J7 0 1) r9 (j7 (g8 q) hr (c9 (by exact(j7 (g36 q) hr (c9 n8 (d0 d8)))) (by exact(c9 (by exact(z9 (c9 (h9 e8) (d0 j4)))) o9)))))))))
theorem g38:q.r "need_net" 7 1 aa2:=mkR q q.f38 1 ["net"] λhr=>
 aj5 (bD1 (Wd.run (aj7 (Y0 (j7 (g29 q) hr (d0 d8))))) (aj5 (bb3 q.Z.BadNet PySem.F.excBase_ValueError rfl)) br2)
theorem g39:q.r "need_flow" 7 2 am9:=mkR q q.f39 2 ["net","flow"] λhr=>
 aj5 (bD1 (Wd.run (aj7 (Y0 (j7 (g32 q) hr (c9 d8 (d0 e8)))))) (aj5 (bb3 q.Z.BadFlow PySem.F.excBase_ValueError rfl)) br2)
theorem g40:q.r "goes" 9 2 aN1:=mkR q q.f40 2 ["net","flow"] λhr=>
 an3 (an4 (aj6 (g38 q) au7 hr (by decide) rfl (Wd.run (d0 d8)))) (an3 (an4 (aj6 (g39 q) au7 hr (by decide) rfl (Wd.run (c9 d8 (d0 e8))))) (aj5 (aD4 (Wd.run (m9 (C0 (j7 (g35 q) hr (c9 d8 (d0 e8))) (O5 (j7 (g37 q) hr (c9 d8 (d0 e8))))))))))
theorem g41:q.r "brought" 8 2 at9:=mkR q q.f41 2 ["net","flow"] λhr=>
 an3 (an4 (aj6 (g38 q) au7 hr (by decide) rfl (Wd.run (d0 d8)))) (an3 (an4 (aj6 (g39 q) au7 hr (by decide) rfl (Wd.run (c9 d8 (d0 e8))))) (aj5 (aD4 (Wd.run (m9 (C9 (S1 q.B.zip (c9 (h9 d8) (d0 e8))) (J7 0 1) r9 (j7 (g33 q) hr (c9 (h9 n8) (c9 e8 (d0 (h9 d8)))))))))))
theorem g42:q.c "trails_of" 9 3 ai8:=by
 obtain⟨_,_,F,m⟩:=ai5 q.X q.G q.f42;exact aI0 q.B F m 7
theorem g43:q.c "lanes_of" 10 1 ah8:=mkO q q.f43 1 ["net","lanes","number","ware"] λhr=>
 E8 (aD9 1) (E8 (ao0 (ac2 q.B.enumerate (d0 (h9 d8))) (J7 2 3) (Q2 (aP8 1 (C9 (A0 (j7 (g42 q) hr (c9 (by exact(h9 d8)) (by exact(c9 (by exact(B7 (d0 (h9 w9)))) (by exact(c9 (by exact(h9 w9)) o9))))))) (o6 0) r9 (z9 (c9 e8 (d0 d8))))))) (Q2 (an9 e8)))
theorem g44:q.c "ware_row" 2 4 am5:=mkT q q.f44 4 ["wanted","lanes","kept","number"] λhr=>
 j9 (m9 (B9 (B7 (d0 (ac3 (aL5 n8 W4) d8 j4))) (C9 (A0 e8) (o6 0) r9 (ac3 (af9 hr (h9 d8) e8) (M3 j4) j4))))
theorem g45:q.c "way_row" 2 2 ar6:=mkT q q.f45 2 ["lanes","number"] λhr=>
 j9 (m9 (B9 (B7 (d0 j4)) (C9 (A0 d8) (o6 0) r9 (ac3 (bE4 e8 (h9 d8)) j4 j4))))
theorem g46:q.c "by_wants" 5 2 V5:=mkT q q.f46 2 ["net","fractions"] λhr=>
 j9 (m9 (C9 (S1 q.B.zip (c9 e8 (d0 (h9 d8)))) (J7 0 1) r9 (j7 (g6 q) hr (c9 d8 (by exact(c9 (by exact(z9 (c9 (h9 e8) (d0 j4)))) o9))))))
theorem g47:q.c "bounds_of" 6 2 aq4:=mkT q q.f47 2 ["net","held","brings_less"] λhr=>
 m6 (y8 2 (j7 (g46 q) hr (c9 d8 (by exact(c9 (by exact(C9 (A0 e8) (o6 0) r9 (ac3 (aL5 d8 W4) (aj0 q.C.NOUGHT) (z9 (c9 (M3 (h9 d8)) (d0 (h9 d8))))))) o9))))) (j9 (m9 (B9 n8 (C9 (A0 (h9 d8)) (o6 0) r9 (z9 (c9 (h9 d8) (d0 j4)))))))
theorem g48:q.c "flow_row" 6 5 am8:=mkT q q.f48 5 ["ways","lanes","amounts","number","wanted","row","left","lane","amount","taken"] λhr=>
 m6 (au0 5 (J8 q.B.range (d0 d8)) (o6 0) r9 (aj0 q.C.NOUGHT)) (m6 (y8 6 B8) (m6 (N9 (S1 q.B.zip (c9 e8 (d0 n8))) (J7 7 8) (j9 (M6 (af9 hr (h9 U9) w9) (m6 (y8 9 (ac3 (Y0 (j7 (g8 q) hr (c9 P1 (d0 L6)))) L6 P1)) (m6 (y8 6 (j7 (g5 q) hr (c9 L6 (d0 bi9)))) (j9 (au0 5 (ac2 q.B.enumerate (d0 I0)) (J7 0 1) r9 (ac3 (bE4 d8 (h9 w9)) (j7 (g4 q) hr (c9 e8 (d0 n8))) e8))))) K3))) (j9 (m9 I0))))
theorem g49(g21:q.c "best" 5 3 aC6):q.c "raised" 11 2 ax8:=mkO q q.f49 2 ["net","held","lanes","wares","rows","told","share","wanted","flow"] λhr=>
 E8 (Y7 2 (j7 (g43 q) hr (d0 d8))) (E8 (Y7 3 (D3 q.B.len (d0 (h9 d8)))) (E8 (bb6 4 (J8 q.B.range (d0 w9)) (o6 0) r9 (j7 (g44 q) hr (c9 (h9 (A4 (h9 w9) d8)) (c9 e8 (c9 (A4 n8 d8) (d0 d8)))))) (E8 (bw8 4 (aP8 4 (C9 (J8 q.B.range (d0 (D3 q.B.len (d0 (h9 d8))))) (o6 0) r9 (j7 (g45 q) hr (c9 e8 (d0 d8)))))) (E8 (Y7 5 (j7 g21 hr (c9 (by exact(B9 (B7 (d0 j4)) (C9 (A0 n8) (o6 0) r9 j4))) (by exact(c9 B8 (by exact(c9 (by exact(j7 (g47 q) hr (c9 d8 (d0 e8)))) o9))))))) (E8 (Y7 6 (h9 (h9 I0))) (E8 (Y7 7 (j7 (g46 q) hr (c9 d8 (d0 (C9 (A0 e8) (o6 0) r9 (ac3 (aL5 d8 W4) e8 d8)))))) (E8 (bE6 8 (J8 q.B.range (d0 w9)) (o6 0) r9 (j7 (g48 q) hr (c9 (D3 q.B.len (d0 (h9 w9))) (c9 e8 (c9 (au4 1 none (h9 B8) (.inl au5) ao3) (c9 d8 (d0 (A4 n8 d8)))))))) (Q2 (an9 (z9 (c9 L6 (by exact(c9 P1 (by exact(c9 (by exact(z9 (c9 (br8 (h9 I0) w9) (d0 (au3 (h9 I0) w9))))) o9)))))))))))))))
theorem g50:q.c "cost" 6 2 aW6:=mkT q q.f50 2 ["prices","trail"] λhr=>
 j9 (m9 (j7 (g7 q) hr (d0 (C9 (A0 e8) (o6 0) r9 (A4 e8 d8)))))
theorem g51:q.c "worth" 6 2 aM9:=mkT q q.f51 2 ["net","prices"] λhr=>
 j9 (m9 (j7 (g7 q) hr (c9 (by exact(C9 (S1 q.B.zip (c9 e8 (d0 (h9 d8)))) (J7 0 1) r9 (j7 (g6 q) hr (c9 d8 (by exact(c9 (by exact(z9 (c9 (h9 e8) (d0 j4)))) o9)))))) o9)))
theorem g52(g49:q.c "raised" 11 2 ax8):q.r "greatest_share" 12 1 N3:=mkR q q.f52 1 ["net"] λhr=>
 an3 (an4 (aj6 (g38 q) au7 hr (by decide) rfl (Wd.run (d0 d8)))) (aj5 (aD4 (Wd.run (m9 (j7 g49 hr (c9 d8 (d0 (C9 (A0 (h9 d8)) (o6 0) r9 W4))))))))
theorem g53:q.c "brings" 10 3 ag9:=mkT q q.f53 3 ["net","flow","shares"] λhr=>
 j9 (m9 (C0 (j7 (g32 q) hr (c9 d8 (d0 e8))) (C0 (an6 (g40 q) hr (c9 d8 (d0 e8))) (O5 (T8 hr (an6 (g41 q) hr (c9 d8 (d0 e8))) (j7 (g46 q) hr (c9 d8 (d0 n8))))))))
theorem g54:q.c "is_paper" 11 2 ad5:=mkT q q.f54 2 ["net","paper"] λhr=>
 j9 (m9 (C0 (j7 (g22 q) hr (d0 e8)) (C0 (j7 (g31 q) hr (c9 (h9 e8) (d0 (D3 q.B.len (d0 (h9 d8)))))) (C0 (j7 (g31 q) hr (c9 (h9 e8) (d0 (D3 q.B.len (d0 (h9 d8)))))) (O5 (aY1 (bs1 q.B.any (d0 (C9 (A0 (j7 (g43 q) hr (d0 d8))) (o6 0) r9 (j7 (g8 q) hr (c9 (A4 (h9 e8) (h9 d8)) (d0 (j7 (g50 q) hr (c9 (h9 e8) (d0 (h9 d8))))))))))))))))
theorem g55:q.r "shows_share" 12 2 E9:=mkR q q.f55 2 ["net","triple"] λhr=>
 an3 (an4 (aj6 (g38 q) au7 hr (by decide) rfl (Wd.run (d0 d8)))) (aj5 (aD4 (Wd.run (m9 (C0 (j7 (g23 q) hr (d0 e8)) (C0 (j7 (g2 q) hr (d0 (h9 e8))) (C0 (j7 (g53 q) hr (c9 d8 (c9 (h9 e8) (d0 (C9 (A0 (h9 d8)) (o6 0) r9 (h9 e8)))))) (C0 (j7 (g54 q) hr (c9 d8 (d0 (h9 e8)))) (C0 (T8 hr (j7 (g7 q) hr (d0 (j7 (g46 q) hr (c9 d8 (d0 (h9 (h9 e8))))))) (aj0 q.C.ONE)) (O5 (T8 hr (j7 (g51 q) hr (c9 d8 (d0 (h9 (h9 e8))))) (h9 e8))))))))))))
theorem g56:q.c "_law_cell" 2 2 aG5:=mkT q q.f56 2 ["_law_script","_law_k"] λhr=>
 m6 (M6 (af9 hr d8 (B7 o9)) (j9 (m9 (J4 e8 j4))) K3) (j9 (m9 (B9 (A4 d8 (M7 e8 (D3 q.B.len (d0 d8)))) (J4 (L7 e8 (D3 q.B.len (d0 d8))) j4))))
theorem g57:q.c "_law_drawn" 2 2 V8:=mkT q q.f57 2 ["_law_cell_here","_law_k","_law_more"] λhr=>
 m6 (y8 2 (M7 (B9 (J4 d8 j4) (J4 (B9 e8 j4) j4)) j4)) (j9 (m9 (M7 (J4 n8 n8) j4)))
theorem g58:q.c "_law_made" 2 2 ax6:=mkT q q.f58 2 ["_law_top","_law_under_here","_law_one","_law_other"] λhr=>
 m6 (bi8 2 3 (c9 (ca2 q.B.abs (d0 d8)) (d0 e8))) (m6 (aS8 aN7 (bE5 w9 j4) (j9 (bi8 2 3 (c9 w9 (d0 (M7 n8 w9)))))) (j9 (m9 (z9 (c9 (L7 d8 n8) (d0 (L7 e8 n8)))))))
theorem g59:q.c "_law_plus" 3 2 S3:=mkT q q.f59 2 ["_law_one","_law_other"] λhr=>
 j9 (m9 (j7 (g58 q) hr (c9 (B9 (J4 (h9 d8) (h9 e8)) (J4 (h9 e8) (h9 d8))) (d0 (J4 (h9 d8) (h9 e8))))))
theorem g60:q.c "_law_times" 3 2 R6:=mkT q q.f60 2 ["_law_one","_law_other"] λhr=>
 j9 (m9 (j7 (g58 q) hr (c9 (J4 (h9 d8) (h9 e8)) (d0 (J4 (h9 d8) (h9 e8))))))
theorem g61:q.c "_law_all" 4 1 P8:=mkT q q.f61 1 ["_law_some","_law_found","_law_one"] λhr=>
 m6 (y8 1 (z9 (c9 j4 (d0 j4)))) (m6 (N9 (A0 d8) (o6 2) (j9 (y8 1 (j7 (g59 q) hr (c9 e8 (d0 n8)))))) (j9 (m9 e8)))
theorem g62:q.c "_law_under" 2 2 O2:=mkT q q.f62 2 ["_law_one","_law_other"] λhr=>
 j9 (m9 (bj1 (J4 (h9 d8) (h9 e8)) (J4 (h9 e8) (h9 d8))))
theorem g63:q.c "_law_net" 3 1 aN0:=mkO q q.f63 1 ["_law_more","_law_places","_law_ways","_law_one","_law_other","_law_here","_law_wares","_law_j","_law_first"] λhr=>
 E8 (Y7 1 (B9 j4 (M7 d8 j4))) (E8 (aD9 2) (E8 (ao0 (J8 q.B.range (d0 e8)) (o6 3) (Q2 (ao0 (J8 q.B.range (d0 e8)) (o6 4) (E8 (Y7 5 (j7 (g57 q) hr (c9 d8 (d0 (B9 (J4 j4 w9) B8))))) (Q2 (aL6 (ah1 (an8 (ab2 hr w9 B8) (an8 (al1 (M7 I0 j4) (B9 j4 (M7 (L7 d8 j4) j4))) (aq7 (al1 (D3 q.B.len (d0 n8)) j4))))) (Q2 (bj5 2 (z9 (c9 w9 (by exact(c9 B8 (by exact(c9 (by exact(B9 j4 (M7 (L7 I0 j4) (A4 (B7 (c9 j4 (d0 j4))) (M7 (L7 d8 j4) j4))))) o9)))))))) aD8)))))) (E8 (aD9 6) (E8 (ao0 (J8 q.B.range (d0 (B9 j4 (M7 (L7 d8 j4) j4)))) (o6 7) (E8 (Y7 5 (j7 (g57 q) hr (c9 d8 (d0 (B9 j4 U9))))) (E8 (Y7 8 (M7 I0 e8)) (Q2 (bj5 6 (z9 (c9 P1 (c9 (M7 (B9 (B9 P1 j4) (M7 (L7 I0 j4) (au1 e8 j4))) e8) (d0 (B9 j4 (M7 (L7 I0 j4) j4))))))))))) (Q2 (an9 (z9 (c9 e8 (c9 n8 (d0 L6))))))))))
theorem g64:q.c "_law_net_at" 4 3 S4:=mkT q q.f64 3 ["_law_net_here","_law_row","_law_place","_law_found","_law_much","_law_way"] λhr=>
 m6 (y8 3 (z9 (c9 j4 (d0 j4)))) (m6 (N9 (S1 q.B.zip (c9 e8 (d0 (h9 d8)))) (J7 4 5) (j9 (y8 3 (j7 (g59 q) hr (c9 w9 (by exact(c9 (by exact(j7 (g60 q) hr (c9 B8 (by exact(c9 (by exact(z9 (c9 (au1 (ay1 q.B.int (d0 (T8 hr (h9 I0) n8))) (ay1 q.B.int (d0 (T8 hr (h9 I0) n8)))) (d0 j4)))) o9))))) o9))))))) (j9 (m9 w9)))
theorem g65:q.c "_law_goes" 5 2 ax7:=mkT q q.f65 2 ["_law_net_here","_law_flow","_law_ware","_law_row","_law_place","_law_at","_law_way"] λhr=>
 m6 (N9 (S1 q.B.zip (c9 (h9 d8) (d0 e8))) (J7 2 3) (j9 (N9 (J8 q.B.range (d0 (h9 d8))) (o6 4) (j9 (M6 (ah1 (an8 (ay2 B8 (au4 0 (some 2) n8 (.inr ⟨rfl,ao3⟩) au5)) (aq7 (ab2 hr (j7 (g64 q) hr (c9 d8 (c9 w9 (d0 B8)))) (z9 (c9 j4 (d0 j4))))))) (j9 (m9 V1)) K3))))) (m6 (N9 (ac2 q.B.enumerate (d0 (h9 d8))) (J7 5 6) (j9 (M6 (Y0 (j7 (g62 q) hr (c9 (by exact(z9 (c9 (h9 L6) (d0 j4)))) (by exact(c9 (by exact(j7 (g61 q) hr (d0 (C9 (A0 e8) (o6 0) r9 (A4 d8 e8))))) o9))))) (j9 (m9 V1)) K3))) (j9 (m9 V1)))
theorem g66:q.c "_law_brought" 5 2 ai7:=mkT q q.f66 2 ["_law_net_here","_law_flow"] λhr=>
 j9 (m9 (C9 (S1 q.B.zip (c9 (h9 d8) (d0 e8))) (J7 0 1) r9 (j7 (g64 q) hr (c9 n8 (c9 e8 (d0 (h9 d8)))))))
theorem g67:q.c "_law_rows" 9 4 aj4:=by
 obtain⟨_,_,F,m⟩:=ai5 q.X q.G q.f67;exact bb8 q.B F m 7
theorem g68:q.c "_law_heights_right" 10 2 V2:=mkT q q.f68 2 ["_law_net_here","_law_paper","_law_prices","_law_heights","_law_ware","_law_height","_law_row"] λhr=>
 m6 (aP6 e8 (J7 2 3)) (m6 (M6 (ah1 (X9 (al1 (bj0 q.B.min (d0 (C9 (A0 (B9 n8 w9)) (o6 0) r9 (h9 d8)))) j4) (X9 (ab2 hr (D3 q.B.len (d0 n8)) (D3 q.B.len (d0 (h9 d8)))) (af8 (ab2 hr (D3 q.B.len (d0 w9)) (D3 q.B.len (d0 (h9 d8)))))))) (j9 (m9 V1)) K3) (m6 (N9 (S1 q.B.zip (c9 (h9 d8) (d0 w9))) (J7 4 5) (j9 (N9 (A0 (j7 (g67 q) hr (c9 d8 (by exact(c9 (by exact(h9 B8)) (by exact(c9 (by exact(h9 B8)) (by exact(c9 (by exact(B7 (d0 (h9 B8)))) o9))))))))) (o6 6) (j9 (M6 (Y0 (j7 (g62 q) hr (c9 (j7 (g61 q) hr (d0 (C9 (A0 L6) (o6 0) r9 (A4 e8 d8)))) (d0 I0)))) (j9 (m9 V1)) K3))))) (j9 (m9 V1))))
theorem g69:q.c "_law_cost" 5 2 aG4:=mkT q q.f69 2 ["_law_net_here","_law_prices"] λhr=>
 j9 (m9 (j7 (g61 q) hr (c9 (by exact(C9 (S1 q.B.zip (c9 e8 (d0 (h9 d8)))) (J7 0 1) r9 (j7 (g60 q) hr (c9 d8 (by exact(c9 (by exact(z9 (c9 (h9 e8) (d0 j4)))) o9)))))) o9)))
theorem g70:q.c "_law_bent" 4 2 ap4:=mkT q q.f70 2 ["_law_row","_law_more","_law_at","_law_change"] λhr=>
 m6 (y8 2 (M7 e8 (bs0 q.B.max (c9 j4 (d0 (D3 q.B.len (d0 d8))))))) (m6 (y8 3 (A4 (B7 (c9 (by exact(z9 (c9 j4 (d0 j4)))) (by exact(c9 (by exact(z9 (c9 (M3 j4) (d0 j4)))) (by exact(c9 (by exact(z9 (c9 (M3 j4) (d0 j4)))) (by exact(c9 (by exact(z9 (c9 j4 (d0 j4)))) o9)))))))) (M7 (L7 e8 j4) j4))) (j9 (m9 (B9 (B9 (au3 d8 n8) (C9 (A0 (br9 d8 n8 (B9 n8 j4))) (o6 0) r9 (j7 (g59 q) hr (c9 d8 (d0 e8))))) (br8 d8 (B9 n8 j4))))))
theorem g71:q.c "_law_is_so" 11 2 ak3:=mkT q q.f71 2 ["_law_net_here","_law_triple","_law_share","_law_flow","_law_paper","_law_row","_law_due","_law_together"] λhr=>
 m6 (aP6 e8 (aD7 2 3 4)) (m6 (N9 (A0 w9) (o6 5) (j9 (M6 (ah1 (X9 (ab2 hr (D3 q.B.len (d0 I0)) (D3 q.B.len (d0 (h9 d8)))) (af8 (al1 (bj0 q.B.min (d0 (B9 (B7 (d0 j4)) (C9 (A0 I0) (o6 0) r9 (h9 d8))))) j4)))) (j9 (m9 V1)) K3))) (m6 (au0 6 (A0 (h9 d8)) (o6 0) r9 (j7 (g60 q) hr (c9 e8 (by exact(c9 (by exact(z9 (c9 (h9 d8) (d0 j4)))) o9))))) (m6 (M6 (ah1 (X9 (al1 (h9 n8) j4) (X9 (aj7 (Y0 (j7 (g65 q) hr (c9 d8 (d0 w9))))) (X9 (ab2 hr (j7 (g66 q) hr (c9 d8 (d0 w9))) L6) (af8 (aj7 (Y0 (j7 (g68 q) hr (c9 d8 (d0 B8)))))))))) (j9 (m9 V1)) K3) (m6 (y8 7 (j7 (g61 q) hr (c9 (by exact(C9 (S1 q.B.zip (c9 (h9 B8) (d0 (h9 d8)))) (J7 0 1) r9 (j7 (g60 q) hr (c9 d8 (by exact(c9 (by exact(z9 (c9 (h9 e8) (d0 j4)))) o9)))))) o9))) (j9 (m9 (C0 (T8 hr U9 (z9 (c9 j4 (d0 j4)))) (O5 (T8 hr (j7 (g69 q) hr (c9 d8 (d0 (h9 B8)))) n8)))))))))
end
theorem fin{P:Program}{w:World}{K:cO5}{h:Heap}{mg:Str->Option Value}{fa:Addr}(X:K.In h)(G:h.Ns mainGlobals mg)(hmg:mg "law"=some (.ref fa))(hB:cp1 K)(hC:co8 K)(E1:ba6 K "BadNet" true false false)(E2:bV5 K "BadFlow")(hB2:aK7 K)(hF:FnK K):
  ∃fd:FuncData,(∀(s:Shared) (u:Value),BindsTo s fd ⟨[u],[]⟩ [("_law_script",u)])/\∀aD:Heap,K.In aD->aD.Ns mainGlobals mg->BM mg aD->P9 P w K mg aD CX0 15 fa fd ["_law_script"] (spT K 1 bg6):=by
 have B:Blt mg:=⟨W.mg_none_of X G hB.b0,W.mg_none_of X G hB.b1,W.mg_none_of X G hB.b2,W.mg_none_of X G hB.b3,W.mg_none_of X G hB.b4,W.mg_none_of X G hB.b5,W.mg_none_of X G hB.b6,W.mg_none_of X G hB.b7,W.mg_none_of X G hB.b8,W.mg_none_of X G hB.b9,W.mg_none_of X G hB.b10,W.mg_none_of X G hB.b11,W.mg_none_of X G hB.b12,W.mg_none_of X G hB.b13,W.mg_none_of X G hB.b14,W.mg_none_of X G hB.b15⟩
 have C:Cst K mg:=⟨(let⟨t,e⟩:=hC.c0;⟨t,W.mg_of X G e⟩),(let⟨t,e⟩:=hC.c1;⟨t,W.mg_of X G e⟩),(let⟨t,e⟩:=hC.c2;⟨t,W.mg_of X G e⟩),(let⟨t,e⟩:=hC.c3;⟨t,W.mg_of X G e⟩),(let⟨t,e⟩:=hC.c4;⟨t,W.mg_of X G e⟩),(let⟨t,e⟩:=hC.c5;⟨t,W.mg_of X G e⟩),(let⟨t,e⟩:=hC.c6;⟨t,W.mg_of X G e⟩),bs6 X G hC.c7,bs6 X G hC.c8⟩
 obtain⟨D1,C11,C12,C13,W1,x1,x2,x3,x4,x5,x6,x7,x8,x9,x10,x11,x12⟩:=E1;have m1:=W.mg_of X G x1;obtain⟨D2,y1,y2⟩:=E2;have Z:co6 K mg:=⟨⟨D2,W.mg_of X G y1,y2⟩,⟨D1,m1,x6⟩⟩
 obtain⟨Cb,fI,ft,v1,v2,v3,v4,v5,⟨dI,v6⟩,⟨dt,v7⟩⟩:=hB2;have mB:=W.mg_of X G v1;have K1:bA2 K mg D1 true false false true:=⟨x7,⟨C11,W.mg_of X G x2,x8⟩,⟨C12,W.mg_of X G x3,x9⟩,⟨C13,W.mg_of X G x4,x10⟩,x11⟩
 have hcls:∀c∈aF0,∃D,mg c=some (.ref D)/\wdK K mg W1 D c:=λc hc=>by
  rcases cA9 hc with rfl|hd
  .exact⟨D1,m1,⟨rfl,K1⟩,x12⟩
  .exact absurd hd (by simp)
 obtain⟨_,_,Uwo,Nwo⟩:=ai5 X G hF.wo;obtain⟨_,_,Utl,Ntl⟩:=ai5 X G hF.tl;obtain⟨_,_,Uf18,Nf18⟩:=ai5 X G hF.f18;obtain⟨_,_,Uf15,Nf15⟩:=ai5 X G hF.f15;obtain⟨_,_,Uf21,Nf21⟩:=ai5 X G hF.f21;obtain⟨_,d72,k72,V72,n72,h72⟩:=bu1 X G hF.f72;rw[n72]at hmg;cases hmg;refine⟨d72,λs u=> ?_,λaD kb nb bm=> ?_⟩
 .obtain⟨oc,od,kV,doc,pm,an,ct,osl,rfl,_⟩:=V72.ex;exact .of_eq rfl
 .have Te:bo1 P w K mg aD "_law_told" (wdK K mg W1):=bC2 B Utl Ntl Uwo Nwo (W.mg_of X G x5) hcls bm;have q:Ct P w aD K h mg:=⟨hF,X,G,B,C,Z⟩
  have g10:=cc0 (P:=P) (w:=w) (mg:=mg) (aD:=aD) B v2 v3 v6;have bI:L2.P6 K dI ["self","goal","rows","bounds"] []:=v6.binds λ_ _ _ _ _ _=>bT0 λ_ _ _ _=>rfl
  have g11:=cb9 (P:=P) (w:=w) (mg:=mg) (aD:=aD) v2 v3 (g9 q) v7;have bT:L2.P6 K dt ["self","chosen","column"] []:=v7.binds λ_ _ _ _ _ _=>bx9 λ_ _ _=>rfl
  have g15:=aY3 v2 v5 g11 bT (g13 q bm) (g14 q) Uf15;have b15:L2.P6 K _ ["board"] []:=Uf15.binds λ_ _ _ _ _ _=>bl6 λ_=>rfl
  have g18:=bS4 v2 v5 g11 bT (g14 q) (g17 q) Uf18;have b18:L2.P6 K _ ["board"] []:=Uf18.binds λ_ _ _ _ _ _=>bl6 λ_=>rfl
  have g21:=cc1 v2 v3 v4 g10 bI g15 b15 g18 b18 mB Nf15 Uf15.kp Nf18 Uf18.kp (g12 q) (g19 q) (g20 q) Uf21 Nf21;have g49:=g49 q g21;have g52:=g52 q g49;have hp:((530:Addr),("law.<locals>.<lambda>":Str))∈af3:=by decide +kernel
  have hq:(("law":Str)++".<locals>.")++"<lambda>"="law.<locals>.<lambda>":=by decide +kernel
  have hcdI:=h72;exact cm9 (k:=14) (N:=["_law_script","_law_k","_law_more","_law_net_here","_law_triple","_law_barred","_law_share","_law_flow","_law_paper","_law_j","_law_here","_law_bent_here","_law_prices","_law_heights","_law_other","_law_whole","_law_told_here","_law_odd"]) (ps:=["_law_script"]) (g:=aV7) V72 (by constructor<;>first |rfl|decide +kernel) (by decide) λ_ _ _ _ _ hr=>
   (Wd.run (m6 (N9 (J8 B.range (d0 (bs0 B.max (c9 j4 (d0 (bZ9 B.min (c9 j4 (d0 (D3 B.len (d0 d8)))))))))) (o6 1) (m6 (y8 2 (j7 (g57 q) hr (c9 (j7 (g56 q) hr (c9 d8 (d0 e8))) (d0 e8)))) (m6 (y8 3 (j7 (g63 q) hr (d0 n8))) (m6 (y8 4 (aP7 ["_law_net_here"] [3] Te hr (by decide) rfl hp hq rfl hcdI rfl rfl (λ_ _ _ _ _=>rfl) g52 rfl (λ_ _ _ _ _ _ _=>(d0 d8)))) (m6 (M6 (ah1 (X9 (aj7 (Y0 (ab1 .tuple B.isinstance B.tuple boot_tuple B8))) (X9 (ab2 hr (D3 B.len (d0 B8)) j4) (af8 (aj7 (Y0 (j7 (g71 q) hr (c9 w9 (d0 B8))))))))) (j9 (m9 V1)) K3) (m6 (M6 (ah1 (X9 (bj4 (an6 (g55 q) hr (c9 w9 (d0 B8)))) (af8 (ab2 hr (an6 g52 hr (d0 w9)) B8)))) (j9 (m9 V1)) K3) (m6 (au0 5 (A0 (h9 w9)) (o6 0) (aH6 (af9 hr (j7 (g67 q) hr (c9 e8 (by exact(c9 (by exact(h9 d8)) (by exact(c9 (by exact(h9 d8)) (by exact(c9 (by exact(B7 (d0 (h9 d8)))) o9)))))))) (B7 o9))) d8) (m6 (M6 (ab2 hr (T8 hr (h9 B8) (z9 (c9 j4 (d0 j4)))) (bE1 hr I0 (B7 o9))) (j9 (m9 V1)) K3) (m6 (aP6 B8 (aD7 6 7 8)) (m6 (N9 (J8 B.range (d0 j4)) (o6 9) (m6 (y8 10 (j7 (g57 q) hr (c9 n8 (d0 (B9 j4 bi9))))) (m6 (y8 11 (A4 (B7 (c9 (by exact(B9 (au3 U9 (M3 j4)) (B7 (d0 (j7 (g70 q) hr (c9 (A4 U9 (M3 j4)) (d0 (L7 af7 j4)))))))) (by exact(c9 U9 o9)))) (M7 af7 j4))) (m6 (y8 12 (A4 (B7 (c9 (j7 (g70 q) hr (c9 (h9 P1) (d0 (L7 af7 (aL3 j4 j4))))) (d0 (h9 P1)))) (M7 (L7 af7 j4) j4))) (m6 (y8 13 (A4 (B7 (c9 (j7 (g70 q) hr (c9 (h9 P1) (d0 (L7 af7 (aL3 j4 j4))))) (d0 (h9 P1)))) (M7 (L7 af7 j4) j4))) (m6 (y8 14 (A4 (B7 (c9 L6 (by exact(c9 (by exact(j7 (g59 q) hr (c9 L6 (by exact(c9 (by exact(z9 (c9 j4 (d0 j4)))) o9))))) o9)))) (ay1 B.int (d0 (T8 hr (M7 (L7 af7 (aL3 j4 j4)) j4) j4))))) (m6 (y8 15 (z9 (c9 (by exact(M2 14)) (by exact(c9 (by exact(M2 11)) (by exact(c9 (by exact(z9 (c9 (M2 12) (d0 (M2 13))))) o9))))))) (m6 (y8 16 (an6 (g55 q) hr (c9 w9 (d0 (M2 15))))) (j9 (M6 (ah1 (X9 (aj7 (Y0 (ab1 .bool B.isinstance B.bool boot_bool (M2 16)))) (af8 (ab2 hr (M2 16) (j7 (g71 q) hr (c9 w9 (d0 (M2 15)))))))) (j9 (m9 V1)) K3)))))))))) (m6 (y8 17 (B7 (c9 (by exact(z9 (c9 L6 (by exact(c9 (by exact(B7 o9)) (by exact(c9 P1 o9))))))) (by exact(c9 (by exact(z9 (c9 L6 (c9 W4 (d0 P1))))) (by exact(c9 (by exact(z9 (c9 L6 (by exact(c9 U9 (by exact(c9 (by exact(z9 (c9 (by exact(B7 o9)) (by exact(c9 (by exact(B7 o9)) o9))))) o9))))))) o9))))))) (m6 (y8 17 (B9 (M2 17) (B7 (c9 (by exact(z9 (c9 L6 (c9 U9 (d0 W4))))) (by exact(c9 (by exact(z9 (c9 (by exact(z9 (c9 j4 (d0 j4)))) (by exact(c9 U9 (by exact(c9 P1 o9))))))) o9)))))) (m6 (y8 17 (B9 (M2 17) (B7 (c9 (by exact(z9 (c9 L6 (by exact(c9 U9 (by exact(c9 (by exact(z9 (c9 (by exact(h9 P1)) (by exact(c9 (by exact(B9 (h9 P1) (B7 (c9 (by exact(z9 (c9 j4 (d0 j4)))) o9)))) o9))))) o9))))))) (by exact(c9 (by exact(z9 (c9 W4 (c9 U9 (d0 P1))))) o9)))))) (m6 (y8 17 (B9 (M2 17) (B7 (c9 (by exact(z9 (c9 (by exact(z9 (c9 (M3 j4) (d0 j4)))) (by exact(c9 U9 (by exact(c9 P1 o9))))))) o9)))) (m6 (M6 (bj4 (an6 (g55 q) hr (c9 w9 (d0 (A4 (M2 17) (M7 (L7 n8 (aL3 j4 j4)) j4)))))) (j9 (m9 V1)) K3) (m6 (M6 (ab2 hr (aP7 [] [] Te hr (by decide) rfl hp hq rfl hcdI rfl rfl (λ_ _ _ _ _=>rfl) g52 rfl (λ_ _ _ _ _ _ _=>(c9 (by exact(z9 (c9 j4 (by exact(c9 (by exact(B7 o9)) (by exact(c9 (by exact(B7 (c9 (by exact(z9 (c9 j4 (c9 j4 (d0 j4))))) o9))) o9))))))) o9))) au2) (j9 (m9 V1)) K3) (j9 (M6 (ab2 hr (aP7 ["_law_triple"] [4] Te hr (by decide) rfl hp hq rfl hcdI rfl rfl (λ_ _ _ _ _=>rfl) (g55 q) rfl (λ_ _ _ _ _ _ _=>(c9 (by exact(z9 (c9 j4 (by exact(c9 (by exact(B7 o9)) (by exact(c9 (by exact(B7 o9)) o9))))))) (by exact(c9 d8 o9))))) au2) (j9 (m9 V1)) K3)))))))))))))))))) (j9 (m9 V1))))
end Sw
structure PySem.W.Fast:Prop where(tw13269942908054287036 tw10476140979194499433 tw13034566040579563359 tw1369843351196248260 tw15176525753413173791 tw3792077568298689035 tw407931825924298040 tw10628045638313068133 tw3784764914499202670 tw12011325867101274635 tw5492394365751899067 tw14732645672095973426 tw4217558527487425927 tw5367596904214328873 tw6577751466277112094 tw12671964441617285568 tw3044212413345321292 tw18386892973650598131 tw10351314872309664830 tw8199039933377548354 tw10623524249612369361 tw1622945032645595697 tw5671594684193509622 tw6118280692844594046 tw4394413433842140743 tw9425240201322493617 tw11363547033937041536 tw2322183475516271945 tw11548980380461392106 tw2346107340960119496 tw361379062783625272 tw3630500660820145706 tw8929612278455639731 tw9652848090485204916 tw12236875535952312039 tw17048014081464686197 tw16556660180738031804 tw7722297724943098362 tw12138504114143371519 tw18089468862627171024 tw12468224904775488844 tw13676169767605401979 tw9158801701370148874 tw15446814091305139030 tw8196661416470703799 tw3578078408715269674 tw4582403781291209657 tw13919584109233351540 tw1886710270842714911 tw2045593394796434267 tw5650198169117554743 tw11277662796284331563 tw17187024316060437580 tw13677893311738249554 tw1894951347075581180 tw16233170585420044766 tw8173605209605369121 tw12116682239127130607 tw12258053913266803263 tw11075943221475048617 tw5188407778556274917 tw10624513087413402807 tw8370513794296972484 tw1255018423915833645 tw2543949707509152601 tw9653518520039481131 tw11209287596664430495 tw1043180842294846300 tw5643843101473557158 tw6325038679597614210 tw6307420164619755868 tw151094188761381528 tw3138796827622753263 tw7497223990946304698 tw11562083976860186137 tw10606645767970718132 tw2146962008232485016 tw15743490244870929092 tw15926200058009700205 tw4268310530437227384 tw13966224443157952162 tw12308742469416949098 tw10139628676236073571 tw8649800999304284799 tw14251127821886571758 tw10858319072694130390 tw2506696093206204562 tw9976559538201649632 tw16336092040814517425 tw10411933078479932163 tw2540543039460558629 tw14061459299532293572 tw8897893258143160297 tw3418643508481497735 tw1131592196943239071 tw12605437342319231010 tw17804208581695592187 tw1377069290788520298 tw14660771057184718502 tw6385407820611350175 tw14655119799081719978 tw2790383018575812274 tw13431515792984050277 tw1704466673584069019 tw6900200069479418632 tw10225819817016711341 tw6976945179041970222 tw6349641774880454053 tw5972781255202015827 tw11450666369973363331 tw3914693512627901385 tw11774959432733404665 tw10804180017114462587 tw3553315325850458204 tw10358691427591909298 tw612240331767161229 tw11710789169671347148 tw13549030198667675328 tw14025902115151326929 tw4449162224355390053 tw15329207769321143700 tw10481457689695705833 tw2365328460719504073 tw12713929738460026112 tw7950810137573683450 tw14213389922068826959 tw11783066146792547578 tw2016054775760212314 tw15138254317582558932 tw11899949884214556509 tw10270650698626680308 tw15737259175821483618 tw2321150098454290560 tw16078255436448545978 tw9670437725969504328 tw16411713845681620221 tw10370046435326644481 tw6341034592843450688 tw6685862459076720193 tw8539014904521970557 tw4944830619612547252 tw5817260862929349 tw14900394823402379642 tw4279591395755007296 tw3601988373636216380 tw11433490445354393014 tw15516990622915769480 tw11860702605729177449 tw549868439275522516 tw16971084215047760937 tw17128012072744159659 tw10821678556138111549 tw1886890400244023097 tw3060240091438668576 tw15443738241500180772 tw16001763391242804284 tw13429997744010772189 tw8978579009863025340 tw18401591137086501004 tw12378010568576647385 tw13793600099104812888 tw10900652633381129449 tw2334715028692750650 tw13046474596089869863 tw3257788735095963599 tw14933790057274633964 tw5386617669525443878 tw11611430625108325849 tw7631534515628960268 tw13255044871119932943 tw15002684921420038396 tw17251403933929151696 tw4121723940271981878 tw6721279449243764349 tw3090837197908985561 tw13244022248508384541 tw12852141004704412536 tw8984613039986233065 tw18193177595659196746 tw11853254058802313324 tw5481921465520565407 tw15193696452938775482 tw17768136855982607535 tw6821510692057928092 tw4602991227112301429 tw14512034349998289703 tw17689251600333851711 tw1512461052275299629 tw1135119124777616724 tw6343373708726592921 tw1209422085765188405 tw16665081776408514848 tw15084388141868060059 tw2965355724113598998 tw5401656814428100422 tw15453296141037994794 tw13849442369864593913 tw2445020593769606421 tw10538772190643748645 tw3661053881921405614 tw6145333052413152336 tw14631931286536090560 tw2672440104879993133 tw4663915446321888602 tw16632103880388110363 tw14445073310400362967 tw17854131440781902875 tw4225313184621557962 tw10560367021579132799 tw8887340930454886489 tw15666908020953199896 tw16747699872095548075 tw4155208407183269537 tw5828660874100500455 tw314283783715403030 tw885490357943019990 tw15394597787176002020 tw16472653382615246369 tw14272467585669208690 tw6816688126071473155 tw14344184605993145563 tw13251967486842502601 tw17239274057828468522 tw17096829461005813596 tw6493183141801823919 tw12324773916015434667 tw5001927560724257047 tw14780298496509427040 tw14236796186796233172 tw14400093154034551067 tw7598945490431624687 tw12903716723553651210 tw9758012065130229835 tw6154946167797044192 tw1906413473403319386 tw5898615418912278581 tw7104868065965325179 tw10130609187458284235 tw15610415817885725669 tw6974721883477946133 tw5212858509316181392 tw456338795075748481 tw6603614643513999393 tw9149165614416657541 tw6238272986355691307 tw4999750809596008316 tw12273800571710441622 tw3956634462103616271 tw16896081079663560674 tw1370679631542953753 tw13522973551512884657 tw4414848046272868402 tw14519327718392626388 tw5919999382011499697 tw3355419755584543340 tw13310327289030167925 tw11793384983958712461 tw8560516661848924055 tw14507849946938093929 tw16556426029750696704 tw6002913861987615644 tw11121972495571703997 tw7054864515765048877 tw5330287286085761876 tw2968120159179087544 tw853429647233990591 tw16363486480336902589 tw8823344915281338051 tw6751950932132844601 tw13149060269821418900 tw5438165025456501027 tw8584876660236463152 tw18133988017748100644 tw7295596832860338358 tw12071317609478587588 tw15665469288229398088 tw15759150081500735736 tw8938683076959703550 tw10085573694404301098 tw15578254742167999019 tw10697546110055336703 tw12080722797424970472 tw12665047037159710699 tw13442310021323989110 tw8103940623825336025 tw3716036918727815078 tw14497085688260822210 tw6030204635224195045 tw17852368649997062573 tw9841321669471013258 tw15057146111414825701 tw3720421267021710065 tw8677394519812079912 tw11064626395160265043 tw14745947079150090676 tw12520355976494481360 tw4501861461450233321 tw8172122333574987565 tw516276689123492154 tw2056447040290375637 tw1714989980037982469 tw11378605705065394421 tw8832194152154914360 tw8437215809782812422 tw14780635972660207070 tw10641294396084812547 tw9823740215572953913 tw18389374049313343869 tw3993472385373984885 tw2943739420590771924 tw11345082437940926732 tw1216970606293858109 tw7363495180353934797 tw5191427061580469747 tw10214620514382826334 tw13630422435695807211 tw3057281039938951627 tw15273414525486274205 tw1695395899030932442 tw11614617101127328863 tw8497195474031236591 tw1701997869159532827 tw8266286861392509971 tw1973850721820925575 tw2051633777204133410 tw8081349554199090486 tw7632996381808505705 tw3782758165465930012 tw8472456811122365183 tw9294036937467009358 tw9181325778057378423 tw3990272224658026889 tw7030215836800950917 tw10175541792738196705 tw17334483844750289612 tw10800133976114960503 tw2950882105911748177 tw9474640803682551817 tw5321272178787721042 tw16117203978045065571 tw18426335390341093716 tw1178586434692429795 tw16558993382971127310 tw7343719654093492147 tw3848419155161584848 tw1942537865363347670 tw16851156784490083716 tw10969661226778034908 tw750347817288495068 tw13304564609725582391 tw5807174616441624241 tw10607353767562303140 tw12883143136011359700 tw12249699217622686457 tw12112161675296687392 tw492476999750057910 tw17029359156216170774 tw3581624960406492756 tw10139216767703898126 tw287269181899167687 tw10657051250528613450 tw7252159187313394459 tw3896425858444853727 tw5573041924100123968 tw8124098971238739123 tw4782940848957656982 tw10572051721800816593 tw17354887154908297431 tw2467270414734857009 tw8614510791217147095 tw7796731756738731548 tw7621625469873524323 tw1102533215554496972 tw6788194331203610871 tw6752290807679284676 tw1775556977265447747 tw10008093288244854581 tw18235058109810089265 tw12418457661189148416 tw12046667059335242070 tw8487928139125590054 tw3118958441082381986 tw16703664664574429763 tw11118391141374977825 tw2036537812620359464 tw9445832771816350144 tw14704939995183269243 tw14944956441555224754 tw3372017551082408319 tw2749767573350987565 tw9248044992542933788 tw2126395545161281190 tw15565053803277084821 tw641235999284479626 tw10570714802919458730 tw9922711567429793244 tw7209289352509513350 tw13734291012523638292 tw11853281030818538247 tw3653418450750066293:True)
open PySem PySem.W PyProof.Rows
set_option maxRecDepth 100000 in
set_option maxHeartbeats 0 in
theorem PySem.Challenge.cw_sharedways_k20_whole_share_holds : PySem.Challenge.rw_sharedways_k20_whole_share.Holds := by
 w_on;o_law;k_head;(case hw=>w_witness2)
 k_fill
 refine L3.cp2 (l:=PySem.Challenge.rw_sharedways_k20_whole_share) (n:=63) (k:=15) (x:="_law_script") (FL:=L3.bg6) rfl (by decide) rfl ⟨rfl,by decide,by decide⟩ (λw h Y=>W.km_in_of Y) ?F λns hl=>L3.bT2 ns hl
 case F=>
  intro w mg fa h KX G hmg Y;have hT:=W.km_tabs_of Y;have hnt:W.noTabs (L2.KOf KX)=true:=by dsimp only[L2.KOf];kernel_rfl
  have hB:Sw.cp1 (L2.KOf KX):=by
   dsimp only[L2.KOf];refine' ⟨?b0,?b1,?b2,?b3,?b4,?b5,?b6,?b7,?b8,?b9,?b10,?b11,?b12,?b13,?b14,?b15⟩
   iterate 16 k_is
  have hC:Sw.co8 (L2.KOf KX):=by
   dsimp only[L2.KOf];refine' ⟨?c0,?c1,?c2,?c3,?c4,?c5,?c6,?c7,?c8⟩
   (case c0=>refine' Sw.mkN ?a;(case a=>k_is))
   (case c1=>refine' Sw.mkN ?a;(case a=>k_is))
   (case c2=>refine' Sw.mkN ?a;(case a=>k_is))
   (case c3=>refine' Sw.mkN ?a;(case a=>k_is))
   (case c4=>refine' Sw.mkN ?a;(case a=>k_is))
   (case c5=>refine' Sw.mkN ?a;(case a=>k_is))
   (case c6=>refine' Sw.mkN ?a;(case a=>k_is))
   (case c7=>refine' Sw.mkP ?a ?b;(case a=>k_is);(case b=>k_is))
   (case c8=>refine' Sw.mkP ?a ?b;(case a=>k_is);(case b=>k_is))
  have E1:Sw.ba6 (L2.KOf KX) "BadNet" true false false:=by dsimp only[L2.KOf];(refine' Sw.mkE ?a1 ?a2 ?a3 ?a4 ?a5 ?a6 ?l1 ?l2 ?l3 ?l4 ?l5 ?l6 ?a7 ?a8 ?a9 ?a10 ?a11;(case a1=>k_is);(case a2=>k_is);(case a3=>k_is);(case a4=>k_is);(case a5=>k_is);(case a6=>kernel_rfl);(case l1=>k_is);(case l2=>k_is);(case l3=>kernel_rfl);(case l4=>k_is);(case l5=>k_is);(case l6=>kernel_rfl);(case a7=>kernel_rfl);(case a8=>kernel_rfl);(case a9=>kernel_rfl);(case a10=>kernel_rfl);(case a11=>kernel_rfl))
  have E2:Sw.bV5 (L2.KOf KX) "BadFlow":=by dsimp only[L2.KOf];(refine' Sw.mkX ?a ?b;(case a=>k_is);(case b=>kernel_rfl))
  have hB2:Sw.aK7 (L2.KOf KX):=by
   dsimp only[L2.KOf];refine' Sw.mkB ?a ?c1 ?c2 ?c3 ?c4 ?n1 ?n2 ?n3 ?n4 ?m1 ?m2 ?m3 ?m4 ?t1 ?t2 ?t3 ?fi ?tt
   (case a=>k_is)
   (case c1=>kernel_rfl)
   (case c2=>kernel_rfl)
   (case c3=>kernel_rfl)
   (case c4=>k_is)
   (case n1=>k_is)
   (case n2=>k_is)
   (case n3=>k_is)
   (case n4=>k_is)
   (case m1=>kernel_rfl)
   (case m2=>k_is)
   (case m3=>kernel_rfl)
   (case m4=>kernel_rfl)
   (case t1=>k_is)
   (case t2=>kernel_rfl)
   (case t3=>kernel_rfl)
   (case fi=>refine' Sw.mkM ?b ?c;(case b=>k_is);(case c=>k_is))
   (case tt=>refine' Sw.mkM ?b ?c;(case b=>k_is);(case c=>k_is))
  have hF:Sw.FnK (L2.KOf KX):=by
   dsimp only[L2.KOf];refine' ⟨?f0,?f1,?f2,?f3,?f4,?f5,?f6,?f7,?f8,?f9,?f10,?f11,?f12,?f13,?f14,?f15,?f16,?f17,?f18,?f19,?f20,?f21,?f22,?f23,?f24,?f25,?f26,?f27,?f28,?f29,?f30,?f31,?f32,?f33,?f34,?f35,?f36,?f37,?f38,?f39,?f40,?f41,?f42,?f43,?f44,?f45,?f46,?f47,?f48,?f49,?f50,?f51,?f52,?f53,?f54,?f55,?f56,?f57,?f58,?f59,?f60,?f61,?f62,?f63,?f64,?f65,?f66,?f67,?f68,?f69,?f70,?t0,?t1⟩
   iterate 71 (refine' Sw.mkF ?a ?b ?c;(case a=>k_is);(case b=>k_is);(case c=>k_is))
   (case t0=>(refine' Sw.cl4 ?a ?b ?d ?e;(case a=>k_is);(case b=>k_is);(case d=>k_is);(case e=>kernel_rfl)))
   (case t1=>(refine' Sw.cl4 ?a ?b ?d ?e;(case a=>k_is);(case b=>k_is);(case d=>k_is);(case e=>kernel_rfl)))
  have tab:∀p∈L3.af3,h.get? p.1=some (W.tabObj #[]):=λp hp=>hT p.1 (by
   rcases cA9 hp with rfl|hr
   .exact cK7
   .rcases cA9 hr with rfl|hr
    .exact cK6 _ cK7
    .exact absurd hr (by simp))
  have tabc:∀p∈L3.af3,∃c,W.CodeHd h c p.1:=λp hp=>by
   rcases cA9 hp with rfl|hr
   .obtain⟨_,_,_,_,_,_,_,c,_,_,_,_,_,e⟩:=hF.f13;exact⟨c,W.codeHd_of_K KX e⟩
   .rcases cA9 hr with rfl|hr
    .obtain⟨_,_,_,_,_,_,_,c,_,_,_,_,_,e⟩:=hF.f72;exact⟨c,W.codeHd_of_K KX e⟩
    .exact absurd hr (by simp)
  exact⟨hnt,tab,tabc,Sw.fin KX G hmg hB hC E1 E2 hB2 hF⟩
