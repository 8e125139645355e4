import PyProof.Rows.All
import Wide.All
import OpenK.AllK
import Wide.FinOn
import Lean
import PyProof.EqAt
import PyProof.EqKinds
import PyProof.TupleCall
import PySem.Str
import PyProof.CompFree
import PySem.Challenge.RW_sharedways_k40_whole_two_on_lines
set_option Elab.async false
set_option linter.all false
set_option maxRecDepth 100000
set_option maxHeartbeats 5000000
abbrev cr8:=@Bool.and_eq_true
abbrev cr9:=@Bool.false_eq_true
abbrev cs0:=@Bool.false_ne_true
abbrev cs1:=@PySem.Heap.get?_push_of_some
abbrev cs2:=@PySem.Heap.get?_push_size
abbrev cs3:=@PySem.Heap.get?_update_other
abbrev cs4:=@PySem.Heap.get?_update_self
abbrev cs5:=@PySem.Heap.lt_size
abbrev cs6:=@Int.toNat_natCast
abbrev cs7:=@List.all_cons
abbrev cs8:=@List.any_cons
abbrev cs9:=@List.append_nil
abbrev ct0:=@List.cons_append
abbrev ct1:=@List.drop_eq_getElem_cons
abbrev ct2:=@List.foldl_cons
abbrev ct3:=@List.foldl_nil
abbrev ct4:=@List.getElem?_append_left
abbrev ct5:=@List.getElem?_append_right
abbrev ct6:=@List.getElem?_cons_succ
abbrev ct7:=@List.getElem?_cons_zero
abbrev ct8:=@List.getElem?_eq_getElem
abbrev ct9:=@List.getElem?_eq_none
abbrev cu0:=@List.getElem?_map
abbrev cu1:=@List.getElem?_replicate
abbrev cu2:=@List.getElem?_set_ne
abbrev cu3:=@List.getElem?_set_self
abbrev cu4:=@List.length_append
abbrev cu5:=@List.length_cons
abbrev cu6:=@List.length_map
abbrev cu7:=@List.length_nil
abbrev cu8:=@List.length_replicate
abbrev cu9:=@List.length_set
abbrev cv0:=@List.lookup_cons
abbrev cv1:=@List.map_append
abbrev cv2:=@List.map_cons
abbrev cv3:=@List.map_map
abbrev cv4:=@List.map_nil
abbrev cv5:=@List.mem_append_left
abbrev cv6:=@List.mem_append_right
abbrev cv7:=@List.mem_cons_of_mem
abbrev cv8:=@List.mem_cons_self
abbrev cv9:=@List.mem_of_getElem?
abbrev cw0:=@List.nil_append
abbrev cw1:=@List.of_mem_zip
abbrev cw2:=@List.replicate_succ
abbrev cw3:=@List.set_cons_succ
abbrev cw4:=@List.set_cons_zero
abbrev cw5:=@List.size_toArray
abbrev cw6:=@List.zipWith_cons_cons
abbrev cw7:=@List.zip_cons_cons
abbrev cw8:=@Nat.le_refl
abbrev cw9:=@Nat.le_trans
abbrev cx0:=@Nat.lt_of_lt_of_le
abbrev cx1:=@Nat.ne_of_gt
abbrev cx2:=@Nat.ne_of_lt
abbrev cx3:=@Option.bind_some
abbrev cx4:=@decide_eq_false
abbrev cx5:=@decide_eq_true
abbrev cx6:=@decide_eq_true_eq
abbrev cx7:=@if_neg
abbrev cx8:=@if_pos
abbrev cx9:=@PySem.wpAny_bind
abbrev cy0:=@PySem.wpAny_call_entry
abbrev cy1:=@PySem.wpAny_field
abbrev cy2:=@PySem.wpAny_mono
abbrev cy3:=@PySem.wpAny_newObj_type
abbrev cy4:=@PySem.wpAny_onRaise
abbrev cy5:=@PySem.wpAny_pure
abbrev cy6:=@PySem.wpAny_pyIter_list
abbrev cy7:=@PySem.wpAny_seqItems
abbrev cy8:=@PySem.wpAny_setField_rec
abbrev cy9:=@PySem.wpAny_truthy_bool
namespace L2
open PySem PySem.Spec PyProof.Rows
noncomputable abbrev Key:=Sum Int Str
noncomputable def ay6:Key->Value->Bool
 |.inl k,v=>Value.isInt k v
 |.inr x,v=>Value.isStrOf x v
noncomputable def co8(w:World):Key->Int
 |.inl k=>hashInt k
 |.inr x=>hashStr w x
theorem M0:∀{k:Key}{v:Value},ay6 k v=true->(∃i t,k=Sum.inl i/\v=Value.int i t)\/(∃x t,k=Sum.inr x/\v=Value.str x t)
 |.inl i,v,h=>by
  obtain⟨t,e⟩:=Value.isInt_shape (k:=i) (v:=v) h;exact .inl ⟨i,t,rfl,e⟩
 |.inr x,v,h=>by
  obtain⟨t,e⟩:=Value.isStrOf_shape (x:=x) (v:=v) h;exact .inr ⟨x,t,rfl,e⟩
theorem bw9(i:Int)(t:Tok):ay6 (.inl i) (.int i t)=true:=by simp[ay6,Value.isInt]
theorem bw8(x:Str)(t:Tok):ay6 (.inr x) (.str x t)=true:=by simp[ay6,Value.isStrOf]
theorem cc7(a b:Int):decide ((Sum.inl a:Key)=Sum.inl b)=(a==b):=by
 by_cases e:a=b
 ·subst e;simp
 ·have h:¬(Sum.inl a:Key)=Sum.inl b:=fun q=>e (Sum.inl.inj q)
  rw[cx4 h];exact(beq_eq_false_iff_ne.mpr e).symm
theorem cc4(a b:Str):decide ((Sum.inr a:Key)=Sum.inr b)=decide (a=b):=by
 by_cases e:a=b
 ·subst e;simp
 ·have h:¬(Sum.inr a:Key)=Sum.inr b:=fun q=>e (Sum.inr.inj q)
  rw[cx4 h,cx4 e]
theorem cc6(a:Int)(b:Str):decide ((Sum.inl a:Key)=Sum.inr b)=false:=cx4 (fun q=>nomatch q)
theorem cc5(a:Str)(b:Int):decide ((Sum.inr a:Key)=Sum.inl b)=false:=cx4 (fun q=>nomatch q)
noncomputable def F9(prog:Program)(w:World):PySem.KeyKind prog w Key where
 is:=ay6
 hash:=co8 w
 inj:=fun v a b ha hb=>by
  rcases M0 ha with⟨i,t,rfl,rfl⟩|⟨x,t,rfl,rfl⟩
  ·rcases M0 hb with⟨j,u,rfl,e⟩|⟨y,u,rfl,e⟩
   ·injection e with e1 _;rw[e1]
   ·exact nomatch e
  ·rcases M0 hb with⟨j,u,rfl,e⟩|⟨y,u,rfl,e⟩
   ·exact nomatch e
   ·injection e with e1 _;rw[e1]
 byValue:=fun k v h=>by
  rcases M0 h with⟨i,t,rfl,rfl⟩|⟨x,t,rfl,rfl⟩<;>rfl
 pyHash:=fun hv h=>by
  rcases M0 hv with⟨i,t,rfl,rfl⟩|⟨x,t,rfl,rfl⟩
  ·exact wpAny_pyHash_int h
  ·exact wpAny_pyHash_str h
 eqBool:=fun hu hv h=>by
  rcases M0 hu with⟨i,t,rfl,rfl⟩|⟨x,t,rfl,rfl⟩
  ·rcases M0 hv with⟨j,u,rfl,rfl⟩|⟨y,u,rfl,rfl⟩
   ·rw[cc7]at h;exact wpAny_eqBool_int h
   ·rw[cc6]at h;exact SeqAt.EqAt.int_str i t y u _ _ _ _ h
  ·rcases M0 hv with⟨j,u,rfl,rfl⟩|⟨y,u,rfl,rfl⟩
   ·rw[cc5]at h;exact SeqAt.EqAt.str_int x t j u _ _ _ _ h
   ·rw[cc4]at h;exact wpAny_eqBool_str h
 «strs»:=fun k x t v h=>by
  rcases M0 h with⟨i,u,rfl,e⟩|⟨y,u,rfl,e⟩
  ·exact nomatch e
  ·injection e with e1 _
   subst e1;cases v<;>rfl
theorem bc1(prog:Program)(w:World)(i:Int)(t:Tok):(F9 prog w).is (.inl i) (.int i t)=true:=bw9 i t
theorem bc0(prog:Program)(w:World)(x:Str)(t:Tok):(F9 prog w).is (.inr x) (.str x t)=true:=bw8 x t
inductive V where
 |non|bl (b:Bool)|int (i:Int)|str (x:Str)|byt (b:Array UInt8)|flt (b:UInt64)|ref (a:Addr)|ty (n:String)
 deriving DecidableEq
noncomputable def r8:V->Value->Prop
 |.non,u=>u=Value.none
 |.bl b,u=>u=Value.bool b
 |.int i,u=>∃t,u=Value.int i t
 |.str x,u=>∃t,u=Value.str x t
 |.byt b,u=>∃t,u=Value.bytes b t
 |.flt b,u=>∃t,u=Value.float b t
 |.ref a,u=>u=Value.ref a
 |.ty n,u=>u=Value.type n
noncomputable abbrev o9:List V->List Value->Prop:=Paired r8
theorem o9.length{xs:List V}{us:List Value}(r:o9 xs us):xs.length=us.length:=Paired.length r
theorem o9.get:∀{xs:List V}{us:List Value}{i:Nat}{x:V},o9 xs us->xs[i]?=some x->∃u,us[i]?=some u/\r8 x u
 |_,_,_,_,.nil,e=>by simp at e
 |_,_,0,_,.cons r _,e=>by simp at e;subst e;exact⟨_,rfl,r⟩
 |_,_,i+1,x,.cons _ t,e=>by
  obtain⟨u,h1,h2⟩:=o9.get (i:=i) (x:=x) t (by simpa using e);exact⟨u,by simpa using h1,h2⟩
theorem o9.set{x:V}{u:Value}(r:r8 x u):∀{xs:List V}{us:List Value}(i:Nat),o9 xs us->o9 (xs.set i x) (us.set i u)
 |_,_,_,.nil=>.nil
 |_,_,0,.cons _ t=>.cons r t
 |_,_,i+1,.cons q t=>.cons q (o9.set r i t)
theorem o9.append:∀{xs ys:List V}{us ws:List Value},o9 xs us->o9 ys ws->o9 (xs++ys) (us++ws)
 |_,_,_,_,.nil,s=>s
 |_,_,_,_,.cons r t,s=>.cons r (o9.append t s)
theorem o9.take:∀{xs:List V}{us:List Value}(n:Nat),o9 xs us->o9 (xs.take n) (us.take n)
 |_,_,0,_=>.nil
 |_,_,_+1,.nil=>.nil
 |_,_,n+1,.cons r t=>.cons r (o9.take n t)
theorem o9.drop:∀{xs:List V}{us:List Value}(n:Nat),o9 xs us->o9 (xs.drop n) (us.drop n)
 |_,_,0,r=>r
 |_,_,_+1,.nil=>.nil
 |_,_,n+1,.cons _ t=>o9.drop n t
noncomputable def an0:Option V->Option Value->Prop
 |some v,some u=>r8 v u
 |none,none=>True
 |_,_=>False
noncomputable def KV{κ:Type}:List (κ×V)->List (κ×Value)->Prop:=Paired fun(p:κ×V) (q:κ×Value)=>p.1=q.1/\r8 p.2 q.2
noncomputable def kV:Key->V
 |.inl i=>.int i
 |.inr x=>.str x
inductive HO where
 /--a list -/
 |lst (xs:List V)
 /--a tuple (never changes) -/
 |tup (xs:List V)
 /--a dict whose keys are ints and texts;one whose keys are tuples of ints and texts (the empty one is both) -/
 |dK (kvs:List (Key×V))|dT (kvs:List (List Key×V))
 /--a set of ints:its members,its size -/
 |set (S:Int->Bool) (n:Nat)
 /--an instance of the class at C,its dict at dx,its attributes -/
 |ins (C dx:Addr) (fs:List (Str×V))
 /--the dict of the instance at x -/
 |own (x:Addr)
 /--the dict of an exception -/
 |xd (fs:List (Str×V))
 /--a bound method,f of x -/
 |met (f x:Addr)
 /--a range object lo,lo+1,.. below hi -/
 |rng (lo hi:Int)
 /--a thing that is known to the object (the script;a dict while a loop walks it):read,never written while it is so -/
 |frz (o:Obj) (u:HO)
 /--a code object's table -/
 |tbl (ps:Array Value)
 /--any other thing,by what is true of its one object (a def of one's own:SetO a S n:=HO.ext fun h=>..) -/
 |ext (φ:Heap->Prop)
noncomputable abbrev Hp:=Addr->Option HO
noncomputable def upd(H:Hp)(a:Addr)(o:HO):Hp:=fun b=>if b=a then some o else H b
theorem n6{H:Hp}{a:Addr}{o:HO}:upd H a o a=some o:=by unfold upd;rw[cx8 rfl]
theorem l7{H:Hp}{a b:Addr}{o:HO}(h:b≠a):upd H a o b=H b:=by unfold upd;rw[cx7 h]
theorem ck2{H:Hp}{a b:Addr}{o u:HO}(h:H a=some o)(h':H b=some u)(d:o≠u):a≠b:=by
 intro e;subst e;rw[h]at h';exact d (Option.some.inj h')
theorem t6{H:Hp}{a b:Addr}{o:HO}(h:H a=some o)(h':H b=none):a≠b:=by
 intro e;subst e;rw[h]at h';cases h'
section
variable (P:Program)(w:World)
noncomputable def J6(H:Hp)(h:Heap)(a:Addr):HO->Prop
 |.lst xs=>xs.length<=sizeLine/\∃(its:List Value) (n:Nat),o9 xs its/\h.get? a=some {cls:=.type "list",data:=.seq its.toArray n}
 |.tup xs=>xs.length<=sizeLine/\∃its:List Value,o9 xs its/\IsTup h a its.toArray
 |.dK kvs=>kvs.length<=sizeLine/\(a==sysModules)=false/\∃vs,KV kvs vs/\h.DictOf (F9 P w) a vs
 |.dT kvs=>kvs.length<=sizeLine/\(a==sysModules)=false/\∃xs:List (List Key×Addr×Value),
   Paired (fun(p:List Key×V) (q:List Key×Addr×Value)=>p.1=q.1/\H q.2.1=some (.tup (p.1.map kV))/\r8 p.2 q.2.2) kvs xs/\
   ∃o es ep,h.get? a=some o/\o.ExactDict/\o.data=.dict es ep/\es.toList=xs.map (entryOfKey (tupleKind (F9 P w)))/\(xs.map (·.1)).Nodup
 |.set S n=>h.SetOf (intKind P w) a S n
 |.ins C dx fs=>H dx=some (.own a)/\fs.length<=1000/\dx≠a/\h.get? a=some (W.instObj C dx)/\
   ∃mA,h.Ns1 dx mA/\(∀f,an0 (fs.lookup f) (mA f))/\PySem.Within mA (fs.map (·.1))
 |.own _=>∃o,h.get? a=some o
 |.xd fs=>∃mA,h.Ns1 a mA/\∀f,an0 (fs.lookup f) (mA f)
 |.rng lo hi=>∃t u v,h.get? a=some {cls:=.type "range",data:=.fields #[.int lo t,.int hi u,.int 1 v]}
 |.frz o u=>h.get? a=some o/\J6 H h a u
 |.tbl ps=>h.get? a=some {cls:=.none,data:=.fields ps}
 |.met f x=>h.get? a=some (W.methodObj (.ref f) (.ref x))
 |.ext φ=>φ h/\(∃o,h.get? a=some o)/\∀h1 h2:Heap,φ h1->(∀o,h1.get? a=some o->h2.get? a=some o)->φ h2
noncomputable def HOk(H:Hp)(h:Heap):Prop:=∀a o,H a=some o->J6 P w H h a o
end
section
variable {P:Program}{w:World}{H H':Hp}{h h':Heap}{a:Addr}{o:HO}
theorem J6.lt(x:J6 P w H h a o):a<h.objs.size:=by
 cases o with
 |lst xs=>obtain⟨_,_,_,_,e⟩:=x;exact cs5 e
 |tup xs=>obtain⟨_,_,_,p⟩:=x;exact p.lt
 |dK kvs=>obtain⟨_,_,_,_,o,_,_,e,_⟩:=x;exact cs5 e
 |dT kvs=>obtain⟨_,_,_,_,o,_,_,e,_⟩:=x;exact cs5 e
 |set S n=>obtain⟨o,_,_,_,e,_⟩:=x;exact cs5 e
 |ins C dx fs=>obtain⟨_,_,_,e,_⟩:=x;exact cs5 e
 |own y=>obtain⟨_,e⟩:=x;exact cs5 e
 |xd fs=>obtain⟨_,⟨_,_,_,e,_⟩,_⟩:=x;exact cs5 e
 |rng lo hi=>obtain⟨_,_,_,e⟩:=x;exact cs5 e
 |frz ob u=>obtain⟨e,_⟩:=x;exact cs5 e
 |tbl ps=>exact cs5 (show h.get? a=some _ from x)
 |met f y=>exact cs5 (show h.get? a=some _ from x)
 |ext φ=>obtain⟨_,⟨_,e⟩,_⟩:=x;exact cs5 e
theorem Paired.mapP{α β:Type}{F G:α->β->Prop}:∀{l₁:List α}{l₂:List β},Paired F l₁ l₂->(∀a b,F a b->G a b)->Paired G l₁ l₂
 |_,_,.nil,_=>.nil
 |_,_,.cons r t,f=>.cons (f _ _ r) (Paired.mapP t f)
theorem J6.stay(x:J6 P w H h a o)(k:∀b u,(b=a\/H b=some (.own a))->h.get? b=some u->h'.get? b=some u)
  (ho:∀b,H b=some (.own a)->H' b=some (.own a)) (ht:∀b xs,H b=some (.tup xs)->H' b=some (.tup xs)):J6 P w H' h' a o:=by
 induction o with
 |lst xs=>obtain⟨z,its,n,r,e⟩:=x;exact⟨z,its,n,r,k _ _ (.inl rfl) e⟩
 |tup xs=>obtain⟨z,its,r,ob,e,c⟩:=x;exact⟨z,its,r,ob,k _ _ (.inl rfl) e,c⟩
 |dK kvs=>obtain⟨z,y,vs,r,ob,es,ep,e,c⟩:=x;exact⟨z,y,vs,r,ob,es,ep,k _ _ (.inl rfl) e,c⟩
 |dT kvs=>
  obtain⟨z,y,xs,r,ob,es,ep,e,c⟩:=x;exact⟨z,y,xs,Paired.mapP r fun p q z=>⟨z.1,ht _ _ z.2.1,z.2.2⟩,ob,es,ep,k _ _ (.inl rfl) e,c⟩
 |set S n=>obtain⟨ob,es,ep,t,e,c⟩:=x;exact⟨ob,es,ep,t,k _ _ (.inl rfl) e,c⟩
 |ins C dx fs=>
  obtain⟨d,z,ne,e,mA,⟨od,es,ep,e2,c⟩,r⟩:=x;exact⟨ho _ d,z,ne,k _ _ (.inl rfl) e,mA,⟨od,es,ep,k _ _ (.inr d) e2,c⟩,r⟩
 |own y=>obtain⟨ob,e⟩:=x;exact⟨ob,k _ _ (.inl rfl) e⟩
 |xd fs=>obtain⟨mA,⟨od,es,ep,e,c⟩,r⟩:=x;exact⟨mA,⟨od,es,ep,k _ _ (.inl rfl) e,c⟩,r⟩
 |rng lo hi=>obtain⟨t,u,v,e⟩:=x;exact⟨t,u,v,k _ _ (.inl rfl) e⟩
 |frz ob u ih=>obtain⟨e,q⟩:=x;exact⟨k _ _ (.inl rfl) e,ih q⟩
 |tbl ps=>
  have e:h.get? a=some {cls:=.none,data:=.fields ps}:=x;show h'.get? a=some {cls:=.none,data:=.fields ps};exact k a _ (.inl rfl) e
 |met f y=>
  have e:h.get? a=some (W.methodObj (.ref f) (.ref y)):=x;show h'.get? a=some (W.methodObj (.ref f) (.ref y));exact k a _ (.inl rfl) e
 |ext φ=>obtain⟨p,⟨o,e⟩,st⟩:=x;exact⟨st _ _ p fun o q=>k _ _ (.inl rfl) q,⟨o,k _ _ (.inl rfl) e⟩,st⟩
theorem HOk.lt(x:HOk P w H h)(e:H a=some o):a<h.objs.size:=(x a o e).lt
theorem HOk.fresh(x:HOk P w H h)(e:h.objs.size<=a):H a=none:=by
 cases q:H a with
 |none=>rfl
 |some u=>exact absurd (cx0 (x.lt q) e) (Nat.lt_irrefl _)
theorem HOk.kept(x:HOk P w H h)(k:∀b u,h.get? b=some u->h'.get? b=some u):HOk P w H h':=fun a o e=>
 (x a o e).stay (fun b u _ q=>k b u q) (fun _ q=>q) fun _ _ q=>q
theorem HOk.laid(x:HOk P w H h)(k:∀b u,h.get? b=some u->h'.get? b=some u)(hp:h.objs.size<=a)(new:J6 P w (upd H a o) h' a o):HOk P w (upd H a o) h':=fun b u e=>by
 have hn:=x.fresh hp;by_cases hb:b=a
 ·subst hb;rw[n6]at e;cases e;exact new
 ·rw[l7 hb]at e;exact(x b u e).stay (fun c v _ q=>k c v q) (fun c q=>by rw[l7 (t6 q hn)];exact q) fun c xs q=>by rw[l7 (t6 q hn)];exact q
end
noncomputable def Rd(H:Hp)(a:Addr)(u:HO):Prop:=H a=some u\/∃o,H a=some (.frz o u)
theorem Rd.ok{P:Program}{w:World}{H:Hp}{h:Heap}{a:Addr}{u:HO}(r:Rd H a u)(x:HOk P w H h):J6 P w H h a u:=by
 rcases r with r|⟨o,r⟩
 ·exact x a u r
 ·obtain⟨_,q⟩:=x a _ r;exact q
noncomputable def Mut:Option HO->Prop
 |some (.lst _)=>True
 |some (.dK _)=>True
 |some (.dT _)=>True
 |some (.set _ _)=>True
 |some (.ins _ _ _)=>True
 |some (.ext _)=>True
 |_=>False
section
variable {P:Program}{w:World}{H:Hp}{h h':Heap}{x e:Addr}{o':HO}
theorem HOk.write(ok:HOk P w H h)(mu:Mut (H x))(he:e=x\/H e=some (.own x))(k:∀b u,b≠e->h.get? b=some u->h'.get? b=some u)(heo:∃u,h'.get? e=some u)
  (new:J6 P w (upd H x o') h' x o'):HOk P w (upd H x o') h':=fun b u q=>by
 have nown:∀c y,H c=some (.own y)->c≠x:=fun c y r z=>by subst z;rw[r]at mu;exact mu
 have ntup:∀c xs,H c=some (.tup xs)->c≠x:=fun c xs r z=>by subst z;rw[r]at mu;exact mu
 by_cases hb:b=x
 ·subst hb;rw[n6]at q;cases q;exact new
 ·rw[l7 hb]at q;by_cases hbe:b=e
  ·have q':H b=some (.own x):=by
    rcases he with z|z
    ·exact absurd (hbe.trans z) hb
    ·rw[hbe];exact z
   rw[q]at q';cases q';obtain⟨v,hv⟩:=heo;exact⟨v,by rw[hbe];exact hv⟩
  ·refine(ok b u q).stay (fun c v hc r=>k c v ?_ r) (fun c r=>by rw[l7 (nown c b r)];exact r) fun c xs r=>by rw[l7 (ntup c xs r)];exact r
   rcases hc with rfl|hc
   ·exact hbe
   ·rintro rfl;rcases he with z|z
    ·exact nown c b hc z
    ·rw[hc]at z;cases z;exact hb rfl
end
structure Un(fs ex:List Addr)(H H':Hp)(h h':Heap):Prop where
 keep:∀b o,h.get? b=some o->H b=none->b∉fs->b∉ex->h'.get? b=some o
 slot:∀b o,h.get? b=some o->H b=none->b∈fs->b∉ex->∃sl,h'.get? b=some {o with slots:=sl}
 free:∀b o,h.get? b=some o->H b=none->b∉ex->H' b=none
 there:∀b o,h.get? b=some o->b∉ex->∃o',h'.get? b=some o'
 tups:∀b xs,H b=some (.tup xs)->H' b=some (.tup xs)
 frzs:∀b o u,H b=some (.frz o u)->H' b=some (.frz o u)
 tbls:∀b ps,H b=some (.tbl ps)->∃more,H' b=some (.tbl (ps++more))
section
variable {fs fs' ex ex':List Addr}{H H1 H2:Hp}{h h1 h2 h':Heap}{a x e:Addr}{o:HO}
theorem Un.any(u:Un fs ex H H1 h h1){b:Addr}{ob:Obj}(q:h.get? b=some ob)(n:H b=none)(hx:b∉ex):∃sl,h1.get? b=some {ob with slots:=sl}:=by
 by_cases hb:b∈fs
 ·exact u.slot b ob q n hb hx
 ·exact⟨ob.slots,u.keep b ob q n hb hx⟩
theorem Un.kept(k:∀b u,h.get? b=some u->h'.get? b=some u):Un fs ex H H h h':=
 ⟨fun b ob q _ _ _=>k b ob q,fun b ob q _ _ _=>⟨ob.slots,k b ob q⟩,fun _ _ _ n _=>n,fun b ob q _=>⟨ob,k b ob q⟩,fun _ _ q=>q,fun _ _ _ q=>q,fun _ ps q=>⟨#[],by rw[q];simp⟩⟩
theorem Un.refl:Un fs ex H H h h:=Un.kept fun _ _ q=>q
theorem Un.laid(k:∀b u,h.get? b=some u->h'.get? b=some u)(hp:h.objs.size<=a)(hn:H a=none):Un fs ex H (upd H a o) h h' where
 keep:=fun b u q _ _ _=>k b u q
 slot:=fun b u q _ _ _=>⟨u.slots,k b u q⟩
 free:=fun b u q n _=>by rw[l7 (cx2 (cx0 (cs5 q) hp))];exact n
 there:=fun b u q _=>⟨u,k b u q⟩
 tups:=fun b xs q=>by rw[l7 (t6 q hn)];exact q
 frzs:=fun b u xs q=>by rw[l7 (t6 q hn)];exact q
 tbls:=fun b ps q=>⟨#[],by rw[l7 (t6 q hn),q];simp⟩
theorem Un.write(mu:Mut (H x))(he:e=x\/H e=some (.own x))(k:∀b u,b≠e->h.get? b=some u->h'.get? b=some u)(heo:∃u,h'.get? e=some u):Un fs ex H (upd H x o) h h':=by
 have hx:∀b,H b=none->b≠x:=fun b n z=>by subst z;rw[n]at mu;exact mu
 have hb:∀b,H b=none->b≠e:=fun b n z=>by
  subst z;rcases he with r|r
  ·exact hx b n r
  ·rw[n]at r;cases r
 have hm:∀b u,H b=some u->¬Mut (some u)->b≠x:=fun b u q nm z=>by subst z;rw[q]at mu;exact nm mu
 refine⟨fun b u q n _ _=>k b u (hb b n) q,fun b u q n _ _=>⟨u.slots,k b u (hb b n) q⟩,fun b u q n _=>by rw[l7 (hx b n)];exact n,fun b u q _=> ?_,
  fun b xs q=>by rw[l7 (hm b _ q fun z=>z)];exact q,fun b u xs q=>by rw[l7 (hm b _ q fun z=>z)];exact q,fun b ps q=>⟨#[],by rw[l7 (hm b _ q fun z=>z),q];simp⟩⟩
 by_cases hbe:b=e
 ·subst hbe;exact heo
 ·exact⟨u,k b u hbe q⟩
end
noncomputable def trk(h:Heap)(H:Hp):List Addr:=(List.range h.objs.size).filter fun a=>(H a).isSome
noncomputable def ar5(h:Heap)(H:Hp):Heap:=W.hideAll h (trk h H)
theorem bx1(h:Heap)(H:Hp):(ar5 h H).objs.size=h.objs.size:=W.hideAll_size _ _
theorem aD2{h:Heap}{H:Hp}{b:Addr}{o:Obj}(e:h.get? b=some o)(n:H b=none):(ar5 h H).get? b=some o:=
 W.hideAll_get _ e fun hm=>by
  have q:(H b).isSome=true:=(List.mem_filter.mp hm).2;rw[n]at q;simp at q
theorem bR6{h:Heap}{H:Hp}{b:Addr}{o:Obj}(e:(ar5 h H).get? b=some o):h.get? b=some o/\H b=none:=by
 have e':h.get? b=some o:=W.of_hideAll (trk h H) e;refine⟨e',?_⟩;cases q:H b with
 |none=>rfl
 |some x=>
  have hm:b∈trk h H:=List.mem_filter.mpr ⟨List.mem_range.mpr (cs5 e'),by simp[q]⟩;have z:(ar5 h H).get? b=none:=W.hideAll_none (trk h H) hm;rw[z]at e;cases e
structure Mod(K:W.Frag)(mg:Str->Option Value)(base:Heap):Prop where
 kin:K.In base
 glob:base.Ns mainGlobals mg
 blt:∃mb,base.Ns builtinsNs mb/\∀x:Str,x≠"__name__"->mb x=bootBuiltins x
 nolimit:base.NoLimit
structure Cx where
 prog:Program
 w:World
 K:W.Frag
 mg:Str->Option Value
 base:Heap
 A:Around
 N:List Str
 s₀:Shared
 H₀:Hp
 env:Env
 outer:List Env
 stack:List Env
 ex:List Addr
 fn:Str->Bool
 calm:Bool
 pn:List (Addr×Obj)
 xe:Value->Shared->Prop
noncomputable def frs(l:List Env):List Addr:=l.filterMap (·.frame)
noncomputable abbrev Cx.fs(X:Cx):List Addr:=frs X.outer
noncomputable def Vis(sc:Scope)(x:Str):Prop:=sc.names.lookup x=some .local\/sc.names.lookup x=some .cell\/sc.names.lookup x=some .free
noncomputable def Loc(sc:Scope)(x:Str):Prop:=sc.names.lookup x=some .local\/sc.names.lookup x=some .cell
noncomputable def cq3(env:Env)(h:Heap)(m:Str->Option Value)(x:Str)(u:Value):Prop:=
 (env.kindOf x=some .local/\m x=some u)\/((env.kindOf x=some .cell\/env.kindOf x=some .free)/\∃c,env.cells.lookup x=some c/\h.IsCell c (some u))
structure Cx.Ok(X:Cx):Prop where
 mod:Mod X.K X.mg X.base
 kind:X.env.scope.kind=.function
 glob:X.env.globals=mainGlobals
 blt:X.env.builtins=builtinsNs
 above:X.s₀.heap.objs.size<=X.env.locals
 inj:∀x y c,X.env.cells.lookup x=some c->X.env.cells.lookup y=some c->x=y
 has:∀x,(X.env.kindOf x=some .cell\/X.env.kindOf x=some .free)->∃c,X.env.cells.lookup x=some c
 cab:∀x c,X.fn x=true->X.env.cells.lookup x=some c->X.s₀.heap.objs.size<=c
 hd:X.calm=true->X.A.handled=none
 frames:X.A.frames=some X.stack
 stk:X.stack=X.outer\/(X.stack=X.env::X.outer/\X.env.frame=some X.env.locals)
 exf:∀b∈X.ex,b≠X.env.locals/\∀x c,X.env.cells.lookup x=some c->c≠b
 bs:∀b o,X.base.get? b=some o->X.s₀.heap.get? b=some o/\X.H₀ b=none
 bsz:X.base.objs.size<=X.s₀.heap.objs.size
 noex:∀b o,X.base.get? b=some o->b∉X.ex
 exfs:∀b∈X.ex,b∉X.fs
 funs:X.s₀.heap.FunFrames X.base X.outer
 frf:∀b∈X.fs,X.H₀ b=none
structure Inv(X:Cx)(pins:List (Addr×Obj))(σ:List (Option V))(H:Hp)(s:Shared):Prop where
 ok:X.Ok
 os:s.os=X.s₀.os
 bare:AllBare s.gens
 base:Un X.fs X.ex X.H₀ H X.s₀.heap s.heap
 loc:∃m,s.heap.Ns X.env.locals m/\∀(i:Nat) (x:Str) (v:V),X.N[i]?=some x->σ[i]?=some (some v)->Vis X.env.scope x->∃u,r8 v u/\cq3 X.env s.heap m x u
 cell:∀x c,X.env.cells.lookup x=some c->∃v,s.heap.IsCell c v
 free:H X.env.locals=none
 freeC:∀x c,X.env.cells.lookup x=some c->H c=none
 pin:∀p∈X.pn++pins,s.heap.get? p.1=some p.2/\H p.1=none/\p.1≠X.env.locals/\p.1∉X.fs/\∀v,p.2.data≠.cell v
 hok:HOk X.prog X.w H s.heap
 len:σ.length=X.N.length
section
variable {X:Cx}{pins:List (Addr×Obj)}{σ:List (Option V)}{H H':Hp}{s:Shared}{h':Heap}
theorem Cx.Ok.nofr(ok:X.Ok){b:Addr}{o:Obj}(e:X.base.get? b=some o):b∉X.fs:=fun hb=>by
 have :=(ok.funs.mem hb).1;rw[e]at this;cases this
theorem Inv.bs(I:Inv X pins σ H s):∀b o,X.base.get? b=some o->s.heap.get? b=some o/\H b=none:=fun b o e=>
 ⟨I.base.keep b o (I.ok.bs b o e).1 (I.ok.bs b o e).2 (I.ok.nofr e) (I.ok.noex b o e),I.base.free b o (I.ok.bs b o e).1 (I.ok.bs b o e).2 (I.ok.noex b o e)⟩
theorem Inv.bk(I:Inv X pins σ H s):∀b o,X.base.get? b=some o->s.heap.get? b=some o:=fun b o e=>(I.bs b o e).1
theorem Inv.mod(I:Inv X pins σ H s):Mod X.K X.mg X.base:=I.ok.mod
theorem Inv.kIn(I:Inv X pins σ H s):X.K.In s.heap:=I.ok.mod.kin.keeps I.bk
theorem Inv.lt(I:Inv X pins σ H s):X.env.locals<s.heap.objs.size:=let⟨_,hn,_⟩:=I.loc;hn.lt
theorem Inv.sz(I:Inv X pins σ H s):X.s₀.heap.objs.size<=s.heap.objs.size:=cw9 I.ok.above (Nat.le_of_lt I.lt)
theorem Inv.nofs(I:Inv X pins σ H s){a:Addr}(h:s.heap.objs.size<=a):a∉X.fs:=fun hb=>by
 obtain⟨_,o,ho,_⟩:=I.ok.funs.mem hb;exact absurd (cx0 (cs5 ho) (cw9 I.sz h)) (Nat.lt_irrefl _)
theorem Inv.cne(I:Inv X pins σ H s):∀x c,X.env.cells.lookup x=some c->c≠X.env.locals:=fun x c e z=>by
 obtain⟨v,o,ho,hd⟩:=I.cell x c e;obtain⟨m,⟨o',es,ep,ho',hd',_⟩,_⟩:=I.loc;rw[z,ho']at ho;cases ho;rw[hd']at hd;cases hd
theorem Inv.funs(I:Inv X pins σ H s):s.heap.FunFrames X.base X.outer:=by
 have all:∀(l:List Env),(∀b∈frs l,b∈X.fs)->X.s₀.heap.FunFrames X.base l->s.heap.FunFrames X.base l:=by
  intro l;induction l with
  |nil=>intro _ _;trivial
  |cons env r ih=>
   intro hs hl;obtain⟨hk,⟨L,o,hf,hn,ho,hd⟩,hr⟩:=hl;have hL:L∈X.fs:=hs L (by unfold frs;rw[List.filterMap_cons,hf];exact cv8);obtain⟨sl,e⟩:=I.base.slot L o ho (I.ok.frf L hL) hL fun z=>I.ok.exfs L z hL
   exact⟨hk,⟨L,_,hf,hn,e,hd⟩,ih (fun b hb=>hs b (by unfold frs;rw[List.filterMap_cons,hf];exact cv7 _ hb)) hr⟩
 exact all X.outer (fun _ hb=>hb) I.ok.funs
theorem Inv.stack(I:Inv X pins σ H s):s.heap.FunFrames X.base X.stack:=by
 rcases I.ok.stk with e|⟨e,hf⟩
 ·rw[e];exact I.funs
 ·rw[e];obtain⟨m,hn,_⟩:=I.loc;refine .cons (by rw[I.ok.kind];decide) hf hn ?_ I.funs;exact Heap.get?_none_of_le (cw9 I.ok.bsz I.ok.above)
theorem Inv.stkSub(I:Inv X pins σ H s):∀b∈frs X.stack,b∈X.env.locals::X.fs:=fun b hb=>by
 rcases I.ok.stk with e|⟨e,hf⟩
 ·rw[e]at hb;exact cv7 _ hb
 ·rw[e]at hb;unfold frs at hb;rw[List.filterMap_cons,hf]at hb;exact hb
theorem Inv.stkFree(I:Inv X pins σ H s):∀b∈frs X.stack,H b=none:=fun b hb=>by
 rcases List.mem_cons.mp (I.stkSub b hb)with e|hb
 ·rw[e];exact I.free
 ·obtain⟨_,o,ho,_⟩:=I.ok.funs.mem hb;exact I.base.free b o ho (I.ok.frf b hb) fun z=>I.ok.exfs b z hb
theorem Inv.step{g':Array GenState}{t':Nat}{d':Drawn}{ch:List Addr}(I:Inv X pins σ H s)
  (hch:∀b∈ch,(b∈X.ex\/X.s₀.heap.objs.size<=b)/\b≠X.env.locals/\(∀x c,X.env.cells.lookup x=some c->c≠b)/\∀p∈X.pn++pins,p.1≠b)
  (keep:∀b o,b≠X.env.locals->b∉X.fs->b∉ch->s.heap.get? b=some o->H b=none->h'.get? b=some o)
  (slot:∀b o,b≠X.env.locals->b∈X.fs->b∉ch->s.heap.get? b=some o->H b=none->∃sl,h'.get? b=some {o with slots:=sl}) (free:∀b o,b∉ch->s.heap.get? b=some o->H b=none->H' b=none)
  (there:∀b o,b∉ch->s.heap.get? b=some o->∃o',h'.get? b=some o')
  (tups:∀b xs,H b=some (.tup xs)->H' b=some (.tup xs)) (frzs:∀b o u,H b=some (.frz o u)->H' b=some (.frz o u)) (tbls:∀b ps,H b=some (.tbl ps)->∃more,H' b=some (.tbl (ps++more)))
  (ns:∀m,s.heap.Ns X.env.locals m->h'.Ns X.env.locals m) (hok:HOk X.prog X.w H' h') (hg:AllBare g'):
  Inv X pins σ H' {s with heap:=h',gens:=g',drawn:=d',toks:=t'}:=by
 have neL:∀b o,X.s₀.heap.get? b=some o->b≠X.env.locals:=fun b o e=>cx2 (cx0 (cs5 e) I.ok.above)
 have neC:∀b o,X.s₀.heap.get? b=some o->b∉X.ex->b∉ch:=fun b o e hx hb=>by
  rcases(hch b hb).1 with z|z
  ·exact hx z
  ·exact absurd (cx0 (cs5 e) z) (Nat.lt_irrefl _)
 have cellK:∀x c,X.env.cells.lookup x=some c->∀v,s.heap.IsCell c v->h'.IsCell c v:=fun x c e v zz=>by
  obtain⟨o,ho,hd⟩:=zz;have nch:c∉ch:=fun z=>(hch c z).2.2.1 x c e rfl
  by_cases hc:c∈X.fs
  ·obtain⟨sl,q⟩:=slot c o (I.cne x c e) hc nch ho (I.freeC x c e);exact⟨_,q,hd⟩
  ·exact⟨o,keep c o (I.cne x c e) hc nch ho (I.freeC x c e),hd⟩
 refine⟨I.ok,I.os,hg,⟨fun b o e n hb hx=> ?_,fun b o e n hb hx=> ?_,fun b o e n hx=> ?_,fun b o e hx=> ?_,fun b xs e=>tups b xs (I.base.tups b xs e),fun b o xs e=>frzs b o xs (I.base.frzs b o xs e),fun b ps e=> ?_⟩,?_,fun x c e=> ?_,?_,fun x c e=> ?_,fun p hp=> ?_,hok,I.len⟩
 ·exact keep b o (neL b o e) hb (neC b o e hx) (I.base.keep b o e n hb hx) (I.base.free b o e n hx)
 ·obtain⟨sl,e1⟩:=I.base.slot b o e n hb hx;obtain⟨sl',e2⟩:=slot b _ (neL b o e) hb (neC b o e hx) e1 (I.base.free b o e n hx);exact⟨sl',e2⟩
 ·obtain⟨o',e1⟩:=I.base.there b o e hx;exact free b o' (neC b o e hx) e1 (I.base.free b o e n hx)
 ·obtain⟨o',e1⟩:=I.base.there b o e hx;exact there b o' (neC b o e hx) e1
 ·obtain⟨m1,e1⟩:=I.base.tbls b ps e;obtain⟨m2,e2⟩:=tbls b _ e1;exact⟨m1++m2,by rw[e2,Array.append_assoc]⟩
 ·obtain⟨m,hn,hl⟩:=I.loc;refine⟨m,ns m hn,fun i x v e1 e2 e3=> ?_⟩;obtain⟨u,r,l⟩:=hl i x v e1 e2 e3;refine⟨u,r,?_⟩;rcases l with l|⟨k,c,e,z⟩
  ·exact .inl l
  ·exact .inr ⟨k,c,e,cellK x c e _ z⟩
 ·obtain⟨v,z⟩:=I.cell x c e;exact⟨v,cellK x c e v z⟩
 ·obtain⟨m,⟨o,_,_,ho,_⟩,_⟩:=I.loc;exact free _ o (fun z=>(hch _ z).2.1 rfl) ho I.free
 ·obtain⟨v,o,ho,hd⟩:=I.cell x c e;exact free c o (fun z=>(hch c z).2.2.1 x c e rfl) ho (I.freeC x c e)
 ·obtain⟨e,n,ne,nf,d⟩:=I.pin p hp;have nch:p.1∉ch:=fun z=>(hch p.1 z).2.2.2 p hp rfl
  exact⟨keep p.1 p.2 ne nf nch e n,free p.1 p.2 nch e n,ne,nf,d⟩
theorem Inv.un{t':Nat}(I:Inv X pins σ H s)(u:Un X.fs [] H H' s.heap h')(hok:HOk X.prog X.w H' h'):Inv X pins σ H' {s with heap:=h',toks:=t'}:=by
 obtain⟨m,⟨o,es,ep,ho,r⟩,_⟩:=id I.loc;obtain⟨sl,hL⟩:=u.any ho I.free (by simp);exact I.step (g':=s.gens) (d':=s.drawn) (ch:=[]) (fun _ z=>nomatch z) (fun b o _ hb _ e n=>u.keep b o e n hb (by simp)) (fun b o _ hb _ e n=>u.slot b o e n hb (by simp)) (fun b o _ e n=>u.free b o e n (by simp)) (fun b o _ e=>u.there b o e (by simp)) u.tups u.frzs u.tbls (fun m' hm=>by
  obtain⟨o',es',ep',ho',r'⟩:=hm;rw[ho]at ho';cases ho';exact⟨_,es',ep',hL,r'⟩) hok I.bare
theorem Inv.call{g':Array GenState}{t':Nat}{d':Drawn}{ch:List Addr}(I:Inv X pins σ H s)(u:Un (frs X.stack) ch H H' s.heap h')(hok:HOk X.prog X.w H' h')(hg:AllBare g')
  (hch:∀b∈ch,(b∈X.ex\/X.s₀.heap.objs.size<=b)/\b≠X.env.locals/\(∀x c,X.env.cells.lookup x=some c->c≠b)/\∀p∈X.pn++pins,p.1≠b):
  Inv X pins σ H' {s with heap:=h',gens:=g',drawn:=d',toks:=t'}:=by
 obtain⟨m,⟨o,es,ep,ho,r⟩,_⟩:=id I.loc;obtain⟨sl,hL⟩:=u.any ho I.free fun z=>(hch _ z).2.1 rfl
 exact I.step (ch:=ch) hch (fun b o hL hb hc e n=>u.keep b o e n (fun z=>(List.mem_cons.mp (I.stkSub b z)).elim hL hb) hc) (fun b o _ _ hc e n=>u.any e n hc) (fun b o hc e n=>u.free b o e n hc) (fun b o hc e=>u.there b o e hc) u.tups u.frzs u.tbls (fun m' hm=>by
  obtain⟨o',es',ep',ho',r'⟩:=hm;rw[ho]at ho';cases ho';exact⟨_,es',ep',hL,r'⟩) hok hg
theorem Inv.turned{t':Nat}{it:Addr}(I:Inv X pins σ H s)(k:∀b o,b≠it->s.heap.get? b=some o->h'.get? b=some o)(hn:H it=none)(hL:it≠X.env.locals)
  (h1:it∈X.ex\/X.s₀.heap.objs.size<=it) (h2:∀x c,X.env.cells.lookup x=some c->c≠it) (h3:∀p∈X.pn++pins,p.1≠it):Inv X pins σ H {s with heap:=h',toks:=t'}:=by
 have nit:∀b u,H b=some u->b≠it:=fun b u e z=>by rw[z,hn]at e;cases e
 refine I.step (g':=s.gens) (d':=s.drawn) (ch:=[it]) (fun b hb=> ?_) (fun b o _ _ hc e _=>k b o (fun z=>hc (by simp[z])) e) (fun b o _ _ hc e _=>⟨o.slots,k b o (fun z=>hc (by simp[z])) e⟩) (fun _ _ _ _ n=>n)
  (fun b o hc e=>⟨o,k b o (fun z=>hc (by simp[z])) e⟩) (fun _ _ e=>e) (fun _ _ _ e=>e) (fun b ps e=>⟨#[],by rw[e];simp⟩) (fun m hm=> ?_) (fun b u e=> ?_) I.bare
 ·have e:b=it:=by simpa using hb
  subst e;exact⟨h1,hL,h2,h3⟩
 ·obtain⟨o,es,ep,ho,r⟩:=hm;exact⟨o,es,ep,k _ o (Ne.symm hL) ho,r⟩
 ·refine(I.hok b u e).stay (fun c v hc q=>k c v ?_ q) (fun _ q=>q) fun _ _ q=>q
  rcases hc with z|z
  ·rw[z];exact nit b u e
  ·exact nit c _ z
theorem Inv.tok(I:Inv X pins σ H s)(t:Nat):Inv X pins σ H {s with toks:=t}:=I.un (h':=s.heap) (t':=t) Un.refl I.hok
theorem Inv.kept{t':Nat}(I:Inv X pins σ H s)(k:∀b u,s.heap.get? b=some u->h'.get? b=some u):Inv X pins σ H {s with heap:=h',toks:=t'}:=I.un (Un.kept k) (I.hok.kept k)
theorem Inv.laid{a:Addr}{o:HO}{t':Nat}(I:Inv X pins σ H s)(k:∀b u,s.heap.get? b=some u->h'.get? b=some u)(hp:s.heap.objs.size<=a)(new:J6 X.prog X.w (upd H a o) h' a o):
  Inv X pins σ (upd H a o) {s with heap:=h',toks:=t'}:=I.un (Un.laid k hp (I.hok.fresh hp)) (I.hok.laid k hp new)
theorem Inv.write{x e:Addr}{o:HO}{t':Nat}(I:Inv X pins σ H s)(mu:Mut (H x))(he:e=x\/H e=some (.own x))(k:∀b u,b≠e->s.heap.get? b=some u->h'.get? b=some u)(heo:∃u,h'.get? e=some u)
  (new:J6 X.prog X.w (upd H x o) h' x o):Inv X pins σ (upd H x o) {s with heap:=h',toks:=t'}:=I.un (Un.write mu he k heo) (I.hok.write mu he k heo new)
theorem Inv.weak{σ':List (Option V)}(I:Inv X pins σ H s)(hl:σ'.length=σ.length)(w:∀(i:Nat) v,σ'[i]?=some (some v)->σ[i]?=some (some v)):Inv X pins σ' H s:=
 ⟨I.ok,I.os,I.bare,I.base,let⟨m,hn,hl'⟩:=I.loc;⟨m,hn,fun i x v e1 e2 e3=>hl' i x v e1 (w i v e2) e3⟩,I.cell,I.free,I.freeC,I.pin,I.hok,hl.trans I.len⟩
theorem Inv.pins_of{pins':List (Addr×Obj)}(I:Inv X pins σ H s)(h:∀p∈pins',s.heap.get? p.1=some p.2/\H p.1=none/\p.1≠X.env.locals/\p.1∉X.fs/\∀v,p.2.data≠.cell v):Inv X pins' σ H s:=
 ⟨I.ok,I.os,I.bare,I.base,I.loc,I.cell,I.free,I.freeC,fun p hp=>(List.mem_append.mp hp).elim (fun z=>I.pin p (cv5 _ z)) (h p),I.hok,I.len⟩
theorem aC7{N:List Str}(hN:N.Nodup){i j:Nat}{x:Str}(a:N[i]?=some x)(b:N[j]?=some x):i=j:=by
 obtain⟨h1,e1⟩:=List.getElem?_eq_some_iff.mp a;obtain⟨h2,e2⟩:=List.getElem?_eq_some_iff.mp b;exact(List.getElem_inj hN).mp (e1.trans e2.symm)
theorem au3{M:Model}{A:Around}{E:Value->Shared->Prop}{i:Nat}{x:Str}{v:V}{u:Value}{Q:Unit->Shared->Prop}(I:Inv X pins σ H s)(hN:X.N.Nodup)(hi:X.N[i]?=some x)(hx:Loc X.env.scope x)(r:r8 v u)
  (h:∀s',Inv X pins (σ.set i (some v)) H s'->(∃a,Heap.SameBut a s.heap s'.heap/\(a=X.env.locals\/X.env.cells.lookup x=some a))->Q () s') (hf:X.fn x=true\/X.env.scope.names.lookup x=some .local:=by first |exact .inl rfl|exact .inr rfl|assumption):wpAny M A (storeName X.env x u) Q E s:=by
 obtain⟨m,hn,hl⟩:=id I.loc;have hcls:(X.env.scope.kind==.class||(X.env.scope.kind==.module&&X.env.locals !=X.env.globals))=false:=by rw[I.ok.kind];rfl
 have hiσ:i<σ.length:=by rw[I.len];exact(List.getElem?_eq_some_iff.mp hi).1
 have cne:=I.cne;have tracked:∀{a:Addr}{h':Heap},(∃o,s.heap.get? a=some o/\H a=none)->Heap.SameBut a s.heap h'->HOk X.prog X.w H h':=fun{a h'} ha hs b ob e=>by
  obtain⟨_,_,hfree⟩:=ha;refine(I.hok b ob e).stay (fun c w' hc q=>(hs.2 c ?_).trans q) (fun _ q=>q) fun _ _ q=>q
  rintro rfl;rcases hc with rfl|hc
  ·rw[hfree]at e;cases e
  ·rw[hfree]at hc;cases hc
 rcases hx with hk|hk
 ·refine wpAny_storeName_local hk hn (fun h' hn' hs=> ?_) hcls;obtain⟨oL,_,_,hoL,_⟩:=id hn;refine h _ ⟨I.ok,I.os,I.bare,⟨fun b o e n hb hx=> ?_,fun b o e n hb hx=> ?_,I.base.free,fun b o e hx=> ?_,I.base.tups,I.base.frzs,I.base.tbls⟩,⟨_,hn',fun j y v' e1 e2 e3=> ?_⟩,fun y c e=> ?_,I.free,I.freeC,fun p hp=> ?_,tracked ⟨oL,hoL,I.free⟩ hs,by simpa using I.len⟩ ⟨_,hs,.inl rfl⟩
  ·exact(hs.2 b (cx2 (cx0 (cs5 e) I.ok.above))).trans (I.base.keep b o e n hb hx)
  ·obtain⟨sl,e1⟩:=I.base.slot b o e n hb hx;exact⟨sl,(hs.2 b (cx2 (cx0 (cs5 e) I.ok.above))).trans e1⟩
  ·obtain⟨o',e1⟩:=I.base.there b o e hx;exact⟨o',(hs.2 b (cx2 (cx0 (cs5 e) I.ok.above))).trans e1⟩
  ·by_cases hj:j=i
   ·subst hj;rw[hi]at e1;cases e1;rw[cu3 hiσ]at e2;cases e2;exact⟨u,r,.inl ⟨hk,by simp⟩⟩
   ·rw[cu2 (Ne.symm hj)]at e2;obtain⟨u',r',q⟩:=hl j y v' e1 e2 e3;refine⟨u',r',?_⟩;rcases q with⟨k,e⟩|⟨k,c,e,z⟩
    ·refine .inl ⟨k,?_⟩;have :y≠x:=fun e=>hj (aC7 hN e1 (e▸hi))
     simp[this,e]
    ·exact .inr ⟨k,c,e,z.sameBut hs (cne y c e)⟩
  ·obtain⟨w',z⟩:=I.cell y c e;exact⟨w',z.sameBut hs (cne y c e)⟩
  ·obtain⟨e,n,ne,nf,d⟩:=I.pin p hp;exact⟨(hs.2 p.1 ne).trans e,n,ne,nf,d⟩
 ·have hfn:X.fn x=true:=by
   rcases hf with z|z
   ·exact z
   ·rw[z]at hk;cases hk
  obtain⟨c,hc⟩:=I.ok.has x (.inl hk);obtain⟨w',z⟩:=I.cell x c hc;refine wpAny_storeName_cell I.ok.kind hk hc z (fun h' hc' hs=> ?_);obtain⟨oc,hoc,hocd⟩:=id z;refine h {s with heap:=h'} ⟨I.ok,I.os,I.bare,⟨fun b o e n hb hx=> ?_,fun b o e n hb hx=> ?_,I.base.free,fun b o e hx=> ?_,I.base.tups,I.base.frzs,I.base.tbls⟩,⟨m,hn.sameBut hs (Ne.symm (cne x c hc)),fun j y v' e1 e2 e3=> ?_⟩,fun y c' e=> ?_,I.free,I.freeC,fun p hp=> ?_,tracked ⟨oc,hoc,I.freeC x c hc⟩ hs,by simpa using I.len⟩ ⟨c,hs,.inr hc⟩
  ·exact(hs.2 b (cx2 (cx0 (cs5 e) (I.ok.cab x c hfn hc)))).trans (I.base.keep b o e n hb hx)
  ·obtain⟨sl,e1⟩:=I.base.slot b o e n hb hx;exact⟨sl,(hs.2 b (cx2 (cx0 (cs5 e) (I.ok.cab x c hfn hc)))).trans e1⟩
  ·obtain⟨o',e1⟩:=I.base.there b o e hx;exact⟨o',(hs.2 b (cx2 (cx0 (cs5 e) (I.ok.cab x c hfn hc)))).trans e1⟩
  ·by_cases hj:j=i
   ·subst hj;rw[hi]at e1;cases e1;rw[cu3 hiσ]at e2;cases e2;exact⟨u,r,.inr ⟨.inl hk,c,hc,hc'⟩⟩
   ·rw[cu2 (Ne.symm hj)]at e2;obtain⟨u',r',q⟩:=hl j y v' e1 e2 e3;refine⟨u',r',?_⟩;rcases q with q|⟨k,c',e,z'⟩
    ·exact .inl q
    ·refine .inr ⟨k,c',e,z'.sameBut hs ?_⟩;rintro rfl;exact hj (aC7 hN e1 (I.ok.inj _ _ _ e hc▸hi))
  ·by_cases hcc:c'=c
   ·subst hcc;exact⟨_,hc'⟩
   ·obtain⟨w2,z2⟩:=I.cell y c' e;exact⟨w2,z2.sameBut hs hcc⟩
  ·obtain⟨e,n,ne,nf,d⟩:=I.pin p hp;refine⟨(hs.2 p.1 ?_).trans e,n,ne,nf,d⟩;intro q;rw[q,hoc]at e;have q':oc=p.2:=Option.some.inj e;exact d w' (by rw[<-q'];exact hocd)
theorem aq2{M:Model}{A:Around}{E:Value->Shared->Prop}{i:Nat}{x:Str}{v:V}{u:Value}{Q:Unit->Shared->Prop}(I:Inv X pins σ H s)(hN:X.N.Nodup)(hi:X.N[i]?=some x)(hx:Loc X.env.scope x)(r:r8 v u)
  (h:∀s',Inv X pins (σ.set i (some v)) H s'->Q () s') (hf:X.fn x=true\/X.env.scope.names.lookup x=some .local:=by first |exact .inl rfl|exact .inr rfl|assumption):wpAny M A (storeName X.env x u) Q E s:=
 au3 I hN hi hx r (fun s' I' _=>h s' I') hf
theorem Inv.call'{s':Shared}{ch:List Addr}(I:Inv X pins σ H s)(ho:s'.os=s.os)(u:Un (frs X.stack) ch H H' s.heap s'.heap)(hok:HOk X.prog X.w H' s'.heap)(hg:AllBare s'.gens)
  (hch:∀b∈ch,(b∈X.ex\/X.s₀.heap.objs.size<=b)/\b≠X.env.locals/\(∀x c,X.env.cells.lookup x=some c->c≠b)/\∀p∈X.pn++pins,p.1≠b):Inv X pins σ H' s':=by
 obtain⟨h',g',d',t',o'⟩:=s';have e:o'=s.os:=ho;subst e;exact I.call (g':=g') (t':=t') (d':=d') u hok hg hch
end
noncomputable abbrev XK:=Value->Option Addr->Hp->Prop
noncomputable abbrev St:=List (Option V)
noncomputable abbrev VK:=V->Hp->Prop
noncomputable abbrev TE:=St->Hp->VK->Prop
noncomputable abbrev TT:=St->Hp->(Bool->Hp->Prop)->Prop
noncomputable abbrev TA:=St->Hp->(List V->Hp->Prop)->Prop
structure aa6 where
 nx:St->Hp->Prop
 rt:VK
 bk:St->Hp->Prop:=fun _ _=>False
 ct:St->Hp->Prop:=fun _ _=>False
noncomputable abbrev TS:=aa6->St->Hp->Prop
noncomputable def EP(X:Cx)(pins:List (Addr×Obj))(σ:St)(Q:VK)(u:Value)(s':Shared):Prop:=∃v H',Inv X pins σ H' s'/\r8 v u/\Q v H'
noncomputable def TP(X:Cx)(pins:List (Addr×Obj))(σ:St)(Q:Bool->Hp->Prop)(b:Bool)(s':Shared):Prop:=∃H',Inv X pins σ H' s'/\Q b H'
noncomputable def AP(X:Cx)(pins:List (Addr×Obj))(σ:St)(Q:List V->Hp->Prop)(us:List Value)(s':Shared):Prop:=∃vs H',Inv X pins σ H' s'/\o9 vs us/\Q vs H'
noncomputable def SP(X:Cx)(pins:List (Addr×Obj))(D:aa6)(f:Flow)(s':Shared):Prop:=
 match f with
 |.next=>∃σ' H',Inv X pins σ' H' s'/\D.nx σ' H'
 |.brk=>∃σ' H',Inv X pins σ' H' s'/\D.bk σ' H'
 |.cont=>∃σ' H',Inv X pins σ' H' s'/\D.ct σ' H'
 |.ret u=>∃v σ' H',Inv X pins σ' H' s'/\r8 v u/\D.rt v H'
noncomputable def PE(X:Cx)(e:Expr)(t:TE):Prop:=
 ∀(pins:List (Addr×Obj)) (s:Shared) (σ:St) (H:Hp) (Q:VK),Inv X pins σ H s->t σ H Q->wpAny (model X.prog X.w) X.A (eval e X.env) (EP X pins σ Q) X.xe s
noncomputable def PT(X:Cx)(e:Expr)(t:TT):Prop:=
 ∀(pins:List (Addr×Obj)) (s:Shared) (σ:St) (H:Hp) (Q:Bool->Hp->Prop),Inv X pins σ H s->t σ H Q->wpAny (model X.prog X.w) X.A (isTrue e X.env (eval e X.env)) (TP X pins σ Q) X.xe s
noncomputable def PW(X:Cx)(e:Expr)(t:TT):Prop:=
 ∀(O7:Sem Value) (pins:List (Addr×Obj)) (s:Shared) (σ:St) (H:Hp) (Q:Bool->Hp->Prop),Inv X pins σ H s->t σ H Q->wpAny (model X.prog X.w) X.A (isTrue e X.env O7) (TP X pins σ Q) X.xe s
theorem PW.pt{X:Cx}{e:Expr}{t:TT}(h:PW X e t):PT X e t:=h _
noncomputable def PA(X:Cx)(es:List Expr)(t:TA):Prop:=
 ∀(pos:Pos) (pins:List (Addr×Obj)) (s:Shared) (σ:St) (H:Hp) (Q:List V->Hp->Prop),Inv X pins σ H s->t σ H Q->wpAny (model X.prog X.w) X.A (spliced (backTo pos (starEach es X.env))) (AP X pins σ Q) X.xe s
noncomputable def PS(X:Cx)(st:Stmt)(t:TS):Prop:=
 ∀(pins:List (Addr×Obj)) (s:Shared) (σ:St) (H:Hp) (D:aa6),Inv X pins σ H s->t D σ H->wpAny (model X.prog X.w) X.A (exec st X.env) (SP X pins D) X.xe s
noncomputable def PSs(X:Cx)(st:List Stmt)(t:TS):Prop:=
 ∀(pins:List (Addr×Obj)) (s:Shared) (σ:St) (H:Hp) (D:aa6),Inv X pins σ H s->t D σ H->wpAny (model X.prog X.w) X.A (execs st X.env) (SP X pins D) X.xe s
theorem thn{α:Type}{t:Sem α}{Q Q':α->Shared->Prop}{M:Model}{A:Around}{E:Value->Shared->Prop}{s:Shared}(h:wpAny M A t Q E s)(hQ:∀a s,Q a s->Q' a s):wpAny M A t Q' E s:=cy2 h hQ fun _ _ x=>x
section
variable {X:Cx}
noncomputable def cm9(i:Nat):TE:=fun σ H Q=>∃v,σ[i]?=some (some v)/\Q v H
noncomputable def tC(v:V):TE:=fun _ H Q=>Q v H
theorem ac2{i:Nat}{x:Str}{pos:Pos}(hN:X.N[i]?=some x)(hv:Vis X.env.scope x)(hd:(x==("__debug__":Str))=false:=by decide)(hcd:(x==("__classdict__":Str))=false:=by decide):PE X (.Name x pos) (cm9 i):=by
 intro pins s σ H Q I h;obtain⟨v,e,h⟩:=h;obtain⟨m,hn,hl⟩:=I.loc;obtain⟨u,r,l⟩:=hl i x v hN e hv;have fin:EP X pins σ Q u s:=⟨v,H,I,r,h⟩
 rcases l with⟨hk,hm⟩|⟨hk,c,hc,hcell⟩
 ·exact wpAny_Name (wpAny_loadName_local I.ok.kind hk hn hm fin) hd
 ·rcases hk with hk|hk
  ·exact wpAny_Name (wpAny_loadName_cell I.ok.kind hk hc hcell fin) hd
  ·exact wpAny_Name (wpAny_loadName_free I.ok.kind hk hc hcell fin hcd) hd
theorem aV1{i j pos}:PE X (.Constant (.int i) j pos) (tC (.int i)):=fun _ _ _ H _ I h=>wpAny_Constant_int ⟨.int i,H,I.tok _,⟨_,rfl⟩,h⟩
theorem bj6{b j pos}:PE X (.Constant (.bool b) j pos) (tC (.bl b)):=fun _ _ _ H _ I h=>Constant_bool ⟨.bl b,H,I,rfl,h⟩
theorem ca2{j pos}:PE X (.Constant .none j pos) (tC .non):=fun _ _ _ H _ I h=>Constant_none ⟨.non,H,I,rfl,h⟩
theorem bt8{x j pos}:PE X (.Constant (.str x) j pos) (tC (.str x)):=fun _ _ _ H _ I h=>Calls.Constant_str ⟨.str x,H,I.tok _,⟨_,rfl⟩,h⟩
noncomputable def Gl(X:Cx)(x:Str):Prop:=X.env.kindOf x=some .globalImplicit
theorem ah9{E:Value->Shared->Prop}{pins:List (Addr×Obj)}{s:Shared}{σ:St}{H:Hp}{x:Str}{u:Value}{pos:Pos}{Q:Value->Shared->Prop}(I:Inv X pins σ H s)(hg:Gl X x)(hm:X.mg x=some u)(h:Q u s)
  (hd:(x==("__debug__":Str))=false:=by decide):wpAny (model X.prog X.w) X.A (eval (.Name x pos) X.env) Q E s:=
 Calls.Name_function_global I.ok.kind hg (Calls.loadGlobal_global (by rw[I.ok.glob];exact I.mod.glob.keeps I.bk) hm h) hd
theorem ac4{E:Value->Shared->Prop}{pins:List (Addr×Obj)}{s:Shared}{σ:St}{H:Hp}{x:Str}{u:Value}{pos:Pos}{Q:Value->Shared->Prop}(I:Inv X pins σ H s)(hg:Gl X x)(hm:X.mg x=none)(hv:bootBuiltins x=some u)(h:Q u s)
  (hn:x≠"__name__":=by decide) (hd:(x==("__debug__":Str))=false:=by decide):wpAny (model X.prog X.w) X.A (eval (.Name x pos) X.env) Q E s:=by
 obtain⟨mb,h1,h2⟩:=I.mod.blt;exact Calls.Name_function_global I.ok.kind hg (Calls.loadGlobal_builtin (by rw[I.ok.glob];exact I.mod.glob.keeps I.bk) hm (by rw[I.ok.blt];exact h1.keeps I.bk) ((h2 x hn).trans hv) h) hd
theorem ao8{x:Str}{v:V}{u:Value}{pos:Pos}(hg:Gl X x)(hm:X.mg x=some u)(r:r8 v u)(hd:(x==("__debug__":Str))=false:=by decide):PE X (.Name x pos) (tC v):=
 fun _ _ _ H _ I h=>ah9 I hg hm ⟨v,H,I,r,h⟩ hd
theorem be4{x:Str}{v:V}{u:Value}{pos:Pos}(hg:Gl X x)(hm:X.mg x=none)(hv:bootBuiltins x=some u)(r:r8 v u)(hn:x≠"__name__":=by decide)(hd:(x==("__debug__":Str))=false:=by decide):PE X (.Name x pos) (tC v):=
 fun _ _ _ H _ I h=>ac4 I hg hm hv ⟨v,H,I,r,h⟩ hn hd
variable {a b:Expr}{ta tb:TE}{pos:Pos}
noncomputable def PC(X:Cx)(op:CmpOp)(a b:Expr)(t:TE):Prop:=
 ∀(pins:List (Addr×Obj)) (s:Shared) (σ:St) (H:Hp) (Q:VK),Inv X pins σ H s->t σ H Q->
  wpAny (model X.prog X.w) X.A (eval a X.env) (fun v s₁=>wpAny (model X.prog X.w) X.A (eval b X.env) (fun u s₂=>wpAny (model X.prog X.w) X.A (compareOp op v u) (EP X pins σ Q) X.xe s₂) X.xe s₁) X.xe s
noncomputable def tB(t:TE):TT:=fun σ H Q=>t σ H fun x H1=>∃c,x=.bl c/\Q c H1
theorem bZ0{op:CmpOp}{t:TE}(h:PC X op a b t)(h1:behindInMarks op b=false:=by first |exact nobehind _ (by decide) (by decide)|rfl):PT X (.Compare a [op] [b] pos) (tB t):=by
 intro pins s σ H Q I hw;refine wpAny_isTrue_Compare1 (thn (h pins s σ H _ I hw) fun v s1 h1=>thn h1 fun u s2 h2=>thn h2 fun c s3 ⟨x,H1,I1,r1,q1⟩=> ?_) h1;obtain⟨d,rfl,q⟩:=q1;cases r1;exact cy9 ⟨H1,I1,q⟩
theorem bY8{e:Expr}{t:TE}(h:PE X e t)(he:∀O7,isTrue e X.env O7=(do let v<-O7;standAt e.pos;holding [v] (truthy v)):=by intro _;rfl):PT X e (tB t):=by
 intro pins s σ H Q I hw;refine isTrue_plain (thn (h pins s σ H _ I hw) fun v s1 ⟨x,H1,I1,r1,q1⟩=> ?_) (he _);obtain⟨d,rfl,q⟩:=q1;cases r1;exact cy9 ⟨H1,I1,q⟩
variable {tA tB':TT}{rest:List Expr}
noncomputable def cn8(t u:TT):TT:=fun σ H Q=>t σ H fun c H1=>if c=true then u σ H1 Q else Q false H1
noncomputable def tOr(t u:TT):TT:=fun σ H Q=>t σ H fun c H1=>if c=true then Q true H1 else u σ H1 Q
noncomputable def cn3(t:TT):TT:=fun σ H Q=>t σ H fun c H1=>Q (!c) H1
theorem bP7(ha:PT X a tA):PW X (.BoolOp .And [a] pos) tA:=by
 intro wh pins s σ H Q I h;refine isTrue_and (thn (ha pins s σ H Q I h) fun c s1 e=> ?_);cases c with
 |true=>exact isTrue_and_nil e
 |false=>exact e
theorem bY6(ha:PT X a tA):PW X (.BoolOp .Or [a] pos) tA:=by
 intro wh pins s σ H Q I h;refine isTrue_or (thn (ha pins s σ H Q I h) fun c s1 e=> ?_);cases c with
 |false=>exact isTrue_or_nil e
 |true=>exact e
theorem bY7(ha:PT X a tA)(hb:PW X (.BoolOp .And (b::rest) pos) tB'):PW X (.BoolOp .And (a::b::rest) pos) (cn8 tA tB'):=by
 intro wh pins s σ H Q I h;refine isTrue_and (thn (ha pins s σ H _ I h) fun c s1 ⟨H1,I1,q1⟩=> ?_);cases c with
 |true=>exact hb wh pins s1 σ H1 Q I1 q1
 |false=>exact⟨H1,I1,q1⟩
theorem cj6(ha:PT X a tA)(hb:PW X (.BoolOp .Or (b::rest) pos) tB'):PW X (.BoolOp .Or (a::b::rest) pos) (tOr tA tB'):=by
 intro wh pins s σ H Q I h;refine isTrue_or (thn (ha pins s σ H _ I h) fun c s1 ⟨H1,I1,q1⟩=> ?_);cases c with
 |true=>exact⟨H1,I1,q1⟩
 |false=>exact hb wh pins s1 σ H1 Q I1 q1
theorem bY9(ha:PT X a tA):PT X (.UnaryOp .Not a pos) (cn3 tA):=by
 intro pins s σ H Q I h;exact isTrue_not (ha pins s σ H (fun c H1=>Q (!c) H1) I h)
noncomputable def cj1(ta tb:TE):TE:=fun σ H Q=>ta σ H fun x H1=>∃c,x=.bl c/\if c=true then tb σ H1 Q else Q (.bl false) H1
noncomputable def ci3(ta:TE):TE:=fun σ H Q=>ta σ H fun x H1=>∃c,x=.bl c/\Q (.bl (!c)) H1
theorem ca0{op}{t:TE}(h:PE X a t):PE X (.BoolOp op [a] pos) t:=fun pins s σ H Q I hw=>BoolOp_one (h pins s σ H Q I hw)
theorem ca4(ha:PE X a ta)(hb:PE X (.BoolOp .And (b::rest) pos) tb):PE X (.BoolOp .And (a::b::rest) pos) (cj1 ta tb):=by
 intro pins s σ H Q I h;refine BoolOp_and (thn (ha pins s σ H _ I h) fun v s1 ⟨x,H1,I1,r1,q1⟩=> ?_);obtain⟨c,rfl,q1⟩:=q1;cases r1;refine cy9 ?_;cases c with
 |true=>exact hb pins s1 σ H1 Q I1 q1
 |false=>exact⟨.bl false,H1,I1,rfl,q1⟩
theorem ca1(ha:PE X a ta):PE X (.UnaryOp .Not a pos) (ci3 ta):=by
 intro pins s σ H Q I h;refine UnaryOp_ (thn (ha pins s σ H _ I h) fun v s1 ⟨x,H1,I1,r1,q1⟩=> ?_);obtain⟨c,rfl,q1⟩:=q1;cases r1;exact not_of (cy9 ⟨.bl (!c),H1,I1,rfl,q1⟩)
noncomputable def tIf(t:TT)(ta tb:TE):TE:=fun σ H Q=>t σ H fun c H1=>if c=true then ta σ H1 Q else tb σ H1 Q
theorem bF4{c:Expr}(hc:PT X c tA)(ha:PE X a ta)(hb:PE X b tb):PE X (.IfExp c a b pos) (tIf tA ta tb):=by
 intro pins s σ H Q I h;refine wpAny_IfExp (thn (hc pins s σ H _ I h) fun d s1 ⟨H1,I1,q1⟩=> ?_);cases d with
 |true=>exact ha pins s1 σ H1 Q I1 q1
 |false=>exact hb pins s1 σ H1 Q I1 q1
end
noncomputable def SqL(K:W.Frag)(H:Hp)(a:Addr)(xs:List V):Prop:=
 Rd H a (.lst xs)\/
  ∃(o:Obj) (its:Array Value) (n:Nat),K.lookup a=some o/\o.cls=.type "list"/\o.dict=none/\o.data=.seq its n/\its.size<=sizeLine/\o9 xs its.toList
noncomputable def SqT(K:W.Frag)(H:Hp)(a:Addr)(xs:List V):Prop:=
 Rd H a (.tup xs)\/
  ∃(o:Obj) (its:Array Value) (n:Nat),K.lookup a=some o/\o.cls=.type "tuple"/\o.data=.seq its n/\its.size<=sizeLine/\o9 xs its.toList
noncomputable def cp8:Value->Option V
 |.none=>some .non
 |.bool b=>some (.bl b)
 |.int i _=>some (.int i)
 |.str x _=>some (.str x)
 |.bytes b _=>some (.byt b)
 |.float b _=>some (.flt b)
 |.ref a=>some (.ref a)
 |.type n=>some (.ty n)
 |_=>none
theorem r8.abs{x:V}{u:Value}(r:r8 x u):cp8 u=some x:=by
 cases x with
 |non=>cases r;rfl
 |bl _=>cases r;rfl
 |int _=>obtain⟨t,rfl⟩:=r;rfl
 |str _=>obtain⟨t,rfl⟩:=r;rfl
 |byt _=>obtain⟨t,rfl⟩:=r;rfl
 |flt _=>obtain⟨t,rfl⟩:=r;rfl
 |ref _=>cases r;rfl
 |ty _=>cases r;rfl
theorem r8.inj{x y:V}{u:Value}(r:r8 x u)(q:r8 y u):x=y:=Option.some.inj (r.abs.symm.trans q.abs)
theorem o9.inj:∀{xs ys:List V}{us:List Value},o9 xs us->o9 ys us->xs=ys
 |_,_,_,.nil,.nil=>rfl
 |_,_,_,.cons r t,.cons r' t'=>by rw[r.inj r',o9.inj t t']
section
variable {X:Cx}{pins:List (Addr×Obj)}{σ:St}{H:Hp}{s:Shared}{a:Addr}{xs ys:List V}
theorem SqL.of{K:W.Frag}(h:H a=some (.lst xs)):SqL K H a xs:=.inl (.inl h)
theorem SqT.of{K:W.Frag}(h:H a=some (.tup xs)):SqT K H a xs:=.inl (.inl h)
theorem Inv.list(I:Inv X pins σ H s)(h:SqL X.K H a xs):∃its:List Value,o9 xs its/\PlainL s.heap a its.toArray/\xs.length<=sizeLine:=by
 rcases h with h|⟨o,its,n,hk,hc,hd,hs,hz,r⟩
 ·obtain⟨z,its,n,r,e⟩:=h.ok I.hok;exact⟨its,r,⟨_,n,e,rfl,rfl,rfl⟩,z⟩
 ·refine⟨its.toList,r,⟨o,n,I.kIn a o hk,hc,hd,by simpa using hs⟩,?_⟩;have e:=r.length;simp only[Array.length_toList]at e;omega
theorem Inv.tuple(I:Inv X pins σ H s)(h:SqT X.K H a xs):∃its:List Value,o9 xs its/\IsTup s.heap a its.toArray/\xs.length<=sizeLine:=by
 rcases h with h|⟨o,its,n,hk,hc,hs,hz,r⟩
 ·obtain⟨z,its,r,p⟩:=h.ok I.hok;exact⟨its,r,p,z⟩
 ·refine⟨its.toList,r,⟨o,I.kIn a o hk,hc,n,by simpa using hs⟩,?_⟩;have e:=r.length;simp only[Array.length_toList]at e;omega
theorem Inv.list_inj(I:Inv X pins σ H s)(h:SqL X.K H a xs)(h':SqL X.K H a ys):xs=ys:=by
 obtain⟨its,r,⟨o,n,e,_,_,d⟩,_⟩:=I.list h;obtain⟨its',r',⟨o',n',e',_,_,d'⟩,_⟩:=I.list h';rw[e]at e';cases e';rw[d]at d';injection d' with d1 _
 have :its=its':=by simpa using congrArg Array.toList d1
 subst this;exact r.inj r'
theorem Inv.tuple_inj(I:Inv X pins σ H s)(h:SqT X.K H a xs)(h':SqT X.K H a ys):xs=ys:=by
 obtain⟨its,r,⟨o,e,_,n,d⟩,_⟩:=I.tuple h;obtain⟨its',r',⟨o',e',_,n',d'⟩,_⟩:=I.tuple h';rw[e]at e';cases e';rw[d]at d';injection d' with d1 _
 have :its=its':=by simpa using congrArg Array.toList d1
 subst this;exact r.inj r'
end
noncomputable abbrev Cx.wish(X:Cx)(E:Value->Shared->Prop):Cx:={X with xe:=E}
noncomputable abbrev Cx.nox(X:Cx):Cx:=X.wish fun _ _=>False
theorem Cx.Ok.wish{X:Cx}(ok:X.Ok)(E:Value->Shared->Prop):(X.wish E).Ok:=
 ⟨ok.mod,ok.kind,ok.glob,ok.blt,ok.above,ok.inj,ok.has,ok.cab,ok.hd,ok.frames,ok.stk,ok.exf,ok.bs,ok.bsz,ok.noex,ok.exfs,ok.funs,ok.frf⟩
theorem Cx.Ok.unwish{X:Cx}{E:Value->Shared->Prop}(ok:(X.wish E).Ok):X.Ok:=
 ⟨ok.mod,ok.kind,ok.glob,ok.blt,ok.above,ok.inj,ok.has,ok.cab,ok.hd,ok.frames,ok.stk,ok.exf,ok.bs,ok.bsz,ok.noex,ok.exfs,ok.funs,ok.frf⟩
section
variable {X:Cx}{pins:List (Addr×Obj)}{σ:St}{H:Hp}{s:Shared}{E:Value->Shared->Prop}
theorem Inv.wish(I:Inv X pins σ H s)(E:Value->Shared->Prop):Inv (X.wish E) pins σ H s:=⟨I.ok.wish E,I.os,I.bare,I.base,I.loc,I.cell,I.free,I.freeC,I.pin,I.hok,I.len⟩
theorem Inv.unwish(I:Inv (X.wish E) pins σ H s):Inv X pins σ H s:=⟨I.ok.unwish,I.os,I.bare,I.base,I.loc,I.cell,I.free,I.freeC,I.pin,I.hok,I.len⟩
theorem SP.unwish{D:aa6}{f:Flow}{s':Shared}(h:SP (X.wish E) pins D f s'):SP X pins D f s':=by
 cases f with
 |next=>obtain⟨σ',H',I,q⟩:=h;exact⟨σ',H',I.unwish,q⟩
 |brk=>obtain⟨σ',H',I,q⟩:=h;exact⟨σ',H',I.unwish,q⟩
 |cont=>obtain⟨σ',H',I,q⟩:=h;exact⟨σ',H',I.unwish,q⟩
 |ret u=>obtain⟨v,σ',H',I,r,q⟩:=h;exact⟨v,σ',H',I.unwish,r,q⟩
theorem PSs.nox{st:List Stmt}{t:TS}(h:PSs X.nox st t):PSs X st t:=fun pins s σ H D I hw=>
 cy2 (h pins s σ H D (I.wish _) hw) (fun _ _ q=>q.unwish) fun _ _ z=>False.elim z
end
section
variable {X:Cx}{st:Stmt}{rest:List Stmt}{t u:TS}{e:Expr}{te:TE}{pos:Pos}
noncomputable def ci4:TS:=fun D σ H=>D.nx σ H
noncomputable def bW5(t u:TS):TS:=fun D σ H=>t {D with nx:=u D} σ H
theorem aJ5:PSs X [] ci4:=fun _ _ σ H _ I h=>wpAny_execs_nil ⟨σ,H,I,h⟩
theorem W8(h1:PS X st t)(h2:PSs X rest u):PSs X (st::rest) (bW5 t u):=by
 intro pins s σ H D I h;refine wpAny_execs_cons (thn (h1 pins s σ H {D with nx:=u D} I h) fun f s1 q=> ?_);cases f with
 |next=>
  obtain⟨σ',H',I',q⟩:=q;exact h2 pins s1 σ' H' D I' q
 |ret v=>exact q
 |brk=>exact q
 |cont=>exact q
theorem ao6(h1:PS X st t):PSs X [st] t:=by
 intro pins s σ H D I h;refine wpAny_execs_cons (thn (h1 pins s σ H D I h) fun f s1 q=> ?_);cases f with
 |next=>exact wpAny_execs_nil q
 |ret v=>exact q
 |brk=>exact q
 |cont=>exact q
theorem Inv.quiet{pins:List (Addr×Obj)}{σ:St}{H:Hp}{s:Shared}(I:Inv X pins σ H s):interactive X.env=false:=by simp[interactive,I.ok.kind]
noncomputable def ci5(te:TE):TS:=fun D σ H=>te σ H fun _ H1=>D.nx σ H1
theorem be2(he:PE X e te)(hs:swapsWith e none pos.line X.env=pure false:=by rfl):PS X (.Expr e pos) (ci5 te):=by
 intro pins s σ H D I h;exact wpAny_Expr_any (thn (he pins s σ H _ I h) fun v s1 ⟨x,H1,I1,r1,q1⟩=>⟨σ,H1,I1,q1⟩) I.quiet hs
noncomputable def cn1(te:TE):TS:=fun D σ H=>te σ H D.rt
theorem aG1(he:PE X e te):PS X (.Return (some e) pos) (cn1 te):=by
 intro pins s σ H D I h;exact wpAny_Return_some (thn (he pins s σ H _ I h) fun v s1 ⟨x,H1,I1,r1,q1⟩=>⟨x,σ,H1,I1,r1,q1⟩)
noncomputable def cn6(c:TT)(t u:TS):TS:=fun D σ H=>c σ H fun b H1=>if b=true then t D σ H1 else u D σ H1
theorem bj3{c:Expr}{a b:List Stmt}{tc:TT}(hc:PT X c tc)(ha:PSs X a t)(hb:PSs X b u):PS X (.If c a b pos) (cn6 tc t u):=by
 intro pins s σ H D I h;refine wpAny_If (thn (hc pins s σ H _ I h) fun d s1 ⟨H1,I1,q1⟩=> ?_);cases d with
 |true=>exact ha pins s1 σ H1 D I1 q1
 |false=>exact hb pins s1 σ H1 D I1 q1
end
noncomputable abbrev TG:=V->St->Hp->(St->Hp->Prop)->Prop
noncomputable abbrev TGs:=List V->St->Hp->(St->Hp->Prop)->Prop
noncomputable def PG(X:Cx)(target:Expr)(t:TG):Prop:=
 ∀(pins:List (Addr×Obj)) (s:Shared) (σ:St) (H:Hp) (v:V) (u:Value) (Q:St->Hp->Prop),Inv X pins σ H s->r8 v u->t v σ H Q->
  wpAny (model X.prog X.w) X.A (assign target X.env u) (fun _ s'=>∃σ' H',Inv X pins σ' H' s'/\Q σ' H') X.xe s
noncomputable def PGs(X:Cx)(ts:List Expr)(t:TGs):Prop:=
 ∀(pins:List (Addr×Obj)) (s:Shared) (σ:St) (H:Hp) (vs:List V) (us:List Value) (Q:St->Hp->Prop),Inv X pins σ H s->o9 vs us->t vs σ H Q->
  wpAny (model X.prog X.w) X.A (assignInOrder ((assignEach ts X.env).map (·.2)) us) (fun _ s'=>∃σ' H',Inv X pins σ' H' s'/\Q σ' H') X.xe s
noncomputable abbrev aZ6:=V->V->V->Hp->(Hp->Prop)->Prop
noncomputable def bJ7(X:Cx)(t:aZ6):Prop:=
 ∀(pins:List (Addr×Obj)) (s:Shared) (σ:St) (H:Hp) (o i v:V) (ov iv u:Value) (Q:Hp->Prop),Inv X pins σ H s->r8 o ov->r8 i iv->r8 v u->t o i v H Q->
  wpAny (model X.prog X.w) X.A (setItem ov iv u) (fun _ s'=>∃H',Inv X pins σ H' s'/\Q H') X.xe s
noncomputable abbrev TIp:=V->V->Hp->VK->Prop
noncomputable def PIp(X:Cx)(op:Operator)(t:TIp):Prop:=
 ∀(pins:List (Addr×Obj)) (s:Shared) (σ:St) (H:Hp) (x y:V) (v u:Value) (Q:VK),Inv X pins σ H s->r8 x v->r8 y u->t x y H Q->
  wpAny (model X.prog X.w) X.A (inplaceOp op v u) (EP X pins σ Q) X.xe s
section
variable {X:Cx}{pos:Pos}
noncomputable def al7(i:Nat):TG:=fun v σ H Q=>Q (σ.set i (some v)) H
theorem y0{i:Nat}{x:Str}(hN:X.N.Nodup)(hi:X.N[i]?=some x)(hx:Loc X.env.scope x)(hf:X.fn x=true\/X.env.scope.names.lookup x=some .local:=by first |exact .inl rfl|exact .inr rfl|assumption):PG X (.Name x pos) (al7 i):=by
 intro pins s σ H v u Q I r h;exact wpAny_assign_Name (aq2 I hN hi hx r (fun s' I'=>⟨_,H,I',h⟩) hf)
noncomputable def cp4:TGs:=fun vs σ H Q=>vs=[]/\Q σ H
noncomputable def cl3(t:TG)(u:TGs):TGs:=fun vs σ H Q=>∃v r,vs=v::r/\t v σ H fun σ' H'=>u r σ' H' Q
theorem be3:PGs X [] cp4:=by
 intro pins s σ H vs us Q I r h;obtain⟨e,h⟩:=h;subst e;cases r;exact assignInOrder_nil ⟨σ,H,I,h⟩
theorem aj1{e:Expr}{es:List Expr}{t:TG}{u:TGs}(h1:PG X e t)(h2:PGs X es u)
  (hs:(assignEach (e::es) X.env).map (·.2)=assign e X.env::(assignEach es X.env).map (·.2):=by rfl):PGs X (e::es) (cl3 t u):=by
 intro pins s σ H vs us Q I r h;obtain⟨v,vr,e1,h⟩:=h;subst e1;cases r with
 |cons r rr=>
  rw[hs];refine assignInOrder_cons (thn (h1 pins s σ H _ _ _ I r h) fun _ s1 ⟨σ1,H1,I1,q1⟩=> ?_);exact h2 pins s1 σ1 H1 _ _ Q I1 rr q1
noncomputable def m7(K:W.Frag)(n:Nat)(t:TGs):TG:=fun v σ H Q=>∃a xs,v=.ref a/\SqT K H a xs/\xs.length=n/\t xs σ H Q
theorem bt7{es:List Expr}{k:Nat}{t:TGs}{n:Nat}(hc:X.calm=true)(h:PGs X es t)
  (hn:(assignEach es X.env).length=n:=by rfl) (hst:(assignEach es X.env).findIdx? (·.1)=none:=by rfl):PG X (.Tuple es k pos) (m7 X.K n t):=by
 intro pins s σ H v u Q I r hw;obtain⟨a,xs,e1,hq,hl,hw⟩:=hw;subst e1;cases r;obtain⟨its,rv,ht,hz⟩:=I.tuple hq;refine assign_Tuple_tuple (I.ok.hd hc) ht (by simp[hn,<-hl,rv.length]) hst fun h' hx=> ?_
 have I1:Inv X pins σ H {s with heap:=h'}:=I.kept (t':=s.toks) fun b o e=>hx b o (cx2 (cs5 e)) e
 exact h pins _ σ H xs _ Q I1 (by simpa using rv) hw
noncomputable def cp3(to ti:TE)(t:aZ6):TG:=fun v σ H Q=>to σ H fun o H1=>ti σ H1 fun i H2=>t o i v H2 fun H3=>Q σ H3
theorem bZ8{o i:Expr}{to ti:TE}{t:aZ6}(ho:PE X o to)(hi:PE X i ti)(hs:bJ7 X t)
  (ha:∀v,assign (.Subscript o i pos) X.env v=(do
   let ov<-holding [v] (eval o X.env)
   let iv<-holding [v,ov] (eval i X.env)
   standAt pos
   holding [v,ov,iv] (setItem ov iv v)
   release [v,ov,iv] []):=by intro _;rfl):PG X (.Subscript o i pos) (cp3 to ti t):=by
 intro pins s σ H v u Q I r h;rw[ha];refine cx9 (wpAny_holding (thn (ho pins s σ H _ I h) fun ov s1 ⟨x,H1,I1,r1,q1⟩=> ?_));refine cx9 (wpAny_holding (thn (hi pins s1 σ H1 _ I1 q1) fun iv s2 ⟨y,H2,I2,r2,q2⟩=> ?_));refine cx9 (wpAny_standAt (cx9 (wpAny_holding (thn (hs pins s2 σ H2 x y v ov iv u _ I2 r1 r2 r q2) fun _ s3 ⟨H3,I3,q3⟩=> ?_))));exact wpAny_release ⟨σ,H3,I3,q3⟩
noncomputable def bh5(te:TE)(g:TG):TS:=fun D σ H=>te σ H fun x H1=>g x σ H1 D.nx
theorem bZ2{tg e:Expr}{te:TE}{g:TG}(he:PE X e te)(hg:PG X tg g)(hs:swapsWithSole [tg] e pos.line X.env=pure false:=by rfl)(hw:swappedStores [tg] e X.env=pure none:=by rfl)
  (h1:(assignEach [tg] X.env).map (·.2)=[assign tg X.env]:=by rfl):PS X (.Assign [tg] e pos) (bh5 te g):=by
 intro pins s σ H D I h;refine wpAny_Assign_stores (thn (he pins s σ H _ I h) fun v s1 ⟨x,H1,I1,r1,q1⟩=> ?_) hs hw;rw[h1];exact thn (hg pins s1 σ H1 x v _ I1 r1 q1) fun _ s2 q=>q
theorem ac1{i:Nat}{x:Str}{e:Expr}{te:TE}{pos':Pos}(hN:X.N.Nodup)(hi:X.N[i]?=some x)(hx:Loc X.env.scope x)(he:PE X e te)(hs:swapsWith e (some (.Name x pos')) pos.line X.env=pure false:=by rfl)(hf:X.fn x=true\/X.env.scope.names.lookup x=some .local:=by first |exact .inl rfl|exact .inr rfl|assumption):
  PS X (.Assign [.Name x pos'] e pos) (bh5 te (al7 i)):=by
 intro pins s σ H D I h;refine wpAny_Assign_Name (thn (he pins s σ H _ I h) fun v s1 ⟨y,H1,I1,r1,q1⟩=> ?_) hs;exact aq2 I1 hN hi hx r1 (fun s2 I2=>⟨_,H1,I2,q1⟩) hf
noncomputable def cn2(i j:Nat)(ta:TA):TS:=fun D σ H=>ta σ H fun vs H1=>∃v w,vs=[v,w]/\D.nx ((σ.set i (some v)).set j (some w)) H1
theorem bZ1{i j:Nat}{x y:Str}{a b:Expr}{ta:TA}{px py pt:Pos}{kt k2 pt2}(hc:X.calm=true)(hN:X.N.Nodup)(hi:X.N[i]?=some x)(hj:X.N[j]?=some y)(hij:i≠j)
  (hx:X.env.scope.names.lookup x=some .local) (hy:X.env.scope.names.lookup y=some .local) (ha:PA X [a,b] ta)
  (hw:swappedStores [.Tuple [.Name x px,.Name y py] kt pt] (.Tuple [a,b] k2 pt2) X.env=pure (some [x,y]))
  (hs:swapsWithSole [.Tuple [.Name x px,.Name y py] kt pt] (.Tuple [a,b] k2 pt2) pos.line X.env=pure false:=by rfl):
  PS X (.Assign [.Tuple [.Name x px,.Name y py] kt pt] (.Tuple [a,b] k2 pt2) pos) (cn2 i j ta):=by
 intro pins s σ H D I h;rw[exec_Assign_arm];refine cx9 (wpAny_standAt ?_);rw[hs];refine cx9 (cy5 ?_);rw[cx7 (by decide)];refine cx9 (Tuple_ (thn (ha _ pins s σ H _ I h) fun us s1 ⟨vs,H1,I1,r1,q1⟩=> ?_));obtain⟨v,w,e1,q1⟩:=q1;subst e1;obtain⟨u1,u2,rfl,rv,rw'⟩:∃u1 u2,us=[u1,u2]/\r8 v u1/\r8 w u2:=by
  cases r1 with
  |cons p q=>
   cases q with
   |cons p' q'=>
    cases q';exact⟨_,_,rfl,p,p'⟩
 refine cy3 ?_ (by show 2<=sizeLine;decide);have I2:Inv X pins σ H1 {s1 with heap:=s1.heap.push {cls:=.type "tuple",data:=.seq [u1,u2].toArray}}:=I1.kept (t':=s1.toks) fun b o e=>cs1 _ e
 rw[hw];refine cx9 (cy5 ?_);show wpAny (model X.prog X.w) X.A (do rule "assign.swapped-stores";let items<-unpackItems (.ref s1.heap.objs.size) 2 none;assignInOrder [fun v=>bindName X.env y v,fun v=>bindName X.env x v] items.reverse;pure Flow.next) _ _ _;refine cx9 (wpAny_rule (cx9 (unpackItems_tuple (items:=#[u1,u2]) (I.ok.hd hc) (IsTup.new s1.heap _) fun h' hx'=> ?_)));have I3:=I2.kept (h':=h') (t':=s1.toks) fun b o e=>hx' b o (cx2 (cs5 e)) e
 show wpAny _ _ (assignInOrder [fun v=>bindName X.env y v,fun v=>bindName X.env x v] [u2,u1]>>=fun _=>pure Flow.next) _ _ _;refine cx9 (assignInOrder_cons (wpAny_bindName (aq2 I3 hN hj (.inl hy) rw' (fun s2 I4=> ?_) (.inr hy))));refine assignInOrder_cons (wpAny_bindName (aq2 I4 hN hi (.inl hx) rv (fun s3 I5=>assignInOrder_nil (cy5 ?_)) (.inr hx)));rw[List.set_comm _ _ (Ne.symm hij)]at I5;exact⟨_,H1,I5,q1⟩
noncomputable def cj0(to ti te:TE)(tget:V->V->Hp->VK->Prop)(tip:TIp)(tset:aZ6):TS:=fun D σ H=>to σ H fun o H1=>ti σ H1 fun i H2=>tget o i H2 fun x H3=>te σ H3 fun y H4=>tip x y H4 fun z H5=>tset o i z H5 fun H6=>D.nx σ H6
noncomputable def cf7(X:Cx)(t:V->V->Hp->VK->Prop):Prop:=
 ∀(pins:List (Addr×Obj)) (s:Shared) (σ:St) (H:Hp) (o i:V) (ov iv:Value) (Q:VK),Inv X pins σ H s->r8 o ov->r8 i iv->t o i H Q->
  wpAny (model X.prog X.w) X.A (getItem ov iv) (EP X pins σ Q) X.xe s
theorem bQ0{o i e:Expr}{to ti te:TE}{tget:V->V->Hp->VK->Prop}{tip:TIp}{tset:aZ6}{op:Operator}{tpos:Pos}(ho:PE X o to)(hi:PE X i ti)(hg:cf7 X tget)(he:PE X e te)(hp:PIp X op tip)(hs:bJ7 X tset)
  (ha:∀ov iv new,augStore i ov iv new=(do holding [new,ov,iv] (setItem ov iv new);release [new,ov,iv] [];pure .next):=by intros;rfl):PS X (.AugAssign (.Subscript o i tpos) op e pos) (cj0 to ti te tget tip tset):=by
 intro pins s σ H D I h;refine wpAny_AugAssign_SubscriptAny (thn (ho pins s σ H _ I h) fun ov s1 ⟨x1,H1,I1,r1,q1⟩=> ?_) ha;refine thn (hi pins s1 σ H1 _ I1 q1) fun iv s2 ⟨x2,H2,I2,r2,q2⟩=> ?_
 refine thn (hg pins s2 σ H2 x1 x2 ov iv _ I2 r1 r2 q2) fun old s3 ⟨x3,H3,I3,r3,q3⟩=> ?_
 refine thn (he pins s3 σ H3 _ I3 q3) fun v s4 ⟨x4,H4,I4,r4,q4⟩=> ?_
 refine thn (hp pins s4 σ H4 x3 x4 old v _ I4 r3 r4 q4) fun new s5 ⟨x5,H5,I5,r5,q5⟩=> ?_
 exact thn (hs pins s5 σ H5 x1 x2 x5 ov iv new _ I5 r1 r2 r5 q5) fun _ s6 ⟨H6,I6,q6⟩=>⟨σ,H6,I6,q6⟩
noncomputable def ipI(f:Int->Int->Int):TIp:=fun x y H Q=>∃i j,x=.int i/\y=.int j/\Q (.int (f i j)) H
theorem cd3:PIp X .Add (ipI fun i j=>i+j):=by
 intro pins s σ H x y v u Q I r1 r2 h;obtain⟨i,j,e1,e2,q⟩:=h;subst e1;subst e2;obtain⟨t,rfl⟩:=r1;obtain⟨t',rfl⟩:=r2;exact iadd_int ⟨.int _,H,I.tok _,⟨_,rfl⟩,q⟩
theorem cd2:PIp X .Sub (ipI fun i j=>i-j):=by
 intro pins s σ H x y v u Q I r1 r2 h;obtain⟨i,j,e1,e2,q⟩:=h;subst e1;subst e2;obtain⟨t,rfl⟩:=r1;obtain⟨t',rfl⟩:=r2;exact isub_int ⟨.int _,H,I.tok _,⟨_,rfl⟩,q⟩
end
section
variable {X:Cx}{pos:Pos}
noncomputable def bW4(c:TT)(tb:TS):TS:=fun D σ H=>∃W:Nat->St->Hp->Prop,(∃m,W m σ H)/\∀m σ H,W m σ H->
 c σ H fun b H1=>if b=true then∃N:St->Hp->Prop,(∀σ' H',N σ' H'->∃m',m'<m/\W m' σ' H')/\tb {D with nx:=N,ct:=N,bk:=D.nx} σ H1 else D.nx σ H1
theorem aU9{c:Expr}{body:List Stmt}{tc:TT}{tb:TS}(hp:PassesOwn (model X.prog X.w) X.A X.env X.xe)(hc:PT X c tc)(hb:PSs X body tb):PS X (.While c body [] pos) (bW4 tc tb):=by
 intro pins s σ H D I h;obtain⟨W,⟨m0,w0⟩,turn⟩:=h;refine wpAny_While (codeAny_whileLoop (fun n s'=>∃σ' H',Inv X pins σ' H' s'/\W n σ' H') ?_ m0 ⟨σ,H,I,w0⟩);rintro n s1 ⟨σ1,H1,I1,w1⟩;refine wpAny_passesOwn hp (thn (hc pins s1 σ1 H1 _ I1 (turn n σ1 H1 w1)) fun b s2 ⟨H2,I2,q2⟩=> ?_);cases b with
 |true=>
  obtain⟨N,hN,q2⟩:=q2;rw[cx8 rfl];refine wpAny_passesOwn hp (thn (hb pins s2 σ1 H2 _ I2 q2) fun f s3 q3=> ?_);cases f with
  |next=>
   obtain⟨σ3,H3,I3,n3⟩:=q3;obtain⟨m',hm,w3⟩:=hN σ3 H3 n3;exact⟨m',hm,σ3,H3,I3,w3⟩
  |cont=>
   obtain⟨σ3,H3,I3,n3⟩:=q3;obtain⟨m',hm,w3⟩:=hN σ3 H3 n3;exact⟨m',hm,σ3,H3,I3,w3⟩
  |brk=>exact q3
  |ret v=>exact q3
 |false=>
  rw[cx7 cs0];exact wpAny_execs_nil ⟨σ1,H2,I2,q2⟩
end
structure It where
 go:Nat->Hp->Prop
 yld:Nat->Hp->V->Hp->Prop
 stop:Nat->Hp->Prop
noncomputable def ag8(X:Cx)(pins:List (Addr×Obj))(H:Hp)(b:Addr):Prop:=
 H b=none/\b≠X.env.locals/\b∉X.fs/\(b∈X.ex\/X.s₀.heap.objs.size<=b)/\(∀x c,X.env.cells.lookup x=some c->c≠b)/\∀p∈X.pn++pins,p.1≠b
theorem Inv.fpOk{X:Cx}{pins:List (Addr×Obj)}{σ:St}{H H':Hp}{s:Shared}{b:Addr}(I:Inv X pins σ H s)(hb:s.heap.objs.size<=b)(hn:H' b=none):ag8 X pins H' b:=by
 refine⟨hn,cx1 (cx0 I.lt hb),I.nofs hb,.inr (cw9 I.sz hb),fun x c e z=> ?_,fun p hp z=> ?_⟩
 ·obtain⟨v,q⟩:=I.cell x c e;exact absurd (cx0 q.lt (by rw[z];exact hb)) (Nat.lt_irrefl _)
 ·exact absurd (cx0 (cs5 (I.pin p hp).1) (by rw[z];exact hb)) (Nat.lt_irrefl _)
structure aw3(P:Program)(w:World)(K:W.Frag)(tg:Expr)(J:It)(fp:List Addr)(it:Addr)(tn:Nat->Heap->Prop):Prop where
 mem:it∈fp
 obj:∀i h,tn i h->∀b∈fp,∃o,h.get? b=some o/\∀v,o.data≠.cell v
 keep:∀i h h',tn i h->(∀b∈fp,∀o,h.get? b=some o->h'.get? b=some o)->tn i h'
 item:∀(X:Cx),X.prog=P->X.w=w->X.K=K->X.calm=true->∀(i:Nat) (pins:List (Addr×Obj)) (s:Shared) (σ:St) (H:Hp) (E:Value->Shared->Prop),Inv X pins σ H s->(∀b∈fp,ag8 X pins H b)->tn i s.heap->J.go i H->
  wpAny (model P w) X.A (pyNext (.ref it)) (fun r s1=>∃u,r=some u/\
   wpAny (model P w) X.A (letOwnedTupleGo tg (.ref it) u) (fun _ s2=>∃x H',Inv X pins σ H' s2/\r8 x u/\J.yld i H x H'/\tn (i+1) s2.heap/\∀b∈fp,H' b=none) E s1) E s
 done:∀(X:Cx),X.prog=P->X.w=w->X.K=K->X.calm=true->∀(i:Nat) (pins:List (Addr×Obj)) (s:Shared) (σ:St) (H:Hp) (E:Value->Shared->Prop),Inv X pins σ H s->(∀b∈fp,ag8 X pins H b)->tn i s.heap->J.stop i H->
  wpAny (model P w) X.A (pyNext (.ref it)) (fun r s1=>r=none/\Inv X pins σ H s1) E s
 self:∀(A:Around) (i:Nat) (s:Shared) (Q:Value->Shared->Prop) (E:Value->Shared->Prop),tn i s.heap->Q (.ref it) s->wpAny (model P w) A (pyIter (.ref it)) Q E s
noncomputable abbrev TI:=St->Hp->(It->Hp->Prop)->Prop
noncomputable def PIE(X:Cx)(pins:List (Addr×Obj))(σ:St)(tg:Expr)(R:It->Hp->Prop)(itv:Value)(s2:Shared):Prop:=
 ∃(it:Addr) (fp:List Addr) (tn:Nat->Heap->Prop) (J:It) (H':Hp),itv=.ref it/\Inv X pins σ H' s2/\aw3 X.prog X.w X.K tg J fp it tn/\tn 0 s2.heap/\(∀b∈fp,ag8 X pins H' b)/\R J H'
noncomputable def PI(X:Cx)(tg iter:Expr)(wi:TI):Prop:=
 ∀(pins:List (Addr×Obj)) (s:Shared) (σ:St) (H:Hp) (R:It->Hp->Prop),Inv X pins σ H s->wi σ H R->
  wpAny (model X.prog X.w) X.A (eval iter X.env) (fun v s1=>wpAny (model X.prog X.w) X.A (pyIter v) (PIE X pins σ tg R) X.xe s1) X.xe s
theorem aQ4{M:Model}{A:Around}{E:Value->Shared->Prop}{s:Shared}{tg:Expr}{it:Addr}{u:Value}{o:Obj}{n:String}{vs:Array Value}{Q:Unit->Shared->Prop}(ho:s.heap.get? it=some o)(hc:o.cls=.type n)(hd:o.data=.fields vs)
  (hn:["enumerate","zip","dict_itemiterator","dict_reverseitemiterator","odict_iterator","itertools.zip_longest","itertools.pairwise"].contains n=false) (hQ:Q () s):wpAny M A (letOwnedTupleGo tg (.ref it) u) Q E s:=by
 unfold letOwnedTupleGo;cases tg<;>first
  |exact cy5 hQ
  |(cases u<;>first
    |exact cy5 hQ
    |(refine cx9 (wpAny_load ho ?_);rw[hc,hd];show wpAny M A (if(["enumerate","zip","dict_itemiterator","dict_reverseitemiterator","odict_iterator","itertools.zip_longest","itertools.pairwise"].contains n&&vs[0]?==some (rawInt _))=true then _ else _) Q E s;rw[cx7 (by intro h;rw[hn,Bool.false_and]at h;cases h)];exact cy5 hQ))
noncomputable def Itl(K:W.Frag)(a:Addr):It:=
 ⟨fun i H=>∃xs x,SqL K H a xs/\xs[i]?=some x,fun i H x H'=>H'=H/\∀xs,SqL K H a xs->xs[i]?=some x,fun i H=>∃xs,SqL K H a xs/\xs.length<=i⟩
noncomputable def Itt(K:W.Frag)(a:Addr):It:=
 ⟨fun i H=>∃xs x,SqT K H a xs/\xs[i]?=some x,fun i H x H'=>H'=H/\∀xs,SqT K H a xs->xs[i]?=some x,fun i H=>∃xs,SqT K H a xs/\xs.length<=i⟩
noncomputable def Itr(lo:Int)(n:Nat):It:=⟨fun i _=>i<n,fun i H x H'=>H'=H/\x=.int (lo+i),fun i _=>n<=i⟩
theorem af0{P:Program}{w:World}{K:W.Frag}{tg:Expr}(a it:Addr):aw3 P w K tg (Itl K a) [it] it (fun i h=>h.IsListIter it a i) where
 mem:=by simp
 obj:=fun i h st b hb=>by
  have e:b=it:=by simpa using hb
  subst e;obtain⟨o,e,c,d⟩:=st;exact⟨o,e,fun v z=>by rw[d]at z;cases z⟩
 keep:=fun i h h' st k=>st.at fun o e=>k it (by simp) o e
 item:=by
  intro X hP hw hK hc i pins s σ H E I hf st hg;subst hP hw hK;obtain⟨xs,x,hq,hx⟩:=hg;obtain⟨its,rv,p,hz⟩:=I.list hq;obtain⟨u,hu,ru⟩:=rv.get hx;obtain⟨f0,f1,f2,f3,f4,f5⟩:=hf it (by simp);refine wpAny_pyNext_list_item st p.isList (x:=u) (by simpa using hu) fun h' st' sb=> ?_
  have I1:Inv X pins σ H {s with heap:=h'}:=I.turned (t':=s.toks) (fun b o hb e=>(sb.2 b hb).trans e) f0 f1 f3 f4 f5;obtain⟨o,e,c,d⟩:=id st';exact⟨u,rfl,aQ4 (s:={s with heap:=h'}) e c d (by decide) ⟨x,H,I1,ru,⟨rfl,fun ys hy=>by rw[I.list_inj hy hq];exact hx⟩,st',fun b hb=>(hf b hb).1⟩⟩
 done:=by
  intro X hP hw hK hc i pins s σ H E I hf st hg;subst hP hw hK;obtain⟨xs,hq,hx⟩:=hg;obtain⟨its,rv,p,hz⟩:=I.list hq;obtain⟨f0,f1,f2,f3,f4,f5⟩:=hf it (by simp);have hl:=rv.length;exact wpAny_pyNext_list_end (I.ok.hd hc) st p.isList (by simp;omega) fun h' eb=>⟨rfl,I.turned (t':=s.toks) (fun b o hb e=>eb b o hb e) f0 f1 f3 f4 f5⟩
 self:=fun _ _ _ _ _ st h=>wpAny_pyIter_listiter st h
theorem bh1{P:Program}{w:World}{K:W.Frag}{tg:Expr}(a it:Addr):aw3 P w K tg (Itt K a) [it] it (fun i h=>h.IsTupleIter it a i) where
 mem:=by simp
 obj:=fun i h st b hb=>by
  have e:b=it:=by simpa using hb
  subst e;obtain⟨o,e,c,d⟩:=st;exact⟨o,e,fun v z=>by rw[d]at z;cases z⟩
 keep:=fun i h h' st k=>st.at fun o e=>k it (by simp) o e
 item:=by
  intro X hP hw hK hc i pins s σ H E I hf st hg;subst hP hw hK;obtain⟨xs,x,hq,hx⟩:=hg;obtain⟨its,rv,p,hz⟩:=I.tuple hq;obtain⟨u,hu,ru⟩:=rv.get hx;obtain⟨f0,f1,f2,f3,f4,f5⟩:=hf it (by simp);refine wpAny_pyNext_tuple_item st (show s.heap.IsTuple a its.toArray from p) (x:=u) (by simpa using hu) fun h' st' sb=> ?_
  have I1:Inv X pins σ H {s with heap:=h'}:=I.turned (t':=s.toks) (fun b o hb e=>(sb.2 b hb).trans e) f0 f1 f3 f4 f5;obtain⟨o,e,c,d⟩:=id st';exact⟨u,rfl,aQ4 (s:={s with heap:=h'}) e c d (by decide) ⟨x,H,I1,ru,⟨rfl,fun ys hy=>by rw[I.tuple_inj hy hq];exact hx⟩,st',fun b hb=>(hf b hb).1⟩⟩
 done:=by
  intro X hP hw hK hc i pins s σ H E I hf st hg;subst hP hw hK;obtain⟨xs,hq,hx⟩:=hg;obtain⟨its,rv,p,hz⟩:=I.tuple hq;obtain⟨f0,f1,f2,f3,f4,f5⟩:=hf it (by simp);have hl:=rv.length;exact wpAny_pyNext_tuple_end (I.ok.hd hc) st (show s.heap.IsTuple a its.toArray from p) (by simp;omega) fun h' eb=>⟨rfl,I.turned (t':=s.toks) (fun b o hb e=>eb b o hb e) f0 f1 f3 f4 f5⟩
 self:=fun _ _ _ _ _ st h=>wpAny_pyIter_tupleiter st h
theorem bh2{P:Program}{w:World}{K:PySem.W.Frag}{tg:Expr}(it:Addr)(lo:Int)(n:Nat):aw3 P w K tg (Itr lo n) [it] it (fun i h=>IsRangeIter h it (lo+(i:Nat)*1) ((n:Int)-(i:Nat)) 1) where
 mem:=by simp
 obj:=fun i h st b hb=>by
  have e:b=it:=by simpa using hb
  subst e;exact⟨_,st,fun v z=>by
   have z':Data.fields _=Data.cell v:=z;cases z'⟩
 keep:=fun i h h' st k=>k it (by simp) _ st
 item:=by
  intro X hP hw hK hc i pins s σ H E I hf st hg;subst hP hw hK;obtain⟨f0,f1,f2,f3,f4,f5⟩:=hf it (by simp);have W:=Walks.range (prog:=X.prog) (w:=X.w) (I.ok.hd hc) it lo 1 n;refine W.item i s _ _ hg st fun v h' tk hv st' kk=> ?_
  obtain⟨t,rfl⟩:=hv;have I1:Inv X pins σ H {s with heap:=h',toks:=tk}:=I.turned (fun b o hb e=>kk b o (by simpa using hb) e) f0 f1 f3 f4 f5;refine⟨_,rfl,aQ4 (s:={s with heap:=h',toks:=tk}) (n:="range_iterator") st' rfl rfl (by decide) ⟨.int (lo+i),H,I1,⟨t,?_⟩,⟨rfl,rfl⟩,st',fun b hb=>(hf b hb).1⟩⟩;rw[Int.mul_one]
 done:=by
  intro X hP hw hK hc i pins s σ H E I hf st hg;subst hP hw hK;obtain⟨f0,f1,f2,f3,f4,f5⟩:=hf it (by simp);exact wpAny_pyNext_range_end (I.ok.hd hc) st (by have :n<=i:=hg;omega) fun h' eb=>⟨rfl,I.turned (t':=s.toks) (fun b o hb e=>eb b o hb e) f0 f1 f3 f4 f5⟩
 self:=fun _ _ _ _ _ st h=>wpAny_pyIter_rangeiter st h
section
variable {X:Cx}{tg:Expr}
noncomputable def bM1(K:W.Frag)(tl:TE):TI:=fun σ H R=>tl σ H fun x H1=>∃a,x=.ref a/\(∃xs,SqL K H1 a xs)/\R (Itl K a) H1
noncomputable def cp2(K:W.Frag)(tl:TE):TI:=fun σ H R=>tl σ H fun x H1=>∃a,x=.ref a/\(∃xs,SqT K H1 a xs)/\R (Itt K a) H1
theorem bQ4{l:Expr}{tl:TE}(hl:PE X l tl):PI X tg l (bM1 X.K tl):=by
 intro pins s σ H R I h;refine thn (hl pins s σ H _ I h) fun v s1 ⟨x,H1,I1,r1,q1⟩=> ?_
 obtain⟨a,e,⟨xs,hq⟩,q⟩:=q1;subst e;cases r1;obtain⟨its,rv,p,hz⟩:=I1.list hq;refine cy6 p.isList ?_;refine⟨s1.heap.objs.size,[s1.heap.objs.size],_,_,H1,rfl,I1.kept (t':=s1.toks) fun b o e=>cs1 _ e,af0 a _,⟨_,cs2 _ rfl,rfl,rfl⟩,fun b hb=> ?_,q⟩;have e:b=s1.heap.objs.size:=by simpa using hb
 subst e;exact I1.fpOk (cw8 _) (I1.hok.fresh (cw8 _))
theorem bZ7{l:Expr}{tl:TE}(hl:PE X l tl):PI X tg l (cp2 X.K tl):=by
 intro pins s σ H R I h;refine thn (hl pins s σ H _ I h) fun v s1 ⟨x,H1,I1,r1,q1⟩=> ?_
 obtain⟨a,e,⟨xs,hq⟩,q⟩:=q1;subst e;cases r1;obtain⟨its,rv,p,hz⟩:=I1.tuple hq;refine wpAny_pyIter_tuple (show s1.heap.IsTuple a its.toArray from p) ?_;refine⟨s1.heap.objs.size,[s1.heap.objs.size],_,_,H1,rfl,I1.kept (t':=s1.toks) fun b o e=>cs1 _ e,bh1 a _,⟨_,cs2 _ rfl,rfl,rfl⟩,fun b hb=> ?_,q⟩;have e:b=s1.heap.objs.size:=by simpa using hb
 subst e;exact I1.fpOk (cw8 _) (I1.hok.fresh (cw8 _))
theorem aT7{pins:List (Addr×Obj)}{σ:St}{H:Hp}{s:Shared}{R:It->Hp->Prop}{E:Value->Shared->Prop}{lo hi:Int}{t u v:Tok}{tk:Nat}(I:Inv X pins σ H s)(h1: -(2^62)<=lo)(h2:lo<2^62)(h3: -(2^62)<=hi)(h4:hi<2^62)
  (q:R (Itr lo (hi-lo).toNat) H):wpAny (model X.prog X.w) X.A (pyIter (.ref s.heap.objs.size)) (PIE X pins σ tg R) E {s with heap:=s.heap.push {cls:=.type "range",data:=.fields #[.int lo t,.int hi u,.int 1 v]},toks:=tk}:=by
 refine wpAny_pyIter_range (IsRange.new ..) (small_one h1 h2 h3 h4) ?_;have I1:Inv X pins σ H {s with heap:=s.heap.push {cls:=.type "range",data:=.fields #[.int lo t,.int hi u,.int 1 v]},toks:=tk}:=I.kept fun b o e=>cs1 _ e
 refine⟨(s.heap.push {cls:=.type "range",data:=.fields #[.int lo t,.int hi u,.int 1 v]}).objs.size,[(s.heap.push {cls:=.type "range",data:=.fields #[.int lo t,.int hi u,.int 1 v]}).objs.size],_,_,H,rfl,
  I1.kept (t':=tk) fun b o e=>cs1 _ e,bh2 _ lo (hi-lo).toNat,?_,fun b hb=> ?_,q⟩
 ·have e1:lo+((0:Nat):Int)*1=lo:=by simp
  have e2:(((hi-lo).toNat:Nat):Int)-((0:Nat):Int)=Builtin.Range.rangeSize lo hi 1:=by rw[rangeSize_one];split<;>omega
  show IsRangeIter _ _ (lo+((0:Nat):Int)*1) ((((hi-lo).toNat:Nat):Int)-((0:Nat):Int)) 1;rw[e1,e2];exact cs2 _ rfl
 ·have e:b=(s.heap.push {cls:=.type "range",data:=.fields #[.int lo t,.int hi u,.int 1 v]}).objs.size:=by simpa using hb
  subst e;exact I1.fpOk (cw8 _) (I1.hok.fresh (cw8 _))
noncomputable def ck7(ta:TA):TI:=fun σ H R=>ta σ H fun vs H1=>∃j:Int,vs=[.int j]/\ -(2^62)<=j/\j<2^62/\R (Itr 0 j.toNat) H1
noncomputable def ck6(ta:TA):TI:=fun σ H R=>ta σ H fun vs H1=>∃i j:Int,vs=[.int i,.int j]/\(-(2^62)<=i/\i<2^62/\ -(2^62)<=j/\j<2^62)/\R (Itr i (j-i).toNat) H1
theorem bt6{a:Expr}{ta:TA}{p pos:Pos}(hg:Gl X "range")(hm:X.mg "range"=none)(ha:PA X [a] ta)(hs:starEach [a] X.env=[(false,eval a X.env)]:=by rfl):PI X tg (.Call (.Name "range" p) [a] [] pos) (ck7 ta):=by
 intro pins s σ H R I h;refine Call_ (ac4 I hg hm boot_range (PyProof.Rows.callWith_type1 (thn (ha pos pins s σ H _ I h) fun us s1 ⟨vs,H1,I1,r1,q1⟩=> ?_) hs rfl));obtain⟨j,e,q1,q2,q⟩:=q1;subst e;cases r1 with
 |cons r rr=>
  cases rr;obtain⟨t,rfl⟩:=r;exact call_range_1 (aT7 I1 (by omega) (by omega) q1 q2 (by simpa using q))
theorem bt5{a b:Expr}{ta:TA}{p pos:Pos}(hg:Gl X "range")(hm:X.mg "range"=none)(ha:PA X [a,b] ta)(hs:starEach [a,b] X.env=[(false,eval a X.env),(false,eval b X.env)]:=by rfl)(hs2:starEach [b] X.env=[(false,eval b X.env)]:=by rfl):
  PI X tg (.Call (.Name "range" p) [a,b] [] pos) (ck6 ta):=by
 intro pins s σ H R I h;refine Call_ (ac4 I hg hm boot_range (PyProof.Rows.callWith_type1 (thn (ha pos pins s σ H _ I h) fun us s1 ⟨vs,H1,I1,r1,q1⟩=> ?_) (by rw[hs,hs2]) (by rw[hs2];rfl)));obtain⟨i,j,e,⟨q1,q2,q3,q4⟩,q⟩:=q1;subst e;cases r1 with
 |cons r rr=>
  cases rr with
  |cons r' rr=>
   cases rr;obtain⟨t,rfl⟩:=r;obtain⟨t',rfl⟩:=r';exact call_range_2 (aT7 I1 q1 q2 q3 q4 q)
noncomputable def cn7(wi:TI)(g:TG)(tb:TS):TS:=fun D σ H=>wi σ H fun J H1=>∃W:Nat->Nat->St->Hp->Prop,(∃m,W 0 m σ H1)/\∀i m σ H,W i m σ H->
 (J.stop i H/\D.nx σ H)\/(J.go i H/\∃N:St->Hp->Prop,(∀σ' H',N σ' H'->∃m',m'<m/\W (i+1) m' σ' H')/\∀x H',J.yld i H x H'->g x σ H' fun σ2 H2=>tb {D with nx:=N,ct:=N,bk:=D.nx} σ2 H2)
noncomputable def av1(fp:List Addr)(h:Heap):List (Addr×Obj):=fp.filterMap fun b=>(h.get? b).map fun o=>(b,o)
theorem ah2{fp:List Addr}{h:Heap}{b:Addr}{o:Obj}(hb:b∈fp)(e:h.get? b=some o):(b,o)∈av1 fp h:=List.mem_filterMap.mpr ⟨b,hb,by rw[e];rfl⟩
theorem bv2{fp:List Addr}{h:Heap}{p:Addr×Obj}(hp:p∈av1 fp h):p.1∈fp/\h.get? p.1=some p.2:=by
 obtain⟨b,hb,e⟩:=List.mem_filterMap.mp hp;cases q:h.get? b with
 |none=>rw[q]at e;cases e
 |some o=>
  rw[q]at e;have e':(b,o)=p:=Option.some.inj e;subst e';exact⟨hb,q⟩
theorem Inv.pinned{pins:List (Addr×Obj)}{σ:St}{H:Hp}{s:Shared}{fp:List Addr}(I:Inv X pins σ H s)(hf:∀b∈fp,ag8 X pins H b)(ho:∀b∈fp,∃o,s.heap.get? b=some o/\∀v,o.data≠.cell v):Inv X (pins++av1 fp s.heap) σ H s:=
 I.pins_of fun p hp=>(List.mem_append.mp hp).elim (fun z=>I.pin p (cv6 _ z)) fun z=>by
  obtain⟨hb,e⟩:=bv2 z;obtain⟨f0,f1,f2,_⟩:=hf p.1 hb;obtain⟨o,e',d⟩:=ho p.1 hb;rw[e]at e';cases e';exact⟨e,f0,f1,f2,d⟩
theorem Inv.unpinned{pins pl:List (Addr×Obj)}{σ:St}{H:Hp}{s:Shared}(I:Inv X (pins++pl) σ H s):Inv X pins σ H s:=I.pins_of fun p hp=>I.pin p (cv6 _ (cv5 _ hp))
theorem bt3{iter:Expr}{body:List Stmt}{wi:TI}{g:TG}{tb:TS}{pos:Pos}(hp:PassesOwn (model X.prog X.w) X.A X.env X.xe)(hc:X.calm=true)(hi:PI X tg iter wi)(hg:PG X tg g)(hb:PSs X body tb)
  (hs:∀x,foldedSetIterable iter X.env x=pure x:=by intro _;rfl):PS X (.For tg iter body [] pos) (cn7 wi g tb):=by
 intro pins s σ H D I h;refine wpAny_For (thn (hi pins s σ H _ I h) fun v s1 h1=>thn h1 fun itv s2 h2=> ?_) hs;obtain⟨it,fp,tn,J,H2,e,I2,T,st2,f2,W,⟨m0,w0⟩,turn⟩:=h2;subst e
 --what stays true of the iterator's objects through the loop
 have stat:∀{H':Hp},(∀b∈fp,H' b=none)->∀b∈fp,ag8 X pins H' b:=fun hn b hb=>⟨hn b hb,(f2 b hb).2⟩
 refine codeAny_forLoop_any (fun n s'=>∃i σ' H',Inv X pins σ' H' s'/\tn i s'.heap/\(∀b∈fp,H' b=none)/\W i n σ' H') ?_ m0 ⟨0,σ,H2,I2,st2,fun b hb=>(f2 b hb).1,w0⟩;rintro n s3 ⟨i,σ3,H3,I3,st3,fr3,w3⟩;rcases turn i n σ3 H3 w3 with⟨stop,qn⟩|⟨go,N,hN,step⟩
 ·refine wpAny_passesOwn hp (thn (T.done X rfl rfl rfl hc i pins s3 σ3 H3 X.xe I3 (stat fr3) st3 stop) fun r s4 ⟨hr,I4⟩=> ?_);subst hr;exact wpAny_execs_nil ⟨σ3,H3,I4,qn⟩
 ·refine wpAny_passesOwn hp (thn (T.item X rfl rfl rfl hc i pins s3 σ3 H3 X.xe I3 (stat fr3) st3 go) fun r s4 ⟨u,hr,h4⟩=> ?_);subst hr;refine wpAny_passesOwn hp (thn h4 fun _ s5 ⟨x,H5,I5,r5,y5,st5,fr5⟩=> ?_);have I5':=I5.pinned (stat fr5) (T.obj _ _ st5);refine wpAny_passesOwn hp (thn (hg _ s5 σ3 H5 x u _ I5' r5 (step x H5 y5)) fun _ s6 ⟨σ6,H6,I6,q6⟩=> ?_);refine wpAny_passesOwn hp (thn (hb _ s6 σ6 H6 _ I6 q6) fun f s7 q7=> ?_);have again:∀{σ7:St}{H7:Hp},Inv X (pins++av1 fp s5.heap) σ7 H7 s7->N σ7 H7->∃m,m<n/\∃i σ' H',Inv X pins σ' H' s7/\tn i s7.heap/\(∀b∈fp,H' b=none)/\W i m σ' H':=fun{σ7 H7} I7 n7=>by
   obtain⟨m',hm,w7⟩:=hN σ7 H7 n7;refine⟨m',hm,i+1,σ7,H7,I7.unpinned,T.keep _ _ _ st5 fun b hb o e=>(I7.pin (b,o) (cv6 _ (cv6 _ (ah2 hb e)))).1,fun b hb=> ?_,w7⟩;obtain⟨o,e,d⟩:=T.obj _ _ st5 b hb;exact(I7.pin (b,o) (cv6 _ (cv6 _ (ah2 hb e)))).2.1
  cases f with
  |next=>obtain⟨σ7,H7,I7,n7⟩:=q7;exact again I7 n7
  |cont=>obtain⟨σ7,H7,I7,n7⟩:=q7;exact again I7 n7
  |brk=>obtain⟨σ7,H7,I7,q7⟩:=q7;exact⟨σ7,H7,I7.unpinned,q7⟩
  |ret v=>obtain⟨x7,σ7,H7,I7,r7,q7⟩:=q7;exact⟨x7,σ7,H7,I7.unpinned,r7,q7⟩
end
noncomputable abbrev R2:=V->V->Hp->VK->Prop
noncomputable def OpR(X:Cx)(f:Value->Value->Sem Value)(r:R2):Prop:=
 ∀(pins:List (Addr×Obj)) (s:Shared) (σ:St) (H:Hp) (x y:V) (v u:Value) (Q:VK),Inv X pins σ H s->r8 x v->r8 y u->r x y H Q->
  wpAny (model X.prog X.w) X.A (f v u) (EP X pins σ Q) X.xe s
noncomputable def UnR(X:Cx)(f:Value->Sem Value)(r:V->Hp->VK->Prop):Prop:=
 ∀(pins:List (Addr×Obj)) (s:Shared) (σ:St) (H:Hp) (x:V) (v:Value) (Q:VK),Inv X pins σ H s->r8 x v->r x H Q->
  wpAny (model X.prog X.w) X.A (f v) (EP X pins σ Q) X.xe s
noncomputable def O3(X:Cx)(f:Value)(r:List V->Hp->VK->Prop):Prop:=
 ∀(pins:List (Addr×Obj)) (s:Shared) (σ:St) (H:Hp) (xs:List V) (us:List Value) (Q:VK),Inv X pins σ H s->o9 xs us->r xs H Q->
  wpAny (model X.prog X.w) X.A (call f us) (EP X pins σ Q) X.xe s
noncomputable def cp9(X:Cx)(r:V->Hp->(Bool->Hp->Prop)->Prop):Prop:=
 ∀(pins:List (Addr×Obj)) (s:Shared) (σ:St) (H:Hp) (x:V) (v:Value) (Q:Bool->Hp->Prop),Inv X pins σ H s->r8 x v->r x H Q->
  wpAny (model X.prog X.w) X.A (truthy v) (TP X pins σ Q) X.xe s
noncomputable def tOp(r:R2)(ta tb:TE):TE:=fun σ H Q=>ta σ H fun x H1=>tb σ H1 fun y H2=>r x y H2 Q
noncomputable def tUn(r:V->Hp->VK->Prop)(ta:TE):TE:=fun σ H Q=>ta σ H fun x H1=>r x H1 Q
noncomputable def rI(C:Int->Int->Prop)(g:Int->Int->V):R2:=fun x y H Q=>∃i j,x=.int i/\y=.int j/\C i j/\Q (g i j) H
noncomputable def rI0(g:Int->Int->V):R2:=fun x y H Q=>∃i j,x=.int i/\y=.int j/\Q (g i j) H
noncomputable def rU(g:Int->V):V->Hp->VK->Prop:=fun x H Q=>∃i,x=.int i/\Q (g i) H
section
variable {X:Cx}{a b c:Expr}{ta tb tc:TE}{pos:Pos}
theorem bJ0(ha:PE X a ta)(hb:PE X b tb){pins:List (Addr×Obj)}{s:Shared}{σ:St}{H:Hp}{R:V->V->Hp->Prop}(I:Inv X pins σ H s)
  (h:ta σ H fun x H1=>tb σ H1 fun y H2=>R x y H2){Q:Value->Shared->Prop}{f:Value->Value->Sem Value}
  (hf:∀v u s2 x y H2,Inv X pins σ H2 s2->r8 x v->r8 y u->R x y H2->wpAny (model X.prog X.w) X.A (f v u) Q X.xe s2):
  wpAny (model X.prog X.w) X.A (eval a X.env) (fun v s₁=>wpAny (model X.prog X.w) X.A (eval b X.env) (fun u s₂=>wpAny (model X.prog X.w) X.A (f v u) Q X.xe s₂) X.xe s₁) X.xe s:=by
 refine thn (ha pins s σ H _ I h) fun v s1 ⟨x,H1,I1,r1,q1⟩=> ?_
 refine thn (hb pins s1 σ H1 _ I1 q1) fun u s2 ⟨y,H2,I2,r2,q2⟩=> ?_
 exact hf v u s2 x y H2 I2 r1 r2 q2
theorem cj9{op:Operator}{r:R2}(ho:OpR X (binaryOp op) r)(ha:PE X a ta)(hb:PE X b tb):PE X (.BinOp a op b pos) (tOp r ta tb):=by
 intro pins s σ H Q I h;exact wpAny_BinOp (bJ0 ha hb I h fun v u s2 x y H2 I2 rx ry q=>ho pins s2 σ H2 x y v u Q I2 rx ry q)
theorem cj8{op:UnaryOp}{r:V->Hp->VK->Prop}(ho:UnR X (unaryOp op) r)(ha:PE X a ta):PE X (.UnaryOp op a pos) (tUn r ta):=by
 intro pins s σ H Q I h;exact UnaryOp_ (thn (ha pins s σ H _ I h) fun v s1 ⟨x,H1,I1,r1,q1⟩=>ho pins s1 σ H1 x v Q I1 r1 q1)
theorem opI{f:Value->Value->Sem Value}{C:Int->Int->Prop}{g:Int->Int->Int}
  (rule:∀(i j:Int) (t u:Tok) (s:Shared) (Q:Value->Shared->Prop) (E:Value->Shared->Prop),C i j->Q (.int (g i j) s.toks) {s with toks:=s.toks+1}->wpAny (model X.prog X.w) X.A (f (.int i t) (.int j u)) Q E s):
  OpR X f (rI C fun i j=>.int (g i j)):=by
 intro pins s σ H x y v u Q I rx ry h;obtain⟨i,j,rfl,rfl,hc,q⟩:=h;obtain⟨t,rfl⟩:=rx;obtain⟨t',rfl⟩:=ry;exact rule i j t t' s _ _ hc ⟨.int (g i j),H,I.tok _,⟨_,rfl⟩,q⟩
theorem cb5{f:Value->Value->Sem Value}{g:Int->Int->Int}
  (rule:∀(i j:Int) (t u:Tok) (s:Shared) (Q:Value->Shared->Prop) (E:Value->Shared->Prop),Q (.int (g i j) s.toks) {s with toks:=s.toks+1}->wpAny (model X.prog X.w) X.A (f (.int i t) (.int j u)) Q E s):
  OpR X f (rI0 fun i j=>.int (g i j)):=by
 intro pins s σ H x y v u Q I rx ry h;obtain⟨i,j,rfl,rfl,q⟩:=h;obtain⟨t,rfl⟩:=rx;obtain⟨t',rfl⟩:=ry;exact rule i j t t' s _ _ ⟨.int (g i j),H,I.tok _,⟨_,rfl⟩,q⟩
theorem bF9{f:Value->Value->Sem Value}{g:Int->Int->Bool}
  (rule:∀(i j:Int) (t u:Tok) (s:Shared) (Q:Value->Shared->Prop) (E:Value->Shared->Prop),Q (.bool (g i j)) s->wpAny (model X.prog X.w) X.A (f (.int i t) (.int j u)) Q E s):
  OpR X f (rI0 fun i j=>.bl (g i j)):=by
 intro pins s σ H x y v u Q I rx ry h;obtain⟨i,j,rfl,rfl,q⟩:=h;obtain⟨t,rfl⟩:=rx;obtain⟨t',rfl⟩:=ry;exact rule i j t t' s _ _ ⟨.bl (g i j),H,I,rfl,q⟩
noncomputable def ch8(i j:Int):Prop:=0<=j/\j<=1000000/\i.natAbs<2^64
noncomputable def bo7(i j:Int):Prop:=(-(2^64)<i/\i<2^64)\/(-(2^64)<j/\j<2^64)
theorem bo7.ok{i j:Int}(h:bo7 i j):IntMulOk i j:=by
 rcases h with⟨h1,h2⟩|⟨h1,h2⟩
 ·exact .of_left (intBits_le_64 h1 h2)
 ·exact .of_right (intBits_le_64 h1 h2)
theorem cb4:OpR X (binaryOp .Add) (rI0 fun i j=>.int (i+j)):=cb5 fun _ _ _ _ _ _ _ q=>add_int q
theorem ca6:OpR X (binaryOp .Sub) (rI0 fun i j=>.int (i-j)):=cb5 fun _ _ _ _ _ _ _ q=>sub_int q
theorem ca9:OpR X (binaryOp .Mult) (rI bo7 fun i j=>.int (i*j)):=opI fun _ _ _ _ _ _ _ hc q=>mul_int q hc.ok
theorem cb0:OpR X (binaryOp .Mod) (rI (fun _ j=>0<j) fun i j=>.int (i%j)):=opI fun i j _ _ _ _ _ hc q=>by
 have h1:(0:Int)<j:=hc;exact mod_int' (by omega) (by rw[Int.fmod_eq_emod_of_nonneg i (by omega)];exact q)
theorem ca8:OpR X (binaryOp .Pow) (rI ch8 fun i j=>.int (i^j.toNat)):=opI fun _ _ _ _ _ _ _ hc q=>pow_int_small hc.1 hc.2.1 hc.2.2 q
theorem unI{f:Value->Sem Value}{g:Int->Int}
  (rule:∀(i:Int) (t:Tok) (s:Shared) (Q:Value->Shared->Prop) (E:Value->Shared->Prop),Q (.int (g i) s.toks) {s with toks:=s.toks+1}->wpAny (model X.prog X.w) X.A (f (.int i t)) Q E s):
  UnR X f (rU fun i=>.int (g i)):=by
 intro pins s σ H x v Q I rx h;obtain⟨i,rfl,q⟩:=h;obtain⟨t,rfl⟩:=rx;exact rule i t s _ _ ⟨.int (g i),H,I.tok _,⟨_,rfl⟩,q⟩
theorem bV7:UnR X (unaryOp .USub) (rU fun i=>.int (-i)):=unI fun _ _ _ _ _ q=>neg_int q
end
noncomputable def cn9:V->V->Bool
 |.non,.non=>true|.non,.int _=>true|.int _,.non=>true|.non,.bl _=>true|.bl _,.non=>true|.non,.str _=>true|.str _,.non=>true
 |.int _,.int _=>true|.bl _,.bl _=>true|.str _,.str _=>true|.byt _,.byt _=>true
 |.int _,.str _=>true|.str _,.int _=>true|.bl _,.str _=>true|.str _,.bl _=>true
 |_,_=>false
noncomputable def rNe:R2:=fun x y H Q=>cn9 x y=true/\Q (.bl (!decide (x=y))) H
theorem bg2{i j:Int}:decide (V.int i=V.int j)=(i==j):=by
 rw[Bool.eq_iff_iff];simp
theorem ce9{i j:Bool}:decide (V.bl i=V.bl j)=(i==j):=by
 rw[Bool.eq_iff_iff];simp
theorem bU2{i j:Str}:decide (V.str i=V.str j)=(i==j):=by
 rw[Bool.eq_iff_iff];simp
theorem bU3{i j:Array UInt8}:decide (V.byt i=V.byt j)=(i.toList==j.toList):=by
 rw[Bool.eq_iff_iff];cases i;cases j;simp
section
variable {X:Cx}{a b c:Expr}{ta tb tc:TE}{pos:Pos}
theorem K7{pins:List (Addr×Obj)}{σ:St}{H:Hp}{s:Shared}{Q:VK}{k k':Bool}(I:Inv X pins σ H s)(q:Q (.bl k) H)(e:k=k'):EP X pins σ Q (.bool k') s:=by
 subst e;exact⟨.bl k,H,I,rfl,q⟩
theorem ck1:OpR X (compareOp .NotEq) rNe:=by
 intro pins s σ H x y v u Q I rx ry h;obtain⟨hs,q⟩:=h;cases x with
 |non=>
  cases rx;cases y with
  |non=>cases ry;exact PySem.EqNone.ne_none_none (K7 I q (by simp))
  |bl j=>cases ry;exact PySem.EqNone.ne_none_bool (K7 I q (by simp))
  |int j=>obtain⟨t',rfl⟩:=ry;exact PySem.EqNone.ne_none_int (K7 I q (by simp))
  |str j=>obtain⟨t',rfl⟩:=ry;exact PySem.EqNone.ne_none_str (K7 I q (by simp))
  |_=>exact absurd (show false=true from hs) cs0
 |bl i=>
  cases rx;cases y with
  |non=>cases ry;exact PySem.EqNone.ne_bool_none (K7 I q (by simp))
  |bl j=>cases ry;exact ne_bool (K7 I q (congrArg not ce9))
  |str j=>obtain⟨t',rfl⟩:=ry;exact PySem.EqMixed.ne_bool_str (K7 I q (by simp))
  |_=>exact absurd (show false=true from hs) cs0
 |int i=>
  obtain⟨t,rfl⟩:=rx;cases y with
  |non=>cases ry;exact PySem.EqNone.ne_int_none (K7 I q (by simp))
  |int j=>obtain⟨t',rfl⟩:=ry;exact ne_int (K7 I q (congrArg not bg2))
  |str j=>obtain⟨t',rfl⟩:=ry;exact PySem.EqMixed.ne_int_str (K7 I q (by simp))
  |_=>exact absurd (show false=true from hs) cs0
 |str i=>
  obtain⟨t,rfl⟩:=rx;cases y with
  |non=>cases ry;exact PySem.EqNone.ne_str_none (K7 I q (by simp))
  |bl j=>cases ry;exact PySem.EqMixed.ne_str_bool (K7 I q (by simp))
  |int j=>obtain⟨t',rfl⟩:=ry;exact PySem.EqMixed.ne_str_int (K7 I q (by simp))
  |str j=>obtain⟨t',rfl⟩:=ry;exact ne_str (K7 I q (congrArg not bU2))
  |_=>exact absurd (show false=true from hs) cs0
 |byt i=>
  obtain⟨t,rfl⟩:=rx;cases y with
  |byt j=>obtain⟨t',rfl⟩:=ry;exact W.ne_bytes (K7 I q (congrArg not bU3))
  |_=>exact absurd (show false=true from hs) cs0
 |_=>cases y<;>exact absurd (show false=true from hs) cs0
theorem bL5:OpR X (compareOp .Lt) (rI0 fun i j=>.bl (decide (i<j))):=bF9 fun _ _ _ _ _ _ _ q=>lt_int q
theorem bj9:OpR X (compareOp .LtE) (rI0 fun i j=>.bl (decide (i<=j))):=bF9 fun _ _ _ _ _ _ _ q=>le_int q
theorem bL6:OpR X (compareOp .Gt) (rI0 fun i j=>.bl (decide (j<i))):=bF9 fun _ _ _ _ _ _ _ q=>gt_int q
theorem bR1:OpR X (compareOp .IsNot) (fun x y H Q=>y=.non/\Q (.bl (!decide (x=.non))) H):=by
 intro pins s σ H x y v u Q I rx ry h;obtain⟨rfl,q⟩:=h;cases ry;refine isnot_none_gen (K7 I q ?_);cases x<;>first
  |(cases rx;rfl)
  |(obtain⟨t,rfl⟩:=rx;rfl)
theorem OpR.or{f:Value->Value->Sem Value}{r r':R2}(h:OpR X f r)(h':OpR X f r'):OpR X f (fun x y H Q=>r x y H Q\/r' x y H Q):=by
 intro pins s σ H x y v u Q I rx ry q;rcases q with q|q
 ·exact h pins s σ H x y v u Q I rx ry q
 ·exact h' pins s σ H x y v u Q I rx ry q
theorem O9(b:Expr){op:CmpOp}(h:op≠.In:=by decide)(h2:op≠.NotIn:=by decide):behindInMarks op b=false:=by
 have e1:(op==CmpOp.In)=false:=by cases op<;>first |rfl|exact absurd rfl h
 have e2:(op==CmpOp.NotIn)=false:=by cases op<;>first |rfl|exact absurd rfl h2
 cases b<;>simp[behindInMarks,e1,e2]
theorem bQ8{op:CmpOp}{r:R2}(ho:OpR X (compareOp op) r)(ha:PE X a ta)(hb:PE X b tb)(hm:behindInMarks op b=false):PE X (.Compare a [op] [b] pos) (tOp r ta tb):=by
 intro pins s σ H Q I h;exact wpAny_Compare1 (bJ0 ha hb I h fun v u s2 x y H2 I2 rx ry q=>ho pins s2 σ H2 x y v u Q I2 rx ry q) hm
noncomputable def bK7(t:TE):TT:=fun σ H Q=>t σ H fun x H'=>∃k,x=.bl k/\Q k H'
theorem bP8{op:CmpOp}{r:R2}(ho:OpR X (compareOp op) r)(ha:PE X a ta)(hb:PE X b tb)(hm:behindInMarks op b=false):PT X (.Compare a [op] [b] pos) (bK7 (tOp r ta tb)):=by
 intro pins s σ H Q I h;refine wpAny_isTrue_Compare1 (thn (ha pins s σ H _ I h) fun v s1 ⟨x,H1,I1,r1,q1⟩=>thn (hb pins s1 σ H1 _ I1 q1) fun u s2 ⟨y,H2,I2,r2,q2⟩=>
  thn (ho pins s2 σ H2 x y v u _ I2 r1 r2 q2) fun c s3 ⟨z,H3,I3,r3,k,e,q3⟩=> ?_) hm
 subst e;cases r3;exact cy9 ⟨H3,I3,q3⟩
noncomputable def bq2(r r':R2)(ta tb tc:TE):TE:=fun σ H Q=>ta σ H fun x H1=>tb σ H1 fun y H2=>r x y H2 fun z H3=>∃k,z=.bl k/\
 (if k=true then tc σ H3 fun w' H4=>r' y w' H4 Q else Q (.bl false) H3)
theorem bF5{op op':CmpOp}{r r':R2}(ho:OpR X (compareOp op) r)(ho':OpR X (compareOp op') r')(ha:PE X a ta)(hb:PE X b tb)(hc:PE X c tc)
  (hm:lastMarks [op,op'] [b,c]=false:=by with_unfolding_all rfl):PE X (.Compare a [op,op'] [b,c] pos) (bq2 r r' ta tb tc):=by
 intro pins s σ H Q I h;refine Compare_chain (thn (ha pins s σ H _ I h) fun v s1 ⟨x,H1,I1,r1,q1⟩=>chain_link (thn (hb pins s1 σ H1 _ I1 q1) fun u s2 ⟨y,H2,I2,r2,q2⟩=>
  thn (ho pins s2 σ H2 x y v u _ I2 r1 r2 q2) fun d s3 ⟨z,H3,I3,r3,k,e,q3⟩=> ?_)) hm
 subst e;cases r3;refine cy9 ?_;cases k with
 |false=>exact ite_ff ⟨.bl false,H3,I3,rfl,q3⟩
 |true=>exact ite_tt (chain_last (thn (hc pins s3 σ H3 _ I3 q3) fun w' s4 ⟨z',H4,I4,r4,q4⟩=>ho' pins s4 σ H4 y z' u w' Q I4 r2 r4 q4))
noncomputable def cf6(K:W.Frag)(x:V)(H:Hp)(k:Bool):Prop:=
 match x with
 |.non=>k=false
 |.bl b=>k=b
 |.int i=>k=(i !=0)
 |.str y=>y.length<=sizeLine/\k=((y.length:Int) !=0)
 |.byt y=>y.size<=sizeLine/\k=((y.size:Int) !=0)
 |.ref p=>(∃xs,SqL K H p xs/\k= !xs.isEmpty)\/(∃xs,SqT K H p xs/\k= !xs.isEmpty)\/∃kvs,H p=some (.dK kvs)/\k= !kvs.isEmpty
 |_=>False
theorem bl9{κ:Type}{kvs:List (κ×V)}{vs:List (κ×Value)}(r:KV kvs vs):(!vs.isEmpty)= !kvs.isEmpty:=by
 cases r<;>rfl
theorem aH0{xs:List V}{its:List Value}(r:o9 xs its):(!its.toArray.isEmpty)= !xs.isEmpty:=by
 cases r<;>simp
theorem aj5:(sizeLine:Nat)<2^63:=by rw[sizeLine_eq];decide
theorem bW1:cp9 X (fun x H Q=>∃k,cf6 X.K x H k/\Q k H):=by
 intro pins s σ H x v Q I rx h;obtain⟨k,e,q⟩:=h;have hl:=aj5;have hs:sizeLine=16777216:=sizeLine_eq;cases x with
 |non=>
  cases rx;have e':k=false:=e;subst e';exact truthy_none ⟨H,I,q⟩
 |bl b=>
  cases rx;have e':k=b:=e;subst e';exact cy9 ⟨H,I,q⟩
 |int i=>
  obtain⟨t,rfl⟩:=rx;have e':k=(i !=0):=e;subst e';exact PySem.P.truthy_int ⟨H,I,q⟩
 |str y=>
  obtain⟨t,rfl⟩:=rx;obtain⟨hy,e'⟩:y.length<=sizeLine/\k=((y.length:Int) !=0):=e;subst e';exact PySem.P.truthy_str (by omega) ⟨H,I.tok _,q⟩
 |byt y=>
  obtain⟨t,rfl⟩:=rx;obtain⟨hy,e'⟩:y.size<=sizeLine/\k=((y.size:Int) !=0):=e;subst e';exact W.truthy_bytes (by omega) ⟨H,I.tok _,q⟩
 |ref p=>
  cases rx;have e':(∃xs,SqL X.K H p xs/\k= !xs.isEmpty)\/(∃xs,SqT X.K H p xs/\k= !xs.isEmpty)\/∃kvs,H p=some (.dK kvs)/\k= !kvs.isEmpty:=e;rcases e' with⟨xs,hx,e'⟩|⟨xs,hx,e'⟩|⟨kvs,hx,e'⟩
  ·subst e';obtain⟨its,r,pl,hz⟩:=I.list hx;have hlen:=r.length;exact wpAny_truthy_list pl.isList (by simp only[cw5];omega) ⟨H,I.tok _,by rw[aH0 r];exact q⟩
  ·subst e';obtain⟨its,r,pl,hz⟩:=I.tuple hx;have hlen:=r.length;exact truthy_tuple pl (by simp only[cw5];omega) ⟨H,I.tok _,by rw[aH0 r];exact q⟩
  ·subst e';obtain⟨hz,hS,vs,r,m⟩:kvs.length<=sizeLine/\(p==sysModules)=false/\∃vs,KV kvs vs/\s.heap.DictOf (F9 X.prog X.w) p vs:=I.hok p _ hx;have hlen:kvs.length=vs.length:=Paired.length r;exact wpAny_truthy_dict hS m (by omega) ⟨H,I.tok _,by rw[bl9 r];exact q⟩
 |_=>exact(show False from e).elim
theorem bE6(ha:PE X a ta)(he:∀O7,isTrue a X.env O7=(do let v<-O7;standAt a.pos;holding [v] (truthy v))):
  PT X a (fun σ H Q=>ta σ H fun x H'=>∃k,cf6 X.K x H' k/\Q k H'):=by
 intro pins s σ H Q I h;exact isTrue_plain (thn (ha pins s σ H _ I h) fun v s1 ⟨x,H1,I1,r1,q1⟩=>bW1 pins s1 σ H1 x v Q I1 r1 q1) (he _)
theorem X6{x:V}{us:List Value}(r:o9 [x] us):∃u,us=[u]/\r8 x u:=by
 cases r with
 |cons r1 r2=>cases r2;exact⟨_,rfl,r1⟩
theorem aQ0{x y:V}{us:List Value}(r:o9 [x,y] us):∃u w',us=[u,w']/\r8 x u/\r8 y w':=by
 cases r with
 |cons r1 r2=>
  cases r2 with
  |cons r3 r4=>cases r4;exact⟨_,_,rfl,r1,r3⟩
theorem bI7:O3 X (.builtin "abs") (fun xs H Q=>∃i,xs=[.int i]/\Q (.int (if i<0 then -i else i)) H):=by
 intro pins s σ H xs us Q I r h;obtain⟨i,rfl,q⟩:=h;obtain⟨u,rfl,t,rfl⟩:=X6 r;exact call_abs_int fun u tk=>⟨.int (if i<0 then -i else i),H,I.tok _,⟨_,rfl⟩,q⟩
theorem bz2(hc:X.calm=true):O3 X (.builtin "max") (fun xs H Q=>∃i j,xs=[.int i,.int j]/\Q (.int (if j>i then j else i)) H):=by
 intro pins s σ H xs us Q I r h;obtain⟨i,j,rfl,q⟩:=h;obtain⟨u,w',rfl,⟨t,rfl⟩,⟨t',rfl⟩⟩:=aQ0 r;refine max_two_ints (I.ok.hd hc) fun h' tk k=>⟨_,H,I.kept k,?_,q⟩
 by_cases hj:j>i
 ·rw[cx8 hj,cx8 hj];exact⟨_,rfl⟩
 ·rw[cx7 hj,cx7 hj];exact⟨_,rfl⟩
theorem bz1(hc:X.calm=true):O3 X (.builtin "min") (fun xs H Q=>∃i j,xs=[.int i,.int j]/\Q (.int (if j<i then j else i)) H):=by
 intro pins s σ H xs us Q I r h;obtain⟨i,j,rfl,q⟩:=h;obtain⟨u,w',rfl,⟨t,rfl⟩,⟨t',rfl⟩⟩:=aQ0 r;refine min_two_ints (I.ok.hd hc) fun h' tk k=>⟨_,H,I.kept k,?_,q⟩
 by_cases hj:j<i
 ·rw[cx8 hj,cx8 hj];exact⟨_,rfl⟩
 ·rw[cx7 hj,cx7 hj];exact⟨_,rfl⟩
theorem bz3:O3 X (.type "int") (fun xs H Q=>(∃i,xs=[.int i]/\Q (.int i) H)\/∃k,xs=[.bl k]/\Q (.int (if k then 1 else 0)) H):=by
 intro pins s σ H xs us Q I r h;rcases h with⟨i,rfl,q⟩|⟨k,rfl,q⟩
 ·obtain⟨u,rfl,t,rfl⟩:=X6 r;exact call_int_int ⟨.int i,H,I,⟨_,rfl⟩,q⟩
 ·obtain⟨u,rfl,r1⟩:=X6 r;cases r1;exact call_int_bool ⟨.int (if k then 1 else 0),H,I.tok _,⟨_,rfl⟩,q⟩
end
section
variable {prog:Program}{w:World}{A:Around}{E:Value->Shared->Prop}{s:Shared}{K:W.Frag}{x dx C f:Addr}{mA:Str->Option Value}{name:Str}{v:Value}
end
theorem an0.some_of{v:V}{o:Option Value}(r:an0 (some v) o):∃u,o=some u/\r8 v u:=by
 cases o with
 |none=>exact(show False from r).elim
 |some u=>exact⟨u,rfl,r⟩
section
variable {P:Program}{w:World}{H H':Hp}{h h':Heap}{a C dx:Addr}{fs fs':List (Str×V)}
end
section
variable {X:Cx}{pins:List (Addr×Obj)}{σ:St}{H:Hp}{s:Shared}{a C dx:Addr}{fs:List (Str×V)}{f:Str}{v:V}{A:Around}{E:Value->Shared->Prop}
end
section
variable {X:Cx}{o e value:Expr}{f:Str}{pos pos' tpos:Pos}{ta tv:TE}
end
section
variable {X:Cx}{pins:List (Addr×Obj)}{σ:St}{H:Hp}{s:Shared}{A:Around}{E:Value->Shared->Prop}{Q:Value->Shared->Prop}{c:Value}{b:Bool}
end
structure B7(k:Nat)(A:Around):Prop where
 hd:A.handled=none
 dp:A.depth+3*k+5<recursionLimit
 un:A.units+16*k+200<cLine
theorem B7.mono{j k:Nat}{A:Around}(r:B7 k A)(h:j<=k):B7 j A:=⟨r.hd,by have :=r.dp;omega,by have :=r.un;omega⟩
theorem B7.deeper{k:Nat}{A:Around}(r:B7 (k+1) A)(env:Env):B7 k (A.deeper env):=
 ⟨r.hd,by have :=r.dp;show A.depth+1+3*k+5<_;omega,by have :=r.un;show A.units+3+16*k+200<_;omega⟩
theorem B7.depth{k:Nat}{A:Around}(r:B7 k A):A.depth<recursionLimit:=by have :=r.dp;omega
theorem B7.units{k:Nat}{A:Around}(r:B7 k A):A.units+64<cLine:=by have :=r.un;omega
theorem B7.units0{k:Nat}{A:Around}(r:B7 k A):A.units<cLine:=by have :=r.un;omega
noncomputable def cn4:TA:=fun _ H Q=>Q [] H
noncomputable def ci8(ta:TE)(tr:TA):TA:=fun σ H Q=>ta σ H fun x H1=>tr σ H1 fun xs H2=>Q (x::xs) H2
section
variable {X:Cx}{e:Expr}{es:List Expr}{te:TE}{t:TA}{pos:Pos}
theorem Y4:PA X [] cn4:=fun _ _ _ _ H Q I h=>Calls.spliced_nil ⟨[],H,I,.nil,h⟩
theorem O4(ha:PE X e te)(hr:PA X es t)(hs:starEach (e::es) X.env=(false,eval e X.env)::starEach es X.env:=by rfl):PA X (e::es) (ci8 te t):=by
 intro pos pins s σ H Q I h;rw[hs];show wpAny _ _ (spliced ((false,eval e X.env)::backTo pos (starEach es X.env))) _ _ s;refine Calls.spliced_cons (thn (ha pins s σ H _ I h) fun u s1 ⟨x,H1,I1,r1,q1⟩=> ?_);exact thn (hr pos pins s1 σ H1 _ I1 q1) fun us s2 ⟨xs,H2,I2,r2,q2⟩=>⟨x::xs,H2,I2,.cons r1 r2,q2⟩
noncomputable def cn0(t:TA):TE:=fun σ H Q=>t σ H fun xs H1=>xs.length<=sizeLine/\∀p,H1 p=none->Q (.ref p) (upd H1 p (.tup xs))
noncomputable def cn5(t:TA):TE:=fun σ H Q=>t σ H fun xs H1=>xs.length<=sizeLine/\∀p,H1 p=none->Q (.ref p) (upd H1 p (.lst xs))
theorem bZ9{x1}(h:PA X es t):PE X (.Tuple es x1 pos) (cn0 t):=by
 intro pins s σ H Q I hq;refine wpAny_Tuple_spliced (thn (h pos pins s σ H _ I hq) fun us s1 ⟨xs,H1,I1,r,z,q⟩=>⟨by rw[<-r.length];exact z,?_⟩);have hf:H1 s1.heap.objs.size=none:=I1.hok.fresh (cw8 _);refine⟨.ref s1.heap.objs.size,upd H1 s1.heap.objs.size (.tup xs),I1.laid (t':=s1.toks) (fun b u e=>cs1 _ e) (cw8 _) ?_,rfl,q _ hf⟩;exact⟨z,us,r,⟨_,cs2 _ rfl,rfl,_,rfl⟩⟩
theorem aV0(h:PA X es t):PE X (.List es pos) (cn5 t):=by
 intro pins s σ H Q I hq;refine wpAny_List_spliced (thn (h pos pins s σ H _ I hq) fun us s1 ⟨xs,H1,I1,r,z,q⟩=>⟨by rw[<-r.length];exact z,?_⟩);have hf:H1 s1.heap.objs.size=none:=I1.hok.fresh (cw8 _);refine⟨.ref s1.heap.objs.size,upd H1 s1.heap.objs.size (.lst xs),I1.laid (t':=s1.toks) (fun b u e=>cs1 _ e) (cw8 _) ?_,rfl,q _ hf⟩;exact⟨z,us,0,r,cs2 _ rfl⟩
end
noncomputable abbrev Sp:=List V->Hp->VK->XK->Prop
noncomputable abbrev CXT:=List Env->Hp->Shared->XK->Value->Shared->Prop
structure an4(P:Program)(w:World)(K:W.Frag)(mg:Str->Option Value)(base:Heap)(A:Around)(outer:List Env)(s:Shared)(H:Hp):Prop where
 frames:A.frames=some outer
 mod:Mod K mg base
 bs:∀b o,base.get? b=some o->s.heap.get? b=some o/\H b=none
 bsz:base.objs.size<=s.heap.objs.size
 funs:s.heap.FunFrames base outer
 frf:∀b∈frs outer,H b=none
 hok:HOk P w H s.heap
 bare:AllBare s.gens
noncomputable def CE(outer:List Env)(P:Program)(w:World)(H:Hp)(s:Shared)(Q:VK)(u:Value)(s':Shared):Prop:=
 ∃v H',s'.os=s.os/\AllBare s'.gens/\Un (frs outer) [] H H' s.heap s'.heap/\HOk P w H' s'.heap/\r8 v u/\Q v H'
noncomputable def CR(CX:CXT)(outer:List Env)(P:Program)(w:World)(H:Hp)(s:Shared)(Q:VK)(E:XK)(r:Result)(s':Shared):Prop:=
 match r with
 |.ok (.ret u)=>CE outer P w H s Q u s'
 |.ok _=>False
 |.error e=>CX outer H s E e s'
structure V9(P:Program)(w:World)(K:W.Frag)(mg:Str->Option Value)(base:Heap)(CX:CXT)(k:Nat)(f:Addr)(fd:FuncData)(ps:List Str)(sp:Sp):Prop where
 len:∀vs H Q E,sp vs H Q E->vs.length=ps.length
 run:∀(A:Around) (outer:List Env) (s:Shared) (H:Hp) (args:Args) (us:List Value) (vs:List V) (Q:VK) (E:XK),B7 k A->an4 P w K mg base A outer s H->BindsTo s fd args (ps.zip us)->o9 vs us->sp vs H Q E->
  codeAny (model P w) A (.call (.ref f) args) (CR CX outer P w H s Q E) s
section
variable {X:Cx}{pins:List (Addr×Obj)}{σ:St}{H:Hp}{s s':Shared}
theorem Inv.env0(I:Inv X pins σ H s):an4 X.prog X.w X.K X.mg X.base X.A X.stack s H:=
 ⟨I.ok.frames,I.ok.mod,I.bs,cw9 I.ok.bsz I.sz,I.stack,I.stkFree,I.hok,I.bare⟩
theorem Inv.after{Q:VK}{u:Value}(I:Inv X pins σ H s)(h:CE X.stack X.prog X.w H s Q u s'):EP X pins σ Q u s':=by
 obtain⟨v,H',os,bare,un,hok,r,q⟩:=h;obtain⟨hh,g,d,t,os'⟩:=s';obtain rfl:os'=s.os:=os;exact⟨v,H',I.call (h':=hh) (g':=g) (d':=d) (t':=t) (ch:=[]) un hok bare (fun b z=>absurd z (by simp)),r,q⟩
end
noncomputable def ci9(sp:Sp)(dvs:List V)(E:XK)(t:TA):TE:=fun σ H Q=>t σ H fun vs H1=>sp (vs++dvs) H1 Q E
noncomputable def Z1(K:W.Frag)(fd:FuncData)(ps:List Str)(ds:List Value):Prop:=
 ∀(s:Shared) (us:List Value),K.In s.heap->(us++ds).length=ps.length->BindsTo s fd ⟨us,[]⟩ (ps.zip (us++ds))
theorem Z1.all{K:W.Frag}{fd:FuncData}{ps:List Str}(h:∀us:List Value,us.length=ps.length->bindArgs fd ⟨us,[]⟩=pure (ps.zip us)):Z1 K fd ps []:=fun s us _ hl=>by
 rw[cs9]at hl⊢;exact .of_eq (h us hl)
noncomputable def Y8(CX:CXT)(X:Cx)(E:XK):Prop:=∀(pins:List (Addr×Obj)) (σ:St) (H:Hp) (s:Shared) (e:Value) (s':Shared),Inv X pins σ H s->CX X.stack H s E e s'->X.xe e s'
section
variable {X:Cx}{CX:CXT}{k:Nat}{f C:Addr}{fd:FuncData}{ps:List Str}{sp:Sp}{dvs:List V}{ds:List Value}{E:XK}{x m:Str}{p pos apos:Pos}{e o:Expr}{es:List Expr}{ta:TE}{t:TA}
theorem bX2{pins:List (Addr×Obj)}{σ:St}{H:Hp}{s:Shared}{Q:VK}{us:List Value}{vs:List V}(F:V9 X.prog X.w X.K X.mg X.base CX k f fd ps sp)(hr:B7 k X.A)(hb:Z1 X.K fd ps ds)(hd:o9 dvs ds)(hx:Y8 CX X E)
  (I:Inv X pins σ H s) (r:o9 vs us) (h:sp (vs++dvs) H Q E):wpAny (model X.prog X.w) X.A (call (.ref f) us) (EP X pins σ Q) X.xe s:=by
 have r2:o9 (vs++dvs) (us++ds):=r.append hd;have hl:(us++ds).length=ps.length:=by rw[<-r2.length];exact F.len _ _ _ _ h
 refine wpAny_call (codeAny_mono (F.run X.A X.stack s H ⟨us,[]⟩ (us++ds) (vs++dvs) Q E hr I.env0 (hb s us I.kIn hl) r2 h) fun r s' hq=> ?_);cases r with
 |error e=>exact hx pins σ H s e s' I hq
 |ok fl=>
  cases fl with
  |ret u=>exact I.after hq
  |next=>exact False.elim hq
  |brk=>exact False.elim hq
  |cont=>exact False.elim hq
theorem ay3(F:V9 X.prog X.w X.K X.mg X.base CX k f fd ps sp)(hr:B7 k X.A)(hg:Gl X x)(hm:X.mg x=some (.ref f))(hk:W.keepIn X.K (.ref f)=true)(hb:Z1 X.K fd ps ds)(hd:o9 dvs ds)(hx:Y8 CX X E)
  (ha:PA X (e::es) t) (hdb:(x==("__debug__":Str))=false:=by decide) (he:starEach (e::es) X.env=(false,eval e X.env)::starEach es X.env:=by rfl) (hpl:(backTo pos (starEach es X.env)).any (·.1)=false:=by rfl):
  PE X (.Call (.Name x p) (e::es) [] pos) (ci9 sp dvs E t):=by
 intro pins s σ H Q I h;refine wpAny_Call_Name_kw (ah9 I hg hm ?_ hdb);refine W.callWith_K (h₀:=X.base) I.ok.mod.kin hk (thn (ha pos pins s σ H _ I h) fun us s1 ⟨vs,H1,I1,r,q⟩=>⟨I1.kIn,?_⟩) he hpl;exact bX2 F hr hb hd hx I1 r q
end
section
variable {X:Cx}{CX:CXT}{k:Nat}{f C:Addr}{fd:FuncData}{ps ks:List Str}{sp:Sp}{E:XK}{x m:Str}{p pos apos kpos:Pos}{e o:Expr}{es:List Expr}{kws:List Keyword}{te ta:TE}{t tk:TA}{nm:Option Str}
variable {g:List Value->List Value->List Value}{gV:List V->List V->List V}
end
structure l0(N P:List Str)(sc:Scope):Prop where
 kind:sc.kind=.function
 co:sc.isCoroutine=false
 gen:sc.isGenerator=false
 nd:N.Nodup
 pre:N.take P.length=P
 par:∀x∈P,sc.names.lookup x=some .local\/sc.names.lookup x=some .cell
 nofree:∀y∈sc.names,y.2≠.free
theorem aO4{kindOf:Str->Option NameKind}{x:Str}:∀{binds:List (Str×Value)}{m:Str->Option Value},(∀v,(x,v)∉binds)->bindL kindOf binds m x=m x
 |[],_,_=>rfl
 |(n,v)::r,m,h=>by
  unfold bindL;rw[aO4 fun w hw=>h w (cv7 _ hw)];split
  ·have :x≠n:=by rintro rfl;exact h v cv8
   simp[this]
  ·rfl
theorem aO6{kindOf:Str->Option NameKind}{x:Str}:∀{binds:List (Str×Value)}{m:Str->Option Value},(∀v,(x,v)∉binds)->bindC kindOf binds m x=m x
 |[],_,_=>rfl
 |(n,v)::r,m,h=>by
  unfold bindC;rw[aO6 fun w hw=>h w (cv7 _ hw)];split
  ·rfl
  ·have :x≠n:=by rintro rfl;exact h v cv8
   simp[this]
theorem aO5{kindOf:Str->Option NameKind}{x:Str}{v:Value}:∀{P:List Str}{vs:List Value}{i:Nat}{m:Str->Option Value},P.Nodup->P[i]?=some x->vs[i]?=some v->kindOf x=some .local->
  bindL kindOf (P.zip vs) m x=some v
 |[],_,_,_,_,h,_,_=>by simp at h
 |_::_,[],_,_,_,_,h,_=>by simp at h
 |p::P,w::vs,0,m,nd,h1,h2,hk=>by
  simp at h1 h2;subst h1;subst h2;show bindL kindOf ((p,w)::P.zip vs) m p=_;unfold bindL;rw[aO4 fun v hv=>(List.nodup_cons.mp nd).1 (cw1 hv).1,cx8 hk];simp
 |p::P,w::vs,i+1,m,nd,h1,h2,hk=>by
  show bindL kindOf ((p,w)::P.zip vs) m x=_;unfold bindL;exact aO5 (i:=i) (List.nodup_cons.mp nd).2 (by simpa using h1) (by simpa using h2) hk
theorem aO7{kindOf:Str->Option NameKind}{x:Str}{v:Value}:∀{P:List Str}{vs:List Value}{i:Nat}{m:Str->Option Value},P.Nodup->P[i]?=some x->vs[i]?=some v->kindOf x≠some .local->
  bindC kindOf (P.zip vs) m x=some v
 |[],_,_,_,_,h,_,_=>by simp at h
 |_::_,[],_,_,_,_,h,_=>by simp at h
 |p::P,w::vs,0,m,nd,h1,h2,hk=>by
  simp at h1 h2;subst h1;subst h2;show bindC kindOf ((p,w)::P.zip vs) m p=_;unfold bindC;rw[aO6 fun v hv=>(List.nodup_cons.mp nd).1 (cw1 hv).1,cx7 hk];simp
 |p::P,w::vs,i+1,m,nd,h1,h2,hk=>by
  show bindC kindOf ((p,w)::P.zip vs) m x=_;unfold bindC;exact aO7 (i:=i) (List.nodup_cons.mp nd).2 (by simpa using h1) (by simpa using h2) hk
noncomputable def start(N:List Str)(vs:List V):St:=vs.map some++List.replicate (N.length-vs.length) none
noncomputable def w4(CX:CXT)(P:Program)(w:World)(K:W.Frag)(mg:Str->Option Value)(base:Heap)(N:List Str)(qual:Str)(scope:Scope)(f:Addr)(cd:Value)(A:Around)(outer:List Env)(s:Shared)(H:Hp)(E:XK):Cx where
 prog:=P
 w:=w
 K:=K
 mg:=mg
 base:=base
 A:=A.deeper (envOfC qual scope s.heap.objs.size f cd)
 N:=N
 s₀:=s
 H₀:=H
 env:=envOfC qual scope s.heap.objs.size f cd
 outer:=outer
 stack:=envOfC qual scope s.heap.objs.size f cd::outer
 ex:=[]
 calm:=true
 fn:=fun _=>true
 pn:=[]
 xe:=fun e s'=>wpAny (model P w) (A.deeper (envOfC qual scope s.heap.objs.size f cd)) (leaving (envOfC qual scope s.heap.objs.size f cd) e) (fun _ s''=>CX outer H s E e s'') (fun e' s''=>CX outer H s E e' s'') s'
theorem aY6{sc:Scope}{n:Nat}{x:Str}(h:sc.names.lookup x=some .cell):∃c,(cellsFrom n sc.names []).lookup x=some c:=by
 have q:=W.cellsFrom_some sc.names n [] (.inl h);exact Option.isSome_iff_exists.mp q
theorem aN3{CX:CXT}{P:Program}{w:World}{K:W.Frag}{mg:Str->Option Value}{base:Heap}{N ps:List Str}{qual:Str}{scope:Scope}{f:Addr}{cd:Value}{A:Around}{outer:List Env}{s s1:Shared}{H:Hp}{E:XK}{us:List Value}{vs:List V}
  (S:l0 N ps scope) (hd:A.handled=none) (e0:an4 P w K mg base A outer s H) (hl:vs.length=ps.length) (r:o9 vs us)
  (x:InCallC s s.heap.objs.size (bindL (envOfC qual scope s.heap.objs.size f cd).kindOf (ps.zip us) fun _=>none) (cellsFrom (s.heap.objs.size+1) scope.names []) (bindC (envOfC qual scope s.heap.objs.size f cd).kindOf (ps.zip us) fun _=>none) s1):
  Inv (w4 CX P w K mg base N qual scope f cd A outer s H E) [] (start N vs) H s1:=by
 have hpl:ps.length<=N.length:=by have :=congrArg List.length S.pre;rw[List.length_take]at this;omega
 obtain⟨h1,tk,rfl,hk⟩:=x.done;have noA:∀b:Addr,b∉(w4 CX P w K mg base N qual scope f cd A outer s H E).ex:=fun b z=>absurd (show b∈([]:List Addr)from z) (by simp)
 refine⟨⟨e0.mod,S.kind,rfl,rfl,cw8 _,fun y z c h1 h2=> ?_,fun y hy=> ?_,fun y c _ h=> ?_,fun _=>hd,Around.frames_deeper e0.frames,.inr ⟨rfl,rfl⟩,fun b z=>absurd z (noA b),e0.bs,e0.bsz,fun b _ _=>noA b,fun b z=>absurd z (noA b),e0.funs,e0.frf⟩,
  rfl,e0.bare,Un.kept hk,⟨_,x.toInCall.ns,fun i y v h1 h2 h3=> ?_⟩,fun y c h=>⟨_,x.cell y c h⟩,e0.hok.fresh (cw8 _),fun y c h=> ?_,fun p hp=>absurd (show p∈([]:List (Addr×Obj))from hp) (by simp),e0.hok.kept hk,?_⟩
 ·exact name_of_addr x.apart (PySem.mem_of_lookup h1) (PySem.mem_of_lookup h2)
 ·have hy:scope.names.lookup y=some .cell\/scope.names.lookup y=some .free:=hy;rcases hy with hy|hy
  ·exact aY6 hy
  ·exact absurd rfl (S.nofree _ (PySem.mem_of_lookup hy))
 ·exact Nat.le_of_lt (x.above y c (PySem.mem_of_lookup h))
 ·have hi:i<vs.length:=by
   unfold start at h2;by_cases hi:i<vs.length
   ·exact hi
   ·rw[ct5 (by simpa using hi)]at h2;rw[cu1]at h2;split at h2<;>cases h2
  have ha:vs[i]?=some v:=by
   unfold start at h2;rw[ct4 (by simpa using hi),cu0]at h2;cases e:vs[i]? with
   |none=>rw[e]at h2;cases h2
   |some a=>rw[e]at h2;cases h2;rfl
  obtain⟨u,hu,rv⟩:=r.get ha;have hp:ps[i]?=some y:=by
   rw[<-S.pre,List.getElem?_take_of_lt (by omega)];exact h1
  have ndP:ps.Nodup:=by rw[<-S.pre];exact S.nd.sublist (List.take_sublist _ _)
  refine⟨u,rv,?_⟩;rcases S.par y (cv9 hp)with k|k
  ·exact .inl ⟨k,aO5 ndP hp hu k⟩
  ·obtain⟨c,e⟩:=aY6 (n:=s.heap.objs.size+1) k;refine .inr ⟨.inl k,c,e,?_⟩;have q:=x.cell y c e;rw[aO7 ndP hp hu (by show scope.names.lookup y≠_;rw[k];decide)]at q;exact q
 ·exact e0.hok.fresh (Nat.le_of_lt (x.above y c (PySem.mem_of_lookup h)))
 ·unfold start;show _=N.length;rw[cu4,cu6,cu8];omega
theorem bm5{CX:CXT}{P:Program}{w:World}{K:W.Frag}{mg:Str->Option Value}{base:Heap}{k:Nat}{f:Addr}{name qual:Str}{params:Arguments}{body:List Stmt}{scope:Scope}{dV kV doc pm cdv ct oc:Value}{an od:Option Addr}
  {osl:Array (Option Value)}{N ps:List Str}{sp:Sp}(lk:K.lookup f=some ⟨oc,od,.func (W.fnOf name qual params body scope dV kV doc pm an cdv ct),osl⟩) (hcd:W.codeIn K cdv qual=true) (S:l0 N ps scope)
  (len:∀vs H Q E,sp vs H Q E->vs.length=ps.length)
  (hbody:∀(A:Around) (outer:List Env) (s:Shared) (H:Hp) (vs:List V) (Q:VK) (E:XK),B7 k (A.deeper (envOfC qual scope s.heap.objs.size f cdv))->sp vs H Q E->
   ∃t,PSs (w4 CX P w K mg base N qual scope f cdv A outer s H E) body t/\t {nx:=fun _ H'=>Q .non H',rt:=Q} (start N vs) H):
  V9 P w K mg base CX (k+1) f (W.fnOf name qual params body scope dV kV doc pm an cdv ct) ps sp:=by
 refine⟨len,fun A outer s H args us vs Q E hr e0 hb r hsp=> ?_⟩;have hl:=len _ _ _ _ hsp;have KX:K.In s.heap:=e0.mod.kin.keeps fun b o e=>(e0.bs b o e).1
 have lim:s.heap.NoLimit:=e0.mod.nolimit.keeps fun b o e=>(e0.bs b o e).1
 have hkind:∀y∈ps.zip us,scope.names.lookup y.1=some .local\/(scope.names.lookup y.1=some .cell/\((cellsFrom (s.heap.objs.size+1) scope.names []).lookup y.1).isSome=true):=fun⟨n,v⟩ hy=>by
  rcases S.par n (cw1 hy).1 with q|q
  ·exact .inl q
  ·exact .inr ⟨q,W.cellsFrom_some _ _ _ (.inl q)⟩
 refine codeAny_call_function hr.depth (KX _ _ lk) rfl S.co S.gen rfl (W.codeRec_of KX hcd) (hb _ _ _ _ ?_);refine wpAny_newFunctionEnv_cells S.kind hkind fun env he s1 x=> ?_
 subst he;refine⟨lim.keeps x.toInCall.keep,codeAny_func ?_⟩;obtain⟨t,ht,hq⟩:=hbody A outer s H vs Q E (hr.deeper _) hsp;have I:Inv (w4 CX P w K mg base N qual scope f cdv A outer s H E) [] (start N vs) H s1:=aN3 S hr.hd e0 hl r x;refine cy2 (ht [] s1 (start N vs) H _ I hq) (fun fl s' hs=> ?_) fun e s' hs=>hs
 have fin:∀{σ':St}{H':Hp}{v:V}{u:Value},Inv (w4 CX P w K mg base N qual scope f cdv A outer s H E) [] σ' H' s'->r8 v u->Q v H'->CE outer P w H s Q u s':=
  fun{σ' H' v u} J rv q=>⟨v,H',J.os,J.bare,J.base,J.hok,rv,q⟩
 cases fl with
 |ret u=>
  obtain⟨v,σ',H',J,rv,q⟩:=hs;exact fin J rv q
 |next=>
  obtain⟨σ',H',J,q⟩:=hs;exact fin (v:=V.non) (u:=Value.none) J rfl q
 |brk=>
  obtain⟨_,_,_,q⟩:=hs;exact False.elim q
 |cont=>
  obtain⟨_,_,_,q⟩:=hs;exact False.elim q
section
variable {X:Cx}{x:Str}{p pos:Pos}{e:Expr}{es:List Expr}{t:TA}{id T:String}{r:List V->Hp->VK->Prop}
noncomputable def tCB(r:List V->Hp->VK->Prop)(t:TA):TE:=fun σ H Q=>t σ H fun vs H1=>r vs H1 Q
theorem aC3(hc:O3 X (.builtin id) r)(hg:Gl X x)(hm:X.mg x=none)(hv:bootBuiltins x=some (.builtin id))(ha:PA X (e::es) t)(hn:x≠"__name__":=by decide)(hdb:(x==("__debug__":Str))=false:=by decide)
  (he:starEach (e::es) X.env=(false,eval e X.env)::starEach es X.env:=by rfl) (hpl:(backTo pos (starEach es X.env)).any (·.1)=false:=by rfl):PE X (.Call (.Name x p) (e::es) [] pos) (tCB r t):=by
 intro pins s σ H Q I h;refine wpAny_Call_Name_kw (ac4 I hg hm hv ?_ hn hdb);exact PyProof.Rows.callWith_builtin1 (thn (ha pos pins s σ H _ I h) fun us s1 ⟨vs,H1,I1,r1,q1⟩=>hc pins s1 σ H1 vs us Q I1 r1 q1) he hpl
theorem aM7(hc:O3 X (.type T) r)(hg:Gl X x)(hm:X.mg x=none)(hv:bootBuiltins x=some (.type T))(ha:PA X (e::es) t)(hn:x≠"__name__":=by decide)(hdb:(x==("__debug__":Str))=false:=by decide)
  (he:starEach (e::es) X.env=(false,eval e X.env)::starEach es X.env:=by rfl) (hpl:(backTo pos (starEach es X.env)).any (·.1)=false:=by rfl):PE X (.Call (.Name x p) (e::es) [] pos) (tCB r t):=by
 intro pins s σ H Q I h;refine wpAny_Call_Name_kw (ac4 I hg hm hv ?_ hn hdb);exact PyProof.Rows.callWith_type1 (thn (ha pos pins s σ H _ I h) fun us s1 ⟨vs,H1,I1,r1,q1⟩=>hc pins s1 σ H1 vs us Q I1 r1 q1) he hpl
end
end L2
namespace HT
open PySem PyProof.Rows
noncomputable def lexLt:List Int->List Int->Bool
 |[],[]=>false
 |[],_::_=>true
 |_::_,[]=>false
 |x::xs,y::ys=>if x=y then lexLt xs ys else decide (x<y)
theorem lexLt_cons(x y:Int)(xs ys:List Int):lexLt (x::xs) (y::ys)=if x=y then lexLt xs ys else decide (x<y):=rfl
theorem aP8:lexLt [] []=false:=rfl
theorem aK1(y:Int)(ys:List Int):lexLt [] (y::ys)=true:=rfl
theorem aK2(x:Int)(xs:List Int):lexLt (x::xs) []=false:=rfl
theorem bI0(A:Around)(s:Shared)(a:Int)(t:Tok)(c:Int)(u:Tok):∃e,SeqAt.EqAt A s (.int a t) (.int c u) e/\(e=true ↔a=c):=
 ⟨(a==c),SeqAt.EqAt.int_int a t c u,by simp⟩
theorem bD8(A:Around)(s:Shared)(a:Int)(t:Tok)(c:Int)(u:Tok)(prog:Program)(w:World)(E:Value->Shared->Prop)(Q:Value->Shared->Prop)(h:Q (.bool (decide (a<c))) s):
  wpAny (model prog w) A (richCompare .Lt (.int a t) (.int c u)) Q E s:=
 (PyProof.Rows.lt_int h:wpAny (model prog w) A (compareOp .Lt (.int a t) (.int c u)) Q E s)
section
open PySem.SeqAt
open PySem.AutoSeq1 (wpAny_loadPart')
open PySem.MeetsSeq PySem.MeetsSeq2 PySem.MeetsSeq3
theorem aO9(l b:Addr)(items items2:Array Value)(n n2:Nat)(dd dd2:Option Addr)(sl sl2:Array (Option Value))(ns ms:List Int)(hi:IntsAre items.toList ns)(hj:IntsAre items2.toList ms):
  Meets (Builtin.«tuple.__lt__» ⟨[.ref l,.ref b],[]⟩)
   (fun _ R s=>s.heap.get? l=some {cls:=.type "tuple",dict:=dd,data:=.seq items n,slots:=sl}/\s.heap.get? b=some {cls:=.type "tuple",dict:=dd2,data:=.seq items2 n2,slots:=sl2}/\
    R (.ok (.ret (.bool (lexLt ns ms)))) s):=
 .of_wp fun prog w A R s h=>by
  obtain⟨hp,g,d,tk,os⟩:=s;obtain⟨hl,hb,h⟩:=h;have f2:=AutoSeq1.sub_tuple_tuple;have z1:items.size=ns.length:=by rw[<-hi.length];simp
  have z2:items2.size=ms.length:=by rw[<-hj.length];simp
  wp_walk using wpAny_loadPart' hl,wpAny_loadPart' hb,wpAny_forIn_list _ (fun rest b s'=>b.1=none/\s'=⟨hp,g,d,tk,os⟩/\∃(vs ws:List Value) (ns' ms':List Int),rest=vs.zip ws/\
   IntsAre vs ns'/\IntsAre ws ms'/\ns'.length+items2.size=ms'.length+items.size/\R (.ok (.ret (.bool (lexLt ns' ms')))) ⟨hp,g,d,tk,os⟩) _
  case turn=>
   rintro⟨y,x⟩ rest b s' ⟨hb',rfl,vs,ws,ns',ms',hz,hvi,hwi,hlen,hR⟩;cases hvi with
   |nil=>rw[List.zip_nil_left]at hz;cases hz
   |cons a t hvi'=>
    cases hwi with
    |nil=>rw[List.zip_nil_right]at hz;cases hz
    |cons c u hwi'=>
     rw[cw7]at hz;injection hz with hyx hrest
     injection hyx with hy hx
     subst hy hx;rw[lexLt_cons]at hR;simp only[cu5]at hlen;obtain⟨e,he,hiff⟩:=bI0 A.in1 ⟨hp,g,d,tk,os⟩ a t c u;refine cx9 (he prog w _ _ ?_);cases e with
     |true=>
      rw[cx8 (hiff.mp rfl)]at hR
      wp_walk
      exact⟨rfl,rfl,_,_,_,_,hrest,hvi',hwi',by omega,hR⟩
     |false=>
      rw[cx7 (fun q=>absurd (hiff.mpr q) cs0)]at hR;have hri:=bD8 A.in1 ⟨hp,g,d,tk,os⟩ a t c u prog w
      wp_walk using hri
      exact⟨_,rfl,by simpa using hR⟩
  case fin=>
   rintro⟨b1,b2⟩ s' ⟨hb',rfl,vs,ws,ns',ms',hz,hvi,hwi,hlen,hR⟩;simp only at hb';subst hb';have hv:lexLt ns' ms'=decide (items.size<items2.size):=by
    cases hvi with
    |nil=>
     cases hwi with
     |nil=>
      simp only[cu7]at hlen;rw[aP8];exact(cx4 (by omega)).symm
     |cons c u hw=>
      simp only[cu7,cu5]at hlen;rw[aK1];exact(cx5 (by omega)).symm
    |cons a t hv=>
     cases hwi with
     |nil=>
      simp only[cu7,cu5]at hlen;rw[aK2];exact(cx4 (by omega)).symm
     |cons c u hw=>
      rw[cw7]at hz;cases hz
   rw[hv]at hR
   wp_walk
   exact⟨_,rfl,by simpa[Builtin.Tuple.tupleCompareSizes]using hR⟩
  case h=>
   exact⟨rfl,rfl,items.toList,items2.toList,ns,ms,rfl,hi,hj,by omega,h⟩
end
section
variable {prog:Program}{w:World}{A:Around}{E:Value->Shared->Prop}{s:Shared}
theorem lt_tupInts{l b:Addr}{items items2:Array Value}{ns ms:List Int}{Q:Value->Shared->Prop}(hl:IsTup s.heap l items)(hb:IsTup s.heap b items2)(hi:IntsAre items.toList ns)(hj:IntsAre items2.toList ms)
  (hu:A.units<cLine) (h:Q (.bool (lexLt ns ms)) s):wpAny (model prog w) A (compareOp .Lt (.ref l) (.ref b)) Q E s:=by
 obtain⟨⟨cls,dd,data,sl⟩,ho,hc,n,hd⟩:=id hl;obtain⟨⟨cls2,dd2,data2,sl2⟩,ho2,hc2,n2,hd2⟩:=id hb;simp only at hc hd hc2 hd2;subst hc hd hc2 hd2;exact richCompare_meets_room (op:=.Lt) ⟨_,ho,rfl⟩ ⟨_,ho2,rfl⟩ PySem.F.slot_tuple_lt PySem.F.entry_tuple_lt (PySem.F.args_tuple_lt_2 _ _) (aO9 l b items items2 n n2 dd dd2 sl sl2 ns ms hi hj)
  ⟨ho,ho2,show Value.bool (lexLt ns ms)≠Value.notImplemented/\Q (.bool (lexLt ns ms)) s from⟨(fun x=>nomatch x),h⟩⟩ hu
noncomputable def sIx(n d:Nat):Option Int->Nat
 |none=>d
 |some v=>if v<0 then(v+(n:Int)).toNat else min v.toNat n
theorem sIx_nat(n d k:Nat):sIx n d (some (k:Int))=min k n:=by
 show(if(k:Int)<0 then((k:Int)+(n:Int)).toNat else min (k:Int).toNat n)=min k n;rw[cx7 (by omega),cs6]
theorem bX0(n d:Nat)(hd:d<=n)(o:Option Int):sIx n d o<=n:=by
 cases o with
 |none=>exact hd
 |some v=>
  show(if v<0 then(v+(n:Int)).toNat else min v.toNat n)<=n;by_cases hv:v<0
  ·rw[cx8 hv];omega
  ·rw[cx7 hv];exact Nat.min_le_right _ _
theorem bg4(v:Int)(n d:Nat):(if v<0 then max (v+(n:Int)) 0 else min v (n:Int))=((sIx n d (some v):Nat):Int):=by
 show(if v<0 then max (v+(n:Int)) 0 else min v (n:Int))=(((if v<0 then(v+(n:Int)).toNat else min v.toNat n):Nat):Int);by_cases hv:v<0
 ·simp only[cx8 hv];omega
 ·simp only[cx7 hv];omega
theorem bo2(lo hi:Option Int)(n:Nat):Builtin.Slice.sliceAdjust lo hi 1 (n:Int)=(((sIx n 0 lo:Nat):Int),((sIx n n hi:Nat):Int)):=by
 have h1:¬((1:Int)<0):=by omega
 unfold Builtin.Slice.sliceAdjust;simp only[h1,if_false];refine Prod.ext ?_ ?_
 ·cases lo with
  |none=>rfl
  |some v=>exact bg4 v n 0
 ·cases hi with
  |none=>rfl
  |some v=>exact bg4 v n n
theorem bj4(i j:Nat):Builtin.Slice.slicePlaces (i:Int) (j:Int) 1=j-i:=by
 unfold Builtin.Slice.slicePlaces;have h1:(1:Int)>0:=by omega
 simp only[h1,if_true,Int.ediv_one];split<;>omega
theorem aF3{v:Value}{o:Option Int}{Q:Option Int->Shared->Prop}(p:IsPart v o)(h:Q o s):wpAny (model prog w) A (Builtin.Slice.slicePartIndex v) Q E s:=by
 cases p with
 |none=>exact slicePart_none h
 |int i t=>exact slicePart_int h
theorem aB4{sl:Addr}{vl vu:Value}{lo hi:Option Int}{n:Nat}{Q:Int×Int×Nat->Shared->Prop}(hs:s.heap.IsSliceOf sl vl vu .none)(pl:IsPart vl lo)(pu:IsPart vu hi)
  (h:Q (((sIx n 0 lo:Nat):Int),1,sIx n n hi-sIx n 0 lo) s):wpAny (model prog w) A (Builtin.Slice.sliceApplied (.ref sl) (pure (n:Int))) Q E s:=by
 obtain⟨os,hos,hcs,hds⟩:=id hs;unfold Builtin.Slice.sliceApplied Builtin.Slice.sliceFields;refine cx9 (cx9 (cy1 hos hds (x:=vl) rfl (cx9 (cy1 hos hds (x:=vu) rfl (cx9 (cy1 hos hds (x:=.none) rfl (cy5 ?_)))))));refine cx9 (slicePart_none ?_);show wpAny _ _ (if((1:Int)==0)=true then _ else _) _ _ s;rw[cx7 (by decide)];refine cx9 (aF3 pl (cx9 (aF3 pu (cx9 (cy5 ?_)))));show wpAny _ _ (match Builtin.Slice.sliceAdjust lo hi 1 (n:Int)with |(lo,hi)=>pure (lo,(1:Int),Builtin.Slice.slicePlaces lo hi 1)) _ _ s;rw[bo2 lo hi n];show wpAny _ _ (pure (((sIx n 0 lo:Nat):Int),(1:Int),Builtin.Slice.slicePlaces ((sIx n 0 lo:Nat):Int) ((sIx n n hi:Nat):Int) 1)) _ _ s;rw[bj4];exact cy5 h
theorem bF2(xs:Array Value)(i k:Nat):((List.range k).filterMap fun(m:Nat)=>xs[((i:Int)+(m:Int)*1).toNat]?).toArray=((xs.toList.drop i).take k).toArray:=by
 have e:(fun(m:Nat)=>xs[((i:Int)+(m:Int)*1).toNat]?)=fun m=>xs[i+m]?:=by
  funext m
  have :((i:Int)+(m:Int)*1).toNat=i+m:=by omega
  rw[this]
 rw[e];have :=pick_run xs i k;rw[List.filterMap_map]at this;have e2:((fun x=>xs[x]?)∘fun x=>i+x)=fun m=>xs[i+m]?:=rfl
 rw[e2]at this;rw[this]
theorem getItem_tuple_cut{t sl:Addr}{items:Array Value}{vl vu:Value}{lo hi:Option Int}{Q:Value->Shared->Prop}(ht:IsTup s.heap t items)(hs:s.heap.IsSliceOf sl vl vu .none)(pl:IsPart vl lo)(pu:IsPart vu hi)
  (hw:¬(sIx items.size 0 lo=0/\sIx items.size items.size hi=items.size))
  (h:Q (.ref s.heap.objs.size) {s with heap:=s.heap.push {cls:=.type "tuple",data:=.seq ((items.toList.drop (sIx items.size 0 lo)).take (sIx items.size items.size hi-sIx items.size 0 lo)).toArray}})
  (hsz:items.size<=sizeLine):wpAny (model prog w) A (getItem (.ref t) (.ref sl)) Q E s:=by
 have htake:sizeOk (.seq ((items.toList.drop (sIx items.size 0 lo)).take (sIx items.size items.size hi-sIx items.size 0 lo)).toArray):=by
  show((items.toList.drop (sIx items.size 0 lo)).take (sIx items.size items.size hi-sIx items.size 0 lo)).toArray.size<=sizeLine;rw[cw5,List.length_take,List.length_drop,Array.length_toList];omega
 have hj:sIx items.size items.size hi<=items.size:=bX0 _ _ (cw8 _) hi;obtain⟨os,hos,hcs,hds⟩:=id hs;have hTs:s.TypeIs (.ref sl) "slice":=⟨os,hos,hcs⟩
 unfold getItem
 try with_reducible refine wpAny_holding ?_
 first |refine cx9 (cy5 ?_)|skip
 refine cx9 (wpAny_sequenceKey ht.typeIs (by decide) ?_);refine cx9 (wpAny_callSpecial?_slot (name:=Str.ofString "__getitem__") ht.typeIs PyProof.Rows.slot_tuple_getitem
  (cy0 PyProof.Rows.slot_tuple_getitem ht.typeIs entry_tuple_getitem ?_ (args_tuple_getitem _ _)))
 show wpAny _ _ (Builtin.Tuple.tupleItemsOf (.ref t)>>=_) _ _ s;refine cx9 (tupleItemsOf_ ht ?_);refine cx9 (wpAny_typeOf hTs ?_);rw[cx8 (by decide)];refine cx9 (aB4 hs pl pu ?_);have hno:¬((((sIx items.size 0 lo:Nat):Int)==0&&(1:Int)==1&&(sIx items.size items.size hi-sIx items.size 0 lo)==items.size)=true):=by
  intro q;rw[cr8,cr8]at q;have q1:((sIx items.size 0 lo:Nat):Int)=0:=eq_of_beq q.1.1;have q2:sIx items.size items.size hi-sIx items.size 0 lo=items.size:=eq_of_beq q.2;exact hw ⟨by omega,by omega⟩
 show wpAny _ _ (if(((sIx items.size 0 lo:Nat):Int)==0&&(1:Int)==1&&(sIx items.size items.size hi-sIx items.size 0 lo)==items.size)=true then _ else _) _ _ s;rw[cx7 hno,bF2]
 first
  |exact cx9 (m:=Builtin.Tuple.tupleExact _) (cy3 (cy5 ⟨_,rfl,cy5 h⟩) htake)
  |exact cx9 (m:=Builtin.Tuple.tupleExact _) (cy3 (cx9 (cy5 (cy5 ⟨_,rfl,cy5 h⟩))) htake)
  |exact cx9 (cx9 (m:=Builtin.Tuple.tupleExact _) (cy3 (cy5 (cy5 ⟨_,rfl,cy5 h⟩)) htake))
  |exact cx9 (cx9 (m:=Builtin.Tuple.tupleExact _) (cy3 (cy5 ⟨_,rfl,cy5 h⟩) htake))
end
end HT
namespace L2
open PySem PySem.Spec PyProof.Rows
noncomputable abbrev TO:=St->Hp->(Option Int->Hp->Prop)->Prop
noncomputable def PO(X:Cx)(e:Option Expr)(t:TO):Prop:=
 ∀(pins:List (Addr×Obj)) (s:Shared) (σ:St) (H:Hp) (Q:Option Int->Hp->Prop),Inv X pins σ H s->t σ H Q->
  wpAny (model X.prog X.w) X.A (evalPart e X.env) (fun u s'=>∃o H',Inv X pins σ H' s'/\IsPart u o/\Q o H') X.xe s
noncomputable def bN9:TO:=fun _ H Q=>Q none H
noncomputable def ci2(t:TE):TO:=fun σ H Q=>t σ H fun x H1=>∃i,x=.int i/\Q (some i) H1
theorem ah3{ns:List Int}:∀{us:List Value},o9 (ns.map V.int) us->IntsAre us ns:=by
 induction ns with
 |nil=>intro us r;rw[cv4]at r;cases r;exact .nil
 |cons n ns ih=>
  intro us r;rw[cv2]at r;cases r with
  |cons r1 r2=>
   obtain⟨t,e⟩:=r1;subst e;exact .cons n t (ih r2)
section
variable {X:Cx}{e:Expr}{te:TE}{lo hi:Option Expr}{tl th:TO}{pos p2:Pos}
theorem bQ3:PO X none bN9:=by
 intro pins s σ H Q I h;rw[evalPart_none];exact cy5 ⟨none,H,I,.none,h⟩
theorem bQ2(h:PE X e te):PO X (some e) (ci2 te):=by
 intro pins s σ H Q I hw;rw[evalPart_some];refine thn (h pins s σ H _ I hw) fun u s1 ⟨x,H1,I1,r1,q1⟩=> ?_
 obtain⟨i,rfl,q⟩:=q1;obtain⟨t,rfl⟩:=r1;exact⟨some i,H1,I1,.int i t,q⟩
noncomputable def SlR(X:Cx)(r:V->Option Int->Option Int->Hp->VK->Prop):Prop:=
 ∀(pins:List (Addr×Obj)) (s:Shared) (σ:St) (H:Hp) (x:V) (v vl vu:Value) (lo hi:Option Int) (sl:Addr) (Q:VK),Inv X pins σ H s->r8 x v->s.heap.IsSliceOf sl vl vu .none->IsPart vl lo->IsPart vu hi->r x lo hi H Q->
  ∃T id,typeLookup (.type T) "__getitem__"=pure (some (.builtin id))/\s.TypeIs v T/\wpAny (model X.prog X.w) X.A (getItem v (.ref sl)) (EP X pins σ Q) X.xe s
theorem SlR.or{r r':V->Option Int->Option Int->Hp->VK->Prop}(h:SlR X r)(h':SlR X r'):SlR X (fun x lo hi H Q=>r x lo hi H Q\/r' x lo hi H Q):=by
 intro pins s σ H x v vl vu lo hi sl Q I rx hs pl pu q;rcases q with q|q
 ·exact h pins s σ H x v vl vu lo hi sl Q I rx hs pl pu q
 ·exact h' pins s σ H x v vl vu lo hi sl Q I rx hs pl pu q
noncomputable def tSl(r:V->Option Int->Option Int->Hp->VK->Prop)(te:TE)(tl th:TO):TE:=fun σ H Q=>te σ H fun x H1=>tl σ H1 fun l H2=>th σ H2 fun u H3=>r x l u H3 Q
theorem bF3{r:V->Option Int->Option Int->Hp->VK->Prop}(hr:SlR X r)(he:PE X e te)(hl:PO X lo tl)(hu:PO X hi th):PE X (.Subscript e (.Slice lo hi none p2) pos) (tSl r te tl th):=by
 intro pins s σ H Q I h;refine Subscript_ (thn (he pins s σ H _ I h) fun v s1 ⟨x,H1,I1,r1,q1⟩=> ?_);refine wpAny_Slice (thn (hl pins s1 σ H1 _ I1 q1) fun vl s2 ⟨l,H2,I2,pl,q2⟩=>thn (hu pins s2 σ H2 _ I2 q2) fun vu s3 ⟨u,H3,I3,pu,q3⟩=> ?_);rw[evalPart_none];refine cy5 ?_;have I4:Inv X pins σ H3 {s3 with heap:=s3.heap.push {cls:=.type "slice",data:=.fields #[vl,vu,.none]}}:=I3.kept (t':=s3.toks) fun b ob q=>cs1 _ q
 obtain⟨T,id,hT,ht,hg⟩:=hr pins {s3 with heap:=s3.heap.push {cls:=.type "slice",data:=.fields #[vl,vu,.none]}} σ H3 x v vl vu l u s3.heap.objs.size Q I4 r1 (Heap.IsSliceOf.new ..) pl pu q3;show wpAny (model X.prog X.w) X.A (subscriptTail e (.Slice lo hi none p2) v (.ref s3.heap.objs.size)) (EP X pins σ Q) X.xe {s3 with heap:=s3.heap.push {cls:=.type "slice",data:=.fields #[vl,vu,.none]}};exact tail_any (ops:=[.ref s3.heap.objs.size,v]) ht hT hg (by with_unfolding_all rfl)
noncomputable def as5(xs:List V)(lo hi:Option Int):List V:=(xs.drop (HT.sIx xs.length 0 lo)).take (HT.sIx xs.length xs.length hi-HT.sIx xs.length 0 lo)
theorem aA4(xs:List V)(lo hi:Option Int):(as5 xs lo hi).length<=xs.length:=by
 unfold as5;rw[List.length_take,List.length_drop];omega
noncomputable def co0(K:W.Frag):V->Option Int->Option Int->Hp->VK->Prop:=fun x lo hi H Q=>∃a xs,x=.ref a/\SqT K H a xs/\
 ¬(HT.sIx xs.length 0 lo=0/\HT.sIx xs.length xs.length hi=xs.length)/\∀p,H p=none->Q (.ref p) (upd H p (.tup (as5 xs lo hi)))
theorem bW9:SlR X (co0 X.K):=by
 intro pins s σ H x v vl vu lo hi sl Q I rx hs pl pu h;obtain⟨a,xs,rfl,hx,hw,q⟩:=h;cases rx;obtain⟨its,r,ht,hz⟩:=I.tuple hx;have hlen:its.toArray.size=xs.length:=by rw[cw5];exact r.length.symm
 refine⟨"tuple",_,PyProof.Rows.slot_tuple_getitem.lookup,ht.typeIs,?_⟩;refine HT.getItem_tuple_cut ht hs pl pu (by rw[hlen];exact hw) ?_ (by rw[hlen];exact hz);rw[hlen];refine⟨.ref s.heap.objs.size,_,I.laid (t':=s.toks) (o:=.tup (as5 xs lo hi)) (fun b ob q=>cs1 _ q) (cw8 _) ?_,rfl,q _ (I.hok.fresh (cw8 _))⟩;exact⟨cw9 (aA4 xs lo hi) hz,_,(r.drop (HT.sIx xs.length 0 lo)).take (HT.sIx xs.length xs.length hi-HT.sIx xs.length 0 lo),IsTup.new _ _⟩
noncomputable def bX7(K:W.Frag):R2:=fun x y H Q=>∃a b ns ms,x=.ref a/\y=.ref b/\SqT K H a (ns.map V.int)/\SqT K H b (ms.map V.int)/\Q (.bl (HT.lexLt ns ms)) H
theorem cb1(hu:X.A.units<cLine):OpR X (compareOp .Lt) (bX7 X.K):=by
 intro pins s σ H x y v u Q I rx ry h;obtain⟨a,b,ns,ms,rfl,rfl,ha,hb,q⟩:=h;cases rx;cases ry;obtain⟨its,r1,p1,_⟩:=I.tuple ha;obtain⟨its2,r2,p2,_⟩:=I.tuple hb;have i1:IntsAre its.toArray.toList ns:=ah3 r1;have i2:IntsAre its2.toArray.toList ms:=ah3 r2;exact HT.lt_tupInts p1 p2 i1 i2 hu ⟨.bl (HT.lexLt ns ms),H,I,rfl,q⟩
end
noncomputable def ixN(n:Nat)(i:Int):Option Nat:=if 0<=i then(if i<n then some i.toNat else none)else if -(n:Int)<=i then some (i+n).toNat else none
noncomputable def atI{α:Type}(xs:List α)(i:Int):Option α:=(ixN xs.length i).bind fun j=>xs[j]?
theorem bf6{n:Nat}{i:Int}{j:Nat}(h:ixN n i=some j):seqIndex? i n=some j/\j<n/\ -(n:Int)<=i/\i<n:=by
 unfold ixN at h;by_cases h0:0<=i
 ·rw[cx8 h0]at h;by_cases h1:i<n
  ·rw[cx8 h1]at h;have e:i.toNat=j:=Option.some.inj h;exact⟨by rw[seqIndex_of h0 h1,e],by omega,by omega,h1⟩
  ·rw[cx7 h1]at h;cases h
 ·rw[cx7 h0]at h;by_cases h1: -(n:Int)<=i
  ·rw[cx8 h1]at h;have e:(i+n).toNat=j:=Option.some.inj h;exact⟨by rw[seqIndex_neg (by omega) h1,e],by omega,h1,by omega⟩
  ·rw[cx7 h1]at h;cases h
theorem aL2{α:Type}{xs:List α}{i:Int}{v:α}(h:atI xs i=some v):∃j,seqIndex? i xs.length=some j/\xs[j]?=some v/\j<xs.length/\ -(xs.length:Int)<=i/\i<xs.length:=by
 unfold atI at h;cases e:ixN xs.length i with
 |none=>rw[e]at h;cases h
 |some j=>
  rw[e]at h;obtain⟨h1,h2,h3,h4⟩:=bf6 e;exact⟨j,h1,h,h2,h3,h4⟩
noncomputable def az5(b:Expr):Prop:=∀o i,subscripted b false o i=operate [o,i] (getItem o i)
noncomputable def IxR(X:Cx)(r:R2):Prop:=
 ∀(value slice:Expr) (pins:List (Addr×Obj)) (s:Shared) (σ:St) (H:Hp) (x y:V) (v u:Value) (Q:VK),Inv X pins σ H s->r8 x v->r8 y u->r x y H Q->
  subscripted slice false v u=operate [v,u] (getItem v u)->wpAny (model X.prog X.w) X.A (subscriptTail value slice v u) (EP X pins σ Q) X.xe s
noncomputable def MtR(X:Cx)(id:String)(r:V->List V->Hp->VK->Prop):Prop:=
 ∀(pins:List (Addr×Obj)) (s:Shared) (σ:St) (H:Hp) (x:V) (xs:List V) (v:Value) (us:List Value) (Q:VK),Inv X pins σ H s->r8 x v->o9 xs us->r x xs H Q->
  wpAny (model X.prog X.w) X.A (call (.builtin id) (v::us)) (EP X pins σ Q) X.xe s
section
variable {X:Cx}{a b:Expr}{ta tb:TE}{pos:Pos}
theorem IxR.or{r r':R2}(h:IxR X r)(h':IxR X r'):IxR X (fun x y H Q=>r x y H Q\/r' x y H Q):=by
 intro value slice pins s σ H x y v u Q I rx ry q hs;rcases q with q|q
 ·exact h value slice pins s σ H x y v u Q I rx ry q hs
 ·exact h' value slice pins s σ H x y v u Q I rx ry q hs
theorem bL2{r:R2}(hr:IxR X r)(ha:PE X a ta)(hb:PE X b tb)(hs:az5 b):PE X (.Subscript a b pos) (tOp r ta tb):=by
 intro pins s σ H Q I h;exact Subscript_ (bJ0 ha hb I h fun v u s2 x y H2 I2 rx ry q=>hr a b pins s2 σ H2 x y v u Q I2 rx ry q (hs _ _))
noncomputable def bY0(K:W.Frag):R2:=fun x y H Q=>∃p xs i v,x=.ref p/\y=.int i/\SqL K H p xs/\atI xs i=some v/\Q v H
noncomputable def bX8(K:W.Frag):R2:=fun x y H Q=>∃p xs i v,x=.ref p/\y=.int i/\SqT K H p xs/\atI xs i=some v/\Q v H
noncomputable def bX9:R2:=fun x y H Q=>∃z i c,x=.str z/\y=.int i/\z.length<=sizeLine/\atI z.cps.toList i=some c/\Q (.str ⟨#[c]⟩) H
theorem bf5:IxR X (bY0 X.K):=by
 intro value slice pins s σ H x y v u Q I rx ry h hs;obtain⟨p,xs,i,z,rfl,rfl,hq,he,q⟩:=h;cases rx;obtain⟨t,rfl⟩:=ry;obtain⟨its,r,pl,hz⟩:=I.list hq;obtain⟨j,h1,h2,h3,h4,h5⟩:=aL2 he;obtain⟨w,ew,rw'⟩:=r.get h2;have hl:=r.length;have hn:=aj5;have fin:EP X pins σ Q w s:=⟨z,H,I,rw',q⟩
 by_cases h0:0<=i
 ·have hj:i.toNat=j:=by
   rw[seqIndex_of h0 h5]at h1;exact Option.some.inj h1
  exact item_listR pl.isList h0 (by omega) (by rw[hj];simpa using ew) fin hs
 ·have hj:(i+(its.toArray.size:Int)).toNat=j:=by
   rw[seqIndex_neg (by omega) h4]at h1;rw[cw5,<-hl];exact Option.some.inj h1
  exact subscriptTail_builtinR (x:=w) pl.isList.typeIs slot_list_getitem.lookup
   (wpAny_getItem_list_neg (Q:=fun r s'=>r=w/\EP X pins σ Q r s') pl.isList (by omega) (by rw[cw5]<;>omega) (by omega) (by rw[hj];simpa using ew) ⟨rfl,fin⟩) hs
theorem cc8:IxR X (bX8 X.K):=by
 intro value slice pins s σ H x y v u Q I rx ry h hs;obtain⟨p,xs,i,z,rfl,rfl,hq,he,q⟩:=h;cases rx;obtain⟨t,rfl⟩:=ry;obtain⟨its,r,pl,hz⟩:=I.tuple hq;obtain⟨j,h1,h2,h3,h4,h5⟩:=aL2 he;obtain⟨w,ew,rw'⟩:=r.get h2;have hl:=r.length;have hn:=aj5;have fin:EP X pins σ Q w s:=⟨z,H,I,rw',q⟩
 exact subscriptTail_builtinR (x:=w) pl.typeIs slot_tuple_getitem.lookup
  (getItem_tuple (j:=j) (Q:=fun r s'=>r=w/\EP X pins σ Q r s') pl (by omega) (by omega) (by rw[cw5,<-hl];exact h1) (by simpa using ew) ⟨rfl,fin⟩) hs
theorem cc9:IxR X bX9:=by
 intro value slice pins s σ H x y v u Q I rx ry h hs;obtain⟨z,i,c,rfl,rfl,hz,he,q⟩:=h;obtain⟨t,rfl⟩:=rx;obtain⟨t',rfl⟩:=ry;obtain⟨j,h1,h2,h3,h4,h5⟩:=aL2 he;have hl:z.cps.toList.length=z.length:=by simp[Str.length]
 rw[hl]at h1 h4 h5;have hn:=aj5;exact tail_any (typeIs_str s z t) slot_str_getitem.lookup (getItem_str (c:=c) (by
  have e1:decide (i< -(2^63:Int))=false:=cx4 (by omega);have e2:decide (i>=2^63)=false:=cx4 (by omega);rw[e1,e2,Bool.or_false]) (by rw[h1];simpa using h2) ⟨.str ⟨#[c]⟩,H,I.tok _,⟨_,rfl⟩,q⟩) hs
noncomputable def rIx(K:W.Frag):R2:=fun x y H Q=>bY0 K x y H Q\/bX8 K x y H Q\/bX9 x y H Q
theorem cd0:IxR X (rIx X.K):=bf5.or (cc8.or cc9)
theorem bl4(its:List Value)(n j:Nat)(u:Value):Obj.mapSeq (·.setIfInBounds j u) {cls:=.type "list",data:=.seq its.toArray n}={cls:=.type "list",data:=.seq (its.set j u).toArray n}:=by
 simp[Obj.mapSeq]
theorem Inv.lst{pins:List (Addr×Obj)}{σ:St}{H:Hp}{s:Shared}{p:Addr}{xs:List V}(I:Inv X pins σ H s)(h:H p=some (.lst xs)):
  ∃(its:List Value) (n:Nat),o9 xs its/\s.heap.get? p=some {cls:=.type "list",data:=.seq its.toArray n}/\xs.length<=sizeLine:=by
 obtain⟨z,its,n,r,e⟩:=I.hok p _ h;exact⟨its,n,r,e,z⟩
theorem Inv.lstUpd{pins:List (Addr×Obj)}{σ:St}{H:Hp}{s:Shared}{p:Addr}{xs ys:List V}{its its':List Value}{n n':Nat}{f:Obj->Obj}(I:Inv X pins σ H s)(h:H p=some (.lst xs))
  (ho:s.heap.get? p=some {cls:=.type "list",data:=.seq its.toArray n}) (hf:f {cls:=.type "list",data:=.seq its.toArray n}={cls:=.type "list",data:=.seq its'.toArray n'}) (r:o9 ys its') (hz:ys.length<=sizeLine) (t:Nat):
  Inv X pins σ (upd H p (.lst ys)) {s with heap:=s.heap.update p f,toks:=t}:=by
 have e:(s.heap.update p f).get? p=some {cls:=.type "list",data:=.seq its'.toArray n'}:=by
  rw[cs4 f ho (by rw[hf]<;>rfl),hf]
 refine I.write (x:=p) (e:=p) (by rw[h];trivial) (.inl rfl) (fun b u hb q=>(cs3 _ _ (Ne.symm hb)).trans q) ⟨_,e⟩ ?_;exact⟨hz,its',n',r,e⟩
noncomputable def cj2:V->V->V->Hp->(Hp->Prop)->Prop:=fun o i v H Q=>∃p xs k j,o=.ref p/\i=.int k/\H p=some (.lst xs)/\ixN xs.length k=some j/\Q (upd H p (.lst (xs.set j v)))
theorem aS4:bJ7 X cj2:=by
 intro pins s σ H o i v ov iv u Q I ro ri rv h;obtain⟨p,xs,k,j,rfl,rfl,hp,hj,q⟩:=h;cases ro;obtain⟨t,rfl⟩:=ri;obtain⟨its,n,r,ho,hz⟩:=I.lst hp;obtain⟨h1,h2,h3,h4⟩:=bf6 hj;have hl:=r.length;have hn:=aj5;have I':Inv X pins σ (upd H p (.lst (xs.set j v))) {s with heap:=s.heap.update p (Obj.mapSeq (·.setIfInBounds j u))}:=
  I.lstUpd hp ho (bl4 its n j u) (r.set rv j) (by rw[cu9];exact hz) s.toks
 by_cases h0:0<=k
 ·have hk:k.toNat=j:=by
   rw[seqIndex_of h0 h4]at h1;exact Option.some.inj h1
  exact W.ki_setAt ho h0 (by omega) (by rw[cw5,<-hl];exact h4) (by rw[hk];exact⟨_,I',q⟩)
 ·have hk:(k+(its.toArray.size:Int)).toNat=j:=by
   rw[seqIndex_neg (by omega) h3]at h1;rw[cw5,<-hl];exact Option.some.inj h1
  exact W.ki_setBack ho (by omega) (by rw[cw5,<-hl];exact h3) (by omega) (by rw[hk];exact⟨_,I',q⟩)
theorem aS3(lo hi:Option Int)(n:Nat):(sliceBounds lo hi none n).1=((HT.sIx n 0 lo:Nat):Int)/\(sliceBounds lo hi none n).2.1=((HT.sIx n n hi:Nat):Int)/\(sliceBounds lo hi none n).2.2=1:=by
 refine⟨?_,?_,rfl⟩
 ·cases lo with
  |none=>simp[sliceBounds,HT.sIx]
  |some i=>
   simp only[sliceBounds,HT.sIx,Option.getD_none,show(1:Int)>0 by decide,if_true];by_cases h:i<0
   ·simp only[h,if_true]<;>omega
   ·simp only[h,if_false]<;>omega
 ·cases hi with
  |none=>simp[sliceBounds,HT.sIx]
  |some i=>
   simp only[sliceBounds,HT.sIx,Option.getD_none,show(1:Int)>0 by decide,if_true];by_cases h:i<0
   ·simp only[h,if_true]<;>omega
   ·simp only[h,if_false]<;>omega
theorem aP0(its:List Value)(lo hi:Option Int):slicePick its.toArray lo hi none=((its.drop (HT.sIx its.length 0 lo)).take (HT.sIx its.length its.length hi-HT.sIx its.length 0 lo)).toArray:=by
 obtain⟨h1,h2,h3⟩:=aS3 lo hi its.toArray.size;unfold slicePick;rw[h1,h2,h3];simp only[sliceRange_one,pick_run,cw5]<;>rfl
noncomputable def co1(K:W.Frag):V->Option Int->Option Int->Hp->VK->Prop:=fun x lo hi H Q=>∃a xs,x=.ref a/\SqL K H a xs/\∀p,H p=none->Q (.ref p) (upd H p (.lst (as5 xs lo hi)))
theorem bO2:SlR X (co1 X.K):=by
 intro pins s σ H x v vl vu lo hi sl Q I rx hs pl pu h;obtain⟨a,xs,rfl,hx,q⟩:=h;cases rx;obtain⟨its,r,ht,hz⟩:=I.list hx;have hlen:=r.length;refine⟨"list",_,slot_list_getitem.lookup,ht.isList.typeIs,?_⟩;refine wpAny_getItem_list_slice ht.isList hs pl pu .none (by simp) ?_ (by rw[cw5]<;>omega);rw[aP0,<-hlen];refine⟨.ref s.heap.objs.size,_,I.laid (t':=s.toks) (o:=.lst (as5 xs lo hi)) (fun b ob q=>cs1 _ q) (cw8 _) ?_,rfl,q _ (I.hok.fresh (cw8 _))⟩;exact⟨cw9 (aA4 xs lo hi) hz,_,0,(r.drop (HT.sIx xs.length 0 lo)).take (HT.sIx xs.length xs.length hi-HT.sIx xs.length 0 lo),cs2 _ rfl⟩
noncomputable def ac6:V->Bool
 |.non=>true
 |.bl _=>true
 |.int _=>true
 |.str _=>true
 |_=>false
noncomputable def eqV:V->V->Bool
 |.non,.non=>true
 |.bl a,.bl b=>a==b
 |.bl a,.int b=>(if a then 1 else 0)==b
 |.int a,.bl b=>a==(if b then 1 else 0)
 |.int a,.int b=>a==b
 |.str a,.str b=>a==b
 |_,_=>false
theorem ce6{A:Around}{s:Shared}{y x:V}{u v:Value}(ry:r8 y u)(rx:r8 x v)(fy:ac6 y=true)(fx:ac6 x=true):SeqAt.EqAt A s u v (eqV y x):=by
 cases y with
 |non=>
  cases ry;cases x with
  |non=>cases rx;exact SeqAt.EqAt.same _
  |bl b=>cases rx;exact SeqAt.EqAt.none_bool b
  |int b=>obtain⟨t,rfl⟩:=rx;exact SeqAt.EqAt.none_int b t
  |str b=>obtain⟨t,rfl⟩:=rx;exact SeqAt.EqAt.none_str b t
  |_=>exact absurd (show false=true from fx) cs0
 |bl a=>
  cases ry;cases x with
  |non=>cases rx;exact SeqAt.EqAt.bool_none a
  |bl b=>cases rx;exact SeqAt.EqAt.bool_bool a b
  |int b=>obtain⟨t,rfl⟩:=rx;exact SeqAt.EqAt.bool_int a b t
  |str b=>obtain⟨t,rfl⟩:=rx;exact SeqAt.EqAt.bool_str a b t
  |_=>exact absurd (show false=true from fx) cs0
 |int a=>
  obtain⟨t',rfl⟩:=ry;cases x with
  |non=>cases rx;exact SeqAt.EqAt.int_none a t'
  |bl b=>cases rx;exact SeqAt.EqAt.int_bool a t' b
  |int b=>obtain⟨t,rfl⟩:=rx;exact SeqAt.EqAt.int_int a t' b t
  |str b=>obtain⟨t,rfl⟩:=rx;exact SeqAt.EqAt.int_str a t' b t
  |_=>exact absurd (show false=true from fx) cs0
 |str a=>
  obtain⟨t',rfl⟩:=ry;cases x with
  |non=>cases rx;exact SeqAt.EqAt.str_none a t'
  |bl b=>cases rx;exact SeqAt.EqAt.str_bool a t' b
  |int b=>obtain⟨t,rfl⟩:=rx;exact SeqAt.EqAt.str_int a t' b t
  |str b=>obtain⟨t,rfl⟩:=rx;exact SeqAt.EqAt.str_str a t' b t
  |_=>exact absurd (show false=true from fx) cs0
 |_=>exact absurd (show false=true from fy) cs0
noncomputable def eqU(x:V)(u:Value):Bool:=match u with
 |.none=>eqV .non x
 |.bool b=>eqV (.bl b) x
 |.int i _=>eqV (.int i) x
 |.str z _=>eqV (.str z) x
 |_=>false
theorem bx9{x y:V}{u:Value}(r:r8 y u)(f:ac6 y=true):eqU x u=eqV y x:=by
 cases y with
 |non=>cases r;rfl
 |bl b=>cases r;rfl
 |int i=>obtain⟨t,rfl⟩:=r;rfl
 |str z=>obtain⟨t,rfl⟩:=r;rfl
 |_=>exact absurd (show false=true from f) cs0
theorem aL3{x:V}:∀{xs:List V}{us:List Value},o9 xs us->xs.all ac6=true->us.any (eqU x)=xs.any fun y=>eqV y x
 |_,_,.nil,_=>rfl
 |y::xs,u::us,.cons r t,f=>by
  rw[cs7,cr8]at f;rw[cs8,cs8,bx9 r f.1,aL3 t f.2]
theorem aC9{A:Around}{s:Shared}{x:V}{v:Value}(rx:r8 x v)(fx:ac6 x=true):∀{xs:List V}{us:List Value},o9 xs us->xs.all ac6=true->∀u∈us,SeqAt.EqAt A s u v (eqU x u)
 |_,_,.nil,_=>fun u hu=>by cases hu
 |y::xs,u::us,.cons r t,f=>fun u' hu=>by
  rw[cs7,cr8]at f;rcases List.mem_cons.mp hu with rfl|hu
  ·rw[bx9 r f.1];exact ce6 r rx f.1 fx
  ·exact aC9 rx fx t f.2 u' hu
noncomputable def inV(x:V)(xs:List V):Bool:=xs.any fun y=>eqV y x
noncomputable def rIn(K:W.Frag)(neg:Bool):R2:=fun x y H Q=>∃p xs,y=.ref p/\(SqL K H p xs\/SqT K H p xs)/\ac6 x=true/\xs.all ac6=true/\Q (.bl (if neg then !inV x xs else inV x xs)) H
theorem aM8:OpR X (compareOp .In) (rIn X.K false):=by
 intro pins s σ H x y v u Q I rx ry h;obtain⟨p,xs,rfl,hq,fx,fs,q⟩:=h;cases ry;rcases hq with hq|hq
 ·obtain⟨its,r,pl,hz⟩:=I.list hq;refine SeqAt.in_listAt (eqU x) pl.isList (fun w hw=>aC9 rx fx r fs w (by simpa using hw)) ⟨.bl _,H,I,rfl,?_⟩;rw[show its.toArray.any (eqU x)=its.any (eqU x) by simp,aL3 r fs];exact q
 ·obtain⟨its,r,pl,hz⟩:=I.tuple hq;refine SeqAt.in_tupleAt (eqU x) pl (fun w hw=>aC9 rx fx r fs w (by simpa using hw)) ⟨.bl _,H,I,rfl,?_⟩;rw[show its.toArray.any (eqU x)=its.any (eqU x) by simp,aL3 r fs];exact q
theorem aY9:O3 X (.builtin "len") (fun xs H Q=>∃p ys,xs=[.ref p]/\(SqL X.K H p ys\/SqT X.K H p ys)/\Q (.int ys.length) H):=by
 intro pins s σ H xs us Q I r h;obtain⟨p,ys,rfl,hq,q⟩:=h;obtain⟨u,rfl,rx⟩:=X6 r;cases rx;have hn:=aj5;rcases hq with hq|hq
 ·obtain⟨its,r',pl,hz⟩:=I.list hq;have hlen:=r'.length;exact Calls.call_len_list pl.isList (by simp only[cw5]<;>omega) ⟨.int ys.length,H,I.tok _,⟨s.toks+1,by rw[cw5,hlen]⟩,q⟩
 ·obtain⟨its,r',pl,hz⟩:=I.tuple hq;have hlen:=r'.length;exact len_tuple pl (by simp only[cw5]<;>omega) ⟨.int ys.length,H,I.tok _,⟨s.toks+1,by rw[cw5,hlen]⟩,q⟩
theorem aY8:O3 X (.type "list") (fun xs H Q=>∃p ys,xs=[.ref p]/\(SqL X.K H p ys\/SqT X.K H p ys)/\∀l,H l=none->Q (.ref l) (upd H l (.lst ys))):=by
 intro pins s σ H xs us Q I r h;obtain⟨p,ys,rfl,hq,q⟩:=h;obtain⟨u,rfl,rx⟩:=X6 r;cases rx;have fin:∀(its:List Value),o9 ys its->ys.length<=sizeLine->∀(h':Heap) (c':Nat),(∀b o',s.heap.get? b=some o'->h'.get? b=some o')->
   h'.get? s.heap.objs.size=some {cls:=.type "list",dict:=none,data:=.seq its.toArray c',slots:=#[]}->EP X pins σ Q (.ref s.heap.objs.size) {s with heap:=h'}:=fun its r' hz h' c' kp e=>
  ⟨.ref s.heap.objs.size,_,I.laid (t':=s.toks) kp (cw8 _) (show J6 X.prog X.w _ h' _ (.lst ys)from⟨hz,its,c',r',e⟩),rfl,q _ (I.hok.fresh (cw8 _))⟩
 rcases hq with hq|hq
 ·obtain⟨its,r',pl,hz⟩:=I.list hq;have hlen:=r'.length;obtain⟨o,ho,hc,n,hd⟩:=pl.isList;exact call_list_seq p (.inl rfl) ho hc hd (fun h' c' kp e=>fin its r' hz h' c' kp e) (by simp only[cw5]<;>omega)
 ·obtain⟨its,r',pl,hz⟩:=I.tuple hq;have hlen:=r'.length;obtain⟨o,ho,hc,n,hd⟩:=pl;exact call_list_seq p (.inr rfl) ho hc hd (fun h' c' kp e=>fin its r' hz h' c' kp e) (by simp only[cw5]<;>omega)
noncomputable def tyV(K:W.Frag)(T:String)(x:V)(H:Hp):Prop:=match x with
 |.str _=>T="str"
 |.int _=>T="int"
 |.ref p=>(T="list"/\∃xs,SqL K H p xs)\/(T="tuple"/\∃o,K.lookup p=some o/\o.cls=.type "tuple"/\o.dict=none)\/
   (T="dict"/\((∃kvs,H p=some (.dK kvs))\/∃kvs,H p=some (.dT kvs)))\/(T="set"/\∃S n,H p=some (.set S n))
 |_=>False
theorem bV8{pins:List (Addr×Obj)}{σ:St}{H:Hp}{s:Shared}{T:String}{x:V}{v:Value}(I:Inv X pins σ H s)(r:r8 x v)(ty:tyV X.K T x H):
  s.TypeIs v T/\∀a,v=.ref a->∃ob,s.heap.get? a=some ob/\ob.dict=none:=by
 cases x with
 |str z=>
  obtain⟨t,rfl⟩:=r;cases(show T="str"from ty);exact⟨typeIs_str s z t,fun _ e=>nomatch e⟩
 |int i=>
  obtain⟨t,rfl⟩:=r;cases(show T="int"from ty);exact⟨typeIs_int s i t,fun _ e=>nomatch e⟩
 |ref p=>
  cases r;rcases ty with⟨rfl,xs,hq⟩|⟨rfl,o,hk,hc,hd⟩|⟨rfl,hk⟩|⟨rfl,S,n,hk⟩
  ·obtain⟨its,_,pl,_⟩:=I.list hq;refine⟨pl.isList.typeIs,fun a e=> ?_⟩;cases e;obtain⟨o,n,e,c,hd,_⟩:=pl;exact⟨o,e,hd⟩
  ·refine⟨⟨o,I.kIn p o hk,hc⟩,fun a e=> ?_⟩;cases e;exact⟨o,I.kIn _ o hk,hd⟩
  ·have z:∃o,s.heap.get? p=some o/\o.ExactDict:=by
    rcases hk with⟨kvs,hk⟩|⟨kvs,hk⟩
    ·obtain⟨_,_,_,_,o,_,_,e,ex,_⟩:=I.hok p _ hk;exact⟨o,e,ex⟩
    ·obtain⟨_,_,_,_,o,_,_,e,ex,_⟩:=I.hok p _ hk;exact⟨o,e,ex⟩
   obtain⟨o,e,ex⟩:=z;refine⟨⟨o,e,ex.1⟩,fun a e2=> ?_⟩;cases e2;exact⟨o,e,ex.2.1⟩
  ·obtain⟨o,_,_,_,e,ex,_⟩:=I.hok p _ hk;refine⟨⟨o,e,ex.1⟩,fun a e2=> ?_⟩;cases e2;exact⟨o,e,ex.2.1⟩
 |_=>exact False.elim ty
noncomputable def tBM(K:W.Frag)(T:String)(r:V->List V->Hp->VK->Prop)(to:TE)(t:TA):TE:=fun σ H Q=>to σ H fun x H1=>tyV K T x H1/\t σ H1 fun xs H2=>r x xs H2 Q
variable {o e:Expr}{es:List Expr}{to:TE}{t:TA}{name:Str}{apos cpos:Pos}{T id:String}{r:V->List V->Hp->VK->Prop}
theorem bj5(pa:PlainAttrs T)(slot:Slot T name id)(hty:typeOf (.builtin id)=pure (.type "method_descriptor"))(hm:MtR X id r)(ho:PE X o to)(ha:PA X (e::es) t)
  (hbase:attributeBase o name X.env (eval o X.env)=eval o X.env:=by rfl)
  (hfew:((backTo cpos (starEach (e::es) X.env)).all (fun x=> !x.1)&&(backToKw cpos (keywordEach [] X.env)).all (fun x=>x.1.isSome)
   &&decide ((e::es).length+([]:List Keyword).length+(if([]:List Keyword).isEmpty then 0 else 1)<30))=true:=by rfl)
  (hline:(apos.endLine==cpos.line)=true:=by rfl) (hs:starEach (e::es) X.env=(false,eval e X.env)::starEach es X.env:=by rfl) (hplain:(backTo cpos (starEach es X.env)).any (·.1)=false:=by rfl):
  PE X (.Call (.Attribute o name apos) (e::es) [] cpos) (tBM X.K T r to t):=by
 intro pins s σ H Q I h;refine wpAny_Call_method_late hbase hfew hline rfl (thn (ho pins s σ H _ I h) fun v s1 ⟨x,H1,I1,r1,ty,q1⟩=> ?_);obtain⟨h1,h2⟩:=bV8 I1 r1 ty;refine⟨T,id,pa,slot,hty,h1,h2,?_⟩;have hA:=ha cpos pins s1 σ H1 _ I1 q1;rw[hs]at hA⊢;refine Calls.callWith_builtin (by show(false||(backTo cpos (starEach es X.env)).any (·.1))=false;rw[hplain]<;>rfl) (Calls.evalArgs_plain ?_);exact thn hA fun us s2 ⟨vs,H2,I2,r2,q2⟩=>hm pins s2 σ H2 x vs v us Q I2 r1 r2 q2
end
noncomputable def MtM(X:Cx)(id:String)(r:V->List V->Hp->VK->Prop):Prop:=
 ∀(pins:List (Addr×Obj)) (s:Shared) (σ:St) (H:Hp) (x:V) (xs:List V) (v:Value) (us:List Value) (Q:VK),Inv X pins σ H s->r8 x v->o9 xs us->r x xs H Q->
  wpAny (model X.prog X.w) X.A (call (.builtin id) (v::us)) (EP X pins σ Q) X.xe s
theorem o9.one:∀{x:V}{us:List Value},o9 [x] us->∃u,us=[u]/\r8 x u
 |_,_,.cons r .nil=>⟨_,rfl,r⟩
theorem o9.eraseIdx:∀{xs:List V}{us:List Value}(i:Nat),o9 xs us->o9 (xs.eraseIdx i) (us.eraseIdx i)
 |_,_,_,.nil=>.nil
 |_,_,0,.cons _ t=>t
 |_,_,i+1,.cons r t=>.cons r (o9.eraseIdx i t)
theorem o9.rep{xs:List V}{us:List Value}(h:o9 xs us):∀k:Nat,o9 (List.replicate k xs).flatten (List.replicate k us).flatten
 |0=>.nil
 |k+1=>by
  rw[cw2,cw2,List.flatten_cons,List.flatten_cons];exact o9.append h (o9.rep h k)
theorem aN1{α:Type}:∀(l:List α) (i:Nat),(l.eraseIdx i).length<=l.length
 |[],_=>cw8 _
 |_::_,0=>Nat.le_succ _
 |_::r,i+1=>Nat.succ_le_succ (aN1 r i)
theorem aN6(its:List Value):∀(k:Nat) (acc:List Value),
  List.foldl (fun x1 x2=>x1++x2) acc.toArray (List.replicate k its.toArray)=(acc++(List.replicate k its).flatten).toArray
 |0,acc=>by simp
 |k+1,acc=>by
  have e:acc.toArray++its.toArray=(acc++its).toArray:=by simp
  have e2:(acc++its)++(List.replicate k its).flatten=acc++(List.replicate (k+1) its).flatten:=by
   rw[cw2,List.flatten_cons,List.append_assoc]
  rw[<-e2,<-aN6 its k (acc++its),<-e,cw2,ct2]
section
variable {X:Cx}{pins:List (Addr×Obj)}{σ:St}{H:Hp}{s:Shared}{l b:Addr}{xs ys zs:List V}
theorem Inv.lset{its its':List Value}{n:Nat}{f:Array Value->Array Value}{t':Nat}(I:Inv X pins σ H s)(hH:H l=some (.lst xs))
  (e:s.heap.get? l=some {cls:=.type "list",data:=.seq its.toArray n}) (hf:f its.toArray=its'.toArray) (hv:o9 ys its') (hz:ys.length<=sizeLine):
  Inv X pins σ (upd H l (.lst ys)) {s with heap:=s.heap.update l (Obj.mapSeq f),toks:=t'}:=by
 have q:=PySem.IsL.update e f;rw[hf]at q;refine I.write (x:=l) (e:=l) (by rw[hH];exact trivial) (.inl rfl) (fun b' u hb hu=>(cs3 s.heap (Obj.mapSeq f) (Ne.symm hb)).trans hu) ⟨_,q⟩ ?_;exact⟨hz,its',_,hv,q⟩
theorem Inv.lnew{its:List Value}{t':Nat}(I:Inv X pins σ H s)(hv:o9 ys its)(hz:ys.length<=sizeLine):
  Inv X pins σ (upd H s.heap.objs.size (.lst ys)) {s with heap:=s.heap.push {cls:=.type "list",data:=.seq its.toArray},toks:=t'}:=
 I.laid (fun _ _ q=>cs1 _ q) (cw8 _) ⟨hz,its,0,hv,cs2 _ rfl⟩
theorem Inv.fresh(I:Inv X pins σ H s):H s.heap.objs.size=none:=I.hok.fresh (cw8 _)
theorem Inv.lstM(I:Inv X pins σ H s)(hH:H l=some (.lst xs)):xs.length<=sizeLine/\∃(its:List Value) (n:Nat),o9 xs its/\xs.length=its.length/\s.heap.get? l=some {cls:=.type "list",data:=.seq its.toArray n}:=by
 obtain⟨z,its,n,r,e⟩:=I.hok l _ hH;exact⟨z,its,n,r,r.length,e⟩
theorem bG3{n:Nat}(h:n<=sizeLine):Builtin.List.listTooLong n=false:=by
 unfold Builtin.List.listTooLong;exact cx4 (by omega)
end
section
variable {X:Cx}
noncomputable def bO8:V->List V->Hp->VK->Prop:=fun x vs H Q=>∃l xs y,x=.ref l/\vs=[y]/\H l=some (.lst xs)/\xs.length<sizeLine/\Q .non (upd H l (.lst (xs++[y])))
theorem aM9:MtM X "list.append" bO8:=by
 intro pins s σ H x vs v us Q I rx rv h;obtain⟨l,xs,y,rfl,rfl,hH,hz,q⟩:=h;cases rx;obtain⟨u,rfl,ru⟩:=rv.one;obtain⟨z,its,n,r,hl,e⟩:=I.lstM hH;refine call_meets F.slot_list_append ⟨_,e,rfl⟩ F.entry_list_append (F.args_list_append_2 _ _) (PySem.list_append l its.toArray n u (by rw[cw5];omega)) ⟨e,?_⟩;refine⟨.non,_,I.lset (its':=its++[u]) hH e (by simp) (r.append (.cons ru .nil)) ?_,rfl,q⟩;rw[cu4,List.length_singleton];omega
noncomputable def bX6:V->List V->Hp->VK->Prop:=fun x vs H Q=>∃l xs i k y,x=.ref l/\vs=[.int i]/\H l=some (.lst xs)/\ -(2^63)<=i/\i<2^63/\seqIndex? i xs.length=some k/\xs[k]?=some y/\Q y (upd H l (.lst (xs.eraseIdx k)))
theorem bG7:MtM X "list.pop" bX6:=by
 intro pins s σ H x vs v us Q I rx rv h;obtain⟨l,xs,i,k,y,rfl,rfl,hH,h1,h2,hk,hy,q⟩:=h;cases rx;obtain⟨u,rfl,ru⟩:=rv.one;obtain⟨t,rfl⟩:=ru;obtain⟨z,its,n,r,hl,e⟩:=I.lstM hH;obtain⟨w,hw,rw'⟩:=r.get hy;refine call_meets F.slot_list_pop ⟨_,e,rfl⟩ F.entry_list_pop (F.args_list_pop_2 _ _)
  (MeetsSeq.list_pop_at l its.toArray n i t k w (fitsIndex_both h1 h2) (by rw[cw5,<-hl];exact hk) (by rw[<-Array.getElem?_toList];exact hw) (by rw[cw5];omega)) ⟨e,?_⟩
 refine⟨y,_,I.lset (its':=its.eraseIdx k) hH e ?_ (r.eraseIdx k) ?_,rw',q⟩
 ·show its.toArray.eraseIdxIfInBounds k=(its.eraseIdx k).toArray;rw[List.eraseIdxIfInBounds_toArray]
 ·have :=aN1 xs k;omega
noncomputable def bY2:R2:=fun x y H Q=>∃l b xs zs,x=.ref l/\y=.ref b/\H l=some (.lst xs)/\H b=some (.lst zs)/\xs.length+zs.length<=sizeLine/\∀p,H p=none->Q (.ref p) (upd H p (.lst (xs++zs)))
theorem cb3:OpR X (binaryOp .Add) bY2:=by
 intro pins s σ H x y v u Q I rx ry h;obtain⟨l,b,xs,zs,rfl,rfl,hH,hB,hz,q⟩:=h;cases rx;cases ry;obtain⟨z,its,n,r,hl,e⟩:=I.lstM hH;obtain⟨z2,its2,n2,r2,hl2,e2⟩:=I.lstM hB;refine PySem.P.add_list e e2 ?_ (by rw[cw5,cw5];omega);have ea:its.toArray++its2.toArray=(its++its2).toArray:=by simp
 rw[ea];exact⟨.ref _,_,I.lnew (t':=s.toks) (r.append r2) (by rw[cu4];omega),rfl,q _ I.fresh⟩
noncomputable def bX5:R2:=fun x y H Q=>∃l k xs,x=.ref l/\y=.int k/\H l=some (.lst xs)/\ -(2^63)<=k/\k<2^63/\xs.length*k.toNat<=sizeLine/\
 ∀p,H p=none->Q (.ref p) (upd H p (.lst (List.replicate k.toNat xs).flatten))
theorem bS8{α:Type}(xs:List α)(k:Nat):(List.replicate k xs).flatten.length=k*xs.length:=by
 induction k with
 |zero=>simp
 |succ k ih=>rw[cw2,List.flatten_cons,cu4,ih,Nat.succ_mul,Nat.add_comm]
theorem ca7:OpR X (binaryOp .Mult) bX5:=by
 intro pins s σ H x y v u Q I rx ry h;obtain⟨l,k,xs,rfl,rfl,hH,h1,h2,hz,q⟩:=h;cases rx;obtain⟨t,rfl⟩:=ry;obtain⟨z,its,n,r,hl,e⟩:=I.lstM hH;have hlen:its.toArray.size*k.toNat<=sizeLine:=by rw[cw5,<-hl];exact hz
 have hcap:¬its.toArray.size*k.toNat>(2^63-1)/8:=by
  have :(sizeLine:Nat)<=(2^63-1)/8:=by decide
  omega
 have hfit:¬(!Builtin.List.listFitsIndex k)=true:=by
  rw[fitsIndex_both h1 h2];exact cs0
 have hlong:¬Builtin.List.listTooLong (its.toArray.size*k.toNat)=true:=by
  rw[bG3 hlen];exact cs0
 have hnew:List.foldl (fun x1 x2=>x1++x2) #[] (List.replicate (if its.toArray.isEmpty=true then 0 else k.toNat) its.toArray)=(List.replicate k.toNat its).flatten.toArray:=by
  have f0:∀m:Nat,List.foldl (fun x1 x2=>x1++x2) #[] (List.replicate m its.toArray)=(List.replicate m its).flatten.toArray:=fun m=>by
   have :=aN6 its m [];rw[cw0]at this;exact this
  rw[f0];cases its with
  |nil=>simp
  |cons a r'=>rw[cx7 (by simp)]
 refine wpAny_binaryOp_repeat_ref (T:="list") (U:="int") (by decide) ⟨_,e,rfl⟩ (fun s'=>typeIs_int s' k t) noFill_list_mul F.fills_int_mul F.slot_int_rmul repeat_list F.slot_int_index.lookup
  (call_meets F.slot_int_rmul (typeIs_int s k t) F.entry_int_rmul (F.args_int_rmul_2 _ _) (int___rmul___int_list k t l its.toArray n)
   ⟨e,rfl,⟨_,e,rfl⟩,call_meets F.slot_list_mul ⟨_,e,rfl⟩ F.entry_list_mul (F.args_list_mul_2 _ _) (AutoListH.list___mul___list_int_3 l its.toArray n k t hfit hcap hlong) ⟨e,?_⟩⟩)
 rw[hnew];exact⟨.ref _,_,I.lnew (t':=s.toks) (r.rep k.toNat) (by rw[bS8,Nat.mul_comm];exact hz),rfl,q _ I.fresh⟩
end
section
variable {prog:Program}{w:World}{A:Around}{E:Value->Shared->Prop}{s:Shared}
end
section
variable {X:Cx}
end
end L2
namespace Att
open PySem PySem.W PySem.Calls PyProof.Rows
theorem aH1{P:Params}{h:Heap}:∀(ns:List Int) (vs:List Value),WellAll P h vs (ns.map WData.int)->IntsAre vs ns:=by
 intro ns;induction ns with
 |nil=>
  intro vs w;rw[cv4]at w;cases w;exact .nil
 |cons n ns ih=>
  intro vs w;rw[cv2]at w;cases w with
  |cons a b=>
   cases a;exact .cons _ _ (ih _ b)
theorem bq6{l:OpenLaw}{n:Nat}(hn:l.most=some n){P:Params}{h:Heap}{args:List WData}{vals:List Value}
  (hpre:l.row.toRowW.claim.pre args=true) (hwl:WellAll P h vals args):
  ∃a vs ns,vals=[Value.ref a]/\args=[WData.list (ns.map WData.int)]/\h.get? a=some {cls:=.type "list",data:=.seq vs.toArray}/\IntsAre vs ns/\ns.length<=n:=by
 have hsh:WShape.hasAll [] args [.list .int]=true:=(pre_splitW hpre).1;have hc:l.pre.holds [] {args:=args}=true:=(pre_splitW hpre).2;obtain⟨d,r,rfl,h1,h2⟩:=hasAllW_cons hsh;obtain rfl:=hasAllW_nil h2;obtain⟨xs,rfl,h3⟩:=hasW_list h1;obtain⟨ns,rfl⟩:=items_int h3;have hlen:ns.length<=n:=by
  unfold OpenLaw.pre at hc;have h4:(WTm.not (.lt (.lit (.int (n:Int))) (.len (.arg 0)))).holds [] {args:=[.list (ns.map .int)]}=true:=by
   have h4:=(holds_andW hc).1;rw[hn]at h4;exact h4
  have h5:=condW_of h4 (w_not (w_lt w_lit (w_len_list (w_arg rfl))));rw[cu6]at h5;refine Nat.le_of_not_lt fun q=> ?_
  have q':(n:Int)<((ns.length:Nat):Int):=by omega
  first
   |(rw[cx5 q']at h5;exact absurd h5 (by decide))
   |(simp at h5;omega)
 cases hwl with
 |cons w1 w2=>
  cases w2;cases w1 with
  |list ho hall=>exact⟨_,_,ns,rfl,rfl,ho,aH1 ns _ hall,hlen⟩
theorem bt4(l:OpenLaw)(args:List WData):l.row.toRowW.claim.post args (.bool true) args=true:=
 postW_of (r:=l.row.toRowW) (X:=(true==true))
  (show WShape.has [] (.bool true) .bool=true by first |rfl|decide|simp[WShape.has,WShape.arms,WShape.armsAll])
  (show(WTm.eq .res (.lit (.bool true))).value [] {args:=args,res:=some (.bool true),after:=args}=some (.bool (true==true))from w_eq_bool (w_res rfl) w_lit) rfl
theorem attach_call{l:OpenLaw}{n:Nat}{q:Program}{loose:List Str}{XP:(Str->Option Value)->Heap->Prop}{YP:World->Heap->Prop}{d:DefRec}
  (hn:l.most=some n) (hdf:d.params.defaults=[])
  (call:∀(w:World) (s₀ s₁:Shared) (mg mb:Str->Option Value) (fa:Addr) (o:Obj) (pm cd doc:Value) (a:Addr) (vs:List Value) (ns:List Int),
   Ground q loose [] XP w s₀ mg mb s₁.heap->YP w s₁.heap->
   s₁.heap.get? fa=some o->o.data=.func (docDef d.name d.params d.body d.scope pm cd doc)->s₁.heap.CodeRec cd d.name->mg d.name=some (.ref fa)->
   s₁.heap.get? a=some {cls:=.type "list",data:=.seq vs.toArray}->IntsAre vs ns->ns.length<=n->s₁.gens=#[]->
   codeAny (model l.prog w) callerA (.call (.ref fa) ⟨[.ref a],[]⟩) (fun r s'=>r=.ok (.ret (.bool true))/\OldK s₁.heap s'.heap/\s'.os=s₁.os/\AllBare s'.gens) s₁):
  WalkO q loose XP YP l.row.toRowW d [] (fun f vs=>PySem.call f vs):=by
 intro w s₀ s₁ mg mb G Y fa o pm cd doc dV kV ho hd hcd hD hmg hg args vals as hpre hlay hrd hwl hlo;obtain rfl:dV=.none:=Dflts.none hD hdf;obtain rfl:kV=.none:=Dflts.noKw hD;obtain⟨a,vs,ns,rfl,rfl,hobj,hints,hlen⟩:=bq6 hn hpre hwl;refine enter_call (codeAny_mono (call w s₀ s₁ mg mb fa o pm cd doc a vs ns G Y ho (fd_plain hd) hcd hmg hobj hints hlen hg) fun r s' hq=> ?_);obtain⟨rfl,h2,h3,h4⟩:=hq;exact⟨.inl ⟨.bool true,.bool true,[],rfl,fun _=>rfl,.bool true,bt4 l _,fun _=>⟨List.Pairwise.nil,fun _ hm=>(nomatch hm)⟩⟩,h2,h3,h4⟩
section
variable {prog:Program}{w:World}{A:Around}{E:Value->Shared->Prop}{s:Shared}{K:Frag}
end
end Att
namespace L2
open PySem PySem.Spec PyProof.Rows
theorem ae9:∀{vs:List Value}{ns:List Int},IntsAre vs ns->o9 (ns.map V.int) vs
 |_,_,.nil=>.nil
 |_,_,.cons n t h=>.cons ⟨t,rfl⟩ (ae9 h)
noncomputable def cq2(H:Hp):Prop:=∀b,H b=none\/∃o xs,H b=some (.frz o (.lst xs))
noncomputable abbrev KOf{K:W.Frag}{h:Heap}(_:K.In h):W.Frag:=K
noncomputable def ab3(s:Stmt):Arguments:=match s with
 |.FunctionDef _ a _ _ _ _ _ _ _ _=>a
 |_=>{posonlyargs:=[],args:=[],vararg:=none,kwonlyargs:=[],kw_defaults:=[],kwarg:=none,defaults:=[]}
noncomputable def A7(s:Stmt):List Stmt:=match s with
 |.FunctionDef _ _ b _ _ _ _ _ _ _=>b
 |_=>[]
noncomputable def j4(s:Stmt):Scope:=match s with
 |.FunctionDef _ _ _ _ _ _ sc _ _ _=>sc
 |_=>{kind:=.function,names:=[],isGenerator:=false,isCoroutine:=false}
noncomputable abbrev CX0:CXT:=fun _ _ _ _ _ _=>False
noncomputable abbrev E0:XK:=fun _ _ _=>False
theorem bj7{X:Cx}:Y8 CX0 X E0:=fun _ _ _ _ _ _ _ h=>h.elim
structure Fun(K:W.Frag)(x qual:Str)(st:Stmt)(f:Addr)(fd:FuncData):Prop where
 ex:∃(oc:Value) (od:Option Addr) (kV doc pm:Value) (an:Option Addr) (cdv ct:Value) (osl:Array (Option Value)),
  fd=W.fnOf x qual (ab3 st) (A7 st) (j4 st) .none kV doc pm an cdv ct/\K.lookup f=some ⟨oc,od,.func fd,osl⟩/\W.codeIn K cdv qual=true
 kp:W.keepIn K (.ref f)=true
section
variable {P:Program}{w:World}{K:W.Frag}{mg:Str->Option Value}{base:Heap}
theorem Fun.ok{x qual:Str}{st:Stmt}{f:Addr}{fd:FuncData}{N ps:List Str}{k:Nat}{sp:Sp}(F:Fun K x qual st f fd)(S:l0 N ps (j4 st))(len:∀vs H Q E,sp vs H Q E->vs.length=ps.length)
  (hbody:∀(cdv:Value) (A:Around) (outer:List Env) (s:Shared) (H:Hp) (vs:List V) (Q:VK) (E:XK),B7 k (A.deeper (envOfC qual (j4 st) s.heap.objs.size f cdv))->sp vs H Q E->
   ∃t,PSs (w4 CX0 P w K mg base N qual (j4 st) f cdv A outer s H E).nox (A7 st) t/\t {nx:=fun _ H'=>Q .non H',rt:=Q} (start N vs) H):V9 P w K mg base CX0 (k+1) f fd ps sp:=by
 obtain⟨oc,od,kV,doc,pm,an,cdv,ct,osl,rfl,lk,hcd⟩:=F.ex;refine bm5 lk hcd S len fun A outer s H vs Q E hr hsp=> ?_
 obtain⟨t,h,q⟩:=hbody cdv A outer s H vs Q E hr hsp;exact⟨t,h.nox,q⟩
theorem Fun.binds{x qual:Str}{st:Stmt}{f:Addr}{fd:FuncData}{ps:List Str}(F:Fun K x qual st f fd)
  (h:∀(kV doc pm:Value) (an:Option Addr) (cdv ct:Value) (us:List Value),us.length=ps.length->bindArgs (W.fnOf x qual (ab3 st) (A7 st) (j4 st) .none kV doc pm an cdv ct) ⟨us,[]⟩=pure (ps.zip us)):Z1 K fd ps []:=by
 obtain⟨oc,od,kV,doc,pm,an,cdv,ct,osl,rfl,lk,hcd⟩:=F.ex;exact .all (h kV doc pm an cdv ct)
end
section
variable {X:Cx}
end
theorem aj7{A B:Prop}(h:B):if false=true then A else B:=by
 rw[cx7 cs0];exact h
theorem aj6{A B:Prop}(h:A):if true=true then A else B:=by
 rw[cx8 rfl];exact h
noncomputable def w9(H H':Hp):Prop:=∀b o,H b=some o->H' b=some o
theorem w9.refl(H:Hp):w9 H H:=fun _ _ h=>h
theorem w9.trans{H H1 H2:Hp}(a:w9 H H1)(b:w9 H1 H2):w9 H H2:=fun c o h=>b c o (a c o h)
theorem w9.free{H H':Hp}(e:w9 H H'){l:Addr}(h:H' l=Option.none):H l=Option.none:=by
 cases q:H l with
 |none=>rfl
 |some o=>
  rw[e l o q]at h;cases h
theorem w9.seq{K:W.Frag}{H H':Hp}{a:Addr}{xs:List V}(e:w9 H H')(h:SqL K H a xs):SqL K H' a xs:=by
 rcases h with(h|⟨o,h⟩)|h
 ·exact .inl (.inl (e _ _ h))
 ·exact .inl (.inr ⟨o,e _ _ h⟩)
 ·exact .inr h
end L2
namespace L3
open PySem
inductive T where
 |non|bl (b:Bool)|int (i:Int)|str (x:Str)|tup (xs:List T)|lst (xs:List T)|ref (a:Nat)|scr (ns:List Int)|dct (ks:List Int) (ts:List T)
noncomputable abbrev j9:=List (Option T)
noncomputable abbrev G:=j9->Option T
noncomputable abbrev GB:=j9->Option Bool
noncomputable abbrev GL:=j9->Option (List T)
noncomputable def d0(i:Nat):G:=fun ρ=>(ρ[i]?).join
noncomputable def gC(t:T):G:=fun _=>some t
noncomputable def gs:List G->GL
 |[],_=>some []
 |a::r,ρ=>(a ρ).bind fun x=>(gs r ρ).bind fun xs=>some (x::xs)
noncomputable def g1(f:T->Option T)(a:G):G:=fun ρ=>(a ρ).bind f
noncomputable def g2(f:T->T->Option T)(a b:G):G:=fun ρ=>(a ρ).bind fun x=>(b ρ).bind fun y=>f x y
noncomputable def gN(f:List T->Option T)(as:List G):G:=fun ρ=>(gs as ρ).bind f
noncomputable def m7(as:List G):G:=fun ρ=>(gs as ρ).bind fun xs=>some (.tup xs)
noncomputable def o6(as:List G):G:=fun ρ=>(gs as ρ).bind fun xs=>some (.lst xs)
noncomputable def toB:T->Option Bool
 |.bl b=>some b
 |_=>none
noncomputable def toL:T->Option (List T)
 |.lst xs=>some xs
 |_=>none
noncomputable def toI:T->Option Int
 |.int i=>some i
 |_=>none
noncomputable def bOf(g:G):GB:=fun ρ=>(g ρ).bind toB
noncomputable def J5(a b:G):G:=fun ρ=>(bOf a ρ).bind fun c=>if c then b ρ else some (.bl false)
noncomputable def gOr(a b:G):G:=fun ρ=>(bOf a ρ).bind fun c=>if c then some (.bl true)else b ρ
noncomputable def bm3(a:G):G:=fun ρ=>(bOf a ρ).bind fun c=>some (.bl !c)
noncomputable def gIf(c:GB)(a b:G):G:=fun ρ=>(c ρ).bind fun c=>if c then a ρ else b ρ
noncomputable def V6(a b:GB):GB:=fun ρ=>(a ρ).bind fun c=>if c then b ρ else some false
noncomputable def bOr(a b:GB):GB:=fun ρ=>(a ρ).bind fun c=>if c then some true else b ρ
noncomputable def J3(a:GB):GB:=fun ρ=>(a ρ).bind fun c=>some !c
noncomputable def av8(f f':T->T->Option T)(a b c:G):G:=fun ρ=>(a ρ).bind fun x=>(b ρ).bind fun y=>((f x y).bind toB).bind fun k=>if k then(c ρ).bind fun z=>f' y z else some (.bl false)
noncomputable def big(i:Int):Bool:=decide (i.natAbs<2^4000)
noncomputable def sm(i:Int):Bool:=decide (-(2^64)<i)&&decide (i<2^64)
noncomputable def lim:Nat:=1000000
noncomputable def D3:T->T->Option T
 |.int i,.int j=>some (.int (i+j))
 |.lst xs,.lst ys=>if xs.length+ys.length<=lim then some (.lst (xs++ys))else none
 |_,_=>none
noncomputable def aa0:T->T->Option T
 |.int i,.int j=>some (.int (i-j))
 |_,_=>none
noncomputable def C6:T->T->Option T
 |.int i,.int j=>if(big i&&big j)||(sm i||sm j)then some (.int (i*j))else none
 |.lst xs,.int k=>if 0<=k/\xs.length*k.toNat<=lim/\k<=lim then some (.lst (List.replicate k.toNat xs).flatten)else none
 |_,_=>none
noncomputable def A8:T->T->Option T
 |.int i,.int j=>if 0<j&&big j then some (.int (i/j))else none
 |_,_=>none
noncomputable def v8:T->T->Option T
 |.int i,.int j=>if 0<j then some (.int (i%j))else none
 |_,_=>none
noncomputable def T7:T->T->Option T
 |.int i,.int j=>if 0<=j/\j<=1000/\i.natAbs<2^64 then some (.int (i^j.toNat))else none
 |_,_=>none
noncomputable def aa1:T->Option T
 |.int i=>some (.int (-i))
 |_=>none
noncomputable def fLt:T->T->Option T
 |.int i,.int j=>some (.bl (decide (i<j)))
 |_,_=>none
noncomputable def fLe:T->T->Option T
 |.int i,.int j=>some (.bl (decide (i<=j)))
 |_,_=>none
noncomputable def fGt:T->T->Option T
 |.int i,.int j=>some (.bl (decide (j<i)))
 |_,_=>none
noncomputable def fGe:T->T->Option T
 |.int i,.int j=>some (.bl (decide (j<=i)))
 |_,_=>none
noncomputable def ae7(f:T->T->Option Bool):List T->List T->Option Bool
 |[],_=>some true
 |_::_,[]=>some true
 |x::xs,y::ys=>(f x y).bind fun a=>(ae7 f xs ys).bind fun b=>some (a&&b)
noncomputable def eqD:Nat->T->T->Option Bool
 |0,_,_=>none
 |_+1,.non,.non=>some true
 |_+1,.bl a,.bl b=>some (a==b)
 |_+1,.int a,.int b=>some (a==b)
 |_+1,.str a,.str b=>some (a==b)
 |n+1,.tup xs,.tup ys=>(ae7 (eqD n) xs ys).bind fun b=>some (b&&xs.length==ys.length)
 |n+1,.lst xs,.lst ys=>if xs.length=ys.length then ae7 (eqD n) xs ys else some false
 |_+1,.scr ns,.lst []=>some ns.isEmpty
 |_+1,_,_=>none
noncomputable def fEq(x y:T):Option T:=(eqD 8 x y).bind fun b=>some (.bl b)
noncomputable def fNe(x y:T):Option T:=(eqD 8 x y).bind fun b=>some (.bl !b)
noncomputable def aQ3:T->Bool
 |.non=>true
 |_=>false
noncomputable def as0(x:T):Option T:=some (.bl !(aQ3 x))
noncomputable def W0:List T->Option (List Int)
 |[]=>some []
 |.int i::r=>(W0 r).bind fun is=>some (i::is)
 |_=>none
noncomputable def ag4:List Int->List Int->Bool
 |[],[]=>false
 |[],_::_=>true
 |_::_,[]=>false
 |x::xs,y::ys=>if x=y then ag4 xs ys else decide (x<y)
noncomputable def bH9:T->T->Option T
 |.tup xs,.tup ys=>(W0 xs).bind fun ns=>(W0 ys).bind fun ms=>some (.bl (ag4 ns ms))
 |_,_=>none
noncomputable def ixT(n:Nat)(i:Int):Option Nat:=if 0<=i then(if i<n then some i.toNat else none)else if -(n:Int)<=i then some (i+n).toNat else none
noncomputable def aa2(i:Int):List Int->List T->Option T
 |k::ks,t::ts=>if k=i then some t else aa2 i ks ts
 |_,_=>none
noncomputable def e9:T->T->Option T
 |.tup xs,.int i=>(ixT xs.length i).bind fun j=>xs[j]?
 |.lst xs,.int i=>(ixT xs.length i).bind fun j=>xs[j]?
 |.scr ns,.int i=>(ixT ns.length i).bind fun j=>ns[j]?.map T.int
 |_,_=>none
noncomputable def cf1(lo:Nat)(hi:Option Nat)(xs:List T):List T:=match hi with
 |none=>xs.drop lo
 |some h=>(xs.take h).drop lo
noncomputable def aj9(lo:Nat)(hi:Option Nat):T->Option T
 |.tup xs=>if min lo xs.length=0/\(hi.elim xs.length fun h=>min h xs.length)=xs.length then none else some (.tup (cf1 lo hi xs))
 |.lst xs=>some (.lst (cf1 lo hi xs))
 |_=>none
noncomputable def fIn:T->T->Option T
 |.int i,.tup xs=>(W0 xs).bind fun is=>some (.bl (is.contains i))
 |.int i,.lst xs=>(W0 xs).bind fun is=>some (.bl (is.contains i))
 |_,_=>none
noncomputable def ce4(x y:T):Option T:=(fIn x y).bind fun |.bl b=>some (.bl !b)|_=>none
noncomputable def D0:List T->Option T
 |[.tup xs]=>some (.int xs.length)
 |[.lst xs]=>some (.int xs.length)
 |[.scr ns]=>some (.int ns.length)
 |_=>none
noncomputable def ag0:List T->Option (List Bool)
 |[]=>some []
 |.bl i::r=>(ag0 r).bind fun is=>some (i::is)
 |_=>none
noncomputable def P8:List T->Option T
 |[.lst xs]=>(ag0 xs).bind fun bs=>some (.bl (bs.all id))
 |_=>none
noncomputable def am8:List T->Option T
 |[.lst xs]=>(ag0 xs).bind fun bs=>some (.bl (bs.any id))
 |_=>none
noncomputable def as3:List T->Option T
 |[.int i]=>some (.int (if i<0 then -i else i))
 |_=>none
noncomputable def az1:List T->Option T
 |[.int i,.int j]=>some (.int (if j>i then j else i))
 |_=>none
noncomputable def az0:List T->Option T
 |[.int i,.int j]=>some (.int (if j<i then j else i))
 |_=>none
noncomputable def ae2:List T->Option T
 |[.int i]=>some (.int i)
 |[.bl k]=>some (.int (if k then 1 else 0))
 |_=>none
inductive Kd where | int | bool | tuple | list | str
noncomputable def isK(k:Kd):T->Option Bool
 |.non=>some false
 |.bl _=>some (match k with |.int=>true|.bool=>true|_=>false)
 |.int _=>some (match k with |.int=>true|_=>false)
 |.str _=>some (match k with |.str=>true|_=>false)
 |.tup _=>some (match k with |.tuple=>true|_=>false)
 |.lst _=>some (match k with |.list=>true|_=>false)
 |.ref _=>none
 |.scr _=>none
 |.dct _ _=>none
noncomputable def P7(k:Kd)(x:T):Option T:=(isK k x).bind fun b=>some (.bl b)
noncomputable def O2(nT:Nat)(caps:List Nat)(ρ:j9):j9:=List.replicate nT none++caps.map fun i=>(ρ[i]?).join
noncomputable abbrev St1:=T->j9->Option j9
noncomputable def stN(i:Nat):St1:=fun t ρ=>some (ρ.set i (some t))
noncomputable def st2(i j:Nat):St1
 |.tup [x,y],ρ=>some ((ρ.set i (some x)).set j (some y))
 |_,_=>none
noncomputable def st3(i j k:Nat):St1
 |.tup [x,y,z],ρ=>some (((ρ.set i (some x)).set j (some y)).set k (some z))
 |_,_=>none
noncomputable def R9(ρ:j9)(st:St1)(c:GB)(e:G):List T->Option (List T)
 |[]=>some []
 |x::xs=>(st x ρ).bind fun ρ1=>(c ρ1).bind fun b=>if b then(e ρ1).bind fun t=>(R9 ρ st c e xs).bind fun r=>some (t::r)else R9 ρ st c e xs
noncomputable def o0(it:GL)(nT:Nat)(caps:List Nat)(st:St1)(c:GB)(e:G):G:=fun ρ=>(it ρ).bind fun xs=>
 if xs.length<=lim then(R9 (O2 nT caps ρ) st c e xs).bind fun r=>some (.lst r)else none
noncomputable def B3:GB:=fun _=>some true
noncomputable def itL(g:G):GL:=fun ρ=>(g ρ).bind toL
noncomputable def A5:List T->List T->List T
 |x::xs,y::ys=>.tup [x,y]::A5 xs ys
 |_,_=>[]
noncomputable def itZ(a b:G):GL:=fun ρ=>(itL a ρ).bind fun xs=>(itL b ρ).bind fun ys=>some (A5 xs ys)
noncomputable def P0:Nat->List T->List T
 |_,[]=>[]
 |n,x::xs=>.tup [.int n,x]::P0 (n+1) xs
noncomputable def itE(a:G):GL:=fun ρ=>(itL a ρ).bind fun xs=>some (P0 0 xs)
noncomputable def u8(lo:Int)(n:Nat):List T:=(List.range n).map fun(i:Nat)=>T.int (lo+(i:Int))
noncomputable def itR(a:G):GL:=fun ρ=>((a ρ).bind toI).bind fun n=>if -lim<=n/\n<=lim then some (u8 0 n.toNat)else none
noncomputable def aW8(a b:G):GL:=fun ρ=>((a ρ).bind toI).bind fun m=>((b ρ).bind toI).bind fun n=>if -lim<=m/\m<=lim/\ -lim<=n/\n<=lim then some (u8 m (n-m).toNat)else none
inductive Out where | nx(ρ:j9) | ret(t:T) | bk(ρ:j9) | ct(ρ:j9)
noncomputable abbrev GS:=j9->Option Out
noncomputable def o7:GS:=fun ρ=>some (.nx ρ)
noncomputable def j6(a b:GS):GS:=fun ρ=>(a ρ).bind fun o=>match o with |.nx ρ'=>b ρ'|o=>some o
noncomputable def k7(i:Nat)(g:G):GS:=fun ρ=>(g ρ).bind fun t=>some (.nx (ρ.set i (some t)))
noncomputable def aT2(i j:Nat)(a b:G):GS:=fun ρ=>(a ρ).bind fun x=>(b ρ).bind fun y=>some (.nx ((ρ.set i (some x)).set j (some y)))
noncomputable def m6(g:G):GS:=fun ρ=>(g ρ).bind fun t=>some (.ret t)
noncomputable def sIf(c:GB)(a b:GS):GS:=fun ρ=>(c ρ).bind fun k=>if k then a ρ else b ρ
noncomputable def u5(st:St1)(b:GS):List T->GS
 |[],ρ=>some (.nx ρ)
 |x::xs,ρ=>(st x ρ).bind fun ρ1=>(b ρ1).bind fun o=>match o with
  |.nx ρ2=>u5 st b xs ρ2
  |.ct ρ2=>u5 st b xs ρ2
  |.bk ρ2=>some (.nx ρ2)
  |.ret t=>some (.ret t)
noncomputable def N0(it:GL)(st:St1)(b:GS):GS:=fun ρ=>(it ρ).bind fun xs=>u5 st b xs ρ
noncomputable def v6(c:GB)(b:GS):Nat->GS
 |0,_=>none
 |n+1,ρ=>(c ρ).bind fun k=>if k then(b ρ).bind fun o=>match o with
  |.nx ρ2=>v6 c b n ρ2
  |.ct ρ2=>v6 c b n ρ2
  |.bk ρ2=>some (.nx ρ2)
  |.ret t=>some (.ret t)else some (.nx ρ)
noncomputable def l9(n:Nat)(ts:List T):j9:=ts.map some++List.replicate (n-ts.length) none
noncomputable def av3:Option Out->Option T
 |some (.ret t)=>some t
 |some (.nx _)=>some .non
 |_=>none
noncomputable def u9(k n:Nat)(b:GS)(ts:List T):Option T:=if ts.length=k then av3 (b (l9 n ts))else none
mutual
noncomputable def Z9:T->Bool
 |.tup xs=>al9 xs
 |.lst _=>false
 |.scr _=>false
 |.dct _ _=>false
 |_=>true
noncomputable def al9:List T->Bool
 |[]=>true
 |x::xs=>Z9 x&&al9 xs
end
noncomputable def t9(own:List Nat)(ρ:j9):j9:=own.foldl (fun r i=>r.set i none) ρ
noncomputable def gM(own:List Nat)(g:G):G:=fun ρ=>g (t9 own ρ)
noncomputable def gLM(own:List Nat)(g:GL):GL:=fun ρ=>g (t9 own ρ)
noncomputable def gF(g:G):G:=fun ρ=>(g ρ).bind fun t=>if Z9 t then some t else none
noncomputable def S9(i:Nat)(g:G):GS:=fun ρ=>(g ρ).bind fun t=>match(ρ[i]?).join with
 |some (.lst ts)=>if ts.length<lim then some (.nx (ρ.set i (some (.lst (ts++[t])))))else none
 |_=>none
noncomputable def cr7(i:Nat)(gi g:G):GS:=fun ρ=>(g ρ).bind fun t=>(gi ρ).bind fun k=>match(ρ[i]?).join,k with
 |some (.lst ts),.int j=>(ixT ts.length j).bind fun n=>some (.nx (ρ.set i (some (.lst (ts.set n t)))))
 |_,_=>none
noncomputable def ac3:List Int->Option Int
 |[]=>none
 |x::xs=>match ac3 xs with |none=>some x|some y=>some (if y<x then y else x)
noncomputable def ay9:List T->Option T
 |[.lst xs]=>(W0 xs).bind fun is=>(ac3 is).bind fun m=>some (.int m)
 |_=>none
noncomputable def ac5(k:Int):List Int->List Int
 |[]=>[k]
 |y::ys=>if k<=y then k::y::ys else y::ac5 k ys
noncomputable def A1:List Int->List Int
 |[]=>[]
 |x::xs=>ac5 x (A1 xs)
noncomputable def Y0:List T->Option T
 |[.dct ks _]=>if ks.length<64 then some (.lst ((A1 ks).map T.int))else none
 |_=>none
noncomputable def aH7:T->T->Option T
 |.dct ks ts,.int i=>aa2 i ks ts
 |_,_=>none
noncomputable def az2:T->T->Option T
 |.int i,.dct ks _=>some (.bl !(ks.contains i))
 |_,_=>none
noncomputable def bm8:T->T->Option T
 |.int k,x=>some (.dct [k] [x])
 |_,_=>none
noncomputable def as2:List T->Option T
 |[.lst xs]=>some (.lst xs)
 |[.tup xs]=>some (.lst xs)
 |_=>none
noncomputable def ar9:List T->Option T
 |[.lst xs]=>(W0 xs).bind fun is=>if(is.all fun n=>decide (0<=n)&&decide (n<=1000))&&decide (is.length<=1000)then some (.int is.sum)else none
 |_=>none
noncomputable def aX9(b:Bool):T->Option T
 |.bl c=>some (.bl (c==b))
 |_=>none
noncomputable def ac7(b:Bool):T->Option T
 |.bl c=>some (.bl !(c==b))
 |_=>none
noncomputable def aL0(g:G):GB:=fun ρ=>(g ρ).bind fun t=>match t with |.lst xs=>some !xs.isEmpty|_=>none
noncomputable def bW2:T->Option (List T)
 |.tup xs=>some xs
 |_=>none
noncomputable def itT(g:G):GL:=fun ρ=>(g ρ).bind bW2
noncomputable def bH3(a b:G):GL:=fun ρ=>(itT a ρ).bind fun xs=>(itT b ρ).bind fun ys=>some (A5 xs ys)
noncomputable def M8:List T->List T->List T->List T
 |x::xs,y::ys,z::zs=>.tup [x,y,z]::M8 xs ys zs
 |_,_,_=>[]
noncomputable def cd1(a b c:G):GL:=fun ρ=>(itL a ρ).bind fun xs=>(itL b ρ).bind fun ys=>(itL c ρ).bind fun zs=>some (M8 xs ys zs)
noncomputable def am0:T->T->Option T
 |.int i,.int j=>some (.int (i+j))
 |_,_=>none
noncomputable def aH6:T->T->Option T
 |.int i,.int j=>some (.int (i-j))
 |_,_=>none
noncomputable def V5(i:Nat)(op:T->T->Option T)(gi g:G):GS:=fun ρ=>(gi ρ).bind fun k=>(g ρ).bind fun y=>match(ρ[i]?).join,k with
 |some (.lst ts),.int j=>if 0<=j then(ixT ts.length j).bind fun n=>(ts[n]?).bind fun x=>(op x y).bind fun z=>some (.nx (ρ.set i (some (.lst (ts.set n z)))))else none
 |_,_=>none
noncomputable def ax8(i j:Nat):GS:=fun ρ=>match(ρ[i]?).join with
 |some (.lst (t::ts))=>some (.nx ((ρ.set i (some (.lst ts))).set j (some t)))
 |_=>none
noncomputable def aq5(i:Nat)(gk g:G):GS:=fun ρ=>(g ρ).bind fun t=>(gk ρ).bind fun k=>match(ρ[i]?).join,k with
 |some (.dct ks ts),.int j=>if ks.length<lim/\ks.contains j=false/\ks.length=ts.length then some (.nx (ρ.set i (some (.dct (ks++[j]) (ts++[t])))))else none
 |_,_=>none
noncomputable def al2(i:Nat)(gk gl g:G):GS:=fun ρ=>(g ρ).bind fun t=>(gk ρ).bind fun k=>(gl ρ).bind fun l=>match(ρ[i]?).join,k,l with
 |some (.lst ts),.int a,.int b=>(ixT ts.length a).bind fun n=>(ts[n]?).bind fun x=>match x with
  |.lst us=>(ixT us.length b).bind fun m=>some (.nx (ρ.set i (some (.lst (ts.set n (.lst (us.set m t)))))))
  |_=>none
 |_,_,_=>none
noncomputable def gFr(g:G):G:=fun ρ=>(g ρ).bind fun t=>match t with |.lst xs=>some (.lst xs)|_=>none
noncomputable def aX7:T->Bool
 |.lst xs=>al9 xs
 |t=>Z9 t
noncomputable def gFL(g:G):G:=fun ρ=>(g ρ).bind fun t=>if aX7 t then some t else none
inductive Res where | val(t:T) | exc(c:Str)
inductive bo3 where | o(o:Out) | exc(c:Str)
noncomputable abbrev GR:=j9->Option bo3
noncomputable def L9(g:GS):GR:=fun ρ=>(g ρ).bind fun o=>some (.o o)
noncomputable def Q7(a b:GR):GR:=fun ρ=>(a ρ).bind fun r=>match r with |.o (.nx ρ')=>b ρ'|r=>some r
noncomputable def rIf(c:GB)(a b:GR):GR:=fun ρ=>(c ρ).bind fun k=>if k then a ρ else b ρ
noncomputable def bY1(c:Str):GR:=fun _=>some (.exc c)
noncomputable def al3(F:List T->Option Res)(l:List G):GR:=fun ρ=>(gs l ρ).bind fun xs=>(F xs).bind fun r=>match r with
 |.val _=>some (.o (.nx ρ))
 |.exc c=>some (.exc c)
noncomputable def ca5:Option bo3->Option Res
 |some (.o (.ret t))=>some (.val t)
 |some (.o (.nx _))=>some (.val .non)
 |some (.exc c)=>some (.exc c)
 |_=>none
noncomputable def aq6(k n:Nat)(g:GR)(ts:List T):Option Res:=if ts.length=k then ca5 (g (l9 n ts))else none
noncomputable def Q4(F:List T->Option Res)(ts:List T):Option T:=(F ts).bind fun r=>match r with
 |.val t=>some t
 |.exc _=>none
noncomputable def as4:List Str:=["BadFloor"]
noncomputable def aq1(F:List T->Option Res)(ts:List T):Option T:=(F ts).bind fun r=>match r with
 |.val t=>some t
 |.exc c=>if c∈as4 then some (.str c)else none
noncomputable def X7(F:List T->Option Res)(l:List G)(xs:List T):Option T:=(gs l (xs.map some)).bind (aq1 F)
noncomputable def aK5(ea:Nat)(b:Bool)(g:G):G:=fun ρ=>(g ρ).bind fun t=>match t with
 |.ref a=>if a=ea then some (.bl b)else none
 |_=>none
noncomputable def bm7:T->T->Option T
 |.int i,.int j=>some (.bl (!decide (i=j)))
 |_,_=>none
noncomputable def aH5:List T->Option T
 |[.lst xs]=>(W0 xs).bind fun is=>if(is.all fun n=>decide (0<=n)&&decide (n<=1))&&decide (is.length<=1000)then some (.int is.sum)else none
 |_=>none
noncomputable def aK6:T->Option T
 |.lst xs=>(ag0 xs).bind fun bs=>(bs.findIdx? id).bind fun j=>if bs.length<=1000 then some (.int (j:Nat))else none
 |_=>none
noncomputable def aD6:T:=.tup [.int 0,.int 1]
noncomputable def bL9(i:Nat)(ρ:j9):Nat:=match(ρ[i]?).join with |some (.int k)=>k.natAbs|_=>0
noncomputable def ad1(ρ:j9):Nat:=bL9 1 ρ+2
noncomputable def aA2(ρ:j9):Nat:=bL9 3 ρ+2
noncomputable def au1(_:j9):Nat:=12
noncomputable def au0(_:j9):Nat:=12
noncomputable def al8(_:j9):Nat:=1000
noncomputable def at5:GS:=(m6 (J5 (g1 (P7 .int) (d0 0)) (bm3 (g1 (P7 .bool) (d0 0)))))
noncomputable def N1:List T->Option T:=u9 1 1 at5
noncomputable def aa3:GS:=(j6 (fun ρ=>v6 (bOf (g2 fNe (d0 1) (gC (.int 0)))) (j6 (k7 2 (g2 v8 (d0 0) (d0 1)))
  (j6 (k7 0 (d0 1))
  (k7 1 (d0 2)))) (ad1 ρ) ρ)
  (m6 (d0 0)))
noncomputable def F0:List T->Option T:=u9 2 3 aa3
noncomputable def Z0:GS:=(m6 (J5 (g1 (P7 .tuple) (d0 0)) (J5 (g2 fEq (gN D0 [(d0 0)]) (gC (.int 2))) (J5 (gN N1 [(g2 e9 (d0 0) (gC (.int 0)))]) (J5 (gN N1 [(g2 e9 (d0 0) (gC (.int 1)))]) (J5 (g2 fGt (g2 e9 (d0 0) (gC (.int 1))) (gC (.int 0))) (g2 fEq (gN F0 [(g2 e9 (d0 0) (gC (.int 0))),(g2 e9 (d0 0) (gC (.int 1)))]) (gC (.int 1)))))))))
noncomputable def B8:List T->Option T:=u9 1 1 Z0
noncomputable def aw9:GS:=(j6 (k7 2 (gN F0 [(d0 0),(d0 1)]))
  (m6 (m7 [(g2 A8 (d0 0) (d0 2)),(g2 A8 (d0 1) (d0 2))])))
noncomputable def K4:List T->Option T:=u9 2 3 aw9
noncomputable def aZ8:GS:=(m6 (gN K4 [(g2 D3 (g2 C6 (g2 e9 (d0 0) (gC (.int 0))) (g2 e9 (d0 1) (gC (.int 1)))) (g2 C6 (g2 e9 (d0 1) (gC (.int 0))) (g2 e9 (d0 0) (gC (.int 1))))),(g2 C6 (g2 e9 (d0 0) (gC (.int 1))) (g2 e9 (d0 1) (gC (.int 1))))]))
noncomputable def P1:List T->Option T:=u9 2 2 aZ8
noncomputable def aL5:GS:=(m6 (gN P1 [(d0 0),(m7 [(g1 aa1 (g2 e9 (d0 1) (gC (.int 0)))),(g2 e9 (d0 1) (gC (.int 1)))])]))
noncomputable def ab6:List T->Option T:=u9 2 2 aL5
noncomputable def ax2:GS:=(m6 (g2 fGt (g2 C6 (g2 e9 (d0 0) (gC (.int 0))) (g2 e9 (d0 1) (gC (.int 1)))) (g2 C6 (g2 e9 (d0 1) (gC (.int 0))) (g2 e9 (d0 0) (gC (.int 1))))))
noncomputable def X5:List T->Option T:=u9 2 2 ax2
noncomputable def ax1:GS:=(m6 (J5 (g1 (P7 .tuple) (d0 0)) (g2 fEq (gN D0 [(d0 0)]) (gC (.int 2)))))
noncomputable def K6:List T->Option T:=u9 1 1 ax1
noncomputable def an3:GS:=(m6 (J5 (g1 (P7 .tuple) (d0 0)) (g2 fEq (gN D0 [(d0 0)]) (gC (.int 3)))))
noncomputable def V4:List T->Option T:=u9 1 1 an3
noncomputable def an2:GS:=(m6 (J5 (gN N1 [(d0 0)]) (av8 fLe fLe (d0 1) (d0 0) (d0 2))))
noncomputable def B6:List T->Option T:=u9 3 3 an2
noncomputable def am1:GS:=(m6 (J5 (gN V4 [(d0 0)]) (J5 (gN B6 [(g2 e9 (d0 0) (gC (.int 0))),(gC (.int 0)),(g2 aa0 (d0 1) (gC (.int 1)))]) (J5 (gN B6 [(g2 e9 (d0 0) (gC (.int 1))),(gC (.int 0)),(g2 aa0 (d0 1) (gC (.int 1)))]) (J5 (g2 fNe (g2 e9 (d0 0) (gC (.int 0))) (g2 e9 (d0 0) (gC (.int 1)))) (gN B6 [(g2 e9 (d0 0) (gC (.int 2))),(d0 2),(d0 3)]))))))
noncomputable def C4:List T->Option T:=u9 4 4 am1
noncomputable def ak7:GS:=(m6 (gN P8 [(o0 (itZ (d0 0) (g1 (aj9 1 none) (d0 0))) 2 [] (st2 0 1) B3 (g2 bH9 (g1 (aj9 0 (some 2)) (d0 0)) (g1 (aj9 0 (some 2)) (d0 1))))]))
noncomputable def K0:List T->Option T:=u9 1 1 ak7
noncomputable def aZ9:GS:=(j6 (k7 3 (gC aD6))
  (j6 (N0 (itZ (d0 0) (d0 1)) (st2 4 5) (j6 (sIf (bOf (g2 fEq (g2 e9 (d0 4) (gC (.int 1))) (d0 2))) (k7 3 (gN P1 [(d0 3),(d0 5)])) o7)
  (sIf (bOf (g2 fEq (g2 e9 (d0 4) (gC (.int 0))) (d0 2))) (k7 3 (gN ab6 [(d0 3),(d0 5)])) o7)))
  (m6 (d0 3))))
noncomputable def ak8:List T->Option T:=u9 3 6 aZ9
noncomputable def am2:GS:=(m6 (J5 (gN C4 [(d0 0),(d0 1),(gC (.int 1)),(gC (.int 20))]) (g2 fLt (g2 e9 (d0 0) (gC (.int 0))) (g2 e9 (d0 0) (gC (.int 1))))))
noncomputable def M3:List T->Option T:=u9 2 2 am2
noncomputable def ax0:GS:=(m6 (gN C4 [(d0 1),(g2 e9 (d0 0) (gC (.int 0))),(gC (.int 0)),(gC (.int 200))]))
noncomputable def K5:List T->Option T:=u9 2 2 ax0
noncomputable def at6:GS:=(m6 (J5 (gN K6 [(d0 0)]) (J5 (gN B6 [(g2 e9 (d0 0) (gC (.int 0))),(gC (.int 2)),(gC (.int 8))]) (J5 (g1 (P7 .list) (g2 e9 (d0 0) (gC (.int 1)))) (J5 (g2 fLe (gN D0 [(g2 e9 (d0 0) (gC (.int 1)))]) (gC (.int 16))) (J5 (gN P8 [(o0 (itL (g2 e9 (d0 0) (gC (.int 1)))) 1 [0] (stN 0) B3 (gN M3 [(d0 0),(g2 e9 (d0 1) (gC (.int 0)))]))]) (gN K0 [(g2 e9 (d0 0) (gC (.int 1)))])))))))
noncomputable def J2:List T->Option T:=u9 1 1 at6
noncomputable def at3:GS:=(j6 (k7 3 (gFr (gM [] (o0 (itR (g2 e9 (d0 0) (gC (.int 0)))) 1 [] (stN 0) B3 (gC (.int 0))))))
  (j6 (N0 (gLM [3] (itT (m7 [(d0 1),(d0 2)]))) (stN 4) (j6 (V5 3 am0 (gM [3] (g2 e9 (d0 4) (gC (.int 0)))) (gM [3] (g2 e9 (d0 4) (gC (.int 2)))))
  (V5 3 aH6 (gM [3] (g2 e9 (d0 4) (gC (.int 1)))) (gM [3] (g2 e9 (d0 4) (gC (.int 2)))))))
  (m6 (d0 3))))
noncomputable def F6:List T->Option T:=u9 3 5 at3
noncomputable def U3:GS:=(j6 (N0 (itE (d0 0)) (st2 1 2) (sIf (bOf (g2 fGt (d0 2) (gC (.int 0)))) (m6 (d0 1)) o7))
  (m6 (gC .non)))
noncomputable def u0:List T->Option T:=u9 1 3 U3
noncomputable def aL4:GS:=(m6 (gIf (bOf (g2 fEq (g2 e9 (d0 0) (gC (.int 0))) (d0 2))) (g2 aa0 (g2 e9 (d0 0) (gC (.int 2))) (d0 1)) (g2 D3 (g2 e9 (d0 0) (gC (.int 2))) (d0 1))))
noncomputable def N8:List T->Option T:=u9 3 3 aL4
noncomputable def at7:GS:=(j6 (k7 3 (gM [] (g2 bm8 (d0 2) (gC .non))))
  (j6 (k7 4 (gFr (gM [3] (o6 [(d0 2)]))))
  (j6 (fun ρ=>v6 (aL0 (d0 4)) (j6 (ax8 4 5)
  (N0 (gLM [4,3] (itE (d0 0))) (st2 6 7) (j6 (k7 8 (gM [4,3] (gIf (bOf (g2 fEq (g2 e9 (d0 7) (gC (.int 0))) (d0 5))) (g2 e9 (d0 7) (gC (.int 1))) (g2 e9 (d0 7) (gC (.int 0))))))
  (sIf (V6 (bOf (g2 fIn (d0 5) (g1 (aj9 0 (some 2)) (d0 7)))) (V6 (bOf (g2 az2 (d0 8) (d0 3))) (bOf (g2 fGt (gN N8 [(d0 7),(g2 e9 (d0 1) (d0 6)),(d0 5)]) (gC (.int 0)))))) (j6 (aq5 3 (gM [4,3] (d0 8)) (gM [4,3] (m7 [(d0 5),(d0 6)])))
  (S9 4 (gM [4,3] (d0 8)))) o7)))) (au1 ρ) ρ)
  (m6 (d0 3)))))
noncomputable def P2:List T->Option T:=u9 3 9 at7
noncomputable def at4:GS:=(j6 (k7 2 (gC (.lst [])))
  (j6 (k7 3 (gM [2] (g2 aH7 (d0 0) (d0 1))))
  (j6 (fun ρ=>v6 (bOf (g2 (fun x y=>match y with |.non=>as0 x|_=>none) (d0 3) (gC .non))) (j6 (S9 2 (gM [2] (d0 3)))
  (k7 3 (gM [2] (g2 aH7 (d0 0) (g2 e9 (d0 3) (gC (.int 0))))))) (au0 ρ) ρ)
  (m6 (d0 2)))))
noncomputable def U5:List T->Option T:=u9 2 4 at4
noncomputable def aZ7:GS:=(j6 (k7 4 (gFr (gM [] (gN as2 [(d0 1)]))))
  (j6 (N0 (gLM [4] (itL (d0 2))) (st2 5 6) (V5 4 am0 (gM [4] (d0 6)) (gM [4] (gIf (bOf (g2 fEq (g2 e9 (g2 e9 (d0 0) (d0 6)) (gC (.int 0))) (d0 5))) (d0 3) (g1 aa1 (d0 3))))))
  (m6 (d0 4))))
noncomputable def ag2:List T->Option T:=u9 4 7 aZ7
noncomputable def ak4:GS:=(j6 (k7 2 (gM [1] (o0 (itL (g2 e9 (d0 0) (gC (.int 1)))) 1 [] (stN 0) B3 (gC (.int 0)))))
  (j6 (k7 3 (gF (gN u0 [(d0 1)])))
  (j6 (fun ρ=>v6 (bOf (g2 (fun x y=>match y with |.non=>as0 x|_=>none) (d0 3) (gC .non))) (j6 (k7 4 (gM [1] (gN P2 [(g2 e9 (d0 0) (gC (.int 1))),(d0 2),(d0 3)])))
  (j6 (k7 5 (gFL (o0 (itL (gN Y0 [(d0 4)])) 1 [1] (stN 0) (bOf (g2 fLt (g2 e9 (d0 1) (d0 0)) (gC (.int 0)))) (d0 0))))
  (j6 (sIf (J3 (aL0 (d0 5))) (m6 (m7 [(gC (.str "cut")),(gN Y0 [(d0 4)])])) o7)
  (j6 (k7 6 (gM [1] (gN U5 [(d0 4),(g2 e9 (d0 5) (gC (.int 0)))])))
  (j6 (k7 7 (gM [1] (o0 (itL (d0 6)) 2 [2,0] (st2 0 1) B3 (gN N8 [(g2 e9 (g2 e9 (d0 3) (gC (.int 1))) (d0 1)),(g2 e9 (d0 2) (d0 1)),(d0 0)]))))
  (j6 (k7 8 (gF (gN ay9 [(g2 D3 (o6 [(g2 e9 (d0 1) (d0 3)),(g1 aa1 (g2 e9 (d0 1) (g2 e9 (d0 5) (gC (.int 0)))))]) (d0 7))])))
  (j6 (k7 2 (gM [1] (gN ag2 [(g2 e9 (d0 0) (gC (.int 1))),(d0 2),(d0 6),(d0 8)])))
  (j6 (V5 1 aH6 (gM [1] (d0 3)) (gM [1] (d0 8)))
  (j6 (V5 1 am0 (gM [1] (g2 e9 (d0 5) (gC (.int 0)))) (gM [1] (d0 8)))
  (k7 3 (gF (gN u0 [(d0 1)])))))))))))) (al8 ρ) ρ)
  (m6 (m7 [(gC (.str "flow")),(d0 2)])))))
noncomputable def C0:List T->Option T:=u9 2 9 ak4
noncomputable def ad0:GS:=(m6 (J5 (g1 (P7 .list) (d0 0)) (J5 (g2 fEq (gN D0 [(d0 0)]) (d0 1)) (gN P8 [(o0 (itL (d0 0)) 1 [] (stN 0) B3 (gN B8 [(d0 0)]))]))))
noncomputable def A3:List T->Option T:=u9 2 2 ad0
noncomputable def ae8:GS:=(m6 (J5 (gN K6 [(d0 1)]) (gN P8 [(o0 (itT (d0 1)) 1 [0] (stN 0) B3 (gN A3 [(d0 0),(gN D0 [(g2 e9 (d0 1) (gC (.int 1)))])]))])))
noncomputable def D5:List T->Option T:=u9 2 2 ae8
noncomputable def ag7:GS:=(j6 (sIf (bOf (g2 fEq (d0 1) (g2 e9 (d0 0) (gC (.int 0))))) (m6 (m7 [(g1 aa1 (g2 e9 (d0 0) (gC (.int 2)))),(gC (.int 1))])) o7)
  (m6 (gIf (bOf (g2 fEq (d0 1) (g2 e9 (d0 0) (gC (.int 1))))) (m7 [(g2 e9 (d0 0) (gC (.int 2))),(gC (.int 1))]) (gC aD6))))
noncomputable def M5:List T->Option T:=u9 2 2 ag7
noncomputable def ac9:GS:=(m6 (gN P8 [(o0 (itR (g2 e9 (d0 0) (gC (.int 0)))) 1 [2,1,0] (stN 0) B3 (g2 fEq (gN ak8 [(g2 e9 (d0 3) (gC (.int 1))),(d0 1),(d0 0)]) (gN M5 [(d0 2),(d0 0)])))]))
noncomputable def E5:List T->Option T:=u9 3 3 ac9
noncomputable def ap7:GS:=(m6 (m7 [(gN as3 [(g2 e9 (d0 0) (gC (.int 0)))]),(g2 e9 (d0 0) (gC (.int 1)))]))
noncomputable def J4:List T->Option T:=u9 1 1 ap7
noncomputable def V8:GS:=(j6 (k7 2 (o0 (itZ (g2 e9 (d0 1) (gC (.int 0))) (g2 e9 (d0 1) (gC (.int 1)))) 2 [] (st2 0 1) B3 (gN P1 [(gN J4 [(d0 0)]),(gN J4 [(d0 1)])])))
  (m6 (bm3 (gN am8 [(o0 (itZ (d0 2) (g2 e9 (d0 0) (gC (.int 1)))) 2 [] (st2 0 1) B3 (gN X5 [(d0 0),(m7 [(g2 e9 (d0 1) (gC (.int 2))),(gC (.int 1))])]))]))))
noncomputable def D7:List T->Option T:=u9 2 3 V8
noncomputable def ak6:GS:=(m6 (J5 (g1 (P7 .list) (d0 1)) (J5 (gN P8 [(o0 (itL (d0 1)) 1 [0] (stN 0) B3 (gN B6 [(d0 0),(gC (.int 0)),(g2 aa0 (g2 e9 (d0 1) (gC (.int 0))) (gC (.int 1)))]))]) (gN P8 [(o0 (itZ (d0 1) (g1 (aj9 1 none) (d0 1))) 2 [] (st2 0 1) B3 (g2 fLt (d0 0) (d0 1)))]))))
noncomputable def J9:List T->Option T:=u9 2 2 ak6
noncomputable def ak5:GS:=(m6 (gN ar9 [(o0 (itL (d0 0)) 1 [1] (stN 0) (bOf (g2 fNe (g2 fIn (g2 e9 (d0 0) (gC (.int 0))) (d0 1)) (g2 fIn (g2 e9 (d0 0) (gC (.int 1))) (d0 1)))) (g2 e9 (d0 0) (gC (.int 2))))]))
noncomputable def J8:List T->Option T:=u9 2 2 ak5
noncomputable def S4:GR:=(rIf (J3 (V6 (bOf (gN J2 [(d0 0)])) (V6 (bOf (gN K5 [(d0 0),(d0 1)])) (bOf (gN K5 [(d0 0),(d0 2)]))))) (bY1 "BadFloor") (L9 o7))
noncomputable def u7:List T->Option Res:=aq6 3 3 S4
noncomputable def am3:GR:=(Q7 (al3 u7 [(d0 0),(d0 1),(d0 2)])
  (Q7 (L9 (k7 3 (gN C0 [(d0 0),(gFr (gN F6 [(d0 0),(d0 1),(d0 2)]))])))
  (Q7 (L9 (sIf (bOf (g2 fEq (g2 e9 (d0 3) (gC (.int 0))) (gC (.str "cut")))) (m6 (d0 3)) o7))
  (Q7 (L9 (k7 4 (gN C0 [(d0 0),(gFr (gN F6 [(d0 0),(d0 1),(m7 [(g2 e9 (d0 2) (gC (.int 1))),(g2 e9 (d0 2) (gC (.int 0))),(g2 e9 (d0 2) (gC (.int 2)))])]))])))
  (Q7 (L9 (sIf (bOf (g2 fEq (g2 e9 (d0 4) (gC (.int 0))) (gC (.str "cut")))) (m6 (d0 4)) o7))
  (Q7 (L9 (k7 5 (o0 (itZ (g2 e9 (d0 3) (gC (.int 1))) (g2 e9 (d0 4) (gC (.int 1)))) 2 [] (st2 0 1) B3 (gN K4 [(g2 D3 (d0 0) (d0 1)),(gC (.int 2))]))))
  (Q7 (L9 (k7 6 (o0 (itZ (g2 e9 (d0 3) (gC (.int 1))) (g2 e9 (d0 4) (gC (.int 1)))) 2 [] (st2 0 1) B3 (gN K4 [(g2 aa0 (d0 0) (d0 1)),(gC (.int 2))]))))
  (L9 (m6 (m7 [(gC (.str "double")),(m7 [(d0 5),(d0 6)])]))))))))))
noncomputable def C9:List T->Option Res:=aq6 3 7 am3
noncomputable def V0:GR:=(Q7 (al3 u7 [(d0 0),(d0 1),(d0 2)])
  (L9 (m6 (J5 (gN D5 [(d0 0),(d0 3)]) (J5 (gN E5 [(d0 0),(d0 1),(g2 e9 (d0 3) (gC (.int 0)))]) (J5 (gN E5 [(d0 0),(d0 2),(g2 e9 (d0 3) (gC (.int 1)))]) (gN D7 [(d0 0),(d0 3)])))))))
noncomputable def t8:List T->Option Res:=aq6 4 4 V0
noncomputable def ah4:GR:=(Q7 (al3 u7 [(d0 0),(d0 1),(d0 2)])
  (L9 (m6 (J5 (gN J9 [(d0 0),(d0 3)]) (g2 fLt (gN J8 [(g2 e9 (d0 0) (gC (.int 1))),(d0 3)]) (gN J8 [(o6 [(d0 1),(d0 2)]),(d0 3)]))))))
noncomputable def v9:List T->Option Res:=aq6 4 4 ah4
noncomputable def aE6:GS:=(j6 (sIf (bOf (g2 fEq (d0 0) (o6 []))) (m6 (g2 C6 (d0 1) (gC (.int 7919)))) o7)
  (m6 (g2 D3 (g2 e9 (d0 0) (g2 v8 (d0 1) (gN D0 [(d0 0)]))) (g2 C6 (g2 A8 (d0 1) (gN D0 [(d0 0)])) (gC (.int 104729))))))
noncomputable def aa5:List T->Option T:=u9 2 2 aE6
noncomputable def aw8:GS:=(j6 (k7 2 (g2 v8 (g2 D3 (g2 C6 (d0 0) (gC (.int 6364136223846793005))) (g2 C6 (g2 D3 (d0 1) (gC (.int 1))) (gC (.int 1442695040888963407)))) (gC (.int 340282366920938463463374607431768211507))))
  (m6 (g2 v8 (g2 C6 (d0 2) (d0 2)) (gC (.int 340282366920938463463374607431768211297)))))
noncomputable def E8:List T->Option T:=u9 2 3 aw8
noncomputable def aE2:GS:=(j6 (aT2 2 3 (gN as3 [(d0 0)]) (d0 1))
  (j6 (fun ρ=>v6 (bOf (g2 fGt (d0 3) (gC (.int 0)))) (aT2 2 3 (d0 3) (g2 v8 (d0 2) (d0 3))) (aA2 ρ) ρ)
  (m6 (m7 [(g2 A8 (d0 0) (d0 2)),(g2 A8 (d0 1) (d0 2))]))))
noncomputable def X3:List T->Option T:=u9 2 4 aE2
noncomputable def aE1:GS:=(m6 (gN X3 [(g2 D3 (g2 C6 (g2 e9 (d0 0) (gC (.int 0))) (g2 e9 (d0 1) (gC (.int 1)))) (g2 C6 (g2 e9 (d0 1) (gC (.int 0))) (g2 e9 (d0 0) (gC (.int 1))))),(g2 C6 (g2 e9 (d0 0) (gC (.int 1))) (g2 e9 (d0 1) (gC (.int 1))))]))
noncomputable def C8:List T->Option T:=u9 2 2 aE1
noncomputable def aw6:GS:=(m6 (gN X3 [(g2 C6 (g2 e9 (d0 0) (gC (.int 0))) (g2 e9 (d0 1) (gC (.int 0)))),(g2 C6 (g2 e9 (d0 0) (gC (.int 1))) (g2 e9 (d0 1) (gC (.int 1))))]))
noncomputable def N3:List T->Option T:=u9 2 2 aw6
noncomputable def aw5:GS:=(m6 (g2 fLt (g2 C6 (g2 e9 (d0 0) (gC (.int 0))) (g2 e9 (d0 1) (gC (.int 1)))) (g2 C6 (g2 e9 (d0 1) (gC (.int 0))) (g2 e9 (d0 0) (gC (.int 1))))))
noncomputable def S6:List T->Option T:=u9 2 2 aw5
noncomputable def aw7:GS:=(j6 (k7 1 (gM [] (g2 D3 (gC (.int 2)) (g2 v8 (d0 0) (gC (.int 7))))))
  (j6 (k7 2 (gC (.lst [])))
  (j6 (N0 (gLM [2] (itR (d0 1))) (stN 3) (N0 (gLM [2] (aW8 (g2 D3 (d0 3) (gC (.int 1))) (d0 1))) (stN 4) (j6 (k7 5 (gM [2] (gN E8 [(d0 0),(g2 D3 (g2 C6 (gC (.int 8)) (d0 3)) (d0 4))])))
  (sIf (V6 (bOf (g2 fLt (g2 v8 (d0 5) (gC (.int 5))) (g2 D3 (gC (.int 2)) (g2 v8 (g2 A8 (d0 0) (gC (.int 8))) (gC (.int 3)))))) (bOf (g2 fLt (gN D0 [(d0 2)]) (gC (.int 16))))) (S9 2 (gM [2] (m7 [(d0 3),(d0 4),(g2 D3 (gC (.int 1)) (g2 v8 (g2 A8 (d0 5) (gC (.int 64))) (g2 e9 (o6 [(gC (.int 3)),(gC (.int 20))]) (g2 v8 (g2 A8 (d0 0) (gC (.int 64))) (gC (.int 2))))))]))) o7))))
  (m6 (m7 [(d0 1),(d0 2)])))))
noncomputable def X4:List T->Option T:=u9 1 6 aw7
noncomputable def aE0:GS:=(j6 (k7 2 (g2 v8 (d0 0) (d0 1)))
  (m6 (m7 [(d0 2),(g2 v8 (g2 D3 (g2 D3 (d0 2) (gC (.int 1))) (g2 v8 (g2 A8 (d0 0) (gC (.int 8))) (g2 aa0 (d0 1) (gC (.int 1))))) (d0 1)),(g2 v8 (g2 A8 (d0 0) (gC (.int 64))) (g2 e9 (o6 [(gC (.int 4)),(gC (.int 13)),(gC (.int 40))]) (g2 v8 (g2 A8 (d0 0) (gC (.int 4096))) (gC (.int 3)))))])))
noncomputable def U4:List T->Option T:=u9 2 3 aE0
noncomputable def aE3:GS:=(j6 (k7 3 (m7 [(gC (.int 0)),(gC (.int 1))]))
  (j6 (N0 (itZ (d0 1) (g2 e9 (d0 0) (gC (.int 1)))) (st2 4 5) (k7 3 (gN C8 [(d0 3),(gN N3 [(d0 4),(m7 [(g2 aa0 (gN ae2 [(g2 fEq (g2 e9 (d0 5) (gC (.int 0))) (d0 2))]) (gN ae2 [(g2 fEq (g2 e9 (d0 5) (gC (.int 1))) (d0 2))])),(gC (.int 1))])])])))
  (m6 (d0 3))))
noncomputable def aa4:List T->Option T:=u9 3 6 aE3
noncomputable def aE4:GS:=(j6 (N0 (bH3 (m7 [(d0 1),(d0 2)]) (d0 3)) (st2 4 5) (j6 (sIf (bOf (g2 fNe (gN D0 [(d0 5)]) (gN D0 [(g2 e9 (d0 0) (gC (.int 1)))]))) (m6 (gC (.bl false))) o7)
  (N0 (itR (g2 e9 (d0 0) (gC (.int 0)))) (stN 6) (j6 (k7 7 (g2 C6 (g2 e9 (d0 4) (gC (.int 2))) (g2 aa0 (gN ae2 [(g2 fEq (d0 6) (g2 e9 (d0 4) (gC (.int 0))))]) (gN ae2 [(g2 fEq (d0 6) (g2 e9 (d0 4) (gC (.int 1))))]))))
  (sIf (bOf (g2 fNe (gN aa4 [(d0 0),(d0 5),(d0 6)]) (m7 [(d0 7),(gC (.int 1))]))) (m6 (gC (.bl false))) o7)))))
  (j6 (N0 (cd1 (g2 e9 (d0 0) (gC (.int 1))) (g2 e9 (d0 3) (gC (.int 0))) (g2 e9 (d0 3) (gC (.int 1)))) (st3 8 9 10) (sIf (bOf (gN S6 [(m7 [(g2 e9 (d0 8) (gC (.int 2))),(gC (.int 1))]),(gN C8 [(m7 [(gN as3 [(g2 e9 (d0 9) (gC (.int 0)))]),(g2 e9 (d0 9) (gC (.int 1)))]),(m7 [(gN as3 [(g2 e9 (d0 10) (gC (.int 0)))]),(g2 e9 (d0 10) (gC (.int 1)))])])])) (m6 (gC (.bl false))) o7))
  (m6 (gC (.bl true)))))
noncomputable def J7:List T->Option T:=u9 4 11 aE4
noncomputable def aE7:GS:=(j6 (k7 4 (gN ar9 [(o0 (itL (g2 e9 (d0 0) (gC (.int 1)))) 1 [3] (stN 0) (bOf (g2 fNe (g2 fIn (g2 e9 (d0 0) (gC (.int 0))) (d0 1)) (g2 fIn (g2 e9 (d0 0) (gC (.int 1))) (d0 1)))) (g2 e9 (d0 0) (gC (.int 2))))]))
  (m6 (g2 fLt (d0 4) (gN ar9 [(o0 (itT (m7 [(d0 1),(d0 2)])) 1 [3] (stN 0) (bOf (g2 fNe (g2 fIn (g2 e9 (d0 0) (gC (.int 0))) (d0 1)) (g2 fIn (g2 e9 (d0 0) (gC (.int 1))) (d0 1)))) (g2 e9 (d0 0) (gC (.int 2))))]))))
noncomputable def E9:List T->Option T:=u9 4 5 aE7
noncomputable def aE5:GS:=(j6 (k7 1 (o6 [(o6 [])]))
  (j6 (N0 (itR (d0 0)) (stN 2) (k7 1 (g2 D3 (d0 1) (o0 (itL (d0 1)) 1 [2] (stN 0) B3 (g2 D3 (d0 0) (o6 [(d0 1)]))))))
  (m6 (d0 1))))
noncomputable def M6:List T->Option T:=u9 1 3 aE5
noncomputable def U2:GS:=(j6 (k7 4 (gM [] (gN (Q4 C9) [(d0 0),(d0 1),(d0 2)])))
  (j6 (k7 5 (gM [] (gN M6 [(g2 e9 (d0 0) (gC (.int 0)))])))
  (j6 (N0 (gLM [] (itR (gC (.int 5)))) (stN 6) (j6 (k7 7 (gM [] (gN E8 [(d0 3),(g2 D3 (gC (.int 70)) (d0 6))])))
  (j6 (k7 8 (gM [] (g2 e9 (d0 5) (g2 v8 (d0 7) (gN D0 [(d0 5)])))))
  (j6 (k7 9 (gM [] (gN (Q4 v9) [(d0 0),(d0 1),(d0 2),(d0 8)])))
  (j6 (sIf (bOr (J3 (bOf (g1 (P7 .bool) (d0 9)))) (bOf (g2 fNe (d0 9) (gN E9 [(d0 0),(d0 1),(d0 2),(d0 8)])))) (m6 (gC (.bl false))) o7)
  (sIf (V6 (bOf (g2 fEq (g2 e9 (d0 4) (gC (.int 0))) (gC (.str "double")))) (bOf (g2 fNe (g2 e9 (d0 0) (gC (.int 1))) (o6 [])))) (j6 (k7 10 (gM [] (o0 (itT (g2 e9 (d0 4) (gC (.int 1)))) 1 [] (stN 0) B3 (gN as2 [(d0 0)]))))
  (j6 (k7 11 (gM [10] (g2 v8 (g2 A8 (d0 7) (gC (.int 512))) (gN D0 [(g2 e9 (d0 0) (gC (.int 1)))]))))
  (j6 (k7 12 (gM [10] (g2 e9 (o6 [(m7 [(gC (.int 1)),(gC (.int 2))]),(m7 [(g1 aa1 (gC (.int 1))),(gC (.int 1))]),(m7 [(gC (.int 0)),(gC (.int 1))]),(m7 [(gC (.int 3)),(gC (.int 1))])]) (g2 v8 (g2 A8 (d0 7) (gC (.int 64))) (gC (.int 4))))))
  (j6 (al2 10 (gM [10] (g2 v8 (d0 7) (gC (.int 2)))) (gM [10] (d0 11)) (gF (gN C8 [(g2 e9 (g2 e9 (d0 10) (g2 v8 (d0 7) (gC (.int 2)))) (d0 11)),(d0 12)])))
  (j6 (k7 13 (gM [] (g2 e9 (o6 [(m7 [(g2 e9 (d0 10) (gC (.int 0))),(g2 e9 (d0 10) (gC (.int 1)))]),(m7 [(g2 e9 (d0 10) (gC (.int 1))),(g2 e9 (d0 10) (gC (.int 0)))])]) (g2 v8 (g2 A8 (d0 7) (g2 T7 (gC (.int 2)) (gC (.int 20)))) (gC (.int 2))))))
  (sIf (bOf (g2 fNe (gN (Q4 t8) [(d0 0),(d0 1),(d0 2),(d0 13)]) (gN J7 [(d0 0),(d0 1),(d0 2),(d0 13)]))) (m6 (gC (.bl false))) o7)))))) o7))))))
  (j6 (k7 14 (gM [] (o6 [(gC .non),(m7 [(o6 []),(o6 []),(o6 [])]),(m7 [(o6 [(gC .non)]),(o6 [(gC .non)])]),(m7 [(g2 C6 (o6 [(m7 [(gC (.int 1)),(gC (.int 2))])]) (gC (.int 17))),(o6 [])]),(o6 [(o6 []),(o6 [])])])))
  (j6 (sIf (bOf (g1 (ac7 false) (gN (Q4 t8) [(d0 0),(d0 1),(d0 2),(g2 e9 (d0 14) (g2 v8 (d0 3) (gC (.int 5))))]))) (m6 (gC (.bl false))) o7)
  (m6 (g1 (aX9 false) (gN (Q4 v9) [(d0 0),(d0 1),(d0 2),(g2 e9 (o6 [(gC .non),(o6 [(gC (.int 9))]),(o6 [(gC (.int 1)),(gC (.int 0))]),(o6 [(gC (.int 0)),(gC (.int 0))]),(m7 [(gC (.int 0))]),(o6 [(gC (.bl true))])]) (g2 v8 (g2 A8 (d0 3) (gC (.int 8))) (gC (.int 6))))]))))))))
noncomputable def E7:List T->Option T:=u9 4 15 U2
noncomputable def aQ9:GS:=(j6 (N0 (gLM [] (itR (gN az1 [(gC (.int 1)),(gN az0 [(gC (.int 4)),(gN D0 [(d0 0)])])]))) (stN 1) (j6 (k7 2 (gM [] (gN E8 [(gN aa5 [(d0 0),(d0 1)]),(d0 1)])))
  (j6 (k7 3 (gM [] (gN X4 [(d0 2)])))
  (j6 (k7 4 (gM [] (gN U4 [(g2 A8 (d0 2) (gC (.int 512))),(g2 e9 (d0 3) (gC (.int 0)))])))
  (j6 (k7 5 (gM [] (gN U4 [(g2 A8 (d0 2) (g2 T7 (gC (.int 2)) (gC (.int 30)))),(g2 e9 (d0 3) (gC (.int 0)))])))
  (j6 (k7 6 (gM [] (gN (X7 C9 [(d0 0),(d0 1),(d0 2)]) [d0 3,d0 4,d0 5])))
  (j6 (sIf (bOr (J3 (bOf (g1 (P7 .tuple) (d0 6)))) (bOf (g2 fNe (gN D0 [(d0 6)]) (gC (.int 2))))) (m6 (gC (.bl false))) o7)
  (j6 (k7 7 (gM [] (gN am8 [(o0 (itL (gN M6 [(g2 e9 (d0 3) (gC (.int 0)))])) 1 [3,4,5] (stN 0) B3 (gN E9 [(d0 1),(d0 2),(d0 3),(d0 0)]))])))
  (j6 (sIf (bOf (g2 fEq (g2 e9 (d0 6) (gC (.int 0))) (gC (.str "cut")))) (j6 (sIf (bOr (J3 (bOf (d0 7))) (J3 (bOf (gN E9 [(d0 3),(d0 4),(d0 5),(g2 e9 (d0 6) (gC (.int 1)))])))) (m6 (gC (.bl false))) o7)
  (sIf (bOf (g1 (ac7 true) (gN (Q4 v9) [(d0 3),(d0 4),(d0 5),(g2 e9 (d0 6) (gC (.int 1)))]))) (m6 (gC (.bl false))) o7)) (sIf (bOr (bOf (g2 fNe (g2 e9 (d0 6) (gC (.int 0))) (gC (.str "double")))) (bOr (bOf (d0 7)) (J3 (bOf (gN J7 [(d0 3),(d0 4),(d0 5),(g2 e9 (d0 6) (gC (.int 1)))]))))) (m6 (gC (.bl false))) (sIf (J3 (bOf (gN P8 [(o0 (itT (g2 e9 (d0 6) (gC (.int 1)))) 1 [] (stN 0) B3 (gN P8 [(o0 (itL (d0 0)) 1 [] (stN 0) B3 (g2 fLt (g2 e9 (d0 0) (gC (.int 1))) (gC (.int 3))))]))]))) (m6 (gC (.bl false))) (sIf (bOf (g1 (ac7 true) (gN (Q4 t8) [(d0 3),(d0 4),(d0 5),(g2 e9 (d0 6) (gC (.int 1)))]))) (m6 (gC (.bl false))) o7))))
  (j6 (sIf (J3 (bOf (gN E7 [(d0 3),(d0 4),(d0 5),(g2 A8 (d0 2) (g2 T7 (gC (.int 2)) (gC (.int 50))))]))) (m6 (gC (.bl false))) o7)
  (j6 (k7 8 (gM [] (o6 [(m7 [(gC (.int 1)),(o6 [])]),(m7 [(gC (.int 9)),(o6 [])]),(m7 [(gC (.int 2)),(o6 [(m7 [(gC (.int 1)),(gC (.int 0)),(gC (.int 1))])])]),(m7 [(gC (.int 2)),(o6 [(m7 [(gC (.int 0)),(gC (.int 1)),(gC (.int 0))])])])])))
  (j6 (k7 8 (gM [] (g2 D3 (d0 8) (o6 [(m7 [(gC (.int 2)),(o6 [(m7 [(gC (.int 0)),(gC (.int 1)),(gC (.int 1))]),(m7 [(gC (.int 0)),(gC (.int 1)),(gC (.int 2))])])]),(m7 [(gC (.int 2)),(o6 [(o6 [(gC (.int 0)),(gC (.int 1)),(gC (.int 1))])])]),(m7 [(gC (.int 2)),(o6 [(m7 [(gC (.int 0)),(gC (.int 2)),(gC (.int 1))])])])]))))
  (j6 (k7 9 (gM [] (g2 e9 (d0 8) (g2 v8 (g2 A8 (d0 2) (g2 T7 (gC (.int 2)) (gC (.int 60)))) (gC (.int 7))))))
  (j6 (k7 10 (gM [] (g2 e9 (o6 [(m7 [(gC (.int 0)),(gC (.int 0)),(gC (.int 1))]),(m7 [(gC (.int 0)),(gC (.int 1)),(g1 aa1 (gC (.int 1)))]),(m7 [(gC (.int 0)),(gC (.int 1)),(gC (.int 201))]),(m7 [(gC (.int 0)),(gC (.int 8)),(gC (.int 1))]),(m7 [(gC (.int 0)),(gC (.int 1))]),(o6 [(gC (.int 0)),(gC (.int 1)),(gC (.int 1))])]) (g2 v8 (g2 A8 (d0 2) (g2 T7 (gC (.int 2)) (gC (.int 64)))) (gC (.int 6))))))
  (j6 (k7 11 (gFr (gM [] (o6 [(gN (X7 C9 [(d0 0),(m7 [(gC (.int 0)),(gC (.int 1)),(gC (.int 1))]),(m7 [(gC (.int 0)),(gC (.int 1)),(gC (.int 1))])]) [d0 9])]))))
  (j6 (S9 11 (gM [11] (gN (X7 C9 [(d0 0),(d0 1),(d0 2)]) [d0 3,d0 10,d0 5])))
  (j6 (S9 11 (gM [11] (gN (X7 t8 [(d0 0),(d0 1),(d0 2),(gC .non)]) [d0 3,d0 4,d0 10])))
  (j6 (S9 11 (gM [11] (gN (X7 v9 [(d0 0),(d0 1),(d0 2),(gC .non)]) [d0 3,d0 10,d0 4])))
  (sIf (bOf (g2 fNe (d0 11) (g2 C6 (o6 [(gC (.str "BadFloor"))]) (gC (.int 4))))) (m6 (gC (.bl false))) o7)))))))))))))))))))
  (m6 (gC (.bl true))))
noncomputable def aR0:List T->Option T:=u9 1 12 aQ9
end L3
namespace L2
open PySem PySem.Spec PyProof.Rows
section
variable {X:Cx}{pins:List (Addr×Obj)}{σ:St}{H:Hp}{s:Shared}{h':Heap}
theorem Inv.turnedNew{t':Nat}{ch:List Addr}{p:Addr}{o:HO}(I:Inv X pins σ H s)(k:∀b u,b∉ch->s.heap.get? b=some u->h'.get? b=some u)(hf:∀b∈ch,ag8 X pins H b)
  (hp:s.heap.objs.size<=p) (new:J6 X.prog X.w (upd H p o) h' p o):Inv X pins σ (upd H p o) {s with heap:=h',toks:=t'}:=by
 have hn:H p=none:=I.hok.fresh hp;have nch:∀b u,H b=some u->b∉ch:=fun b u e z=>by rw[(hf b z).1]at e;cases e
 have nep:∀b u,s.heap.get? b=some u->b≠p:=fun b u e=>cx2 (cx0 (cs5 e) hp)
 refine I.step (g':=s.gens) (d':=s.drawn) (ch:=ch) (fun b hb=> ?_) (fun b u _ _ hc e _=>k b u hc e) (fun b u _ _ hc e _=>⟨u.slots,k b u hc e⟩) (fun b u _ e n=>by rw[l7 (nep b u e)];exact n)
  (fun b u hc e=>⟨u,k b u hc e⟩) (fun b xs e=>by rw[l7 (t6 e hn)];exact e) (fun b u v e=>by rw[l7 (t6 e hn)];exact e) (fun b ps e=>⟨#[],by rw[l7 (t6 e hn),e];simp⟩) (fun m hm=> ?_) (fun b u e=> ?_) I.bare
 ·obtain⟨f0,f1,f2,f3,f4,f5⟩:=hf b hb;exact⟨f3,f1,f4,f5⟩
 ·obtain⟨ob,es,ep,ho,r⟩:=hm;exact⟨ob,es,ep,k _ ob (fun z=>(hf _ z).2.1 rfl) ho,r⟩
 ·by_cases hb:b=p
  ·subst hb;rw[n6]at e;cases e;exact new
  ·rw[l7 hb]at e;refine(I.hok b u e).stay (fun c v hc q=>k c v ?_ q) (fun c q=>by rw[l7 (t6 q hn)];exact q) fun c xs q=>by rw[l7 (t6 q hn)];exact q
   rcases hc with z|z
   ·rw[z];exact nch b u e
   ·exact nch c _ z
theorem Inv.turnedL{t':Nat}{ch:List Addr}(I:Inv X pins σ H s)(k:∀b u,b∉ch->s.heap.get? b=some u->h'.get? b=some u)(hf:∀b∈ch,ag8 X pins H b):Inv X pins σ H {s with heap:=h',toks:=t'}:=by
 have nch:∀b u,H b=some u->b∉ch:=fun b u e z=>by rw[(hf b z).1]at e;cases e
 refine I.step (g':=s.gens) (d':=s.drawn) (ch:=ch) (fun b hb=> ?_) (fun b u _ _ hc e _=>k b u hc e) (fun b u _ _ hc e _=>⟨u.slots,k b u hc e⟩) (fun _ _ _ _ n=>n)
  (fun b u hc e=>⟨u,k b u hc e⟩) (fun _ _ e=>e) (fun _ _ _ e=>e) (fun b ps e=>⟨#[],by rw[e];simp⟩) (fun m hm=> ?_) (fun b u e=> ?_) I.bare
 ·obtain⟨f0,f1,f2,f3,f4,f5⟩:=hf b hb;exact⟨f3,f1,f4,f5⟩
 ·obtain⟨ob,es,ep,ho,r⟩:=hm;exact⟨ob,es,ep,k _ ob (fun z=>(hf _ z).2.1 rfl) ho,r⟩
 ·refine(I.hok b u e).stay (fun c v hc q=>k c v ?_ q) (fun _ q=>q) fun _ _ q=>q
  rcases hc with z|z
  ·rw[z];exact nch b u e
  ·exact nch c _ z
end
noncomputable def Itz(K:W.Frag)(a b:Addr):It:=
 ⟨fun i H=>∃xs ys x y,SqL K H a xs/\SqL K H b ys/\xs[i]?=some x/\ys[i]?=some y,
 fun i H v H'=>∃x y p,(∀xs,SqL K H a xs->xs[i]?=some x)/\(∀ys,SqL K H b ys->ys[i]?=some y)/\H p=none/\H'=upd H p (.tup [x,y])/\v=.ref p,
 fun i H=>∃xs ys,SqL K H a xs/\SqL K H b ys/\(xs.length<=i\/ys.length<=i)⟩
noncomputable def Ite(K:W.Frag)(a:Addr):It:=
 ⟨fun i H=>∃xs x,SqL K H a xs/\xs[i]?=some x,
 fun i H v H'=>∃x p,(∀xs,SqL K H a xs->xs[i]?=some x)/\H p=none/\H'=upd H p (.tup [.int i,x])/\v=.ref p,
 fun i H=>∃xs,SqL K H a xs/\xs.length<=i⟩
theorem bB2{P:Program}{w:World}{K:W.Frag}{es:List Expr}{k:Nat}{pos:Pos}{z TI TO i1 i2 l1 l2:Addr}(D:ZipApart z TI TO i1 i2 l1 l2):
  aw3 P w K (.Tuple es k pos) (Itz K l1 l2) [z,TI,TO,i1,i2] z (fun i h=>IsZip h z TI TO .none/\IsPair h TI (.ref i1) (.ref i2)/\(∃a b,IsPair h TO a b)/\h.IsListIter i1 l1 i/\h.IsListIter i2 l2 i) where
 mem:=by simp
 obj:=fun i h st b hb=>by
  obtain⟨h1,h2,⟨_,_,h3⟩,⟨o4,h4,_,d4⟩,⟨o5,h5,_,d5⟩⟩:=st;simp at hb;rcases hb with rfl|rfl|rfl|rfl|rfl
  ·exact⟨_,h1,fun v z=>by cases z⟩
  ·exact⟨_,h2,fun v z=>by cases z⟩
  ·exact⟨_,h3,fun v z=>by cases z⟩
  ·exact⟨o4,h4,fun v z=>by rw[d4]at z;cases z⟩
  ·exact⟨o5,h5,fun v z=>by rw[d5]at z;cases z⟩
 keep:=fun i h h' st kk=>by
  obtain⟨h1,h2,⟨a,b,h3⟩,h4,h5⟩:=st;exact⟨kk z (by simp) _ h1,kk TI (by simp) _ h2,⟨a,b,kk TO (by simp) _ h3⟩,h4.at fun o e=>kk i1 (by simp) o e,h5.at fun o e=>kk i2 (by simp) o e⟩
 item:=by
  intro X hP hw hK hc i pins s σ H E I hf st hg;subst hP hw hK;obtain⟨xs,ys,x,y,hq1,hq2,hx,hy⟩:=hg;obtain⟨its1,rv1,p1,hz1⟩:=I.list hq1;obtain⟨its2,rv2,p2,hz2⟩:=I.list hq2;obtain⟨u1,hu1,ru1⟩:=rv1.get hx;obtain⟨u2,hu2,ru2⟩:=rv2.get hy;obtain⟨h1,h2,⟨a,b,h3⟩,h4,h5⟩:=st;refine wpAny_pyNext_zip_item D h1 h2 h3 h4 h5 p1.isList p2.isList (x:=u1) (y:=u2) (by simpa using hu1) (by simpa using hu2) fun h' a1 a2 a3 a4 a5 a6 a7=> ?_
  refine⟨_,rfl,wpAny_letOwnedTupleGo_zip (s:={s with heap:=h'}) a1 fun h2' b1 sb=> ?_⟩;have up:∀c o,c≠z->h'.get? c=some o->h2'.get? c=some o:=fun c o hc e=>(sb.2 c hc).trans e
  (have lt:∀{c o},s.heap.get? c=some o->s.heap.objs.size≠c:=fun e=>cx1 (cs5 e));have hT:h2'.get? s.heap.objs.size=some {cls:=.type "tuple",data:=.seq #[u1,u2]}:=up _ _ (lt h1) a5
  have I1:=I.turnedNew (t':=s.toks) (h':=h2') (ch:=[z,TI,TO,i1,i2]) (p:=s.heap.objs.size) (o:=.tup [x,y]) (fun c o hc e=>by
    simp at hc;exact up c o hc.1 (a7 c o hc.1 hc.2.2.1 hc.2.2.2.1 hc.2.2.2.2 e)) hf (cw8 _)
   ⟨by show 2<=sizeLine;decide,[u1,u2],.cons ru1 (.cons ru2 .nil),_,hT,rfl,_,rfl⟩
  refine⟨.ref s.heap.objs.size,_,I1,rfl,⟨x,y,_,fun xs' e=>by rw[I.list_inj e hq1];exact hx,fun ys' e=>by rw[I.list_inj e hq2];exact hy,I.hok.fresh (cw8 _),rfl,rfl⟩,
   ⟨b1,up _ _ D.TIz (a7 _ _ D.TIz D.TITO D.TIi1 D.TIi2 h2),⟨_,_,up _ _ D.TOz a2⟩,a3.at fun o e=>up _ o D.i1z e,a4.at fun o e=>up _ o D.i2z e⟩,fun c hcm=> ?_⟩
  have hc0:=(hf c hcm).1;rw[l7 ?_]
  ·exact hc0
  ·intro e;subst e;simp at hcm;obtain⟨o4,g4,_⟩:=h4;obtain⟨o5,g5,_⟩:=h5;rcases hcm with q|q|q|q|q
   ·exact lt h1 q
   ·exact lt h2 q
   ·exact lt h3 q
   ·exact lt g4 q
   ·exact lt g5 q
 done:=by
  intro X hP hw hK hc i pins s σ H E I hf st hg;subst hP hw hK;obtain⟨xs,ys,hq1,hq2,hend⟩:=hg;obtain⟨its1,rv1,p1,hz1⟩:=I.list hq1;obtain⟨its2,rv2,p2,hz2⟩:=I.list hq2;have l1:=rv1.length;have l2:=rv2.length;obtain⟨h1,h2,⟨a,b,h3⟩,h4,h5⟩:=st;refine wpAny_pyNext_zip_end (I.ok.hd hc) D h1 h2 h3 h4 h5 p1.isList p2.isList ?_ fun h' a7=>⟨rfl,?_⟩
  ·rcases hend with q|q
   ·exact .inl (by simp;omega)
   ·exact .inr (by simp;omega)
  ·exact I.turnedL (t':=s.toks) (ch:=[z,TI,TO,i1,i2]) (fun c o hc e=>by
    simp at hc;exact a7 c o hc.1 hc.2.2.1 hc.2.2.2.1 hc.2.2.2.2 e) hf
 self:=fun _ _ _ _ _ st h=>wpAny_pyIter_zip st.1 h
theorem bp8{P:Program}{w:World}{K:W.Frag}{es:List Expr}{k:Nat}{pos:Pos}{e it l:Addr}(hne:e≠it):
  aw3 P w K (.Tuple es k pos) (Ite K l) [e,it] e (fun i h=>(∃old,IsEnum h e it i old)/\h.IsListIter it l i) where
 mem:=by simp
 obj:=fun i h st b hb=>by
  obtain⟨⟨_,h1⟩,⟨o4,h4,_,d4⟩⟩:=st;simp at hb;rcases hb with rfl|rfl
  ·exact⟨_,h1,fun v z=>by cases z⟩
  ·exact⟨o4,h4,fun v z=>by rw[d4]at z;cases z⟩
 keep:=fun i h h' st kk=>by
  obtain⟨⟨old,h1⟩,h4⟩:=st;exact⟨⟨old,kk e (by simp) _ h1⟩,h4.at fun o q=>kk it (by simp) o q⟩
 item:=by
  intro X hP hw hK hc i pins s σ H E I hf st hg;subst hP hw hK;obtain⟨xs,x,hq1,hx⟩:=hg;obtain⟨its1,rv1,p1,hz1⟩:=I.list hq1;obtain⟨u1,hu1,ru1⟩:=rv1.get hx;obtain⟨⟨old,h1⟩,h4⟩:=st;refine wpAny_pyNext_enum_item h1 h4 p1.isList (x:=u1) (by simpa using hu1) hne fun h' a1 a3 a5 a6 a7=> ?_
  refine⟨_,rfl,wpAny_letOwnedTupleGo_enum (s:={s with heap:=h',toks:=s.toks+1}) a1 fun h2' b1 sb=> ?_⟩;have up:∀c o,c≠e->h'.get? c=some o->h2'.get? c=some o:=fun c o hc q=>(sb.2 c hc).trans q
  have lt:∀{c o},s.heap.get? c=some o->s.heap.objs.size≠c:=fun q=>cx1 (cs5 q)
  have hT:h2'.get? s.heap.objs.size=some {cls:=.type "tuple",data:=.seq #[.int i s.toks,u1]}:=up _ _ (lt h1) a5;have I1:=I.turnedNew (t':=s.toks+1) (h':=h2') (ch:=[e,it]) (p:=s.heap.objs.size) (o:=.tup [.int i,x]) (fun c o hc q=>by
    simp at hc;exact up c o hc.1 (a7 c o hc.1 hc.2 q)) hf (cw8 _)
   ⟨by show 2<=sizeLine;decide,[.int i s.toks,u1],.cons ⟨_,rfl⟩ (.cons ru1 .nil),_,hT,rfl,_,rfl⟩
  refine⟨.ref s.heap.objs.size,_,I1,rfl,⟨x,_,fun xs' q=>by rw[I.list_inj q hq1];exact hx,I.hok.fresh (cw8 _),rfl,rfl⟩,
   ⟨⟨_,by simpa using b1⟩,a3.at fun o q=>up _ o (Ne.symm hne) q⟩,fun c hcm=> ?_⟩
  have hc0:=(hf c hcm).1;rw[l7 ?_]
  ·exact hc0
  ·intro q;subst q;simp at hcm;obtain⟨o4,g4,_⟩:=h4;rcases hcm with q|q
   ·exact lt h1 q
   ·exact lt g4 q
 done:=by
  intro X hP hw hK hc i pins s σ H E I hf st hg;subst hP hw hK;obtain⟨xs,hq1,hend⟩:=hg;obtain⟨its1,rv1,p1,hz1⟩:=I.list hq1;have l1:=rv1.length;obtain⟨⟨old,h1⟩,h4⟩:=st;refine wpAny_pyNext_enum_end (I.ok.hd hc) h1 h4 p1.isList (by simp;omega) fun h' eb=>⟨rfl,?_⟩
  exact I.turnedL (t':=s.toks) (ch:=[e,it]) (fun c o hc q=>by
    simp at hc;exact eb c o hc.2 q) hf
 self:=fun A i s Q E st h=>by
  obtain⟨⟨old,h1⟩,h4⟩:=st;exact wpAny_pyIter_enum h1 h
section
variable {X:Cx}{es':List Expr}{k:Nat}{tp:Pos}
noncomputable def cp1(K:W.Frag)(ta:TA):TI:=fun σ H R=>ta σ H fun vs H1=>∃a b,vs=[.ref a,.ref b]/\(∃xs,SqL K H1 a xs)/\(∃ys,SqL K H1 b ys)/\R (Itz K a b) H1
theorem bZ6{a b:Expr}{ta:TA}{p pos:Pos}(hg:Gl X "zip")(hm:X.mg "zip"=none)(ha:PA X [a,b] ta)(hs:starEach [a,b] X.env=[(false,eval a X.env),(false,eval b X.env)]:=by rfl)(hs2:starEach [b] X.env=[(false,eval b X.env)]:=by rfl):
  PI X (.Tuple es' k tp) (.Call (.Name "zip" p) [a,b] [] pos) (cp1 X.K ta):=by
 intro pins s σ H R I h;refine Call_ (ac4 I hg hm boot_zip (PyProof.Rows.callWith_type1 (thn (ha pos pins s σ H _ I h) fun us s1 ⟨vs,H1,I1,r1,q1⟩=> ?_) (by rw[hs,hs2]) (by rw[hs2];rfl)));obtain⟨l1,l2,e,⟨xs,hq1⟩,⟨ys,hq2⟩,q⟩:=q1;subst e;cases r1 with
 |cons r rr=>
  cases rr with
  |cons r' rr=>
   cases rr;cases r;cases r';obtain⟨its1,rv1,p1,hz1⟩:=I1.list hq1;obtain⟨its2,rv2,p2,hz2⟩:=I1.list hq2;have lt1:l1<s1.heap.objs.size:=by obtain⟨o,e,_⟩:=p1.isList;exact cs5 e
   have lt2:l2<s1.heap.objs.size:=by obtain⟨o,e,_⟩:=p2.isList;exact cs5 e
   refine call_zip_2 p1.isList p2.isList fun h' g1 g2 g3 g4 g5 g6 g7=> ?_
   refine wpAny_pyIter_zip (s:={s1 with heap:=h'}) g1 ?_;refine⟨s1.heap.objs.size+4,[s1.heap.objs.size+4,s1.heap.objs.size+2,s1.heap.objs.size+3,s1.heap.objs.size,s1.heap.objs.size+1],_,_,H1,rfl,I1.kept (t':=s1.toks) g7,bB2 (l1:=l1) (l2:=l2) ?_,⟨g1,g2,⟨_,_,g3⟩,g4,g5⟩,fun b hb=> ?_,q⟩
   ·have l1':=Nat.succ_le_of_lt lt1;have l2':=Nat.succ_le_of_lt lt2;constructor<;>(intro z;have z':(_:Nat)=_:=z;omega)
   ·have hb':s1.heap.objs.size<=b:=by
     simp at hb;rcases hb with rfl|rfl|rfl|rfl|rfl<;>first |exact cw8 _|exact Nat.le_add_right _ _
    exact I1.fpOk hb' (I1.hok.fresh hb')
noncomputable def ck8(K:W.Frag)(ta:TA):TI:=fun σ H R=>ta σ H fun vs H1=>∃a,vs=[.ref a]/\(∃xs,SqL K H1 a xs)/\R (Ite K a) H1
theorem bQ5{a:Expr}{ta:TA}{p pos:Pos}(hg:Gl X "enumerate")(hm:X.mg "enumerate"=none)(ha:PA X [a] ta)(hs:starEach [a] X.env=[(false,eval a X.env)]:=by rfl):
  PI X (.Tuple es' k tp) (.Call (.Name "enumerate" p) [a] [] pos) (ck8 X.K ta):=by
 intro pins s σ H R I h;refine Call_ (ac4 I hg hm boot_enumerate (PyProof.Rows.callWith_type1 (thn (ha pos pins s σ H _ I h) fun us s1 ⟨vs,H1,I1,r1,q1⟩=> ?_) hs rfl));obtain⟨l1,e,⟨xs,hq1⟩,q⟩:=q1;subst e;cases r1 with
 |cons r rr=>
  cases rr;cases r;obtain⟨its1,rv1,p1,hz1⟩:=I1.list hq1;refine call_enumerate_list p1.isList fun h' g1 g4 g6 g7=> ?_
  refine wpAny_pyIter_enum (s:={s1 with heap:=h'}) g1 ?_;refine⟨s1.heap.objs.size+1,[s1.heap.objs.size+1,s1.heap.objs.size],_,_,H1,rfl,I1.kept (t':=s1.toks) g7,bp8 (l:=l1) (Nat.succ_ne_self _),⟨⟨_,g1⟩,g4⟩,fun b hb=> ?_,q⟩;have hb':s1.heap.objs.size<=b:=by
   simp at hb;rcases hb with rfl|rfl<;>first |exact cw8 _|exact Nat.le_add_right _ _
  exact I1.fpOk hb' (I1.hok.fresh hb')
end
end L2
namespace L2
open PySem
noncomputable def X0(env:Env)(names:List (Str×NameKind))(cs:List (Str×Addr)):List (Str×Addr):=
 names.foldl (fun cs x=>if x.2==.free then(x.1,(env.cells.lookup x.1).getD 0)::cs else cs) cs
theorem T9(env:Env):∀(names:List (Str×NameKind)) (cs:List (Str×Addr)),(∀x∈names,x.2=.free->∃c,env.cells.lookup x.1=some c)->
  (forIn names cs (fun(x:Str×NameKind) (r:List (Str×Addr))=>if(x.2==.free)=true then do let a<-cellOf env x.1;pure (ForInStep.yield ((x.1,a)::r))else pure (ForInStep.yield r)):Sem (List (Str×Addr)))=pure (X0 env names cs)
 |[],cs,_=>by simp[X0]
 |(n,k)::r,cs,h=>by
  rw[List.forIn_cons];by_cases hk:k=.free
  ·subst hk;obtain⟨c,hc⟩:=h (n,.free) cv8 rfl;have e1:cellOf env n=pure c:=by
    have hc':env.cells.lookup n=some c:=hc;simp only[cellOf,hc']
   simp only[e1,beq_self_eq_true,if_true,pure_bind];rw[T9 env r _ fun x hx=>h x (cv7 _ hx)];simp only[X0,ct2,beq_self_eq_true,if_true,hc,Option.getD_some]
  ·have hb:(k==NameKind.free)=false:=by simpa using hk
   simp only[hb,cr9,if_false,pure_bind];rw[T9 env r _ fun x hx=>h x (cv7 _ hx)];simp only[X0,ct2,hb,cr9,if_false]
theorem bn4{scope:Scope}{env:Env}(h:∀x∈scope.names,x.2=.free->∃c,env.cells.lookup x.1=some c):closureFor scope env=pure (X0 env scope.names []):=by
 have q:=T9 env scope.names [] h;unfold closureFor;refine Eq.trans ?_ (congrArg (fun m=>m>>=pure) q|>.trans (by simp));rfl
theorem am9{env:Env}:∀{names:List (Str×NameKind)}{cs:List (Str×Addr)}{x:Str}{c:Addr},(∀y∈names,y.2=.free->∃c,env.cells.lookup y.1=some c)->(∀x c,cs.lookup x=some c->env.cells.lookup x=some c)->
  (X0 env names cs).lookup x=some c->env.cells.lookup x=some c
 |[],_,_,_,_,hc,e=>hc _ _ e
 |(n,k)::r,cs,x,c,h,hc,e=>by
  have h':∀y∈r,y.2=.free->∃c,env.cells.lookup y.1=some c:=fun y hy=>h y (cv7 _ hy)
  by_cases hk:k=.free
  ·subst hk;obtain⟨c0,hc0⟩:=h (n,.free) cv8 rfl;refine am9 (cs:=(n,c0)::cs) h' (fun z d ez=> ?_) (by simpa only[X0,ct2,beq_self_eq_true,if_true,hc0,Option.getD_some]using e);rw[cv0]at ez;cases hz:z==n with
   |true=>rw[hz]at ez;cases ez;have :=eq_of_beq hz;subst this;exact hc0
   |false=>rw[hz]at ez;exact hc z d ez
  ·have hb:(k==NameKind.free)=false:=by simpa using hk
   exact am9 (cs:=cs) h' hc (by simpa only[X0,ct2,hb,cr9,if_false]using e)
theorem as8{env:Env}:∀{names:List (Str×NameKind)}{cs:List (Str×Addr)}{x:Str},(∀y∈names,y.2=.free->∃c,env.cells.lookup y.1=some c)->((x,.free)∈names\/∃c,cs.lookup x=some c)->
  ∃c,(X0 env names cs).lookup x=some c
 |[],_,_,_,h=>by simpa[X0]using h
 |(n,k)::r,cs,x,hh,h=>by
  have h':∀y∈r,y.2=.free->∃c,env.cells.lookup y.1=some c:=fun y hy=>hh y (cv7 _ hy)
  by_cases hk:k=.free
  ·subst hk;obtain⟨c0,hc0⟩:=hh (n,.free) cv8 rfl;have e:X0 env ((n,.free)::r) cs=X0 env r ((n,c0)::cs):=by simp only[X0,ct2,beq_self_eq_true,if_true,hc0,Option.getD_some]
   rw[e];by_cases hx:x=n
   ·subst hx;exact as8 h' (.inr ⟨c0,by simp[cv0]⟩)
   ·refine as8 h' ?_;rcases h with h|⟨c,h⟩
    ·rcases List.mem_cons.mp h with q|q
     ·cases q;exact absurd rfl hx
     ·exact .inl q
    ·exact .inr ⟨c,by rw[cv0,beq_eq_false_iff_ne.mpr hx];exact h⟩
  ·have hb:(k==NameKind.free)=false:=by simpa using hk
   have e:X0 env ((n,k)::r) cs=X0 env r cs:=by simp only[X0,ct2,hb,cr9,if_false]
   rw[e];refine as8 h' ?_;rcases h with h|h
   ·rcases List.mem_cons.mp h with q|q
    ·cases q;exact absurd rfl hk
    ·exact .inl q
   ·exact .inr h
noncomputable abbrev Nev:Value->Shared->Prop:=fun _ _=>False
noncomputable abbrev bT1(M:Model)(A:Around)(elt target:Expr)(ifs:List Expr)(it acc:Value)(env:Env)(v:Value)(K:Shared->Prop)(s0:Shared):Prop:=
 wpAny M A (letOwnedTupleGo target it v) (fun _ s1=>wpAny M A (assign target env v) (fun _ s2=>
  wpAny M A (forIn ifs true fun c r=>(if r=true then do{let ok<-isTrue c env (eval c env);pure (ForInStep.yield ok)}else pure (ForInStep.yield r))) (fun yes s3=>
   if yes=true then wpAny M A (eval elt env) (fun x s4=>wpAny M A (call (.builtin "list.append") [acc,x]) (fun _ s5=>K s5) Nev s4) Nev s3 else K s3) Nev s2) Nev s1) Nev s0
theorem never{α:Type}{M:Model}{A:Around}{m:Sem α}{Q Q':α->Shared->Prop}{E:Value->Shared->Prop}{s:Shared}(h:wpAny M A m Q Nev s)(k:∀a s1,Q a s1->Q' a s1):wpAny M A m Q' E s:=
 cy2 h k (fun _ _ z=>z.elim)
theorem as7{P:Program}{w:World}{A:Around}{R:Result->Shared->Prop}{s:Shared}{elt target iter:Expr}{ifs:List Expr}{scope:Scope}{pos:Pos}{it acc:Value}{env:Env}(J:Nat->Shared->Prop)
  (turn:∀n s,J n s->wpAny (model P w) A (pyNext it) (fun r s1=>match r with
   |none=>R (.ok .next) s1
   |some v=>bT1 (model P w) A elt target ifs it acc env v (fun s2=>∃m,m<n/\J m s2) s1) Nev s) (n:Nat) (h:J n s):
  codeAny (model P w) A (.compLoop (.ListComp elt [⟨target,iter,ifs,0⟩] scope pos) 0 it acc env) R s:=by
 refine codeAny_loop rfl J (fun k s1 hk=> ?_) n h;refine wpAny_noted ?_;show wpAny _ _ (compTurn (.ListComp elt [⟨target,iter,ifs,0⟩] scope pos) 0 it acc env) _ _ _;rw[compTurn_list];refine cx9 (wpAny_standAt (cx9 (never (turn k s1 hk) (fun r s2 h2=> ?_))));rcases r with _|v
 ·(exact cy5 h2)
 ·refine cx9 (never h2 (fun _ s3 h3=>cx9 (never h3 (fun _ s4 h4=>cx9 (never h4 (fun yes s5 h5=> ?_))))));rcases yes with _|_
  ·exact cy5 (.intro rfl h5)
  ·exact cx9 (cx9 (never h5 (fun x s6 h6=>cx9 (never h6 (fun _ s7 h7=>cy5 (cy5 (.intro rfl h7)))))))
end L2
namespace L2
open PySem PySem.Spec PyProof.Rows
noncomputable def u6(X:Cx)(scope:Scope)(cl:List (Str×Addr))(C:Addr)(N':List Str)(s₀:Shared)(H₀:Hp)(fp:List Addr):Cx where
 prog:=X.prog
 w:=X.w
 K:=X.K
 mg:=X.mg
 base:=X.base
 A:=X.A
 N:=N'
 s₀:=s₀
 H₀:=H₀
 env:=compEnvC scope cl C X.env
 outer:=X.stack
 stack:=X.stack
 ex:=fp
 fn:=fun _=>false
 calm:=X.calm
 pn:=[]
 xe:=fun _ _=>False
noncomputable def M4(nT:Nat)(caps:List Nat)(σ:St):St:=List.replicate nT none++caps.map fun i=>(σ[i]?).join
noncomputable def O5(sc:Scope)(N:List Str)(scope:Scope)(N':List Str)(nT:Nat)(caps:List Nat):Bool:=
 (match scope.kind with |.function=>true|_=>false)&&
 scope.names.all (fun y=>y.2 !=.cell&&(y.2 !=.local||scope.names.lookup y.1==some .local)&&(y.2 !=.free||(sc.names.lookup y.1==some .cell||sc.names.lookup y.1==some .free)))&&
 N'.length==nT+caps.length&&
 (caps.zip (N'.drop nT)).all (fun y=>N[y.1]?==some y.2&&(sc.names.lookup y.2==some .cell||sc.names.lookup y.2==some .free)&&scope.names.lookup y.2==some .free)
theorem au7{env:Env}:∀{names:List (Str×NameKind)}{x:Str},names.lookup x=some .free->
  (names.map fun(n,k)=>if(k==NameKind.free&&env.scope.kind==.function&&env.kindOf n==some .cell)then(n,NameKind.cell)else(n,k)).lookup x=some .cell\/
  (names.map fun(n,k)=>if(k==NameKind.free&&env.scope.kind==.function&&env.kindOf n==some .cell)then(n,NameKind.cell)else(n,k)).lookup x=some .free
 |[],_,h=>by simp at h
 |(n,k)::r,x,h=>by
  have ih:= @au7 env r x;rw[cv2];dsimp only;cases hx:x==n with
  |true=>
   (simp only[cv0,hx]at h);cases h
   by_cases hc:(NameKind.free==NameKind.free&&env.scope.kind==.function&&env.kindOf n==some .cell)=true
   ·left;rw[cx8 hc];simp only[cv0,hx]
   ·right;rw[cx7 hc];simp only[cv0,hx]
  |false=>
   (simp only[cv0,hx]at h);(by_cases hc:(k==NameKind.free&&env.scope.kind==.function&&env.kindOf n==some .cell)=true)
   ·(rw[cx8 hc];simp only[cv0,hx];exact ih h)
   ·(rw[cx7 hc];simp only[cv0,hx];exact ih h)
theorem am6{env:Env}:∀{names:List (Str×NameKind)}{x:Str}{k:NameKind},
  (names.map fun(n,k)=>if(k==NameKind.free&&env.scope.kind==.function&&env.kindOf n==some .cell)then(n,NameKind.cell)else(n,k)).lookup x=some k->(k=.cell\/k=.free)->(∀y∈names,y.2≠.cell)->(x,.free)∈names
 |[],_,_,h,_,_=>by simp at h
 |(n,k0)::r,x,k,h,hk,hn=>by
  have ih:= @am6 env r x k;rw[cv2]at h;dsimp only at h;have hn':∀y∈r,y.2≠.cell:=fun y hy=>hn y (cv7 _ hy)
  have n0:k0≠.cell:=hn (n,k0) cv8;cases hx:x==n with
  |true=>
   have e:=eq_of_beq hx;subst e;by_cases hc:(k0==NameKind.free&&env.scope.kind==.function&&env.kindOf x==some .cell)=true
   ·have :k0=.free:=by
     cases hq:k0==NameKind.free with
     |true=>exact eq_of_beq hq
     |false=>rw[hq]at hc;simp at hc
    subst this;exact cv8
   ·rw[cx7 hc]at h
    (simp only[cv0,hx]at h);cases h
    rcases hk with rfl|rfl
    ·exact absurd rfl n0
    ·exact cv8
  |false=>
   by_cases hc:(k0==NameKind.free&&env.scope.kind==.function&&env.kindOf n==some .cell)=true
   ·rw[cx8 hc]at h;simp only[cv0,hx]at h;exact cv7 _ (ih h hk hn')
   ·rw[cx7 hc]at h;simp only[cv0,hx]at h;exact cv7 _ (ih h hk hn')
noncomputable def aD9(X:Cx)(ifs:List Expr)(t:TT):Prop:=
 ∀(pins:List (Addr×Obj)) (s:Shared) (σ:St) (H:Hp) (Q:Bool->Hp->Prop),Inv X pins σ H s->t σ H Q->
  wpAny (model X.prog X.w) X.A (forIn ifs true fun c r=>if r=true then do let ok<-isTrue c X.env (eval c X.env);pure (ForInStep.yield ok)else pure (ForInStep.yield r)) (TP X pins σ Q) X.xe s
noncomputable def cm8:TT:=fun _ H Q=>Q true H
theorem bF1{X:Cx}:aD9 X [] cm8:=fun _ _ _ H _ I h=>wpAny_tests_nil ⟨H,I,h⟩
theorem bF0{X:Cx}{c:Expr}{t:TT}(h:PT X c t):aD9 X [c] t:=fun pins s σ H Q I q=>wpAny_tests_one (h pins s σ H Q I q)
noncomputable def Sub(σ σ':St):Prop:=σ'.length=σ.length/\∀(i:Nat) v,σ[i]?=some (some v)->σ'[i]?=some (some v)
noncomputable def tLC(wi:TI)(g:TG)(tc:TT)(te:TE)(nT:Nat)(caps:List Nat):TE:=fun σ H Q=>wi σ H fun J H1=>∀a,H1 a=none->
 ∃W:Nat->Nat->List V->Hp->Prop,(∃m,W 0 m [] (upd H1 a (.lst [])))/\∀i m ys H,W i m ys H->
  (J.stop i H/\Q (.ref a) H)\/(J.go i H/\∀x H',J.yld i H x H'->g x (M4 nT caps σ) H' fun σ2 H2=>Sub (M4 nT caps σ) σ2/\tc σ2 H2 fun c H3=>
   if c=true then te σ2 H3 fun v H4=>H4 a=some (.lst ys)/\ys.length<sizeLine/\∃m',m'<m/\W (i+1) m' (ys++[v]) (upd H4 a (.lst (ys++[v])))else∃m',m'<m/\W (i+1) m' ys H3)
structure cq6(X:Cx)(pins:List (Addr×Obj))(H:Hp)(C:Addr):Prop where
 hn:H C=none
 hL:C≠X.env.locals
 h1:C∈X.ex\/X.s₀.heap.objs.size<=C
 h2:∀x c,X.env.cells.lookup x=some c->c≠C
 h3:∀p∈X.pn++pins,p.1≠C
structure bM8(ok:Cx->Prop)(P:Program)(w:World)(K:W.Frag)(tg:Expr)(J:It)(fp:List Addr)(it:Addr)(tn:Nat->Heap->Prop):Prop where
 mem:it∈fp
 obj:∀i h,tn i h->∀b∈fp,∃o,h.get? b=some o/\∀v,o.data≠.cell v
 keep:∀i h h',tn i h->(∀b∈fp,∀o,h.get? b=some o->h'.get? b=some o)->tn i h'
 item:∀(X:Cx),X.prog=P->X.w=w->X.K=K->ok X->∀(i:Nat) (pins:List (Addr×Obj)) (s:Shared) (σ:St) (H:Hp) (E:Value->Shared->Prop),Inv X pins σ H s->(∀b∈fp,ag8 X pins H b)->tn i s.heap->J.go i H->
  wpAny (model P w) X.A (pyNext (.ref it)) (fun r s1=>∃u,r=some u/\
   wpAny (model P w) X.A (letOwnedTupleGo tg (.ref it) u) (fun _ s2=>∃x H',Inv X pins σ H' s2/\r8 x u/\J.yld i H x H'/\tn (i+1) s2.heap/\∀b∈fp,H' b=none) E s1) E s
 done:∀(X:Cx),X.prog=P->X.w=w->X.K=K->ok X->∀(i:Nat) (pins:List (Addr×Obj)) (s:Shared) (σ:St) (H:Hp) (E:Value->Shared->Prop),Inv X pins σ H s->(∀b∈fp,ag8 X pins H b)->tn i s.heap->J.stop i H->
  wpAny (model P w) X.A (pyNext (.ref it)) (fun r s1=>r=none/\Inv X pins σ H s1) E s
 self:∀(A:Around) (i:Nat) (s:Shared) (Q:Value->Shared->Prop) (E:Value->Shared->Prop),tn i s.heap->Q (.ref it) s->wpAny (model P w) A (pyIter (.ref it)) Q E s
noncomputable def cq1(ok:Cx->Prop)(X:Cx)(pins:List (Addr×Obj))(σ:St)(tg:Expr)(R:It->Hp->Prop)(itv:Value)(s2:Shared):Prop:=
 ∃(it:Addr) (fp:List Addr) (tn:Nat->Heap->Prop) (J:It) (H':Hp),itv=.ref it/\Inv X pins σ H' s2/\bM8 ok X.prog X.w X.K tg J fp it tn/\tn 0 s2.heap/\(∀b∈fp,ag8 X pins H' b)/\R J H'
noncomputable def PIx(ok:Cx->Prop)(X:Cx)(tg iter:Expr)(wi:TI):Prop:=
 ∀(pins:List (Addr×Obj)) (s:Shared) (σ:St) (H:Hp) (R:It->Hp->Prop),Inv X pins σ H s->wi σ H R->
  wpAny (model X.prog X.w) X.A (eval iter X.env) (fun v s1=>wpAny (model X.prog X.w) X.A (pyIter v) (cq1 ok X pins σ tg R) X.xe s1) X.xe s
theorem PI.x{X:Cx}{tg iter:Expr}{wi:TI}(h:PI X tg iter wi):PIx (fun X=>X.calm=true) X tg iter wi:=fun pins s σ H R I q=>
 thn (h pins s σ H R I q) fun v s1 h1=>thn h1 fun itv s2 ⟨it,fp,tn,J,H',e,I2,T,r⟩=>⟨it,fp,tn,J,H',e,I2,⟨T.mem,T.obj,T.keep,T.item,T.done,T.self⟩,r⟩
theorem aW3{X:Cx}{elt target iter:Expr}{ifs:List Expr}{scope:Scope}{pos:Pos}{wi:TI}{g:TG}{tc:TT}{te:TE}(N':List Str)(nT:Nat)(caps:List Nat)
  {ok:Cx->Prop}(hokc:∀cl C fp pins σ H s,Inv X pins σ H s->(∀b∈fp,b∈X.ex\/X.s₀.heap.objs.size<=b)->ok (u6 X scope cl C N' s H fp)) (chk:O5 X.env.scope X.N scope N' nT caps=true) (hi:PIx ok X target iter wi)
  (hg:∀cl C s₀ H₀ fp,PG (u6 X scope cl C N' s₀ H₀ fp) target g) (hc:∀cl C s₀ H₀ fp,aD9 (u6 X scope cl C N' s₀ H₀ fp) ifs tc) (he:∀cl C s₀ H₀ fp,PE (u6 X scope cl C N' s₀ H₀ fp) elt te)
  (hs:∀x,foldedSetIterable iter X.env x=pure x){pins:List (Addr×Obj)}{s:Shared}{σ:St}{H:Hp}{Q:VK}(I:Inv X pins σ H s) (h:tLC wi g tc te nT caps σ H Q)
  {use:Option (Value->Sem Unit)}{Q':Value->Shared->Prop}{ps:Pos}
  (fin:∀(a C:Addr) (H5:Hp) (s6:Shared),Inv X pins σ H5 s6->(∃m,s6.heap.Ns C m)->cq6 X pins H5 C->Q (.ref a) H5->compPost (model X.prog X.w) X.A X.xe use Q' (.ref a) C (.ok .next) s6):
  wpAny (model X.prog X.w) X.A (comprehension (.ListComp elt [⟨target,iter,ifs,0⟩] scope pos) scope X.env ps (newList []) false (eval iter X.env) use) Q' X.xe s:=by
 simp only[O5,cr8,List.all_eq_true,beq_iff_eq]at chk;obtain⟨⟨⟨ck,cn⟩,cl0⟩,cc⟩:=chk;have kind:scope.kind=.function:=by
  revert ck;cases scope.kind<;>simp
 have nocell:∀y∈scope.names,y.2≠.cell:=fun y hy=>by have :=(cn y hy).1.1;simpa using this
 have locs:∀y∈scope.names,y.2=.local->scope.names.lookup y.1=some .local:=fun y hy e=>by
  have :=(cn y hy).1.2;simpa[e]using this
 have capk:∀y∈scope.names,y.2=.free->(X.env.kindOf y.1=some .cell\/X.env.kindOf y.1=some .free):=fun y hy e=>by
  have :=(cn y hy).2;simp only[e,bne_self_eq_false,Bool.false_or,Bool.or_eq_true,beq_iff_eq]at this;exact this
 have hcap:∀y∈scope.names,y.2=.free->∃c,X.env.cells.lookup y.1=some c:=fun y hy e=>I.ok.has y.1 (capk y hy e)
 refine wpAny_comprehension_free (use:=use) rfl hs (bn4 hcap) kind locs (thn (hi pins s σ H _ I h) fun v s1 h1=>thn h1 fun itv s2 h2=> ?_);obtain⟨it,fp,tn,J,H2,rfl,I2,T,st2,f2,hq⟩:=h2
 (refine cy3 ?_ (by size_fits));have hfr:H2 s2.heap.objs.size=none:=I2.hok.fresh (cw8 _)
 have I3:Inv X pins σ (upd H2 s2.heap.objs.size (.lst [])) {s2 with heap:=s2.heap.push {cls:=.type "list",dict:=none,data:=.seq ([]:List Value).toArray}}:=
  I2.laid (t':=s2.toks) (fun b u e=>cs1 _ e) (cw8 _) ⟨Nat.zero_le _,[],0,.nil,cs2 _ rfl⟩
 have fpo:∀b∈fp,∃o,s2.heap.get? b=some o/\∀v,o.data≠.cell v:=T.obj _ _ st2;have fplt:∀b∈fp,b<s2.heap.objs.size:=fun b hb=>by obtain⟨o,e,_⟩:=fpo b hb;exact cs5 e
 generalize ha:s2.heap.objs.size=a at *;generalize hs3:({s2 with heap:=s2.heap.push {cls:=.type "list",dict:=none,data:=.seq ([]:List Value).toArray}}:Shared)=s3 at *;have st3:tn 0 s3.heap:=by rw[<-hs3];exact T.keep _ _ _ st2 fun b _ o e=>cs1 _ e
 have fpo3:∀b∈fp,∃o,s3.heap.get? b=some o/\∀v,o.data≠.cell v:=T.obj _ _ st3;have fr3:∀b∈fp,upd H2 a (.lst []) b=none:=fun b hb=>by rw[l7 (cx2 (fplt b hb))];exact(f2 b hb).1
 refine wpAny_newFunctionEnv nocell (by intro y hy;simp at hy) (fun h₁ hns₁ hsb₁=> ?_) kind;obtain⟨W,⟨m0,w0⟩,turn⟩:=hq a hfr;generalize hC:s3.heap.objs.size=C at *;generalize hcl:X0 X.env scope.names []=cl at *;have clsub:∀x c,cl.lookup x=some c->X.env.cells.lookup x=some c:=fun x c e=>by
  rw[<-hcl]at e;exact am9 hcap (fun x c e=>by simp at e) e
 have clhas:∀x,(x,.free)∈scope.names->∃c,cl.lookup x=some c:=fun x hx=>by
  rw[<-hcl];exact as8 hcap (.inl hx)
 have keep1:∀b o,s3.heap.get? b=some o->h₁.get? b=some o:=fun b o e=>hsb₁.extBut b o (by rw[<-hC];exact cx2 (cs5 e)) (cs1 _ e)
 have ltC:∀b o,s3.heap.get? b=some o->b<C:=fun b o e=>by rw[<-hC];exact cs5 e
 have cellC:∀x c,X.env.cells.lookup x=some c->c<C:=fun x c e=>by
  obtain⟨v,o,ho,_⟩:=I3.cell x c e;exact ltC c o ho
 --the block's own invariant at its start
 have I4:Inv (u6 X scope cl C N' s3 (upd H2 a (.lst [])) fp) [] (M4 nT caps σ) (upd H2 a (.lst [])) {s3 with heap:=h₁,toks:=s3.toks+([]:List (Str×Value)).length}:=by
  refine⟨⟨I.ok.mod,kind,I.ok.glob,I.ok.blt,by rw[<-hC];exact cw8 _,fun x y c e1 e2=>I.ok.inj x y c (clsub x c e1) (clsub y c e2),fun x hx=> ?_,(fun x c z=>nomatch z),I.ok.hd,I.ok.frames,.inl rfl,fun b hb=>⟨?_,fun x c e=> ?_⟩,
   I3.bs,cw9 I.ok.bsz I3.sz,fun b o e z=> ?_,fun b hb z=> ?_,I3.stack,I3.stkFree⟩,rfl,I3.bare,Un.kept keep1,⟨_,hns₁,fun i x v e1 e2 e3=> ?_⟩,fun x c e=> ?_,?_,fun x c e=>I3.freeC x c (clsub x c e),fun p hp=>absurd (show p∈([]:List (Addr×Obj))from hp) (by simp),I3.hok.kept keep1,?_⟩
  ·exact clhas x (hx.elim (fun q=>am6 q (.inl rfl) nocell) fun q=>am6 q (.inr rfl) nocell)
  ·exact cx2 (by obtain⟨o,q,_⟩:=fpo3 b hb;exact ltC b o q)
  ·exact(f2 b hb).2.2.2.2.1 x c (clsub x c e)
  ·rcases(f2 b z).2.2.2.1 with q|q
   ·exact I.ok.noex b o e q
   ·exact absurd (cx0 (cs5 e) (cw9 I.ok.bsz q)) (Nat.lt_irrefl _)
  ·rcases List.mem_cons.mp (I3.stkSub b z)with q|q
   ·exact(f2 b hb).2.1 q
   ·exact(f2 b hb).2.2.1 q
  ·have hi':nT<=i:=by
    by_cases hlt:i<nT
    ·exfalso;unfold M4 at e2;rw[ct4 (by simpa using hlt),cu1,cx8 hlt]at e2;cases e2
    ·omega
   unfold M4 at e2;rw[ct5 (by simpa using hi'),cu8,cu0]at e2;cases ec:caps[i-nT]? with
   |none=>rw[ec]at e2;cases e2
   |some i0=>
    rw[ec]at e2;have e2':(σ[i0]?).join=some v:=Option.some.inj e2;have es:σ[i0]?=some (some v):=by
     cases q:σ[i0]? with
     |none=>rw[q]at e2';cases e2'
     |some o=>rw[q]at e2';cases o with
      |none=>cases e2'
      |some v'=>cases e2';rfl
    have e1':N'[i]?=some x:=e1;have hz:(i0,x)∈caps.zip (N'.drop nT):=by
     refine cv9 (i:=i-nT) ?_;rw[List.getElem?_zip_eq_some];refine⟨ec,?_⟩;rw[List.getElem?_drop,<-e1'];congr 1;omega
    obtain⟨⟨c1,c2⟩,c3⟩:=cc _ hz;simp only[Bool.or_eq_true,beq_iff_eq]at c2;obtain⟨m,hn,hl⟩:=I3.loc;obtain⟨u,ru,lu⟩:=hl i0 x v c1 es (c2.elim (fun q=>.inr (.inl q)) fun q=>.inr (.inr q));refine⟨u,ru,?_⟩;rcases lu with⟨q,_⟩|⟨_,c,hc',hcell⟩
    ·exfalso;have q':X.env.scope.names.lookup x=some .local:=q;rcases c2 with c2|c2<;>rw[c2]at q'<;>cases q'
    ·obtain⟨c'',hc''⟩:=clhas x (PySem.mem_of_lookup c3);have :=clsub x c'' hc'';rw[hc']at this;cases this;refine .inr ⟨?_,c,hc'',?_⟩
     ·exact au7 c3
     ·obtain⟨o,ho,hd⟩:=hcell;exact⟨o,keep1 c o ho,hd⟩
  ·obtain⟨v,o,ho,hd⟩:=I3.cell x c (clsub x c e);exact⟨v,o,keep1 c o ho,hd⟩
  ·exact I3.hok.fresh (by rw[hC];exact cw8 _)
  ·show(M4 nT caps σ).length=N'.length;unfold M4;rw[cu4,cu8,cu6,cl0]
 have hcalm:ok (u6 X scope cl C N' s3 (upd H2 a (.lst [])) fp):=hokc _ _ _ _ _ _ _ I3 fun b hb=>(f2 b hb).2.2.2.1
 have stat:∀{H':Hp},(∀b∈fp,H' b=none)->∀b∈fp,ag8 (u6 X scope cl C N' s3 (upd H2 a (.lst [])) fp) [] H' b:=fun hn b hb=>
  ⟨hn b hb,cx2 (by obtain⟨o,q,_⟩:=fpo3 b hb;exact ltC b o q),fun z=>by
   rcases List.mem_cons.mp (I3.stkSub b z)with q|q
   ·exact(f2 b hb).2.1 q
   ·exact(f2 b hb).2.2.1 q,.inl hb,fun x c e=>(f2 b hb).2.2.2.2.1 x c (clsub x c e),fun p hp=>absurd (show p∈([]:List (Addr×Obj))from hp) (by simp)⟩
 have loop:codeAny (model X.prog X.w) X.A (.compLoop (.ListComp elt [⟨target,iter,ifs,0⟩] scope pos) 0 (.ref it) (.ref a) (compEnvC scope cl C X.env))
   (compPost (model X.prog X.w) X.A X.xe use Q' (.ref a) C) {s3 with heap:=h₁,toks:=s3.toks+([]:List (Str×Value)).length}:=by
  refine as7 (fun n s'=>∃i ys H',Inv (u6 X scope cl C N' s3 (upd H2 a (.lst [])) fp) [] (M4 nT caps σ) H' s'/\tn i s'.heap/\(∀b∈fp,H' b=none)/\W i n ys H') ?_ m0
   ⟨0,[],_,I4,T.keep _ _ _ st3 fun b _ o e=>keep1 b o e,fr3,w0⟩
  rintro n s5 ⟨i,ys,H5,I5,st5,fr5,w5⟩;rcases turn i n ys H5 w5 with⟨stop,qn⟩|⟨go,step⟩
  ·refine thn (T.done (u6 X scope cl C N' s3 (upd H2 a (.lst [])) fp) rfl rfl rfl hcalm i [] s5 (M4 nT caps σ) H5 (fun _ _=>False) I5 (stat fr5) st5 stop) fun r s6 ⟨hr,I6⟩=> ?_
   subst hr;obtain⟨m,hn,_⟩:=I6.loc;have J0:Inv X pins σ H5 s6:=I3.call' (ch:=fp) I6.os I6.base I6.hok I6.bare fun b hb=>by
    obtain⟨f0,f1,f3,f4,f5,f6⟩:=f2 b hb;exact⟨f4,f1,f5,f6⟩
   exact fin a C H5 s6 J0 ⟨m,hn⟩ ⟨I6.free,cx1 (by rw[<-hC];exact I3.lt),.inr (by rw[<-hC];exact I3.sz),fun x c e=>cx2 (cellC x c e),fun p hp=>cx2 (ltC p.1 p.2 (I3.pin p hp).1)⟩ qn
  ·refine thn (T.item (u6 X scope cl C N' s3 (upd H2 a (.lst [])) fp) rfl rfl rfl hcalm i [] s5 (M4 nT caps σ) H5 (fun _ _=>False) I5 (stat fr5) st5 go) fun r s6 ⟨u,hr,h6⟩=> ?_
   subst hr;refine thn h6 fun _ s7 ⟨x,H7,I7,r7,y7,st7,fr7⟩=> ?_
   have I7':=I7.pinned (stat fr7) (T.obj _ _ st7);refine thn (hg _ _ _ _ _ _ s7 _ H7 x u _ I7' r7 (step x H7 y7)) fun _ s8 ⟨σ8,H8,I8,sub8,q8⟩=> ?_
   refine thn (hc _ _ _ _ _ _ s8 σ8 H8 _ I8 q8) fun b s9 ⟨H9,I9,q9⟩=> ?_
   have again:∀{H':Hp}{s':Shared}{ys':List V}{m':Nat},Inv (u6 X scope cl C N' s3 (upd H2 a (.lst [])) fp) ([]++av1 fp s7.heap) σ8 H' s'->W (i+1) m' ys' H'->m'<n->
     ∃m,m<n/\∃i ys H',Inv (u6 X scope cl C N' s3 (upd H2 a (.lst [])) fp) [] (M4 nT caps σ) H' s'/\tn i s'.heap/\(∀b∈fp,H' b=none)/\W i m ys H':=fun{H' s' ys' m'} I' w' hm=>by
    refine⟨m',hm,i+1,ys',H',(I'.unpinned).weak sub8.1.symm sub8.2,T.keep _ _ _ st7 fun b hb o e=>(I'.pin (b,o) (cv6 _ (cv6 _ (ah2 hb e)))).1,fun b hb=> ?_,w'⟩;obtain⟨o,e,d⟩:=T.obj _ _ st7 b hb;exact(I'.pin (b,o) (cv6 _ (cv6 _ (ah2 hb e)))).2.1
   cases b with
   |false=>
    obtain⟨m',hm,w'⟩:=q9;exact again I9 w' hm
   |true=>
    refine thn (he _ _ _ _ _ _ s9 σ8 H9 _ I9 q9) fun y s10 ⟨v,H10,I10,r10,hacc,hlen,m',hm,w'⟩=> ?_
    refine thn (aM9 _ s10 σ8 H10 (.ref a) [v] (.ref a) [y] (fun(z:V) (H':Hp)=>z=.non/\H'=upd H10 a (.lst (ys++[v]))) I10 rfl (.cons r10 .nil) ⟨a,ys,v,rfl,rfl,hacc,hlen,rfl,rfl⟩) fun z s11 ⟨_,H11,I11,_,_,e11⟩=> ?_
    subst e11;exact again I11 w' hm
 exact codeAny_compStart_list loop (T.self _ 0 _ _ _ (T.keep _ _ _ st3 fun b _ o e=>keep1 b o e) loop)
theorem ck0{X:Cx}{elt target iter:Expr}{ifs:List Expr}{scope:Scope}{pos:Pos}{wi:TI}{g:TG}{tc:TT}{te:TE}(N':List Str)(nT:Nat)(caps:List Nat)
  (hcalm:X.calm=true) (chk:O5 X.env.scope X.N scope N' nT caps=true) (hi:PI X target iter wi)
  (hg:∀cl C s₀ H₀ fp,PG (u6 X scope cl C N' s₀ H₀ fp) target g) (hc:∀cl C s₀ H₀ fp,aD9 (u6 X scope cl C N' s₀ H₀ fp) ifs tc) (he:∀cl C s₀ H₀ fp,PE (u6 X scope cl C N' s₀ H₀ fp) elt te)
  (hs:∀x,foldedSetIterable iter X.env x=pure x:=by intro _;rfl):
  PE X (.ListComp elt [⟨target,iter,ifs,0⟩] scope pos) (tLC wi g tc te nT caps):=by
 intro pins s σ H Q I h;rw[eval_ListComp];refine aW3 N' nT caps (ok:=fun X=>X.calm=true) (fun _ _ _ _ _ _ _ _ _=>hcalm) chk hi.x hg hc he hs I h (use:=none) fun a C H5 s6 J0 hn fr qn=> ?_
 obtain⟨m,hn⟩:=hn;refine⟨m,hn,fun h' sb=> ?_⟩;have J1:Inv X pins σ H5 {s6 with heap:=h',toks:=s6.toks}:=J0.turned (it:=C) (fun b o hb e=>sb.extBut b o hb e) fr.hn fr.hL fr.h1 fr.h2 fr.h3;exact⟨.ref a,H5,J1,rfl,qn⟩
theorem ca3{X:Cx}{elt target iter:Expr}{ifs:List Expr}{scope:Scope}{pos:Pos}{wi:TI}{g:TG}{tc:TT}{te:TE}(N':List Str)(nT:Nat)(caps:List Nat){ok:Cx->Prop}
  (hokc:∀cl C fp pins σ H s,Inv X pins σ H s->(∀b∈fp,b∈X.ex\/X.s₀.heap.objs.size<=b)->ok (u6 X scope cl C N' s H fp)) (chk:O5 X.env.scope X.N scope N' nT caps=true) (hi:PIx ok X target iter wi)
  (hg:∀cl C s₀ H₀ fp,PG (u6 X scope cl C N' s₀ H₀ fp) target g) (hc:∀cl C s₀ H₀ fp,aD9 (u6 X scope cl C N' s₀ H₀ fp) ifs tc) (he:∀cl C s₀ H₀ fp,PE (u6 X scope cl C N' s₀ H₀ fp) elt te)
  (hs:∀x,foldedSetIterable iter X.env x=pure x:=by intro _;rfl):
  PE X (.ListComp elt [⟨target,iter,ifs,0⟩] scope pos) (tLC wi g tc te nT caps):=by
 intro pins s σ H Q I h;rw[eval_ListComp];refine aW3 N' nT caps hokc chk hi hg hc he hs I h (use:=none) fun a C H5 s6 J0 hn fr qn=> ?_
 obtain⟨m,hn⟩:=hn;refine⟨m,hn,fun h' sb=> ?_⟩;have J1:Inv X pins σ H5 {s6 with heap:=h',toks:=s6.toks}:=J0.turned (it:=C) (fun b o hb e=>sb.extBut b o hb e) fr.hn fr.hL fr.h1 fr.h2 fr.h3;exact⟨.ref a,H5,J1,rfl,qn⟩
theorem af6{X:Cx}{elt target iter:Expr}{ifs:List Expr}{scope:Scope}{pos pos' spos:Pos}{wi:TI}{g:TG}{tc:TT}{te:TE}{x:Str}{i:Nat}(N':List Str)(nT:Nat)(caps:List Nat)
  (hcalm:X.calm=true) (chk:O5 X.env.scope X.N scope N' nT caps=true) (hi:PI X target iter wi)
  (hg:∀cl C s₀ H₀ fp,PG (u6 X scope cl C N' s₀ H₀ fp) target g) (hc:∀cl C s₀ H₀ fp,aD9 (u6 X scope cl C N' s₀ H₀ fp) ifs tc) (he:∀cl C s₀ H₀ fp,PE (u6 X scope cl C N' s₀ H₀ fp) elt te)
  (hN:X.N.Nodup) (hx:X.N[i]?=some x) (hl:X.env.scope.names.lookup x=some .local) (hsw:swapsWith (.ListComp elt [⟨target,iter,ifs,0⟩] scope pos) (some (.Name x pos')) spos.line X.env=pure true)
  (hs:∀x,foldedSetIterable iter X.env x=pure x:=by intro _;rfl):
  PS X (.Assign [.Name x pos'] (.ListComp elt [⟨target,iter,ifs,0⟩] scope pos) spos) (bh5 (tLC wi g tc te nT caps) (al7 i)):=by
 intro pins s σ H D I h
 (rw[exec_Assign_Name_used _ _ _ _ hsw]);(refine cx9 (wpAny_standAt (cx9 ?_)));show wpAny _ X.A (do let _<-comprehension (.ListComp elt [⟨target,iter,ifs,0⟩] scope pos) scope X.env _ (newList []) false (eval iter X.env) (some (assign (.Name x pos') X.env))) _ _ s
 refine cx9 (cy2 (aW3 N' nT caps (ok:=fun X=>X.calm=true) (fun _ _ _ _ _ _ _ _ _=>hcalm) chk hi.x hg hc he hs I h (use:=some (assign (.Name x pos') X.env)) (Q':=fun _ s'=>SP X pins D .next s') fun a C H5 s6 J0 hn fr qn=> ?_) (fun _ s' hq=>cy5 (cy5 hq)) fun _ _ e=>e);obtain⟨m,hn⟩:=hn;show wpAny _ X.A (assign (.Name x pos') X.env (.ref a)) _ _ s6;refine wpAny_assign_Name (au3 J0 hN hx (.inl hl) (show r8 (.ref a) (.ref a)from rfl) (fun s7 I7 ⟨b,sb,hb⟩=> ?_) (.inr hl));have hbC:C≠b:=by
  rcases hb with rfl|hb
  ·exact fr.hL
  ·exact fun z=>fr.h2 x b hb z.symm
 refine⟨m,?_,fun h' sb'=> ?_⟩
 ·obtain⟨o,es,ep,ho,r⟩:=hn;exact⟨o,es,ep,(sb.2 C hbC).trans ho,r⟩
 ·have J1:Inv X pins (σ.set i (some (.ref a))) H5 {s7 with heap:=h',toks:=s7.toks}:=I7.turned (it:=C) (fun b o hb e=>sb'.extBut b o hb e) fr.hn fr.hL fr.h1 fr.h2 fr.h3;exact⟨_,H5,J1,qn⟩
end L2
namespace L3
open PySem PySem.Spec PyProof.Rows L2
noncomputable def Z2:List (Addr×Str):=[(400,"law.<locals>.<lambda>")]
theorem bN8:∀p∈Z2,∀p'∈Z2,p.1=p'.1->p.2=p'.2:=by decide +kernel
noncomputable def W2(c:Addr)(q:Str):HO:=.ext (fun h=>h.CodeRec (.ref c) q)
noncomputable def M2(H:Hp)(q:Str):List Value->Prop
 |[]=>True
 |.int _ _::.int _ _::c::rest=>(∃a,c=.ref a/\H a=some (W2 a q))/\M2 H q rest
 |_=>False
noncomputable def Tbs(H:Hp):Prop:=∀p∈Z2,∃ps,H p.1=some (.tbl ps)/\M2 H p.2 ps.toList
structure Sub(G H:Hp):Prop where
 s:w9 G H
 t:Tbs H
 n:∀b ps,G b≠some (.tbl ps)
noncomputable instance {G H:Hp}:CoeFun (Sub G H) (fun _=>∀b o,G b=some o->H b=some o):=⟨fun h=>h.s⟩
noncomputable instance {G H:Hp}:Coe (Sub G H) (w9 G H):=⟨fun h=>h.s⟩
noncomputable def ae5:HO->Bool
 |.tbl _=>false
 |_=>true
noncomputable def I0(H H':Hp):Prop:=∀b o,H b=some o->∃o',H' b=some o'/\(ae5 o=true->o'=o)
section
variable {G G' H H' H2:Hp}{q:Str}
theorem I0.refl(H:Hp):I0 H H:=fun _ o h=>⟨o,h,fun _=>rfl⟩
theorem ax7(h:w9 H H'):I0 H H':=fun b o q=>⟨o,h b o q,fun _=>rfl⟩
theorem I0.yes(h:I0 H H'){b:Addr}{o:HO}(e:H b=some o)(n:ae5 o=true):H' b=some o:=by
 obtain⟨o',e',z⟩:=h b o e;rw[z n]at e';exact e'
theorem I0.lst(h:I0 H H'){b:Addr}{xs:List V}(e:H b=some (.lst xs)):H' b=some (.lst xs):=h.yes e rfl
theorem I0.ne(h:I0 H H'){b:Addr}(e:H b≠none):H' b≠none:=by
 cases q:H b with
 |none=>exact absurd q e
 |some o=>obtain⟨o',e',_⟩:=h b o q;rw[e'];simp
theorem I0.free(h:I0 H H'){b:Addr}(e:H' b=Option.none):H b=Option.none:=by
 cases q:H b with
 |none=>rfl
 |some o=>obtain⟨o',e',_⟩:=h b o q;rw[e']at e;cases e
theorem I0.trans(a:I0 H H')(b:I0 H' H2):I0 H H2:=fun c o e=>by
 by_cases n:ae5 o=true
 ·exact⟨o,b.yes (a.yes e n) n,fun _=>rfl⟩
 ·obtain⟨o',e',_⟩:=a c o e;obtain⟨o2,e2,_⟩:=b c o' e';exact⟨o2,e2,fun z=>absurd z n⟩
theorem I0.upd(h:I0 H H'){a:Addr}{o:HO}(n:H a=none):I0 H (L2.upd H' a o):=fun b u e=>by
 rw[l7 (t6 e n)];exact h b u e
theorem Sub.free(e:Sub G H){l:Addr}(h:H l=Option.none):G l=Option.none:=e.s.free h
theorem Sub.seq{K:W.Frag}{a:Addr}{xs:List V}(e:Sub G H)(h:SqL K G a xs):SqL K H a xs:=e.s.seq h
theorem ay4{a:Addr}{o:HO}(h:∀b ps,G b≠some (.tbl ps))(n:ae5 o=true):∀b ps,L2.upd G a o b≠some (.tbl ps):=fun b ps z=>by
 by_cases e:b=a
 ·subst e;rw[n6]at z;cases z;cases n
 ·rw[l7 e]at z;exact h b ps z
theorem M2.mono(k:∀a,H a=some (W2 a q)->H' a=some (W2 a q)):∀{l:List Value},M2 H q l->M2 H' q l
 |[],_=>trivial
 |.int _ _::.int _ _::c::rest,⟨⟨a,e,h⟩,r⟩=>⟨⟨a,e,k a h⟩,M2.mono k r⟩
theorem M2.triples:∀{l:List Value},M2 H q l->TriplesOk l
 |[],_=>trivial
 |.int _ _::.int _ _::c::rest,⟨_,r⟩=>by
  have :=M2.triples r;simpa only[TriplesOk]using this
theorem M2.hit{pos:Pos}{cv:Value}:∀{l:List Value},M2 H q l->codeAmong pos l=some cv->∃a,cv=.ref a/\H a=some (W2 a q)
 |[],_,e=>by cases e
 |.int _ _::.int _ _::c::rest,⟨⟨a,ea,h⟩,r⟩,e=>by
  unfold codeAmong at e;split at e
  ·cases e;exact⟨a,ea,h⟩
  ·exact M2.hit r e
theorem M2.more{i j:Int}{t u:Tok}{a:Addr}(h:H a=some (W2 a q)):∀{l:List Value},M2 H q l->M2 H q (l++[.int i t,.int j u,.ref a])
 |[],_=>⟨⟨a,rfl,h⟩,trivial⟩
 |.int _ _::.int _ _::c::rest,⟨x,r⟩=>⟨x,M2.more h r⟩
theorem Tbs.upd{a:Addr}{o:HO}(h:Tbs H)(n:∀x,H a=some x->(∀ps,x≠.tbl ps)/\∀c q,x≠W2 c q):Tbs (upd H a o):=fun p hp=>by
 obtain⟨ps,e,r⟩:=h p hp;have n1:p.1≠a:=fun z=>by rw[z]at e;exact(n _ e).1 ps rfl
 refine⟨ps,by rw[l7 n1];exact e,r.mono fun c hc=> ?_⟩;rw[l7 fun z=>by rw[z]at hc;exact(n _ hc).2 _ _ rfl];exact hc
theorem Tbs.new{a:Addr}{o:HO}(h:Tbs H)(n:H a=none):Tbs (L2.upd H a o):=h.upd fun x e=>by rw[n]at e;cases e
theorem Tbs.lst{a:Addr}{o:HO}{xs:List V}(h:Tbs H)(n:H a=some (.lst xs)):Tbs (L2.upd H a o):=h.upd fun x e=>by rw[n]at e;cases e;exact⟨fun _ z=>HO.noConfusion z,fun _ _ z=>HO.noConfusion z⟩
end
structure Wd(p:Prop):Prop where
 run:p
mutual
noncomputable def Rep(K:W.Frag)(G:Hp):T->V->Prop
 |.non,v=>v=.non
 |.bl b,v=>v=.bl b
 |.int i,v=>v=.int i
 |.str x,v=>v=.str x
 |.tup ts,v=>∃a xs,v=.ref a/\SqT K G a xs/\j5 K G ts xs
 |.lst ts,v=>∃a xs,v=.ref a/\G a=some (.lst xs)/\j5 K G ts xs
 |.ref a,v=>v=.ref a
 |.scr ns,v=>∃a,v=.ref a/\SqL K G a (ns.map V.int)
 |.dct ks ts,v=>∃a xs,v=.ref a/\G a=some (.dK ((ks.map Sum.inl).zip xs))/\ks.length=xs.length/\j5 K G ts xs
noncomputable def j5(K:W.Frag)(G:Hp):List T->List V->Prop
 |[],xs=>xs=[]
 |t::ts,xs=>∃x r,xs=x::r/\Rep K G t x/\j5 K G ts r
end
section
variable {K:W.Frag}{G G':Hp}
theorem S8(e:w9 G G'){a:Addr}{xs:List V}(h:SqT K G a xs):SqT K G' a xs:=by
 rcases h with(h|⟨o,h⟩)|h
 ·exact .inl (.inl (e _ _ h))
 ·exact .inl (.inr ⟨o,e _ _ h⟩)
 ·exact .inr h
mutual
theorem Rep.mono(e:w9 G G'):∀{t:T}{v:V},Rep K G t v->Rep K G' t v
 |.non,_,h=>by simpa[Rep]using h
 |.bl _,_,h=>by simpa[Rep]using h
 |.int _,_,h=>by simpa[Rep]using h
 |.str _,_,h=>by simpa[Rep]using h
 |.tup ts,_,h=>by
  simp only[Rep]at h⊢;obtain⟨a,xs,h1,h2,h3⟩:=h;exact⟨a,xs,h1,S8 e h2,j5.mono e h3⟩
 |.lst ts,_,h=>by
  simp only[Rep]at h⊢;obtain⟨a,xs,h1,h2,h3⟩:=h;exact⟨a,xs,h1,e _ _ h2,j5.mono e h3⟩
 |.ref _,_,h=>by simpa[Rep]using h
 |.scr _,_,h=>by
  simp only[Rep]at h⊢;obtain⟨a,h1,h2⟩:=h;exact⟨a,h1,e.seq h2⟩
 |.dct _ _,_,h=>by
  simp only[Rep]at h⊢;obtain⟨a,xs,h1,h2,h4,h3⟩:=h;exact⟨a,xs,h1,e _ _ h2,h4,j5.mono e h3⟩
theorem j5.mono(e:w9 G G'):∀{ts:List T}{xs:List V},j5 K G ts xs->j5 K G' ts xs
 |[],_,h=>by simpa[j5]using h
 |t::ts,_,h=>by
  simp only[j5]at h⊢;obtain⟨x,r,h1,h2,h3⟩:=h;exact⟨x,r,h1,Rep.mono e h2,j5.mono e h3⟩
end
theorem j5.nil:j5 K G [] []:=by simp[j5]
theorem j5.cons{t:T}{x:V}{ts:List T}{xs:List V}(h:Rep K G t x)(r:j5 K G ts xs):j5 K G (t::ts) (x::xs):=by
 simp only[j5];exact⟨x,xs,rfl,h,r⟩
theorem j5.length:∀{ts:List T}{xs:List V},j5 K G ts xs->xs.length=ts.length
 |[],xs,h=>by simp only[j5]at h;subst h;rfl
 |t::ts,xs,h=>by
  simp only[j5]at h;obtain⟨x,r,e,h1,h2⟩:=h;subst e;simp[j5.length h2]
theorem j5.get:∀{ts:List T}{xs:List V}{i:Nat}{t:T},j5 K G ts xs->ts[i]?=some t->∃x,xs[i]?=some x/\Rep K G t x
 |[],xs,i,t,h,e=>by simp at e
 |t0::ts,xs,i,t,h,e=>by
  simp only[j5]at h;obtain⟨x,r,ex,h1,h2⟩:=h;subst ex;cases i with
  |zero=>simp at e;subst e;exact⟨x,by simp,h1⟩
  |succ i=>obtain⟨y,hy,ry⟩:=j5.get (i:=i) h2 (by simpa using e);exact⟨y,by simpa using hy,ry⟩
theorem j5.append:∀{ts us:List T}{xs ys:List V},j5 K G ts xs->j5 K G us ys->j5 K G (ts++us) (xs++ys)
 |[],us,xs,ys,h,h'=>by simp only[j5]at h;subst h;simpa using h'
 |t::ts,us,xs,ys,h,h'=>by
  simp only[j5]at h;obtain⟨x,r,ex,h1,h2⟩:=h;subst ex;exact j5.cons h1 (j5.append h2 h')
theorem j5.drop:∀{ts:List T}{xs:List V}(n:Nat),j5 K G ts xs->j5 K G (ts.drop n) (xs.drop n)
 |ts,xs,0,h=>by simpa using h
 |[],xs,n+1,h=>by simp only[j5]at h;subst h;simp[j5]
 |t::ts,xs,n+1,h=>by
  simp only[j5]at h;obtain⟨x,r,ex,h1,h2⟩:=h;subst ex;simpa using j5.drop n h2
theorem j5.take:∀{ts:List T}{xs:List V}(n:Nat),j5 K G ts xs->j5 K G (ts.take n) (xs.take n)
 |ts,xs,0,h=>by simp[j5]
 |[],xs,n+1,h=>by simp only[j5]at h;subst h;simp[j5]
 |t::ts,xs,n+1,h=>by
  simp only[j5]at h;obtain⟨x,r,ex,h1,h2⟩:=h;subst ex;simpa using j5.cons h1 (j5.take n h2)
theorem j5.rep{ts:List T}{xs:List V}(h:j5 K G ts xs):∀k:Nat,j5 K G (List.replicate k ts).flatten (List.replicate k xs).flatten
 |0=>by simp[j5]
 |k+1=>by
  rw[cw2,List.flatten_cons,cw2,List.flatten_cons];exact j5.append h (j5.rep h k)
noncomputable def B5(K:W.Frag)(G:Hp)(σ:L2.St)(ρ:j9):Prop:=σ.length=ρ.length/\∀(i:Nat) (t:T),ρ[i]?=some (some t)->∃v,σ[i]?=some (some v)/\Rep K G t v
theorem B5.mono{σ:L2.St}{ρ:j9}(e:w9 G G')(h:B5 K G σ ρ):B5 K G' σ ρ:=⟨h.1,fun i t q=>let⟨v,h1,h2⟩:=h.2 i t q;⟨v,h1,h2.mono e⟩⟩
theorem B5.set{σ:L2.St}{ρ:j9}{i:Nat}{t:T}{v:V}(h:B5 K G σ ρ)(r:Rep K G t v):B5 K G (σ.set i (some v)) (ρ.set i (some t)):=by
 refine⟨by simpa using h.1,fun j u q=> ?_⟩;by_cases e:i=j
 ·subst e;by_cases hl:i<ρ.length
  ·rw[cu3 hl]at q;cases q;exact⟨v,cu3 (by rw[h.1];exact hl),r⟩
  ·rw[ct9 (by simpa using hl)]at q;cases q
 ·rw[cu2 e]at q;obtain⟨w,h1,h2⟩:=h.2 j u q;exact⟨w,by rw[cu2 e];exact h1,h2⟩
theorem av5{α:Type}{o:Option (Option α)}{x:α}(h:o.join=some x):o=some (some x):=by
 cases o with
 |none=>cases h
 |some p=>cases p with
  |none=>cases h
  |some y=>cases h;rfl
theorem B5.cap{σ:L2.St}{ρ:j9}(nT:Nat)(caps:List Nat)(h:B5 K G σ ρ):B5 K G (M4 nT caps σ) (O2 nT caps ρ):=by
 refine⟨by simp[M4,O2],fun j u q=> ?_⟩;unfold O2 at q;unfold M4;by_cases hl:j<nT
 ·rw[ct4 (by simpa using hl),cu1,cx8 hl]at q;cases q
 ·rw[ct5 (by simpa using hl),cu8,cu0]at q;rw[ct5 (by simpa using hl),cu8,cu0];cases e:caps[j-nT]? with
  |none=>rw[e]at q;cases q
  |some i=>
   rw[e]at q;obtain⟨v,h1,h2⟩:=h.2 i u (av5 (Option.some.inj q));refine⟨v,?_,h2⟩;show some ((σ[i]?).join)=some (some v);rw[h1];rfl
end
structure Ext(G H G' H':Hp):Prop where
 g:w9 G G'
 s:Sub G' H'
 h:I0 H H'
 fr:∀b,H b≠none->G b=none->G' b=none
theorem Ext.refl{G H:Hp}(e:Sub G H):Ext G H G H:=⟨w9.refl _,e,I0.refl _,fun _ _ q=>q⟩
theorem Ext.trans{G H G1 H1 G2 H2:Hp}(a:Ext G H G1 H1)(b:Ext G1 H1 G2 H2):Ext G H G2 H2:=
 ⟨a.g.trans b.g,b.s,a.h.trans b.h,fun c h1 h2=>b.fr c (a.h.ne h1) (a.fr c h1 h2)⟩
theorem B4{H:Hp}{p:Addr}(h:H p=none)(o:HO):w9 H (upd H p o):=fun b u q=>by rw[l7 (t6 q h)];exact q
theorem Ext.new{G H:Hp}{p:Addr}(e:Sub G H)(h:H p=none)(o:HO)(no:ae5 o=true:=by rfl):Ext G H (upd G p o) (upd H p o):=by
 refine⟨B4 (e.free h) o,⟨fun b u q=> ?_,e.t.new h,ay4 e.n no⟩,ax7 (B4 h o),fun b h1 h2=> ?_⟩
 ·by_cases hb:b=p
  ·subst hb;rw[n6]at q⊢;exact q
  ·rw[l7 hb]at q⊢;exact e b u q
 ·rw[l7 (fun z=>h1 (by rw[z];exact h))];exact h2
section
variable {X:Cx}{a b c e:Expr}{pos:Pos}
noncomputable def tX(K:W.Frag)(g:L3.G):TE:=fun σ H Q=>∃G ρ t,Sub G H/\B5 K G σ ρ/\g ρ=some t/\∀v G' H',Ext G H G' H'->Rep K G' t v->Q v H'
noncomputable def tXB(K:W.Frag)(g:GB):TT:=fun σ H Q=>∃G ρ t,Sub G H/\B5 K G σ ρ/\g ρ=some t/\∀G' H',Ext G H G' H'->Q t H'
noncomputable def tXA(K:W.Frag)(g:GL):TA:=fun σ H Q=>∃G ρ ts,Sub G H/\B5 K G σ ρ/\g ρ=some ts/\∀vs G' H',Ext G H G' H'->j5 K G' ts vs->Q vs H'
noncomputable abbrev PX(X:Cx)(e:Expr)(g:L3.G):Prop:=PE X e (tX X.K g)
noncomputable abbrev PXB(X:Cx)(e:Expr)(g:GB):Prop:=PT X e (tXB X.K g)
noncomputable abbrev PXW(X:Cx)(e:Expr)(g:GB):Prop:=PW X e (tXB X.K g)
noncomputable abbrev PXA(X:Cx)(es:List Expr)(g:GL):Prop:=PA X es (tXA X.K g)
theorem PE.imp{t t':TE}(h:PE X e t)(f:∀σ H Q,t' σ H Q->t σ H Q):PE X e t':=fun pins s σ H Q I q=>h pins s σ H Q I (f σ H Q q)
theorem PT.imp{t t':TT}(h:PT X e t)(f:∀σ H Q,t' σ H Q->t σ H Q):PT X e t':=fun pins s σ H Q I q=>h pins s σ H Q I (f σ H Q q)
theorem PW.imp{t t':TT}(h:PW X e t)(f:∀σ H Q,t' σ H Q->t σ H Q):PW X e t':=fun w pins s σ H Q I q=>h w pins s σ H Q I (f σ H Q q)
theorem PA.imp{es:List Expr}{t t':TA}(h:PA X es t)(f:∀σ H Q,t' σ H Q->t σ H Q):PA X es t':=fun p pins s σ H Q I q=>h p pins s σ H Q I (f σ H Q q)
theorem PS.imp{st:Stmt}{t t':TS}(h:PS X st t)(f:∀D σ H,t' D σ H->t D σ H):PS X st t':=fun pins s σ H D I q=>h pins s σ H D I (f D σ H q)
theorem PSs.imp{st:List Stmt}{t t':TS}(h:PSs X st t)(f:∀D σ H,t' D σ H->t D σ H):PSs X st t':=fun pins s σ H D I q=>h pins s σ H D I (f D σ H q)
theorem PG.imp{tg:Expr}{t t':TG}(h:PG X tg t)(f:∀v σ H Q,t' v σ H Q->t v σ H Q):PG X tg t':=fun pins s σ H v u Q I r q=>h pins s σ H v u Q I r (f v σ H Q q)
theorem PI.imp{tg it:Expr}{t t':TI}(h:PI X tg it t)(f:∀σ H R,t' σ H R->t σ H R):PI X tg it t':=fun pins s σ H R I q=>h pins s σ H R I (f σ H R q)
theorem h9{α β:Type}{o:Option α}{f:α->Option β}{y:β}(h:o.bind f=some y):∃x,o=some x/\f x=some y:=by
 cases o with
 |none=>cases h
 |some x=>exact⟨x,rfl,h⟩
theorem d7(i:Nat){x:Str}{pos:Pos}(hN:X.N[i]?=some x:=by rfl)(hv:Vis X.env.scope x:=by first |exact Or.inl rfl|exact Or.inr (Or.inl rfl)|exact Or.inr (Or.inr rfl))(hd:(x==("__debug__":Str))=false:=by decide)(hcd:(x==("__classdict__":Str))=false:=by decide):Wd (PX X (.Name x pos) (d0 i)):=⟨PE.imp (ac2 hN hv hd hcd) fun σ H Q zz=>by
  obtain⟨G,ρ,t,sG,hρ,hg,q⟩:=zz;obtain⟨v,h1,h2⟩:=hρ.2 i t (av5 hg);exact⟨v,h1,q v G H (Ext.refl sG) h2⟩⟩
theorem aJ4{t:TE}{v:V}{u:T}(h:PE X e (tC v))(r:∀K G,Rep K G u v):PX X e (gC u):=
 PE.imp h fun σ H Q zz=>by
  obtain⟨G,ρ,t,sG,hρ,hg,q⟩:=zz;cases hg;exact q v G H (Ext.refl sG) (r _ _)
theorem d8{i j pos}:Wd (PX X (.Constant (.int i) j pos) (gC (.int i))):=⟨aJ4 (t:=tC (.int i)) aV1 fun _ _=>by simp[Rep]⟩
theorem bL0{i j pos}:PX X (.Constant (.bool i) j pos) (gC (.bl i)):=aJ4 (t:=tC (.bl i)) bj6 fun _ _=>by simp[Rep]
theorem M1{i j pos}:Wd (PX X (.Constant (.bool i) j pos) (gC (.bl i))):=⟨aJ4 (t:=tC (.bl i)) bj6 fun _ _=>by simp[Rep]⟩
theorem V1{j pos}:Wd (PX X (.Constant .none j pos) (gC .non)):=⟨aJ4 (t:=tC .non) ca2 fun _ _=>by simp[Rep]⟩
theorem N4{x j pos}:Wd (PX X (.Constant (.str x) j pos) (gC (.str x))):=⟨aJ4 (t:=tC (.str x)) bt8 fun _ _=>by simp[Rep]⟩
theorem bE3{x:Str}{i:Int}{t:Tok}{pos:Pos}(hg:Gl X x)(hm:X.mg x=some (.int i t))(hd:(x==("__debug__":Str))=false:=by decide):PX X (.Name x pos) (gC (.int i)):=
 aJ4 (t:=tC (.int i)) (ao8 (v:=.int i) hg hm ⟨t,rfl⟩ hd) fun _ _=>by simp[Rep]
theorem bP5{x:Str}{a:Addr}{pos:Pos}{t:T}(hg:Gl X x)(hm:X.mg x=some (.ref a))(r:∀G,Rep X.K G t (.ref a))(hd:(x==("__debug__":Str))=false:=by decide):PX X (.Name x pos) (gC t):=
 PE.imp (ao8 (v:=.ref a) hg hm rfl hd) fun σ H Q zz=>by
  obtain⟨G,ρ,t',sG,hρ,hg',q⟩:=zz;cases hg';exact q _ G H (Ext.refl sG) (r G)
noncomputable def bM9(K:W.Frag)(r:V->Hp->VK->Prop)(f:T->Option T):Prop:=
 ∀G H tx x tz Q,Sub G H->Rep K G tx x->f tx=some tz->(∀v G' H',Ext G H G' H'->Rep K G' tz v->Q v H')->r x H Q
noncomputable def E4(K:W.Frag)(r:R2)(f:T->T->Option T):Prop:=
 ∀G H tx ty x y tz Q,Sub G H->Rep K G tx x->Rep K G ty y->f tx ty=some tz->(∀v G' H',Ext G H G' H'->Rep K G' tz v->Q v H')->r x y H Q
noncomputable def Y1(K:W.Frag)(r:List V->Hp->VK->Prop)(f:List T->Option T):Prop:=
 ∀G H ts xs tz Q,Sub G H->j5 K G ts xs->f ts=some tz->(∀v G' H',Ext G H G' H'->Rep K G' tz v->Q v H')->r xs H Q
theorem tX2{ga gb:L3.G}{r:R2}{f:T->T->Option T}(hr:E4 X.K r f):∀σ H Q,tX X.K (g2 f ga gb) σ H Q->tOp r (tX X.K ga) (tX X.K gb) σ H Q:=fun σ H Q zz=>by
 obtain⟨G,ρ,t,sG,hρ,hg,q⟩:=zz;obtain⟨x,h1,hg⟩:=h9 hg;obtain⟨y,h2,hg⟩:=h9 hg;refine⟨G,ρ,x,sG,hρ,h1,fun v G1 H1 e1 r1=>⟨G1,ρ,y,e1.s,hρ.mono e1.g,h2,fun u G2 H2 e2 r2=> ?_⟩⟩;exact hr G2 H2 x y v u t Q e2.s (r1.mono e2.g) r2 hg fun z G3 H3 e3 r3=>q z G3 H3 (e1.trans (e2.trans e3)) r3
theorem ao5{op:Operator}{r:R2}{f:T->T->Option T}{ga gb:L3.G}(ho:OpR X (binaryOp op) r)(hr:E4 X.K r f)(ha:PX X a ga)(hb:PX X b gb):PX X (.BinOp a op b pos) (g2 f ga gb):=
 PE.imp (cj9 ho ha hb) (tX2 hr)
theorem cj4{op:UnaryOp}{r:V->Hp->VK->Prop}{f:T->Option T}{ga:L3.G}(ho:UnR X (unaryOp op) r)(hr:bM9 X.K r f)(ha:PX X a ga):PX X (.UnaryOp op a pos) (g1 f ga):=
 PE.imp (cj8 ho ha) fun σ H Q zz=>by
  obtain⟨G,ρ,t,sG,hρ,hg,q⟩:=zz;obtain⟨x,h1,hg⟩:=h9 hg;exact⟨G,ρ,x,sG,hρ,h1,fun v G1 H1 e1 r1=>hr G1 H1 x v t Q e1.s r1 hg fun z G2 H2 e2 r2=>q z G2 H2 (e1.trans e2) r2⟩
theorem af4{op:CmpOp}{r:R2}{f:T->T->Option T}{ga gb:L3.G}(ho:OpR X (compareOp op) r)(hr:E4 X.K r f)(ha:PX X a ga)(hb:PX X b gb)(hm:behindInMarks op b=false):PX X (.Compare a [op] [b] pos) (g2 f ga gb):=
 PE.imp (bQ8 ho ha hb hm) (tX2 hr)
theorem tXT{t:TE}{g:L3.G}(h:∀σ H Q,tX X.K g σ H Q->t σ H Q):∀σ H Q,tXB X.K (bOf g) σ H Q->bK7 t σ H Q:=fun σ H Q zz=>by
 obtain⟨G,ρ,b,sG,hρ,hg,q⟩:=zz;obtain⟨x,h1,hg⟩:=h9 hg;refine h σ H _ ⟨G,ρ,x,sG,hρ,h1,fun v G1 H1 e1 r1=> ?_⟩;cases x<;>first |(cases hg;done)|skip
 cases hg;simp only[Rep]at r1;exact⟨b,r1,q G1 H1 e1⟩
theorem af7{op:CmpOp}{r:R2}{f:T->T->Option T}{ga gb:L3.G}(ho:OpR X (compareOp op) r)(hr:E4 X.K r f)(ha:PX X a ga)(hb:PX X b gb)(hm:behindInMarks op b=false):PXB X (.Compare a [op] [b] pos) (bOf (g2 f ga gb)):=
 PT.imp (bP8 ho ha hb hm) (tXT (tX2 hr))
theorem tXC{ga gb gc:L3.G}{r r':R2}{f f':T->T->Option T}(hr:E4 X.K r f)(hr':E4 X.K r' f'):∀σ H Q,tX X.K (av8 f f' ga gb gc) σ H Q->bq2 r r' (tX X.K ga) (tX X.K gb) (tX X.K gc) σ H Q:=fun σ H Q zz=>by
 obtain⟨G,ρ,t,sG,hρ,hg,q⟩:=zz;obtain⟨x,h1,hg⟩:=h9 hg;obtain⟨y,h2,hg⟩:=h9 hg;obtain⟨k,h3,hg⟩:=h9 hg;obtain⟨z,h4,h5⟩:=h9 h3;refine⟨G,ρ,x,sG,hρ,h1,fun v G1 H1 e1 r1=>⟨G1,ρ,y,e1.s,hρ.mono e1.g,h2,fun u G2 H2 e2 r2=> ?_⟩⟩;refine hr G2 H2 x y v u z _ e2.s (r1.mono e2.g) r2 h4 fun w G3 H3 e3 r3=> ?_
 cases z<;>first |(cases h5;done)|skip
 cases h5;simp only[Rep]at r3;refine⟨k,r3,?_⟩;cases k with
 |false=>
  cases hg;exact aj7 (q _ G3 H3 (e1.trans (e2.trans e3)) (by simp[Rep]))
 |true=>
  obtain⟨zc,h6,h7⟩:=h9 hg;refine aj6 ⟨G3,ρ,zc,e3.s,hρ.mono (e1.g.trans (e2.g.trans e3.g)),h6,fun w' G4 H4 e4 r4=> ?_⟩;exact hr' G4 H4 y zc u w' t Q e4.s (r2.mono (e3.g.trans e4.g)) r4 h7 fun z G5 H5 e5 r5=>q z G5 H5 (e1.trans (e2.trans (e3.trans (e4.trans e5)))) r5
theorem bE4{op op':CmpOp}{r r':R2}{f f':T->T->Option T}{ga gb gc:L3.G}(ho:OpR X (compareOp op) r)(hr:E4 X.K r f)(ho':OpR X (compareOp op') r')(hr':E4 X.K r' f')(ha:PX X a ga)(hb:PX X b gb)(hc:PX X c gc)
  (hm:lastMarks [op,op'] [b,c]=false:=by with_unfolding_all rfl):PX X (.Compare a [op,op'] [b,c] pos) (av8 f f' ga gb gc):=
 PE.imp (bF5 ho ho' ha hb hc hm) (tXC hr hr')
theorem N5{op}{g:L3.G}(h:Wd (PX X a g)):Wd (PX X (.BoolOp op [a] pos) g):=⟨have h:=h.run;ca0 h⟩
theorem bB5{g:L3.G}{σ:L2.St}{H G:Hp}{ρ:j9}{k:Bool}{Q:VK}(sG:Sub G H)(hρ:B5 X.K G σ ρ)(h:bOf g ρ=some k)(q:∀G1 H1,Ext G H G1 H1->Q (.bl k) H1):tX X.K g σ H Q:=by
 obtain⟨x,h1,h2⟩:=h9 h;refine⟨G,ρ,x,sG,hρ,h1,fun v G1 H1 e1 r1=> ?_⟩;cases x<;>first |(cases h2;done)|skip
 cases h2;simp only[Rep]at r1;subst r1;exact q G1 H1 e1
theorem A4{rest:List Expr}{ga gb:L3.G}(ha:Wd (PX X a ga))(hb:Wd (PX X (.BoolOp .And (b::rest) pos) gb)):Wd (PX X (.BoolOp .And (a::b::rest) pos) (J5 ga gb)):=⟨have ha:=ha.run;have hb:=hb.run;PE.imp (ca4 ha hb) fun σ H Q zz=>by
  obtain⟨G,ρ,t,sG,hρ,hg,q⟩:=zz;obtain⟨k,h1,hg⟩:=h9 hg;refine bB5 sG hρ h1 fun G1 H1 e1=>⟨k,rfl,?_⟩
  cases k with
  |false=>cases hg;exact aj7 (q _ G1 H1 e1 (by simp[Rep]))
  |true=>exact aj6 ⟨G1,ρ,t,e1.s,hρ.mono e1.g,hg,fun z G2 H2 e2 r2=>q z G2 H2 (e1.trans e2) r2⟩⟩
theorem bd7{ga:L3.G}(ha:Wd (PX X a ga)):Wd (PX X (.UnaryOp .Not a pos) (bm3 ga)):=⟨have ha:=ha.run;PE.imp (ca1 ha) fun σ H Q zz=>by
  obtain⟨G,ρ,t,sG,hρ,hg,q⟩:=zz;obtain⟨k,h1,hg⟩:=h9 hg;cases hg;exact bB5 sG hρ h1 fun G1 H1 e1=>⟨k,rfl,q _ G1 H1 e1 (by simp[Rep])⟩⟩
theorem N6{g:L3.G}(h:Wd (PX X e g))(he:∀O7,isTrue e X.env O7=(do let v<-O7;standAt e.pos;holding [v] (truthy v)):=by intro _;rfl):Wd (PXB X e (bOf g)):=⟨have h:=h.run;PT.imp (bY8 h he) fun σ H Q ⟨G,ρ,t,sG,hρ,hg,q⟩=>bB5 sG hρ hg fun G1 H1 e1=>⟨t,rfl,q G1 H1 e1⟩⟩
theorem V3{g:GB}(h:Wd (PXB X a g)):Wd (PXB X (.UnaryOp .Not a pos) (J3 g)):=⟨have h:=h.run;PT.imp (bY9 h) fun σ H Q zz=>by
  obtain⟨G,ρ,t,sG,hρ,hg,q⟩:=zz;obtain⟨k,h1,hg⟩:=h9 hg;cases hg;exact⟨G,ρ,k,sG,hρ,h1,fun G1 H1 e1=>q G1 H1 e1⟩⟩
theorem al6{g:GB}(h:Wd (PXB X a g)):Wd (PXW X (.BoolOp .And [a] pos) g):=⟨have h:=h.run;bP7 h⟩
theorem ai7{g:GB}(h:Wd (PXB X a g)):Wd (PXW X (.BoolOp .Or [a] pos) g):=⟨have h:=h.run;bY6 h⟩
theorem ad7{rest:List Expr}{ga gb:GB}(ha:Wd (PXB X a ga))(hb:Wd (PXW X (.BoolOp .And (b::rest) pos) gb)):Wd (PXW X (.BoolOp .And (a::b::rest) pos) (V6 ga gb)):=⟨have ha:=ha.run;have hb:=hb.run;PW.imp (bY7 ha hb) fun σ H Q zz=>by
  obtain⟨G,ρ,t,sG,hρ,hg,q⟩:=zz;obtain⟨k,h1,hg⟩:=h9 hg;refine⟨G,ρ,k,sG,hρ,h1,fun G1 H1 e1=> ?_⟩;cases k with
  |false=>cases hg;exact aj7 (q G1 H1 e1)
  |true=>exact aj6 ⟨G1,ρ,t,e1.s,hρ.mono e1.g,hg,fun G2 H2 e2=>q G2 H2 (e1.trans e2)⟩⟩
theorem ah7{rest:List Expr}{ga gb:GB}(ha:Wd (PXB X a ga))(hb:Wd (PXW X (.BoolOp .Or (b::rest) pos) gb)):Wd (PXW X (.BoolOp .Or (a::b::rest) pos) (bOr ga gb)):=⟨have ha:=ha.run;have hb:=hb.run;PW.imp (cj6 ha hb) fun σ H Q zz=>by
  obtain⟨G,ρ,t,sG,hρ,hg,q⟩:=zz;obtain⟨k,h1,hg⟩:=h9 hg;refine⟨G,ρ,k,sG,hρ,h1,fun G1 H1 e1=> ?_⟩;cases k with
  |true=>cases hg;exact aj6 (q G1 H1 e1)
  |false=>exact aj7 ⟨G1,ρ,t,e1.s,hρ.mono e1.g,hg,fun G2 H2 e2=>q G2 H2 (e1.trans e2)⟩⟩
theorem al5{g:GB}{ga gb:L3.G}(hc:Wd (PXB X c g))(ha:Wd (PX X a ga))(hb:Wd (PX X b gb)):Wd (PX X (.IfExp c a b pos) (gIf g ga gb)):=⟨have hc:=hc.run;have ha:=ha.run;have hb:=hb.run;PE.imp (bF4 hc ha hb) fun σ H Q zz=>by
  obtain⟨G,ρ,t,sG,hρ,hg,q⟩:=zz;obtain⟨k,h1,hg⟩:=h9 hg;refine⟨G,ρ,k,sG,hρ,h1,fun G1 H1 e1=> ?_⟩;cases k with
  |true=>exact aj6 ⟨G1,ρ,t,e1.s,hρ.mono e1.g,hg,fun z G2 H2 e2 r2=>q z G2 H2 (e1.trans e2) r2⟩
  |false=>exact aj7 ⟨G1,ρ,t,e1.s,hρ.mono e1.g,hg,fun z G2 H2 e2 r2=>q z G2 H2 (e1.trans e2) r2⟩⟩
theorem d9:Wd (PXA X [] (gs [])):=⟨PA.imp Y4 fun σ H Q zz=>by
 obtain⟨G,ρ,t,sG,hρ,hg,q⟩:=zz;cases hg;exact q [] G H (Ext.refl sG) j5.nil⟩
noncomputable def aG5:Expr->Bool
 |.Starred _ _=>false
 |_=>true
theorem ax4{e:Expr}{es:List Expr}{env:Env}(h:aG5 e=true):starEach (e::es) env=(false,eval e env)::starEach es env:=by
 cases e<;>first |rfl|cases h
theorem c9{es:List Expr}{g:L3.G}{l:List L3.G}(ha:Wd (PX X e g))(hr:Wd (PXA X es (gs l)))(hs:aG5 e=true:=by rfl):Wd (PXA X (e::es) (gs (g::l))):=⟨have ha:=ha.run;have hr:=hr.run;PA.imp (O4 ha hr (ax4 hs)) fun σ H Q zz=>by
  obtain⟨G,ρ,t,sG,hρ,hg,q⟩:=zz;obtain⟨x,h1,hg⟩:=h9 hg;obtain⟨xs,h2,hg⟩:=h9 hg;cases hg;refine⟨G,ρ,x,sG,hρ,h1,fun v G1 H1 e1 r1=>⟨G1,ρ,xs,e1.s,hρ.mono e1.g,h2,fun vs G2 H2 e2 r2=>q _ G2 H2 (e1.trans e2) (j5.cons (r1.mono e2.g) r2)⟩⟩⟩
theorem ab2:∀{l:List L3.G}{ρ:j9}{ts:List T},gs l ρ=some ts->ts.length=l.length
 |[],_,_,hz=>by cases hz;rfl
 |a::r,ρ,ts,h=>by
  obtain⟨x,_,h⟩:=h9 h;obtain⟨xs,h2,h⟩:=h9 h;cases h;simp[ab2 h2]
theorem ab8{n:Nat}(h:n<=lim):n<=sizeLine:=cw9 h (by decide)
theorem m9{es:List Expr}{l:List L3.G}{k:Nat}(h:Wd (PXA X es (gs l)))(hl:l.length<=lim:=by decide):Wd (PX X (.Tuple es k pos) (m7 l)):=⟨have h:=h.run;PE.imp (bZ9 h) fun σ H Q zz=>by
  obtain⟨G,ρ,t,sG,hρ,hg,q⟩:=zz;obtain⟨xs,h1,hg⟩:=h9 hg;cases hg;refine⟨G,ρ,xs,sG,hρ,h1,fun vs G1 H1 e1 r1=>⟨by rw[r1.length,ab2 h1];exact ab8 hl,fun p hp=> ?_⟩⟩;refine q _ (upd G1 p (.tup vs)) _ (e1.trans (Ext.new e1.s hp _)) ?_;simp only[Rep];exact⟨p,vs,rfl,SqT.of n6,r1.mono (B4 (e1.s.free hp) _)⟩⟩
theorem t5{es:List Expr}{l:List L3.G}(h:Wd (PXA X es (gs l)))(hl:l.length<=lim:=by decide):Wd (PX X (.List es pos) (o6 l)):=⟨have h:=h.run;PE.imp (aV0 h) fun σ H Q zz=>by
  obtain⟨G,ρ,t,sG,hρ,hg,q⟩:=zz;obtain⟨xs,h1,hg⟩:=h9 hg;cases hg;refine⟨G,ρ,xs,sG,hρ,h1,fun vs G1 H1 e1 r1=>⟨by rw[r1.length,ab2 h1];exact ab8 hl,fun p hp=> ?_⟩⟩;refine q _ (upd G1 p (.lst vs)) _ (e1.trans (Ext.new e1.s hp _)) ?_;simp only[Rep];exact⟨p,vs,rfl,n6,r1.mono (B4 (e1.s.free hp) _)⟩⟩
noncomputable def spT(K:W.Frag)(n:Nat)(F:List T->Option T):Sp:=fun vs H Q _=>∃G ts t,Sub G H/\j5 K G ts vs/\ts.length=n/\F ts=some t/\∀v G' H',Ext G H G' H'->Rep K G' t v->Q v H'
theorem bP6{es:List Expr}{l:List L3.G}{CX:CXT}{k:Nat}{f:Addr}{fd:FuncData}{ps:List Str}{F:List T->Option T}{x:Str}{p:Pos}(n:Nat)(H:V9 X.prog X.w X.K X.mg X.base CX0 k f fd ps (spT X.K n F))(hr:B7 k X.A)(hg:Gl X x)(hm:X.mg x=some (.ref f))(hk:W.keepIn X.K (.ref f)=true)(hb:Z1 X.K fd ps [])
  (ha:PXA X (e::es) (gs l)) (hn:l.length=n:=by rfl) (hdb:(x==("__debug__":Str))=false:=by decide) (he:starEach (e::es) X.env=(false,eval e X.env)::starEach es X.env:=by rfl) (hpl:(backTo pos (starEach es X.env)).any (·.1)=false:=by rfl):
  PX X (.Call (.Name x p) (e::es) [] pos) (gN F l):=
 PE.imp (ay3 H hr hg hm hk hb .nil bj7 ha hdb he hpl) fun σ H Q zz=>by
  obtain⟨G,ρ,t,sG,hρ,hg,q⟩:=zz;obtain⟨ts,h1,hg⟩:=h9 hg;refine⟨G,ρ,ts,sG,hρ,h1,fun vs G1 H1 e1 r1=> ?_⟩;show spT X.K n F (vs++[]) H1 Q E0;rw[cs9];exact⟨G1,ts,t,e1.s,r1,by rw[ab2 h1,hn],hg,fun v G2 H2 e2 r2=>q v G2 H2 (e1.trans e2) r2⟩
theorem P4{es:List Expr}{l:List L3.G}{r:List V->Hp->VK->Prop}{f:List T->Option T}{x:Str}{id:String}{p:Pos}(hc:O3 X (.builtin id) r)(hr:Y1 X.K r f)(hg:Gl X x)(hm:X.mg x=none)(hv:bootBuiltins x=some (.builtin id))(ha:PXA X (e::es) (gs l))(hn:x≠"__name__":=by decide)(hdb:(x==("__debug__":Str))=false:=by decide)
  (he:starEach (e::es) X.env=(false,eval e X.env)::starEach es X.env:=by rfl) (hpl:(backTo pos (starEach es X.env)).any (·.1)=false:=by rfl):PX X (.Call (.Name x p) (e::es) [] pos) (gN f l):=
 PE.imp (aC3 hc hg hm hv ha hn hdb he hpl) fun σ H Q zz=>by
  obtain⟨G,ρ,t,sG,hρ,hg,q⟩:=zz;obtain⟨ts,h1,hg⟩:=h9 hg;exact⟨G,ρ,ts,sG,hρ,h1,fun vs G1 H1 e1 r1=>hr G1 H1 ts vs t Q e1.s r1 hg fun v G2 H2 e2 r2=>q v G2 H2 (e1.trans e2) r2⟩
theorem bt1{es:List Expr}{l:List L3.G}{r:List V->Hp->VK->Prop}{f:List T->Option T}{x:Str}{id:String}{p:Pos}(hc:O3 X (.type id) r)(hr:Y1 X.K r f)(hg:Gl X x)(hm:X.mg x=none)(hv:bootBuiltins x=some (.type id))(ha:PXA X (e::es) (gs l))(hn:x≠"__name__":=by decide)(hdb:(x==("__debug__":Str))=false:=by decide)
  (he:starEach (e::es) X.env=(false,eval e X.env)::starEach es X.env:=by rfl) (hpl:(backTo pos (starEach es X.env)).any (·.1)=false:=by rfl):PX X (.Call (.Name x p) (e::es) [] pos) (gN f l):=
 PE.imp (aM7 hc hg hm hv ha hn hdb he hpl) fun σ H Q zz=>by
  obtain⟨G,ρ,t,sG,hρ,hg,q⟩:=zz;obtain⟨ts,h1,hg⟩:=h9 hg;exact⟨G,ρ,ts,sG,hρ,h1,fun vs G1 H1 e1 r1=>hr G1 H1 ts vs t Q e1.s r1 hg fun v G2 H2 e2 r2=>q v G2 H2 (e1.trans e2) r2⟩
theorem cj5{r:R2}{f:T->T->Option T}{ga gb:L3.G}(ho:IxR X r)(hr:E4 X.K r f)(ha:PX X a ga)(hb:PX X b gb)(hs:az5 b:=by intro _ _;rfl):PX X (.Subscript a b pos) (g2 f ga gb):=
 PE.imp (bL2 ho ha hb hs) (tX2 hr)
end
section
variable {X:Cx}
theorem bg5{i:Int}(h:big i=true):Builtin.Int.intBits i<=2^20:=by
 have h':i.natAbs<2^4000:=by simpa[big]using h
 unfold Builtin.Int.intBits;by_cases h0:i.natAbs=0
 ·have e:i=0:=by omega
  subst e;decide
 ·have h1:i.natAbs.log2<4000:=(Nat.log2_lt h0).mpr h';have e20:(2:Nat)^20=1048576:=by decide
  split<;>omega
theorem bs9{i j:Int}(h:big j=true):Builtin.divisionGoesByPylong i j=false:=by
 refine PyProof.noPylong_of_log2 ?_;have h':j.natAbs<2^4000:=by simpa[big]using h
 by_cases h0:j.natAbs=0
 ·rw[h0];decide
 ·have h1:j.natAbs.log2<4000:=(Nat.log2_lt h0).mpr h';omega
theorem bR2:OpR X (binaryOp .Mult) (rI (fun i j=>big i=true/\big j=true) fun i j=>.int (i*j)):=opI fun _ _ _ _ _ _ _ hc q=>mul_int q (IntMulOk.of_bits (bg5 hc.1) (bg5 hc.2))
theorem bF8:OpR X (binaryOp .FloorDiv) (rI (fun _ j=>0<j/\big j=true) fun i j=>.int (i/j)):=opI fun i j _ _ _ _ _ hc q=>by
 have e:i/j=i.fdiv j:=(Int.fdiv_eq_ediv_of_nonneg i (by omega)).symm;rw[e]at q;exact floordiv_int (by omega) q (.inl (bs9 hc.2))
theorem bD6{K:W.Frag}:E4 K (fun x y H Q=>rI0 (fun i j=>.int (i+j)) x y H Q\/bY2 x y H Q) D3:=by
 intro G H tx ty x y tz Q sG rx ry hf q;cases tx with
 |int i=>
  cases ty with
  |int j=>
   simp only[Rep]at rx ry;cases hf;exact .inl ⟨i,j,rx,ry,q _ G H (Ext.refl sG) (by simp[Rep])⟩
  |_=>cases hf
 |lst ts=>
  cases ty with
  |lst us=>
   simp only[Rep]at rx ry;obtain⟨a,xs,h1,h2,h3⟩:=rx;obtain⟨b,ys,k1,k2,k3⟩:=ry;simp only[D3]at hf;split at hf
   ·rename_i hl;cases hf;refine .inr ⟨a,b,xs,ys,h1,k1,sG _ _ h2,sG _ _ k2,?_,fun p hp=> ?_⟩
    ·rw[h3.length,k3.length];exact ab8 hl
    ·refine q _ (upd G p (.lst (xs++ys))) _ (Ext.new sG hp _) ?_;simp only[Rep];exact⟨p,_,rfl,n6,(h3.append k3).mono (B4 (sG.free hp) _)⟩
   ·cases hf
  |_=>cases hf
 |_=>cases ty<;>cases hf
theorem ax9{K:W.Frag}{f:T->T->Option T}{g:Int->Int->V}{t:Int->Int->T}(hf:∀x y z,f x y=some z->∃i j,x=.int i/\y=.int j/\z=t i j)(hg:∀K G i j,Rep K G (t i j) (g i j)):E4 K (rI0 g) f:=by
 intro G H tx ty x y tz Q sG rx ry h q;obtain⟨i,j,rfl,rfl,rfl⟩:=hf _ _ _ h;simp only[Rep]at rx ry;exact⟨i,j,rx,ry,q _ G H (Ext.refl sG) (hg _ _ _ _)⟩
theorem aB9{K:W.Frag}{f:T->T->Option T}{C:Int->Int->Prop}{g:Int->Int->V}{t:Int->Int->T}(hf:∀x y z,f x y=some z->∃i j,x=.int i/\y=.int j/\C i j/\z=t i j)(hg:∀K G i j,Rep K G (t i j) (g i j)):E4 K (rI C g) f:=by
 intro G H tx ty x y tz Q sG rx ry h q;obtain⟨i,j,rfl,rfl,hc,rfl⟩:=hf _ _ _ h;simp only[Rep]at rx ry;exact⟨i,j,rx,ry,hc,q _ G H (Ext.refl sG) (hg _ _ _ _)⟩
theorem bC1{K:W.Frag}:E4 K (rI0 fun i j=>.int (i-j)) aa0:=
 ax9 (t:=fun i j=>.int (i-j)) (fun x y z h=>by cases x<;>cases y<;>first |(cases h;exact⟨_,_,rfl,rfl,rfl⟩)|cases h) fun _ _ _ _=>by simp[Rep]
theorem bd3{K:W.Frag}:E4 K (rI0 fun i j=>.bl (decide (i<j))) fLt:=
 ax9 (t:=fun i j=>.bl (decide (i<j))) (fun x y z h=>by cases x<;>cases y<;>first |(cases h;exact⟨_,_,rfl,rfl,rfl⟩)|cases h) fun _ _ _ _=>by simp[Rep]
theorem aJ1{K:W.Frag}:E4 K (rI0 fun i j=>.bl (decide (i<=j))) fLe:=
 ax9 (t:=fun i j=>.bl (decide (i<=j))) (fun x y z h=>by cases x<;>cases y<;>first |(cases h;exact⟨_,_,rfl,rfl,rfl⟩)|cases h) fun _ _ _ _=>by simp[Rep]
theorem bd5{K:W.Frag}:E4 K (rI0 fun i j=>.bl (decide (j<i))) fGt:=
 ax9 (t:=fun i j=>.bl (decide (j<i))) (fun x y z h=>by cases x<;>cases y<;>first |(cases h;exact⟨_,_,rfl,rfl,rfl⟩)|cases h) fun _ _ _ _=>by simp[Rep]
theorem bD3{K:W.Frag}:E4 K (rI (fun _ j=>0<j/\big j=true) fun i j=>.int (i/j)) A8:=
 aB9 (t:=fun i j=>.int (i/j)) (fun x y z h=>by
  cases x<;>cases y<;>first
   |(simp only[A8]at h;split at h<;>first |(rename_i hc;cases h;(simp only[cr8,cx6]at hc);exact⟨_,_,rfl,rfl,hc,rfl⟩)|cases h)
   |cases h) fun _ _ _ _=>by simp[Rep]
theorem bC6{K:W.Frag}:E4 K (rI (fun _ j=>0<j) fun i j=>.int (i%j)) v8:=
 aB9 (t:=fun i j=>.int (i%j)) (fun x y z h=>by
  cases x<;>cases y<;>first
   |(simp only[v8]at h;split at h<;>first |(rename_i hc;cases h;exact⟨_,_,rfl,rfl,hc,rfl⟩)|cases h)
   |cases h) fun _ _ _ _=>by simp[Rep]
theorem bC2{K:W.Frag}:E4 K (rI ch8 fun i j=>.int (i^j.toNat)) T7:=
 aB9 (t:=fun i j=>.int (i^j.toNat)) (fun x y z h=>by
  cases x<;>cases y<;>first
   |(simp only[T7]at h;split at h<;>first |(rename_i hc;cases h;exact⟨_,_,rfl,rfl,⟨hc.1,by omega,hc.2.2⟩,rfl⟩)|cases h)
   |cases h) fun _ _ _ _=>by simp[Rep]
theorem bC5{K:W.Frag}:E4 K (fun x y H Q=>(rI (fun i j=>big i=true/\big j=true) (fun i j=>.int (i*j)) x y H Q\/rI bo7 (fun i j=>.int (i*j)) x y H Q)\/bX5 x y H Q) C6:=by
 intro G H tx ty x y tz Q sG rx ry hf q;cases tx with
 |int i=>
  cases ty with
  |int j=>
   simp only[Rep]at rx ry;simp only[C6]at hf;split at hf
   ·rename_i hc;cases hf;simp only[cr8,Bool.or_eq_true,sm,cx6]at hc;rcases hc with hc|hc
    ·exact .inl (.inl ⟨i,j,rx,ry,hc,q _ G H (Ext.refl sG) (by simp[Rep])⟩)
    ·exact .inl (.inr ⟨i,j,rx,ry,hc,q _ G H (Ext.refl sG) (by simp[Rep])⟩)
   ·cases hf
  |_=>cases hf
 |lst ts=>
  cases ty with
  |int k=>
   simp only[Rep]at rx ry;obtain⟨a,xs,h1,h2,h3⟩:=rx;simp only[C6]at hf;split at hf
   ·rename_i hc;cases hf;have hl:(lim:Int)<2^63:=by decide
    refine .inr ⟨a,k,xs,h1,ry,sG _ _ h2,by omega,by omega,?_,fun p hp=> ?_⟩
    ·rw[h3.length];exact ab8 hc.2.1
    ·refine q _ (upd G p (.lst (List.replicate k.toNat xs).flatten)) _ (Ext.new sG hp _) ?_;simp only[Rep];exact⟨p,_,rfl,n6,(h3.rep _).mono (B4 (sG.free hp) _)⟩
   ·cases hf
  |_=>cases hf
 |_=>cases ty<;>cases hf
theorem bC3{K:W.Frag}:bM9 K (rU fun i=>.int (-i)) aa1:=by
 intro G H tx x tz Q sG rx hf q;cases tx<;>first |cases hf|skip
 simp only[Rep]at rx;exact⟨_,rx,q _ G H (Ext.refl sG) (by simp[Rep])⟩
theorem F5{a b:Expr}{pos:Pos}{ga gb:L3.G}(ha:Wd (PX X a ga))(hb:Wd (PX X b gb)):Wd (PX X (.BinOp a .Add b pos) (g2 D3 ga gb)):=⟨have ha:=ha.run;have hb:=hb.run;ao5 (cb4.or cb3) bD6 ha hb⟩
theorem aa9{a b:Expr}{pos:Pos}{ga gb:L3.G}(ha:Wd (PX X a ga))(hb:Wd (PX X b gb)):Wd (PX X (.BinOp a .Sub b pos) (g2 aa0 ga gb)):=⟨have ha:=ha.run;have hb:=hb.run;ao5 ca6 bC1 ha hb⟩
theorem D4{a b:Expr}{pos:Pos}{ga gb:L3.G}(ha:Wd (PX X a ga))(hb:Wd (PX X b gb)):Wd (PX X (.BinOp a .Mult b pos) (g2 C6 ga gb)):=⟨have ha:=ha.run;have hb:=hb.run;ao5 ((bR2.or ca9).or ca7) bC5 ha hb⟩
theorem B9{a b:Expr}{pos:Pos}{ga gb:L3.G}(ha:Wd (PX X a ga))(hb:Wd (PX X b gb)):Wd (PX X (.BinOp a .FloorDiv b pos) (g2 A8 ga gb)):=⟨have ha:=ha.run;have hb:=hb.run;ao5 bF8 bD3 ha hb⟩
theorem B1{a b:Expr}{pos:Pos}{ga gb:L3.G}(ha:Wd (PX X a ga))(hb:Wd (PX X b gb)):Wd (PX X (.BinOp a .Mod b pos) (g2 v8 ga gb)):=⟨have ha:=ha.run;have hb:=hb.run;ao5 cb0 bC6 ha hb⟩
theorem ao1{a b:Expr}{pos:Pos}{ga gb:L3.G}(ha:Wd (PX X a ga))(hb:Wd (PX X b gb)):Wd (PX X (.BinOp a .Pow b pos) (g2 T7 ga gb)):=⟨have ha:=ha.run;have hb:=hb.run;ao5 ca8 bC2 ha hb⟩
theorem ah6{a:Expr}{pos:Pos}{ga:L3.G}(ha:Wd (PX X a ga)):Wd (PX X (.UnaryOp .USub a pos) (g1 aa1 ga)):=⟨have ha:=ha.run;cj4 bV7 bC3 ha⟩
theorem bx0(n:Nat)(i:Int):ixT n i=ixN n i:=rfl
theorem bA1{ts:List T}{xs:List V}{K:W.Frag}{G:Hp}{i:Int}{t:T}(h:j5 K G ts xs)(e:((ixT ts.length i).bind fun j=>ts[j]?)=some t):∃x,atI xs i=some x/\Rep K G t x:=by
 obtain⟨j,h1,h2⟩:=h9 e;obtain⟨x,hx,rx⟩:=h.get h2;refine⟨x,?_,rx⟩;unfold atI;rw[h.length,<-bx0,h1];exact hx
theorem bO7{K:W.Frag}:E4 K (rIx K) e9:=by
 intro G H tx ty x y tz Q sG rx ry hf q;cases tx with
 |tup ts=>
  cases ty with
  |int i=>
   simp only[Rep]at rx ry;obtain⟨a,xs,h1,h2,h3⟩:=rx;obtain⟨v,hv,rv⟩:=bA1 h3 hf;exact .inr (.inl ⟨a,xs,i,v,h1,ry,S8 sG h2,hv,q v G H (Ext.refl sG) rv⟩)
  |_=>cases hf
 |lst ts=>
  cases ty with
  |int i=>
   simp only[Rep]at rx ry;obtain⟨a,xs,h1,h2,h3⟩:=rx;obtain⟨v,hv,rv⟩:=bA1 h3 hf;exact .inl ⟨a,xs,i,v,h1,ry,SqL.of (sG _ _ h2),hv,q v G H (Ext.refl sG) rv⟩
  |_=>cases hf
 |scr ns=>
  cases ty with
  |int i=>
   simp only[Rep]at rx ry;obtain⟨a,h1,h2⟩:=rx;obtain⟨j,k1,k2⟩:=h9 hf;cases hn:ns[j]? with
   |none=>rw[hn]at k2;cases k2
   |some z=>
    rw[hn]at k2;cases k2;refine .inl ⟨a,_,i,.int z,h1,ry,sG.seq h2,?_,q _ G H (Ext.refl sG) (by simp[Rep])⟩;unfold atI;rw[cu6,<-bx0,k1];show(ns.map V.int)[j]?=_;rw[cu0,hn];rfl
  |_=>cases hf
 |_=>cases ty<;>cases hf
theorem g9{a b:Expr}{pos:Pos}{ga gb:L3.G}(ha:Wd (PX X a ga))(hb:Wd (PX X b gb))(hs:az5 b:=by intro _ _;rfl):Wd (PX X (.Subscript a b pos) (g2 e9 ga gb)):=⟨have ha:=ha.run;have hb:=hb.run;cj5 cd0 bO7 ha hb hs⟩
noncomputable def hiI:Option Nat->Option Int
 |none=>none
 |some n=>some (n:Int)
noncomputable def aY5{α:Type}(lo:Nat)(hi:Option Nat)(xs:List α):List α:=match hi with
 |none=>xs.drop lo
 |some h=>(xs.take h).drop lo
theorem by5{α:Type}(xs:List α)(lo:Nat)(hi:Option Nat):(xs.drop (HT.sIx xs.length 0 (some (lo:Int)))).take (HT.sIx xs.length xs.length (hiI hi)-HT.sIx xs.length 0 (some (lo:Int)))=aY5 lo hi xs:=by
 rw[HT.sIx_nat];cases hi with
 |none=>
  show(xs.drop (min lo xs.length)).take (xs.length-min lo xs.length)=xs.drop lo
  (rw[List.take_of_length_le (by simp)]);by_cases h:lo<=xs.length
  ·rw[Nat.min_eq_left h]
  ·rw[List.drop_of_length_le (by omega),List.drop_of_length_le (by omega)]
 |some h=>
  show(xs.drop (min lo xs.length)).take (HT.sIx xs.length xs.length (some ((h:Nat):Int))-min lo xs.length)=(xs.take h).drop lo;rw[HT.sIx_nat,List.drop_take];by_cases h1:lo<=xs.length
  ·rw[Nat.min_eq_left h1];by_cases h2:h<=xs.length
   ·rw[Nat.min_eq_left h2]
   ·rw[Nat.min_eq_right (by omega),List.take_of_length_le (by simp),List.take_of_length_le (by simp;omega)]
  ·rw[List.drop_of_length_le (by omega),List.drop_of_length_le (by omega)];simp
theorem bU7{α:Type}(xs:List α)(hi:Option Nat):(xs.drop (HT.sIx xs.length 0 none)).take (HT.sIx xs.length xs.length (hiI hi)-HT.sIx xs.length 0 none)=aY5 0 hi xs:=by
 have h:=by5 xs 0 hi;rw[HT.sIx_nat,Nat.zero_min]at h;exact h
noncomputable def PO1(X:Cx)(e:Option Expr)(o:Option Int):Prop:=PO X e (fun _ H Q=>Q o H)
theorem aj0:PO1 X none none:=bQ3
theorem ao7{i:Int}{j pos}:PO1 X (some (.Constant (.int i) j pos)) (some i):=by
 have h:=bQ2 (X:=X) (aV1 (i:=i) (j:=j) (pos:=pos));intro pins s σ H Q I q;exact h pins s σ H Q I ⟨i,rfl,q⟩
theorem ao4{a:Expr}{elo ehi:Option Expr}{p2 pos:Pos}{ga:L3.G}(lo:Nat)(hi:Option Nat)(ha:Wd (PX X a ga))(l:PO1 X elo (some (lo:Int))\/(lo=0/\PO1 X elo none))(h:PO1 X ehi (hiI hi)):Wd (PX X (.Subscript a (.Slice elo ehi none p2) pos) (g1 (aj9 lo hi) ga)):=⟨by
 have ha:=ha.run;have key:∀(o:Option Int),(o=some (lo:Int)\/(lo=0/\o=none))->∀(α:Type) (xs:List α),(xs.drop (HT.sIx xs.length 0 o)).take (HT.sIx xs.length xs.length (hiI hi)-HT.sIx xs.length 0 o)=aY5 lo hi xs:=by
  rintro o (rfl|⟨rfl,rfl⟩) α xs
  ·exact by5 xs lo hi
  ·exact bU7 xs hi
 have main:∀(o:Option Int),(o=some (lo:Int)\/(lo=0/\o=none))->PO1 X elo o->PX X (.Subscript a (.Slice elo ehi none p2) pos) (g1 (aj9 lo hi) ga):=by
  intro o ho l;refine PE.imp (bF3 (bO2.or bW9) ha l h) fun σ H Q ⟨G,ρ,t,sG,hρ,hg,q⟩=> ?_
  obtain⟨x,h1,hg⟩:=h9 hg;refine⟨G,ρ,x,sG,hρ,h1,fun v G1 H1 e1 r1=> ?_⟩;cases x with
  |tup ts=>
   simp only[aj9]at hg;split at hg
   ·cases hg
   rename_i hcond;cases hg;simp only[Rep]at r1;obtain⟨p,xs,k1,k2,k3⟩:=r1;refine .inr ⟨p,xs,k1,S8 e1.s k2,?_⟩;have ec:as5 xs o (hiI hi)=aY5 lo hi xs:=key o ho V xs;have hq:∀G' H' (r:Addr),Ext G1 H1 G' H'->SqT X.K G' r (as5 xs o (hiI hi))->Q (.ref r) H':=fun G' H' r ex hr=>by
    refine q _ G' H' (e1.trans ex) ?_;simp only[Rep];refine⟨r,_,rfl,hr,?_⟩;rw[ec];cases hi with
    |none=>exact(k3.drop lo).mono ex.g
    |some n=>exact((k3.take n).drop lo).mono ex.g
   refine⟨fun hw=> ?_,fun p' hp=>hq _ _ p' (Ext.new e1.s hp _) (SqT.of n6)⟩;refine hcond ⟨?_,?_⟩
   ·have h1:=hw.1;rcases ho with rfl|⟨rfl,rfl⟩
    ·rw[HT.sIx_nat,k3.length]at h1;exact h1
    ·exact Nat.zero_min _
   ·have h2:=hw.2;cases hi with
    |none=>rfl
    |some n=>
     have h3:HT.sIx xs.length xs.length (some ((n:Nat):Int))=xs.length:=h2;rw[HT.sIx_nat,k3.length]at h3;exact h3
  |lst ts=>
   cases hg;simp only[Rep]at r1;obtain⟨p,xs,k1,k2,k3⟩:=r1;refine .inl ⟨p,xs,k1,SqL.of (e1.s _ _ k2),fun p' hp=> ?_⟩;have ec:as5 xs o (hiI hi)=aY5 lo hi xs:=key o ho V xs;refine q _ _ _ (e1.trans (Ext.new e1.s hp _)) ?_;simp only[Rep];refine⟨p',_,rfl,n6,?_⟩;rw[ec];cases hi with
   |none=>exact(k3.drop lo).mono (B4 (e1.s.free hp) _)
   |some n=>exact((k3.take n).drop lo).mono (B4 (e1.s.free hp) _)
  |_=>cases hg
 rcases l with l|⟨e0,l⟩
 ·exact main _ (.inl rfl) l
 ·exact main _ (.inr ⟨e0,rfl⟩) l⟩
theorem ao2{a b:Expr}{pos:Pos}{ga gb:L3.G}(ha:Wd (PX X a ga))(hb:Wd (PX X b gb)):Wd (PX X (.Compare a [.Lt] [b] pos) (g2 fLt ga gb)):=⟨have ha:=ha.run;have hb:=hb.run;af4 bL5 bd3 ha hb (O9 _)⟩
theorem bY4{a b:Expr}{pos:Pos}{ga gb:L3.G}(ha:Wd (PX X a ga))(hb:Wd (PX X b gb)):Wd (PX X (.Compare a [.LtE] [b] pos) (g2 fLe ga gb)):=⟨have ha:=ha.run;have hb:=hb.run;af4 bj9 aJ1 ha hb (O9 _)⟩
theorem bs1{a b:Expr}{pos:Pos}{ga gb:L3.G}(ha:Wd (PX X a ga))(hb:Wd (PX X b gb)):Wd (PX X (.Compare a [.Gt] [b] pos) (g2 fGt ga gb)):=⟨have ha:=ha.run;have hb:=hb.run;af4 bL6 bd5 ha hb (O9 _)⟩
theorem aU5{a b:Expr}{pos:Pos}{ga gb:L3.G}(ha:Wd (PX X a ga))(hb:Wd (PX X b gb)):Wd (PXB X (.Compare a [.Lt] [b] pos) (bOf (g2 fLt ga gb))):=⟨have ha:=ha.run;have hb:=hb.run;af7 bL5 bd3 ha hb (O9 _)⟩
theorem aU6{a b:Expr}{pos:Pos}{ga gb:L3.G}(ha:Wd (PX X a ga))(hb:Wd (PX X b gb)):Wd (PXB X (.Compare a [.Gt] [b] pos) (bOf (g2 fGt ga gb))):=⟨have ha:=ha.run;have hb:=hb.run;af7 bL6 bd5 ha hb (O9 _)⟩
theorem bE1{a b c:Expr}{pos:Pos}{ga gb gc:L3.G}(ha:Wd (PX X a ga))(hb:Wd (PX X b gb))(hc:Wd (PX X c gc))(hm:lastMarks [.LtE,.LtE] [b,c]=false:=by with_unfolding_all rfl):Wd (PX X (.Compare a [.LtE,.LtE] [b,c] pos) (av8 fLe fLe ga gb gc)):=⟨have ha:=ha.run;have hb:=hb.run;have hc:=hc.run;bE4 bj9 aJ1 bj9 aJ1 ha hb hc hm⟩
theorem ab1{K:W.Frag}{G:Hp}:∀{ts:List T}{is:List Int}{xs:List V},W0 ts=some is->j5 K G ts xs->xs=is.map V.int
 |[],is,xs,h,r=>by cases h;simpa[j5]using r
 |.int i::ts,is,xs,h,r=>by
  obtain⟨is',h1,h2⟩:=h9 h;cases h2;simp only[j5]at r;obtain⟨x,xr,e,rx,rr⟩:=r;subst e;simp only[Rep]at rx;subst rx;rw[ab1 h1 rr];rfl
 |.non::_,_,_,h,_=>by cases h
 |.bl _::_,_,_,h,_=>by cases h
 |.str _::_,_,_,h,_=>by cases h
 |.tup _::_,_,_,h,_=>by cases h
 |.lst _::_,_,_,h,_=>by cases h
 |.ref _::_,_,_,h,_=>by cases h
 |.scr _::_,_,_,h,_=>by cases h
theorem as9{K:W.Frag}{G:Hp}:∀{ts:List T}{is:List Bool}{xs:List V},ag0 ts=some is->j5 K G ts xs->xs=is.map V.bl
 |[],is,xs,h,r=>by cases h;simpa[j5]using r
 |.bl i::ts,is,xs,h,r=>by
  obtain⟨is',h1,h2⟩:=h9 h;cases h2;simp only[j5]at r;obtain⟨x,xr,e,rx,rr⟩:=r;subst e;simp only[Rep]at rx;subst rx;rw[as9 h1 rr];rfl
 |.non::_,_,_,h,_=>by cases h
 |.int _::_,_,_,h,_=>by cases h
 |.str _::_,_,_,h,_=>by cases h
 |.tup _::_,_,_,h,_=>by cases h
 |.lst _::_,_,_,h,_=>by cases h
 |.ref _::_,_,_,h,_=>by cases h
 |.scr _::_,_,_,h,_=>by cases h
theorem aX0(i:Int)(is:List Int):inV (.int i) (is.map V.int)=is.contains i:=by
 unfold inV;induction is with
 |nil=>rfl
 |cons j r ih=>
  rw[cv2,cs8,ih,List.contains_cons];congr 1;show eqV (.int j) (.int i)=(i==j);rw[Bool.eq_iff_iff];simp only[eqV]
  first
   |(simp;exact eq_comm)
   |(constructor<;>intro h<;>simp_all)
theorem aN9(is:List Int):(is.map V.int).all ac6=true:=by
 induction is with
 |nil=>rfl
 |cons j r ih=>rw[cv2,cs7,ih];rfl
theorem bd4{K:W.Frag}(neg:Bool):E4 K (rIn K neg) (if neg then ce4 else fIn):=by
 have main:∀(G H:Hp) (tx ty:T) (x y:V) (tz:T),Sub G H->Rep K G tx x->Rep K G ty y->fIn tx ty=some tz->∃p xs b,tz=.bl b/\y=.ref p/\(SqL K H p xs\/SqT K H p xs)/\ac6 x=true/\xs.all ac6=true/\inV x xs=b:=by
  intro G H tx ty x y tz sG rx ry hf;cases tx with
  |int i=>
   cases ty with
   |tup ts=>
    simp only[Rep]at rx ry;obtain⟨a,xs,h1,h2,h3⟩:=ry;obtain⟨is,k1,k2⟩:=h9 hf;cases k2;have e:=ab1 k1 h3;subst e rx;exact⟨a,_,_,rfl,h1,.inr (S8 sG h2),rfl,aN9 is,aX0 i is⟩
   |lst ts=>
    simp only[Rep]at rx ry;obtain⟨a,xs,h1,h2,h3⟩:=ry;obtain⟨is,k1,k2⟩:=h9 hf;cases k2;have e:=ab1 k1 h3;subst e rx;exact⟨a,_,_,rfl,h1,.inl (SqL.of (sG _ _ h2)),rfl,aN9 is,aX0 i is⟩
   |_=>cases hf
  |_=>cases ty<;>cases hf
 intro G H tx ty x y tz Q sG rx ry hf q;cases neg with
 |false=>
  obtain⟨p,xs,b,e,h1,h2,h3,h4,h5⟩:=main G H tx ty x y tz sG rx ry hf;subst e;refine⟨p,xs,h1,h2,h3,h4,?_⟩;show Q (.bl (inV x xs)) H;rw[h5];exact q _ G H (Ext.refl sG) (by simp[Rep])
 |true=>
  obtain⟨z,hz,hf⟩:=h9 hf;obtain⟨p,xs,b,e,h1,h2,h3,h4,h5⟩:=main G H tx ty x y z sG rx ry hz;subst e;cases hf;refine⟨p,xs,h1,h2,h3,h4,?_⟩;show Q (.bl (!inV x xs)) H;rw[h5];exact q _ G H (Ext.refl sG) (by simp[Rep])
theorem ao3{a b:Expr}{pos:Pos}{ga gb:L3.G}(ha:Wd (PX X a ga))(hb:Wd (PX X b gb))(hm:behindInMarks .In b=false:=by with_unfolding_all rfl):Wd (PX X (.Compare a [.In] [b] pos) (g2 fIn ga gb)):=⟨have ha:=ha.run;have hb:=hb.run;af4 aM8 (bd4 false) ha hb hm⟩
theorem bY5{a b:Expr}{pos:Pos}{ga gb:L3.G}(ha:Wd (PX X a ga))(hb:Wd (PX X b gb))(hm:behindInMarks .In b=false:=by with_unfolding_all rfl):Wd (PXB X (.Compare a [.In] [b] pos) (bOf (g2 fIn ga gb))):=⟨have ha:=ha.run;have hb:=hb.run;af7 aM8 (bd4 false) ha hb hm⟩
theorem bf2:∀ns ms:List Int,ag4 ns ms=HT.lexLt ns ms
 |[],[]=>rfl
 |[],_::_=>rfl
 |_::_,[]=>rfl
 |x::xs,y::ys=>by
  rw[HT.lexLt_cons,<-bf2 xs ys];rfl
theorem bC9{K:W.Frag}:E4 K (bX7 K) bH9:=by
 intro G H tx ty x y tz Q sG rx ry hf q;cases tx<;>cases ty<;>first |cases hf|skip
 simp only[Rep]at rx ry;obtain⟨a,xs,h1,h2,h3⟩:=rx;obtain⟨b,ys,k1,k2,k3⟩:=ry;obtain⟨ns,e1,hf⟩:=h9 hf;obtain⟨ms,e2,hf⟩:=h9 hf;cases hf;have z1:=ab1 e1 h3;have z2:=ab1 e2 k3;subst z1 z2;refine⟨a,b,ns,ms,h1,k1,S8 sG h2,S8 sG k2,?_⟩;rw[<-bf2];exact q _ G H (Ext.refl sG) (by simp[Rep])
theorem bP1{a b:Expr}{pos:Pos}{ga gb:L3.G}(hu:X.A.units<cLine)(ha:Wd (PX X a ga))(hb:Wd (PX X b gb)):Wd (PX X (.Compare a [.Lt] [b] pos) (g2 bH9 ga gb)):=⟨have ha:=ha.run;have hb:=hb.run;af4 (cb1 hu) bC9 ha hb (O9 _)⟩
end
theorem ak1{f:T->T->Option Bool}:∀{xs ys:List T}{b:Bool},ae7 f xs ys=some b->∃e:Nat->Bool,(∀j x y,xs[j]?=some x->ys[j]?=some y->f x y=some (e j))/\b=(List.range (min xs.length ys.length)).all e
 |[],ys,b,h=>by cases h;exact⟨fun _=>true,fun j x y e=>by simp at e,by simp⟩
 |_::_,[],b,h=>by cases h;exact⟨fun _=>true,fun j x y _ e=>by simp at e,by simp⟩
 |x::xs,y::ys,b,h=>by
  obtain⟨a,h1,h⟩:=h9 h;obtain⟨c,h2,h⟩:=h9 h;cases h;obtain⟨e,he,hc⟩:=ak1 h2;refine⟨fun j=>match j with |0=>a|j+1=>e j,fun j u v eu ev=> ?_,?_⟩
  ·cases j with
   |zero=>simp at eu ev;subst eu ev;exact h1
   |succ j=>exact he j u v (by simpa using eu) (by simpa using ev)
  ·rw[hc,cu5,cu5,Nat.succ_min_succ,List.range_succ_eq_map,cs7,List.all_map];rfl
section
variable {X:Cx}{pins:List (Addr×Obj)}{σ:L2.St}{H:Hp}{s:Shared}
theorem ak0(I:Inv X pins σ H s):∀(n:Nat) (t u:T) (v:V) (b:Bool),Rep X.K H t v->Rep X.K H u v->eqD n t u=some b->b=true
 |0,_,_,_,_,_,_,hz=>by cases hz
 |n+1,t,u,v,b,rt,ru,h=>by
  cases t<;>cases u<;>first |(cases h;done)|skip
  ·cases h;rfl
  ·simp only[Rep]at rt ru;cases h;subst rt;cases ru;simp
  ·simp only[Rep]at rt ru;cases h;subst rt;cases ru;simp
  ·simp only[Rep]at rt ru;cases h;subst rt;cases ru;simp
  ·rename_i xs ys;simp only[Rep]at rt ru;obtain⟨a,vs,e1,h2,h3⟩:=rt;obtain⟨a',vs',e1',h2',h3'⟩:=ru;subst e1;cases e1';have e:=I.tuple_inj h2 h2';subst e;obtain⟨c,hc,h⟩:=h9 h;cases h;obtain⟨e,he,hb⟩:=ak1 hc;have hl:xs.length=ys.length:=h3.length.symm.trans h3'.length;have :c=true:=by
    rw[hb,List.all_eq_true];intro j hj;rw[List.mem_range,hl,Nat.min_self]at hj;have q1:xs[j]?=some xs[j]:=ct8 (by omega);have q2:ys[j]?=some ys[j]:=ct8 hj;obtain⟨w1,k1,k2⟩:=h3.get q1;obtain⟨w2,k1',k2'⟩:=h3'.get q2;rw[k1]at k1';cases k1';exact ak0 I n _ _ _ _ k2 k2' (he j _ _ q1 q2)
   rw[this,hl];simp
  ·rename_i xs ys;simp only[Rep]at rt ru;obtain⟨a,vs,e1,h2,h3⟩:=rt;obtain⟨a',vs',e1',h2',h3'⟩:=ru;subst e1;cases e1';rw[h2]at h2';cases h2';have hl:xs.length=ys.length:=h3.length.symm.trans h3'.length;simp only[eqD,cx8 hl]at h;obtain⟨e,he,hb⟩:=ak1 h;rw[hb,List.all_eq_true];intro j hj;rw[List.mem_range,hl,Nat.min_self]at hj;have q1:xs[j]?=some xs[j]:=ct8 (by omega);have q2:ys[j]?=some ys[j]:=ct8 hj;obtain⟨w1,k1,k2⟩:=h3.get q1;obtain⟨w2,k1',k2'⟩:=h3'.get q2;rw[k1]at k1';cases k1';exact ak0 I n _ _ _ _ k2 k2' (he j _ _ q1 q2)
  ·rename_i ns ys;cases ys with
   |cons y r=>cases h
   |nil=>
    cases h;simp only[Rep]at rt ru;obtain⟨a,e1,h2⟩:=rt;obtain⟨a',vs',e1',h2',h3'⟩:=ru;subst e1;cases e1';have e:=I.list_inj h2 (SqL.of h2');simp only[j5]at h3';subst h3';cases ns with
    |nil=>rfl
    |cons x r=>cases e
theorem aW7{A:Around}{n:Nat}{xs ys:List T}{vs ws:List V}{us zs:List Value}{e:Nat->Bool}(ih:∀t u v w b (vv ww:Value),Rep X.K H t v->Rep X.K H u w->r8 v vv->r8 w ww->eqD n t u=some b->SeqAt.EqAt A s vv ww b)
  (h3:j5 X.K H xs vs) (h3':j5 X.K H ys ws) (r1:o9 vs us) (r2:o9 ws zs) (he:∀j x y,xs[j]?=some x->ys[j]?=some y->eqD n x y=some (e j)):
  ∀j (h1:j<us.toArray.size) (h2:j<zs.toArray.size),SeqAt.EqAt A s us.toArray[j] zs.toArray[j] (e j):=by
 intro j h1 h2;have l1:xs.length=us.length:=by rw[<-r1.length,h3.length]
 have l2:ys.length=zs.length:=by rw[<-r2.length,h3'.length]
 have h1':j<us.length:=by simpa using h1
 have h2':j<zs.length:=by simpa using h2
 have q1:xs[j]?=some xs[j]:=ct8 (by omega);have q2:ys[j]?=some ys[j]:=ct8 (by omega);obtain⟨w1,k1,k2⟩:=h3.get q1;obtain⟨w2,k1',k2'⟩:=h3'.get q2;obtain⟨u1,m1,m2⟩:=r1.get k1;obtain⟨u2,m1',m2'⟩:=r2.get k1';rw[ct8 h1']at m1;rw[ct8 h2']at m1';have e1:us.toArray[j]=u1:=by simpa using m1
 have e2:zs.toArray[j]=u2:=by simpa using m1'
 rw[e1,e2];exact ih _ _ _ _ _ _ _ k2 k2' m2 m2' (he j _ _ q1 q2)
theorem bp7(A:Around):A.in1.units<=A.units+1:=by first |exact cw8 _|exact Nat.le_of_eq rfl|(unfold Around.in1;simp)|(unfold Around.in1;simp;omega)
theorem aT6(I:Inv X pins σ H s):∀(n:Nat) (A:Around) (t u:T) (v w:V) (b:Bool) (vv ww:Value),A.units+n<cLine->Rep X.K H t v->Rep X.K H u w->r8 v vv->r8 w ww->eqD n t u=some b->SeqAt.RcAt A s vv ww b/\SeqAt.RcNeAt A s vv ww (!b)/\SeqAt.EqAt A s vv ww b
 |0,_,_,_,_,_,_,_,_,_,_,_,_,_,h=>by cases h
 |n+1,A,t,u,v,w,b,vv,ww,hu,rt,ru,rv,rw',h=>by
  have ih:∀t u v w b (vv ww:Value),Rep X.K H t v->Rep X.K H u w->r8 v vv->r8 w ww->eqD n t u=some b->SeqAt.EqAt A.in1 s vv ww b:=fun t u v w b vv ww q1 q2 q3 q4 q5=>
   (aT6 I n A.in1 t u v w b vv ww (by have :=bp7 A;omega) q1 q2 q3 q4 q5).2.2
  cases t<;>cases u<;>first |(cases h;done)|skip
  ·simp only[Rep]at rt ru;cases h;subst rt ru;cases rv;cases rw';exact⟨SeqAt.RcAt.none_none,SeqAt.RcNeAt.none_none,SeqAt.EqAt.same _⟩
  ·simp only[Rep]at rt ru;cases h;subst rt ru;cases rv;cases rw';exact⟨SeqAt.RcAt.bool_bool _ _,SeqAt.RcNeAt.bool_bool _ _,SeqAt.EqAt.bool_bool _ _⟩
  ·simp only[Rep]at rt ru;cases h;subst rt ru;obtain⟨t1,rfl⟩:=rv;obtain⟨t2,rfl⟩:=rw';exact⟨SeqAt.RcAt.int_int _ _ _ _,SeqAt.RcNeAt.int_int _ _ _ _,SeqAt.EqAt.int_int _ _ _ _⟩
  ·simp only[Rep]at rt ru;cases h;subst rt ru;obtain⟨t1,rfl⟩:=rv;obtain⟨t2,rfl⟩:=rw';exact⟨SeqAt.RcAt.str_str _ _ _ _,SeqAt.RcNeAt.str_str _ _ _ _,SeqAt.EqAt.str_str _ _ _ _⟩
  ·rename_i xs ys;have hsame:=ak0 I (n+1) (.tup xs) (.tup ys);have h0:=h;have rt0:=rt;have ru0:=ru;simp only[Rep]at rt ru;obtain⟨a,vs,e1,h2,h3⟩:=rt;obtain⟨a',vs',e1',h2',h3'⟩:=ru;subst e1 e1';cases rv;cases rw';obtain⟨us,r1,p1,_⟩:=I.tuple h2;obtain⟨zs,r2,p2,_⟩:=I.tuple h2';obtain⟨c,hc,h⟩:=h9 h;cases h;obtain⟨e,he,hb⟩:=ak1 hc;have l1:us.toArray.size=xs.length:=by rw[cw5,<-r1.length,h3.length]
   have l2:zs.toArray.size=ys.length:=by rw[cw5,<-r2.length,h3'.length]
   have it:=aW7 ih h3 h3' r1 r2 he;have R:=SeqAt.RcAt.tuples (A:=A) p1 p2 (by omega) it;have N:=SeqAt.RcNeAt.tuples (A:=A) p1 p2 (by omega) it;rw[l1,l2,<-hb]at R;rw[l1,l2,<-hb]at N;refine⟨R,N,?_⟩;by_cases hne:a=a'
   ·subst hne;rw[hsame _ _ rt0 ru0 h0];exact SeqAt.EqAt.same _
   ·exact SeqAt.EqAt.of_refs hne R
  ·rename_i xs ys;have hsame:=ak0 I (n+1) (.lst xs) (.lst ys);have h0:=h;have rt0:=rt;have ru0:=ru;simp only[Rep]at rt ru;obtain⟨a,vs,e1,h2,h3⟩:=rt;obtain⟨a',vs',e1',h2',h3'⟩:=ru;subst e1 e1';cases rv;cases rw';obtain⟨us,r1,p1,_⟩:=I.list (SqL.of h2);obtain⟨zs,r2,p2,_⟩:=I.list (SqL.of h2');have l1:us.toArray.size=xs.length:=by rw[cw5,<-r1.length,h3.length]
   have l2:zs.toArray.size=ys.length:=by rw[cw5,<-r2.length,h3'.length]
   have fin:SeqAt.RcAt A s (.ref a) (.ref a') b/\SeqAt.RcNeAt A s (.ref a) (.ref a') (!b):=by
    by_cases hl:xs.length=ys.length
    ·simp only[eqD,cx8 hl]at h;obtain⟨e,he,hb⟩:=ak1 h;have it:=aW7 ih h3 h3' r1 r2 he;have R:=SeqAt.RcAt.lists (A:=A) p1.isList p2.isList (by rw[l1,l2,hl]) (by omega) it;have N:=SeqAt.RcNeAt.lists (A:=A) p1.isList p2.isList (by rw[l1,l2,hl]) (by omega) it;rw[<-hl,Nat.min_self,<-l1]at hb;rw[hb];exact⟨R,N⟩
    ·simp only[eqD,cx7 hl]at h;cases h;have hs:(us.toArray.size !=zs.toArray.size)=true:=by rw[l1,l2];simpa using hl
     exact⟨SeqAt.RcAt.lists_lengths p1.isList p2.isList hs (by omega),SeqAt.RcNeAt.lists_lengths p1.isList p2.isList hs (by omega)⟩
   refine⟨fin.1,fin.2,?_⟩;by_cases hne:a=a'
   ·subst hne;rw[hsame _ _ rt0 ru0 h0];exact SeqAt.EqAt.same _
   ·exact SeqAt.EqAt.of_refs hne fin.1
  ·rename_i ns ys;cases ys with
   |cons y r=>cases h
   |nil=>
    have hsame:=ak0 I (n+1) (.scr ns) (.lst []);have h0:=h;have rt0:=rt;have ru0:=ru;cases h;simp only[Rep]at rt ru;obtain⟨a,e1,h2⟩:=rt;obtain⟨a',vs',e1',h2',h3'⟩:=ru;subst e1 e1';cases rv;cases rw';simp only[j5]at h3';subst h3';obtain⟨us,r1,p1,_⟩:=I.list h2;obtain⟨zs,r2,p2,_⟩:=I.list (SqL.of h2');cases r2;have l1:us.toArray.size=ns.length:=by rw[cw5,<-r1.length,cu6]
    have fin:SeqAt.RcAt A s (.ref a) (.ref a') ns.isEmpty/\SeqAt.RcNeAt A s (.ref a) (.ref a') (!ns.isEmpty):=by
     cases ns with
     |nil=>
      cases r1;exact⟨SeqAt.RcAt.lists (e:=fun _=>true) (A:=A) p1.isList p2.isList rfl (by omega) (fun j h1=>absurd h1 (by simp)),SeqAt.RcNeAt.lists (e:=fun _=>true) (A:=A) p1.isList p2.isList rfl (by omega) (fun j h1=>absurd h1 (by simp))⟩
     |cons x r=>
      have hs:(us.toArray.size !=([]:List Value).toArray.size)=true:=by rw[l1];simp
      exact⟨SeqAt.RcAt.lists_lengths p1.isList p2.isList hs (by omega),SeqAt.RcNeAt.lists_lengths p1.isList p2.isList hs (by omega)⟩
    refine⟨fin.1,fin.2,?_⟩;by_cases hne:a=a'
    ·subst hne;rw[hsame _ _ rt0 ru0 h0];exact SeqAt.EqAt.same _
    ·exact SeqAt.EqAt.of_refs hne fin.1
end
section
variable {X:Cx}{a b c e:Expr}{pos:Pos}
noncomputable def bi8(K:W.Frag)(neg:Bool):R2:=fun x y H Q=>∃t u k,Rep K H t x/\Rep K H u y/\eqD 8 t u=some k/\Q (.bl (if neg then !k else k)) H
theorem bu2(hu:X.A.units+8<cLine):OpR X (compareOp .Eq) (bi8 X.K false):=by
 intro pins s σ H x y v u Q I rx ry h;obtain⟨t,t',k,h1,h2,h3,q⟩:=h;exact(aT6 I 8 X.A t t' x y k v u hu h1 h2 rx ry h3).1 _ _ _ _ ⟨.bl k,H,I,rfl,q⟩
theorem bu1(hu:X.A.units+8<cLine):OpR X (compareOp .NotEq) (bi8 X.K true):=by
 intro pins s σ H x y v u Q I rx ry h;obtain⟨t,t',k,h1,h2,h3,q⟩:=h;exact(aT6 I 8 X.A t t' x y k v u hu h1 h2 rx ry h3).2.1 _ _ _ _ ⟨.bl !k,H,I,rfl,q⟩
theorem bd6{K:W.Frag}:E4 K (bi8 K false) fEq:=by
 intro G H tx ty x y tz Q sG rx ry hf q;obtain⟨k,h1,h2⟩:=h9 hf;cases h2;exact⟨tx,ty,k,rx.mono sG,ry.mono sG,h1,q _ G H (Ext.refl sG) (by simp[Rep])⟩
theorem bd2{K:W.Frag}:E4 K (bi8 K true) fNe:=by
 intro G H tx ty x y tz Q sG rx ry hf q;obtain⟨k,h1,h2⟩:=h9 hf;cases h2;exact⟨tx,ty,k,rx.mono sG,ry.mono sG,h1,q _ G H (Ext.refl sG) (by simp[Rep])⟩
theorem hu8{k:Nat}{A:Around}(hr:B7 k A):A.units+8<cLine:=by have :=hr.units;omega
theorem Y3{ga gb:L3.G}{k:Nat}(hr:B7 k X.A)(ha:Wd (PX X a ga))(hb:Wd (PX X b gb)):Wd (PX X (.Compare a [.Eq] [b] pos) (g2 fEq ga gb)):=⟨have ha:=ha.run;have hb:=hb.run;af4 (bu2 (hu8 hr)) bd6 ha hb (O9 _)⟩
theorem bY3{ga gb:L3.G}{k:Nat}(hr:B7 k X.A)(ha:Wd (PX X a ga))(hb:Wd (PX X b gb)):Wd (PX X (.Compare a [.NotEq] [b] pos) (g2 fNe ga gb)):=⟨have ha:=ha.run;have hb:=hb.run;af4 (bu1 (hu8 hr)) bd2 ha hb (O9 _)⟩
theorem U8{ga gb:L3.G}{k:Nat}(hr:B7 k X.A)(ha:Wd (PX X a ga))(hb:Wd (PX X b gb)):Wd (PXB X (.Compare a [.Eq] [b] pos) (bOf (g2 fEq ga gb))):=⟨have ha:=ha.run;have hb:=hb.run;af7 (bu2 (hu8 hr)) bd6 ha hb (O9 _)⟩
theorem U7{ga gb:L3.G}{k:Nat}(hr:B7 k X.A)(ha:Wd (PX X a ga))(hb:Wd (PX X b gb)):Wd (PXB X (.Compare a [.NotEq] [b] pos) (bOf (g2 fNe ga gb))):=⟨have ha:=ha.run;have hb:=hb.run;af7 (bu1 (hu8 hr)) bd2 ha hb (O9 _)⟩
theorem bT3{K:W.Frag}{G:Hp}{t:T}{v:V}(h:Rep K G t v):decide (v=V.non)=aQ3 t:=by
 cases t<;>simp only[Rep]at h<;>unfold aQ3
 ·subst h;simp
 ·subst h;simp
 ·subst h;simp
 ·subst h;simp
 ·obtain⟨a,_,rfl,_⟩:=h;simp
 ·obtain⟨a,_,rfl,_⟩:=h;simp
 ·subst h;simp
 ·obtain⟨a,rfl,_⟩:=h;simp
 ·obtain⟨a,_,rfl,_⟩:=h;simp
theorem bX4{K:W.Frag}{G:Hp}{b:Bool}:Rep K G (.bl b) (.bl b):=by simp[Rep]
theorem br4{K:W.Frag}:E4 K (fun x y H Q=>y=.non/\Q (.bl (!decide (x=.non))) H) (fun x y=>match y with |.non=>as0 x|_=>none):=by
 intro G H tx ty x y tz Q sG rx ry hf q;cases ty<;>first |(cases hf;done)|skip
 simp only[Rep]at ry;cases hf;refine⟨ry,?_⟩;rw[bT3 rx];exact q _ G H (Ext.refl sG) bX4
theorem aU4{ga gb:L3.G}(ha:Wd (PX X a ga))(hb:Wd (PX X b gb)):Wd (PXB X (.Compare a [.IsNot] [b] pos) (bOf (g2 (fun x y=>match y with |.non=>as0 x|_=>none) ga gb))):=⟨have ha:=ha.run;have hb:=hb.run;af7 bR1 br4 ha hb (O9 _)⟩
theorem bD0{K:W.Frag}:Y1 K (fun xs H Q=>∃p ys,xs=[.ref p]/\(SqL K H p ys\/SqT K H p ys)/\Q (.int ys.length) H) D0:=by
 intro G H ts xs tz Q sG r hf q
 match ts,hf with
 |[.tup us],hf=>
  cases hf;simp only[j5]at r;obtain⟨x,xr,e,rx,rr⟩:=r;subst e rr;simp only[Rep]at rx;obtain⟨p,ys,h1,h2,h3⟩:=rx;subst h1;refine⟨p,ys,rfl,.inr (S8 sG h2),?_⟩;rw[h3.length];exact q _ G H (Ext.refl sG) (by simp[Rep])
 |[.lst us],hf=>
  cases hf;simp only[j5]at r;obtain⟨x,xr,e,rx,rr⟩:=r;subst e rr;simp only[Rep]at rx;obtain⟨p,ys,h1,h2,h3⟩:=rx;subst h1;refine⟨p,ys,rfl,.inl (SqL.of (sG _ _ h2)),?_⟩;rw[h3.length];exact q _ G H (Ext.refl sG) (by simp[Rep])
 |[.scr ns],hf=>
  cases hf;simp only[j5]at r;obtain⟨x,xr,e,rx,rr⟩:=r;subst e rr;simp only[Rep]at rx;obtain⟨p,h1,h2⟩:=rx;subst h1;refine⟨p,_,rfl,.inl (sG.seq h2),?_⟩;rw[cu6];exact q _ G H (Ext.refl sG) (by simp[Rep])
theorem L5{p:Pos}{g:L3.G}(hg:Gl X "len")(hm:X.mg "len"=none)(ha:Wd (PXA X [e] (gs [g])))(he:starEach [e] X.env=(false,eval e X.env)::starEach [] X.env:=by rfl)(hpl:(backTo pos (starEach [] X.env)).any (·.1)=false:=by rfl):Wd (PX X (.Call (.Name "len" p) [e] [] pos) (gN D0 [g])):=⟨have ha:=ha.run;P4 aY9 bD0 hg hm PySem.boot_len ha (by decide) (by decide) he hpl⟩
theorem N7{K:W.Frag}{G:Hp}{t:T}{xs:List V}(h:j5 K G [t] xs):∃x,xs=[x]/\Rep K G t x:=by
 simp only[j5]at h;obtain⟨x,r,e,h1,h2⟩:=h;subst h2;exact⟨x,e,h1⟩
theorem ad3{K:W.Frag}{G:Hp}{t u:T}{xs:List V}(h:j5 K G [t,u] xs):∃x y,xs=[x,y]/\Rep K G t x/\Rep K G u y:=by
 simp only[j5]at h;obtain⟨x,r,e,h1,y,r',e',h2,h3⟩:=h;subst h3 e';exact⟨x,y,e,h1,h2⟩
theorem bD7{K:W.Frag}:Y1 K (fun xs H Q=>∃i,xs=[.int i]/\Q (.int (if i<0 then -i else i)) H) as3:=by
 intro G H ts xs tz Q sG r hf q
 match ts,hf with
 |[.int i],hf=>
  cases hf;obtain⟨x,e,rx⟩:=N7 r;simp only[Rep]at rx;subst rx;exact⟨i,e,q _ G H (Ext.refl sG) (by simp[Rep])⟩
theorem ay1{p:Pos}{g:L3.G}(hg:Gl X "abs")(hm:X.mg "abs"=none)(ha:Wd (PXA X [e] (gs [g])))(he:starEach [e] X.env=(false,eval e X.env)::starEach [] X.env:=by rfl)(hpl:(backTo pos (starEach [] X.env)).any (·.1)=false:=by rfl):Wd (PX X (.Call (.Name "abs" p) [e] [] pos) (gN as3 [g])):=⟨have ha:=ha.run;P4 bI7 bD7 hg hm boot_abs ha (by decide) (by decide) he hpl⟩
theorem bC8{K:W.Frag}:Y1 K (fun xs H Q=>∃i j,xs=[.int i,.int j]/\Q (.int (if j>i then j else i)) H) az1:=by
 intro G H ts xs tz Q sG r hf q
 match ts,hf with
 |[.int i,.int j],hf=>
  cases hf;obtain⟨x,y,e,rx,ry⟩:=ad3 r;simp only[Rep]at rx ry;subst rx ry;exact⟨i,j,e,q _ G H (Ext.refl sG) (by simp[Rep])⟩
theorem bC7{K:W.Frag}:Y1 K (fun xs H Q=>∃i j,xs=[.int i,.int j]/\Q (.int (if j<i then j else i)) H) az0:=by
 intro G H ts xs tz Q sG r hf q
 match ts,hf with
 |[.int i,.int j],hf=>
  cases hf;obtain⟨x,y,e,rx,ry⟩:=ad3 r;simp only[Rep]at rx ry;subst rx ry;exact⟨i,j,e,q _ G H (Ext.refl sG) (by simp[Rep])⟩
theorem bP0{p:Pos}{g g':L3.G}(hc:X.calm=true)(hg:Gl X "max")(hm:X.mg "max"=none)(ha:Wd (PXA X [a,b] (gs [g,g'])))(he:starEach [a,b] X.env=(false,eval a X.env)::starEach [b] X.env:=by rfl)(hpl:(backTo pos (starEach [b] X.env)).any (·.1)=false:=by rfl):Wd (PX X (.Call (.Name "max" p) [a,b] [] pos) (gN az1 [g,g'])):=⟨have ha:=ha.run;P4 (bz2 hc) bC8 hg hm boot_max ha (by decide) (by decide) he hpl⟩
theorem bO9{p:Pos}{g g':L3.G}(hc:X.calm=true)(hg:Gl X "min")(hm:X.mg "min"=none)(ha:Wd (PXA X [a,b] (gs [g,g'])))(he:starEach [a,b] X.env=(false,eval a X.env)::starEach [b] X.env:=by rfl)(hpl:(backTo pos (starEach [b] X.env)).any (·.1)=false:=by rfl):Wd (PX X (.Call (.Name "min" p) [a,b] [] pos) (gN az0 [g,g'])):=⟨have ha:=ha.run;P4 (bz1 hc) bC7 hg hm boot_min ha (by decide) (by decide) he hpl⟩
theorem bD2{K:W.Frag}:Y1 K (fun xs H Q=>(∃i,xs=[.int i]/\Q (.int i) H)\/∃k,xs=[.bl k]/\Q (.int (if k then 1 else 0)) H) ae2:=by
 intro G H ts xs tz Q sG r hf q
 match ts,hf with
 |[.int i],hf=>
  cases hf;obtain⟨x,e,rx⟩:=N7 r;simp only[Rep]at rx;subst rx;exact .inl ⟨i,e,q _ G H (Ext.refl sG) (by simp[Rep])⟩
 |[.bl k],hf=>
  cases hf;obtain⟨x,e,rx⟩:=N7 r;simp only[Rep]at rx;subst rx;exact .inr ⟨k,e,q _ G H (Ext.refl sG) (by simp[Rep])⟩
theorem af3{p:Pos}{g:L3.G}(hg:Gl X "int")(hm:X.mg "int"=none)(ha:Wd (PXA X [e] (gs [g])))(he:starEach [e] X.env=(false,eval e X.env)::starEach [] X.env:=by rfl)(hpl:(backTo pos (starEach [] X.env)).any (·.1)=false:=by rfl):Wd (PX X (.Call (.Name "int" p) [e] [] pos) (gN ae2 [g])):=⟨have ha:=ha.run;bt1 bz3 bD2 hg hm boot_int ha (by decide) (by decide) he hpl⟩
theorem br7{α:Type}(l:List α)(f:α->Bool)(d:α):(List.range l.length).all (fun i=>f (l.getD i d))=l.all f:=by
 induction l with
 |nil=>rfl
 |cons x r ih=>
  rw[cu5,List.range_succ_eq_map,cs7,List.all_map,cs7,<-ih];rfl
theorem br6{α:Type}(l:List α)(f:α->Bool)(d:α):(List.range l.length).any (fun i=>f (l.getD i d))=l.any f:=by
 induction l with
 |nil=>rfl
 |cons x r ih=>
  rw[cu5,List.range_succ_eq_map,cs8,List.any_map,cs8,<-ih];rfl
theorem aZ3{bs:List Bool}{us:List Value}(r:o9 (bs.map V.bl) us){i:Nat}{v:Value}(h:us.toArray[i]?=some v):v=.bool (bs.getD i false):=by
 have h':us[i]?=some v:=by simpa using h
 have hl:=r.length;have hi:i<us.length:=by
  rcases Nat.lt_or_ge i us.length with q|q
  ·exact q
  ·rw[ct9 q]at h';cases h'
 have hb:i<bs.length:=by rw[cu6]at hl;omega
 have q:(bs.map V.bl)[i]?=some (.bl bs[i]):=by rw[cu0,ct8 hb];rfl
 obtain⟨u,hu,ru⟩:=r.get q;rw[h']at hu;cases hu;rw[show v=Value.bool bs[i]from ru];simp[List.getD,ct8 hb]
theorem bz5(hc:X.calm=true):O3 X (.builtin "all") (fun xs H Q=>∃(p:Addr) (bs:List Bool),xs=[.ref p]/\H p=some (.lst (bs.map V.bl))/\Q (.bl (bs.all id)) H):=by
 intro pins s σ H xs us Q I r h;obtain⟨p,bs,rfl,hp,q⟩:=h;obtain⟨u,rfl,ru⟩:=X6 r;cases ru;obtain⟨its,rv,pl,hz⟩:=I.list (SqL.of hp);have hl:=rv.length;rw[cu6]at hl;refine PySem.call_all_walk (cy6 pl.isList ?_);have lt:p<s.heap.objs.size:=by obtain⟨o,e,_⟩:=pl.isList;exact cs5 e
 refine⟨s.heap.objs.size,_,_,_,_,_,fun i=>id (bs.getD i false),rfl,Walks.list (A:=X.A.in1) (show X.A.in1.handled=none from I.ok.hd hc) s.heap.objs.size p (cx2 lt) its.toArray,⟨⟨_,cs2 _ rfl,rfl,rfl⟩,pl.isList.push _⟩,?_,fun h' tk k=> ?_⟩
 ·intro i v s' Q' E' hv hq;rw[aZ3 rv hv];exact cy9 hq
 ·have e:(List.range its.toArray.size).all (fun i=>id (bs.getD i false))=bs.all id:=by
   rw[cw5,<-hl];exact br7 bs id false
  rw[e];refine⟨.bl (bs.all id),H,?_,rfl,q⟩;exact I.kept fun b o e=>k b o (fun z=>cx2 (cs5 e) (by simpa using z)) (cs1 _ e)
theorem bz4(hc:X.calm=true):O3 X (.builtin "any") (fun xs H Q=>∃(p:Addr) (bs:List Bool),xs=[.ref p]/\H p=some (.lst (bs.map V.bl))/\Q (.bl (bs.any id)) H):=by
 intro pins s σ H xs us Q I r h;obtain⟨p,bs,rfl,hp,q⟩:=h;obtain⟨u,rfl,ru⟩:=X6 r;cases ru;obtain⟨its,rv,pl,hz⟩:=I.list (SqL.of hp);have hl:=rv.length;rw[cu6]at hl;refine PySem.call_any_walk (cy6 pl.isList ?_);have lt:p<s.heap.objs.size:=by obtain⟨o,e,_⟩:=pl.isList;exact cs5 e
 refine⟨s.heap.objs.size,_,_,_,_,_,fun i=>id (bs.getD i false),rfl,Walks.list (A:=X.A.in1) (show X.A.in1.handled=none from I.ok.hd hc) s.heap.objs.size p (cx2 lt) its.toArray,⟨⟨_,cs2 _ rfl,rfl,rfl⟩,pl.isList.push _⟩,?_,fun h' tk k=> ?_⟩
 ·intro i v s' Q' E' hv hq;rw[aZ3 rv hv];exact cy9 hq
 ·have e:(List.range its.toArray.size).any (fun i=>id (bs.getD i false))=bs.any id:=by
   rw[cw5,<-hl];exact br6 bs id false
  rw[e];refine⟨.bl (bs.any id),H,?_,rfl,q⟩;exact I.kept fun b o e=>k b o (fun z=>cx2 (cs5 e) (by simpa using z)) (cs1 _ e)
theorem bD5{K:W.Frag}:Y1 K (fun xs H Q=>∃(p:Addr) (bs:List Bool),xs=[.ref p]/\H p=some (.lst (bs.map V.bl))/\Q (.bl (bs.all id)) H) P8:=by
 intro G H ts xs tz Q sG r hf q
 match ts,hf with
 |[.lst us],hf=>
  obtain⟨bs,h1,h2⟩:=h9 hf;cases h2;obtain⟨x,e,rx⟩:=N7 r;simp only[Rep]at rx;obtain⟨p,ys,k1,k2,k3⟩:=rx;subst k1;have z:=as9 h1 k3;subst z;exact⟨p,bs,e,sG _ _ k2,q _ G H (Ext.refl sG) (by simp[Rep])⟩
theorem bD4{K:W.Frag}:Y1 K (fun xs H Q=>∃(p:Addr) (bs:List Bool),xs=[.ref p]/\H p=some (.lst (bs.map V.bl))/\Q (.bl (bs.any id)) H) am8:=by
 intro G H ts xs tz Q sG r hf q
 match ts,hf with
 |[.lst us],hf=>
  obtain⟨bs,h1,h2⟩:=h9 hf;cases h2;obtain⟨x,e,rx⟩:=N7 r;simp only[Rep]at rx;obtain⟨p,ys,k1,k2,k3⟩:=rx;subst k1;have z:=as9 h1 k3;subst z;exact⟨p,bs,e,sG _ _ k2,q _ G H (Ext.refl sG) (by simp[Rep])⟩
theorem X9{p:Pos}{g:L3.G}(hc:X.calm=true)(hg:Gl X "all")(hm:X.mg "all"=none)(ha:Wd (PXA X [e] (gs [g])))(he:starEach [e] X.env=(false,eval e X.env)::starEach [] X.env:=by rfl)(hpl:(backTo pos (starEach [] X.env)).any (·.1)=false:=by rfl):Wd (PX X (.Call (.Name "all" p) [e] [] pos) (gN P8 [g])):=⟨have ha:=ha.run;P4 (bz5 hc) bD5 hg hm boot_all ha (by decide) (by decide) he hpl⟩
theorem bd8{p:Pos}{g:L3.G}(hc:X.calm=true)(hg:Gl X "any")(hm:X.mg "any"=none)(ha:Wd (PXA X [e] (gs [g])))(he:starEach [e] X.env=(false,eval e X.env)::starEach [] X.env:=by rfl)(hpl:(backTo pos (starEach [] X.env)).any (·.1)=false:=by rfl):Wd (PX X (.Call (.Name "any" p) [e] [] pos) (gN am8 [g])):=⟨have ha:=ha.run;P4 (bz4 hc) bD4 hg hm boot_any ha (by decide) (by decide) he hpl⟩
noncomputable def kdN:Kd->String
 |.int=>"int"|.bool=>"bool"|.tuple=>"tuple"|.list=>"list"|.str=>"str"
noncomputable def co2(K:W.Frag)(k:Kd):List V->Hp->VK->Prop:=fun xs H Q=>∃t x b,xs=[x,.ty (kdN k)]/\Rep K H t x/\isK k t=some b/\Q (.bl b) H
theorem ap2{K:W.Frag}(k:Kd)(n:String)(hn:n="NoneType"\/n="bool"\/n="int"\/n="str"\/n="tuple"\/n="list"):
  W.kitOne K (.type n) (.type (kdN k))=some (n==kdN k||(n=="bool"&&kdN k=="int")):=by
 rcases hn with rfl|rfl|rfl|rfl|rfl|rfl<;>cases k<;>first |rfl|(with_unfolding_all rfl)
theorem bI6(k:Kd):O3 X (.builtin "isinstance") (co2 X.K k):=by
 intro pins s σ H xs us Q I r h;obtain⟨t,x,b,rfl,rx,hb,q⟩:=h;obtain⟨u,w',rfl,r1,r2⟩:=aQ0 r;cases r2;have fin:∀tk,EP X pins σ Q (.bool b) {s with toks:=tk}:=fun tk=>⟨.bl b,H,I.tok _,rfl,q⟩
 cases t with
 |non=>
  simp only[Rep]at rx;subst rx;cases r1;cases hb;exact W.kia_one W.kitx_none I.kIn True.intro (by rw[ap2 k "NoneType" (by simp)];cases k<;>rfl) (fun z=>nomatch z) fin
 |bl y=>
  simp only[Rep]at rx;subst rx;cases r1;cases hb;exact W.kia_one W.kitx_bool I.kIn True.intro (by rw[ap2 k "bool" (by simp)];cases k<;>rfl) (fun z=>nomatch z) fin
 |int y=>
  simp only[Rep]at rx;subst rx;obtain⟨tk,rfl⟩:=r1;cases hb;exact W.kia_one W.kitx_int I.kIn True.intro (by rw[ap2 k "int" (by simp)];cases k<;>rfl) (fun z=>nomatch z) fin
 |str y=>
  simp only[Rep]at rx;subst rx;obtain⟨tk,rfl⟩:=r1;cases hb;exact W.kia_one W.kitx_str I.kIn True.intro (by rw[ap2 k "str" (by simp)];cases k<;>rfl) (fun z=>nomatch z) fin
 |tup ts=>
  simp only[Rep]at rx;obtain⟨a,ys,rfl,h2,_⟩:=rx;cases r1;cases hb;obtain⟨its,_,p,_⟩:=I.tuple h2;obtain⟨o,h1,h3,_⟩:=p;exact W.kia_one W.kitx_tuple I.kIn ⟨o,h1,h3⟩ (by rw[ap2 k "tuple" (by simp)];cases k<;>rfl) (fun z=>nomatch z) fin
 |lst ts=>
  simp only[Rep]at rx;obtain⟨a,ys,rfl,h2,_⟩:=rx;cases r1;cases hb;obtain⟨its,_,p,_⟩:=I.list (SqL.of h2);obtain⟨o,h1,h3,_⟩:=p.isList;exact W.kia_one W.kitx_list I.kIn ⟨o,h1,h3⟩ (by rw[ap2 k "list" (by simp)];cases k<;>rfl) (fun z=>nomatch z) fin
 |ref a=>cases hb
 |scr a=>cases hb
 |dct ks us=>cases hb
theorem V2{p p':Pos}{c:Str}{g:L3.G}(k:Kd)(hg:Gl X "isinstance")(hm:X.mg "isinstance"=none)(hgc:Gl X c)(hmc:X.mg c=none)(hv:bootBuiltins c=some (.type (kdN k)))(ha:Wd (PX X e g))(hn:c≠"__name__":=by decide)(hdb:(c==("__debug__":Str))=false:=by decide)(hs1:starEach [e,.Name c p'] X.env=(false,eval e X.env)::starEach [.Name c p'] X.env:=by rfl)(hs2:starEach [.Name c p'] X.env=(false,eval (.Name c p') X.env)::starEach [] X.env:=by rfl)(hpl:(backTo pos (starEach [Expr.Name c p'] X.env)).any (·.1)=false:=by rfl):Wd (PX X (.Call (.Name "isinstance" p) [e,.Name c p'] [] pos) (g1 (P7 k) g)):=⟨by
 have ha:=ha.run;refine PE.imp (aC3 (bI6 k) hg hm boot_isinstance (O4 ha (O4 (be4 (v:=.ty (kdN k)) hgc hmc hv rfl hn hdb) Y4 hs2) hs1) (by decide) (by decide) hs1 hpl) fun σ H Q ⟨G,ρ,t,sG,hρ,hg,q⟩=> ?_
 obtain⟨x,h1,hg⟩:=h9 hg;obtain⟨b,h2,hg⟩:=h9 hg;cases hg;refine⟨G,ρ,x,sG,hρ,h1,fun v G1 H1 e1 r1=> ?_⟩;exact⟨x,v,b,rfl,r1.mono e1.s,h2,q _ G1 H1 e1 (by simp[Rep])⟩⟩
end
noncomputable def aD7(K:W.Frag)(G:Hp)(J:It)(ts:List T):Prop:=
 ∀(i:Nat) (G1 H1:Hp),w9 G G1->Sub G1 H1->(∀t,ts[i]?=some t->J.go i H1/\∀x H2,J.yld i H1 x H2->∃G2,Ext G1 H1 G2 H2/\Rep K G2 t x)/\(ts.length<=i->i<=ts.length->J.stop i H1)
noncomputable def tI(K:W.Frag)(it:GL):TI:=fun σ H R=>∃G ρ ts,Sub G H/\B5 K G σ ρ/\it ρ=some ts/\∀J G' H',Ext G H G' H'->aD7 K G' J ts->R J H'
noncomputable abbrev PXI(X:Cx)(tg it:Expr)(g:GL):Prop:=PI X tg it (tI X.K g)
section
variable {X:Cx}{a b c e tg:Expr}{pos:Pos}
theorem aL9{K:W.Frag}{G:Hp}{p:Addr}{xs:List V}{ts:List T}(h:G p=some (.lst xs))(r:j5 K G ts xs):aD7 K G (Itl K p) ts:=by
 intro i G1 H1 s1 s2;have hH:SqL K H1 p xs:=SqL.of (s2 _ _ (s1 _ _ h));refine⟨fun t ht=> ?_,fun h1 h2=>⟨xs,hH,by rw[r.length];exact h1⟩⟩;obtain⟨x,hx,rx⟩:=r.get ht;refine⟨⟨xs,x,hH,hx⟩,fun y H2 hy=> ?_⟩;obtain⟨e,hy⟩:=hy;subst e;have :=hy xs hH;rw[hx]at this;cases this;exact⟨G1,Ext.refl s2,rx.mono s1⟩
theorem aA7:∀{xs ys:List T}{i:Nat}{t:T},(A5 xs ys)[i]?=some t->∃x y,xs[i]?=some x/\ys[i]?=some y/\t=.tup [x,y]
 |[],_,_,_,h=>by simp[A5]at h
 |_::_,[],_,_,h=>by simp[A5]at h
 |x::xs,y::ys,0,t,h=>by simp[A5]at h;exact⟨x,y,by simp,by simp,h.symm⟩
 |x::xs,y::ys,i+1,t,h=>by
  obtain⟨u,v,h1,h2,h3⟩:=aA7 (xs:=xs) (ys:=ys) (i:=i) (t:=t) (by simpa[A5]using h);exact⟨u,v,by simpa using h1,by simpa using h2,h3⟩
theorem am4:∀(xs ys:List T),(A5 xs ys).length=min xs.length ys.length
 |[],_=>by simp[A5]
 |_::_,[]=>by simp[A5]
 |x::xs,y::ys=>by simp only[A5,cu5,am4 xs ys];omega
theorem bA9{K:W.Frag}{G:Hp}{p p':Addr}{xs ys:List V}{ts us:List T}(h:G p=some (.lst xs))(r:j5 K G ts xs)(h':G p'=some (.lst ys))(r':j5 K G us ys):aD7 K G (Itz K p p') (A5 ts us):=by
 intro i G1 H1 s1 s2;have hH:SqL K H1 p xs:=SqL.of (s2 _ _ (s1 _ _ h));have hH':SqL K H1 p' ys:=SqL.of (s2 _ _ (s1 _ _ h'));refine⟨fun t ht=> ?_,fun h1 h2=>⟨xs,ys,hH,hH',?_⟩⟩
 ·obtain⟨tx,ty,e1,e2,e3⟩:=aA7 ht;subst e3;obtain⟨x,hx,rx⟩:=r.get e1;obtain⟨y,hy,ry⟩:=r'.get e2;refine⟨⟨xs,ys,x,y,hH,hH',hx,hy⟩,fun v H2 hv=> ?_⟩;obtain⟨x',y',q,k1,k2,k3,k4,k5⟩:=hv;have z1:=k1 xs hH;have z2:=k2 ys hH';rw[hx]at z1;cases z1;rw[hy]at z2;cases z2;subst k4 k5;refine⟨_,Ext.new s2 k3 _,?_⟩;have sn:=B4 (s2.free k3) (HO.tup [x,y]);simp only[Rep];exact⟨q,[x,y],rfl,SqT.of n6,j5.cons ((rx.mono s1).mono sn) (j5.cons ((ry.mono s1).mono sn) j5.nil)⟩
 ·rw[am4]at h1;rw[r.length,r'.length];omega
theorem aO1:∀{xs:List T}{n i:Nat}{t:T},(P0 n xs)[i]?=some t->∃x,xs[i]?=some x/\t=.tup [.int ((n+i:Nat):Int),x]
 |[],_,_,_,h=>by simp[P0]at h
 |x::xs,n,0,t,h=>by simp[P0]at h;exact⟨x,by simp,by rw[<-h];simp⟩
 |x::xs,n,i+1,t,h=>by
  obtain⟨u,h1,h2⟩:=aO1 (xs:=xs) (n:=n+1) (i:=i) (t:=t) (by simpa[P0]using h);exact⟨u,by simpa using h1,by rw[h2];congr 3;omega⟩
theorem av9:∀(n:Nat) (xs:List T),(P0 n xs).length=xs.length
 |_,[]=>rfl
 |n,x::xs=>by simp[P0,av9 (n+1) xs]
theorem bp4{K:W.Frag}{G:Hp}{p:Addr}{xs:List V}{ts:List T}(h:G p=some (.lst xs))(r:j5 K G ts xs):aD7 K G (Ite K p) (P0 0 ts):=by
 intro i G1 H1 s1 s2;have hH:SqL K H1 p xs:=SqL.of (s2 _ _ (s1 _ _ h));refine⟨fun t ht=> ?_,fun h1 h2=>⟨xs,hH,by rw[r.length];rw[av9]at h1;exact h1⟩⟩;obtain⟨tx,e1,e3⟩:=aO1 ht;subst e3;obtain⟨x,hx,rx⟩:=r.get e1;refine⟨⟨xs,x,hH,hx⟩,fun v H2 hv=> ?_⟩;obtain⟨x',q,k1,k3,k4,k5⟩:=hv;have z1:=k1 xs hH;rw[hx]at z1;cases z1;subst k4 k5;refine⟨_,Ext.new s2 k3 _,?_⟩;have sn:=B4 (s2.free k3) (HO.tup [.int i,x]);simp only[Rep];exact⟨q,[.int i,x],rfl,SqT.of n6,j5.cons (by simp[Rep]) (j5.cons ((rx.mono s1).mono sn) j5.nil)⟩
theorem aF1{K:W.Frag}{G:Hp}{lo:Int}{n:Nat}:aD7 K G (Itr lo n) (u8 lo n):=by
 intro i G1 H1 s1 s2;refine⟨fun t ht=> ?_,fun h1 h2=> ?_⟩
 ·unfold u8 at ht;rw[cu0]at ht;by_cases hi:i<n
  ·rw[List.getElem?_range hi]at ht;cases ht;refine⟨hi,fun x H2 hy=> ?_⟩;obtain⟨e,hy⟩:=hy;subst e hy;exact⟨G1,Ext.refl s2,by simp[Rep]⟩
  ·rw[ct9 (by simpa using hi)]at ht;cases ht
 ·unfold u8 at h1;rw[cu6,List.length_range]at h1;exact h1
theorem K3{g:L3.G}(h:Wd (PX X e g)):Wd (PXI X tg e (itL g)):=⟨have h:=h.run;PI.imp (bQ4 h) fun σ H R zz=>by
 obtain⟨G,ρ,ts,sG,hρ,hg,q⟩:=zz;obtain⟨t,h1,h2⟩:=h9 hg;refine⟨G,ρ,t,sG,hρ,h1,fun v G1 H1 e1 r1=> ?_⟩;cases t<;>first |(cases h2;done)|skip
 cases h2;simp only[Rep]at r1;obtain⟨p,xs,k1,k2,k3⟩:=r1;exact⟨p,k1,⟨xs,SqL.of (e1.s _ _ k2)⟩,q _ G1 H1 e1 (aL9 k2 k3)⟩⟩
theorem W6{p tp:Pos}{es':List Expr}{k:Nat}{ga gb:L3.G}(hg:Gl X "zip")(hm:X.mg "zip"=none)(ha:Wd (PXA X [a,b] (gs [ga,gb])))(hs:starEach [a,b] X.env=[(false,eval a X.env),(false,eval b X.env)]:=by rfl)(hs2:starEach [b] X.env=[(false,eval b X.env)]:=by rfl):Wd (PXI X (.Tuple es' k tp) (.Call (.Name "zip" p) [a,b] [] pos) (itZ ga gb)):=⟨have ha:=ha.run;PI.imp (bZ6 hg hm ha hs hs2) fun σ H R zz=>by
 obtain⟨G,ρ,ts,sG,hρ,hg,q⟩:=zz;obtain⟨xs,h1,hg⟩:=h9 hg;obtain⟨ys,h2,hg⟩:=h9 hg;cases hg;obtain⟨tx,k1,k2⟩:=h9 h1;obtain⟨ty,k3,k4⟩:=h9 h2;cases tx<;>first |(cases k2;done)|skip
 cases ty<;>first |(cases k4;done)|skip
 cases k2;cases k4;refine⟨G,ρ,[.lst xs,.lst ys],sG,hρ,?_,fun vs G1 H1 e1 r1=> ?_⟩
 ·simp only[gs,k1,k3,cx3]
 ·obtain⟨x,y,e,rx,ry⟩:=ad3 r1;simp only[Rep]at rx ry;obtain⟨p,vx,m1,m2,m3⟩:=rx;obtain⟨p',vy,n1,n2,n3⟩:=ry;subst m1 n1;exact⟨p,p',e,⟨vx,SqL.of (e1.s _ _ m2)⟩,⟨vy,SqL.of (e1.s _ _ n2)⟩,q _ G1 H1 e1 (bA9 m2 m3 n2 n3)⟩⟩
theorem aM5{p tp:Pos}{es':List Expr}{k:Nat}{ga:L3.G}(hg:Gl X "enumerate")(hm:X.mg "enumerate"=none)(ha:Wd (PXA X [a] (gs [ga])))(hs:starEach [a] X.env=[(false,eval a X.env)]:=by rfl):Wd (PXI X (.Tuple es' k tp) (.Call (.Name "enumerate" p) [a] [] pos) (itE ga)):=⟨have ha:=ha.run;PI.imp (bQ5 hg hm ha hs) fun σ H R zz=>by
 obtain⟨G,ρ,ts,sG,hρ,hg,q⟩:=zz;obtain⟨xs,h1,hg⟩:=h9 hg;cases hg;obtain⟨tx,k1,k2⟩:=h9 h1;cases tx<;>first |(cases k2;done)|skip
 cases k2;refine⟨G,ρ,[.lst xs],sG,hρ,?_,fun vs G1 H1 e1 r1=> ?_⟩
 ·simp only[gs,k1,cx3]
 ·obtain⟨x,e,rx⟩:=N7 r1;simp only[Rep]at rx;obtain⟨p,vx,m1,m2,m3⟩:=rx;subst m1;exact⟨p,e,⟨vx,SqL.of (e1.s _ _ m2)⟩,q _ G1 H1 e1 (bp4 m2 m3)⟩⟩
theorem T5{p:Pos}{ga:L3.G}(hg:Gl X "range")(hm:X.mg "range"=none)(ha:Wd (PXA X [a] (gs [ga])))(hs:starEach [a] X.env=[(false,eval a X.env)]:=by rfl):Wd (PXI X tg (.Call (.Name "range" p) [a] [] pos) (itR ga)):=⟨have ha:=ha.run;PI.imp (bt6 hg hm ha hs) fun σ H R zz=>by
  obtain⟨G,ρ,ts,sG,hρ,hg,q⟩:=zz;obtain⟨n,h1,hg⟩:=h9 hg;obtain⟨tx,k1,k2⟩:=h9 h1;cases tx<;>first |(cases k2;done)|skip
  cases k2;refine⟨G,ρ,[.int n],sG,hρ,?_,fun vs G1 H1 e1 r1=> ?_⟩
  ·simp only[gs,k1,cx3]
  ·obtain⟨x,e,rx⟩:=N7 r1;simp only[Rep]at rx;subst rx;split at hg
   ·rename_i hn;cases hg;have hl:(lim:Int)<2^62:=by decide
    exact⟨n,e,by omega,by omega,q _ G1 H1 e1 aF1⟩
   ·cases hg⟩
end
noncomputable def tGt(K:W.Frag)(is:List Nat)(st:St1):TG:=fun v σ H Q=>∃G ρ t ρ',Sub G H/\B5 K G σ ρ/\Rep K G t v/\st t ρ=some ρ'/\
 ∀σ',B5 K G σ' ρ'->σ'.length=σ.length->(∀k,k∉is->σ'[k]?=σ[k]?)->Q σ' H
noncomputable abbrev PXG(X:Cx)(tg:Expr)(is:List Nat)(st:St1):Prop:=PG X tg (tGt X.K is st)
section
variable {X:Cx}{pos:Pos}
theorem w6{x:Str}(i:Nat)(hN:X.N.Nodup)(hi:X.N[i]?=some x:=by rfl)(hx:Loc X.env.scope x:=by first |exact Or.inl rfl|exact Or.inr rfl)(hf:X.fn x=true\/X.env.scope.names.lookup x=some .local:=by first |exact .inl rfl|exact .inr rfl):Wd (PXG X (.Name x pos) [i] (stN i)):=⟨PG.imp (y0 hN hi hx hf) fun v σ H Q zz=>by
  obtain⟨G,ρ,t,ρ',sG,hρ,r,hs,q⟩:=zz;cases hs;refine q _ (hρ.set r) (by simp) fun k hk=> ?_
  rw[cu2 (by simp at hk;omega)]⟩
theorem K9{e1 e2:Expr}{k:Nat}(i j:Nat)(hc:X.calm=true)(h1:PG X e1 (al7 i))(h2:PG X e2 (al7 j))(hs1:(assignEach [e1,e2] X.env).map (·.2)=assign e1 X.env::(assignEach [e2] X.env).map (·.2):=by rfl)(hs2:(assignEach [e2] X.env).map (·.2)=assign e2 X.env::(assignEach [] X.env).map (·.2):=by rfl)(hn:(assignEach [e1,e2] X.env).length=2:=by rfl)(hst:(assignEach [e1,e2] X.env).findIdx? (·.1)=none:=by rfl):Wd (PXG X (.Tuple [e1,e2] k pos) [i,j] (st2 i j)):=⟨PG.imp (bt7 hc (aj1 h1 (aj1 h2 be3 hs2) hs1) hn hst) fun v σ H Q zz=>by
  obtain⟨G,ρ,t,ρ',sG,hρ,r,hs,q⟩:=zz
  match t,hs with
  |.tup [x,y],hs=>
   cases hs;simp only[Rep]at r;obtain⟨a,xs,e,hq,rr⟩:=r;obtain⟨vx,vy,e',rx,ry⟩:=ad3 rr;subst e';refine⟨a,_,e,S8 sG hq,rfl,vx,[vy],rfl,vy,[],rfl,rfl,?_⟩;refine q _ ((hρ.set rx).set ry) (by simp) fun k hk=> ?_
   simp at hk;rw[cu2 (by omega),cu2 (by omega)]⟩
theorem bi9{e1 e2 e3:Expr}{k:Nat}(i j l:Nat)(hc:X.calm=true)(h1:PG X e1 (al7 i))(h2:PG X e2 (al7 j))(h3:PG X e3 (al7 l))(hs1:(assignEach [e1,e2,e3] X.env).map (·.2)=assign e1 X.env::(assignEach [e2,e3] X.env).map (·.2):=by rfl)(hs2:(assignEach [e2,e3] X.env).map (·.2)=assign e2 X.env::(assignEach [e3] X.env).map (·.2):=by rfl)(hs3:(assignEach [e3] X.env).map (·.2)=assign e3 X.env::(assignEach [] X.env).map (·.2):=by rfl)(hn:(assignEach [e1,e2,e3] X.env).length=3:=by rfl)(hst:(assignEach [e1,e2,e3] X.env).findIdx? (·.1)=none:=by rfl):Wd (PXG X (.Tuple [e1,e2,e3] k pos) [i,j,l] (st3 i j l)):=⟨PG.imp (bt7 hc (aj1 h1 (aj1 h2 (aj1 h3 be3 hs3) hs2) hs1) hn hst) fun v σ H Q zz=>by
  obtain⟨G,ρ,t,ρ',sG,hρ,r,hs,q⟩:=zz
  match t,hs with
  |.tup [x,y,z],hs=>
   cases hs;simp only[Rep]at r;obtain⟨a,xs,e,hq,rr⟩:=r;simp only[j5]at rr;obtain⟨vx,r1,q1,rx,vy,r2,q2,ry,vz,r3,q3,rz,q4⟩:=rr;subst q4 q3 q2 q1;refine⟨a,_,e,S8 sG hq,rfl,vx,_,rfl,vy,_,rfl,vz,_,rfl,rfl,?_⟩;refine q _ (((hρ.set rx).set ry).set rz) (by simp) fun k hk=> ?_
   simp at hk;rw[cu2 (by omega),cu2 (by omega),cu2 (by omega)]⟩
end
section
variable {X:Cx}{elt target iter:Expr}{ifs:List Expr}{scope:Scope}{pos:Pos}
noncomputable abbrev at2(X:Cx)(ifs:List Expr)(g:GB):Prop:=aD9 X ifs (tXB X.K g)
theorem A6:Wd (at2 X [] B3):=⟨fun pins s σ H Q I zz=>by
 obtain⟨G,ρ,t,sG,hρ,hg,q⟩:=zz;cases hg;exact bF1 pins s σ H Q I (q G H (Ext.refl sG))⟩
theorem al4{c:Expr}{g:GB}(h:Wd (PXB X c g)):Wd (at2 X [c] g):=⟨have h:=h.run;bF0 h⟩
theorem ay5{K:W.Frag}{it:GL}{is:List Nat}{st:St1}{gc:GB}{ge:L3.G}{nT:Nat}{caps:List Nat}(his:is.all (fun i=>decide (i<nT))=true):
  ∀σ H Q,tX K (o0 it nT caps st gc ge) σ H Q->tLC (tI K it) (tGt K is st) (tXB K gc) (tX K ge) nT caps σ H Q:=fun σ H Q zz=>by
 obtain⟨G,ρ,t,sG,hρ,hg,q⟩:=zz;obtain⟨ts,h1,hg⟩:=h9 hg;split at hg
 case isFalse=>cases hg
 case isTrue hlim=>
 obtain⟨rs,h2,hg⟩:=h9 hg;cases hg;refine⟨G,ρ,ts,sG,hρ,h1,fun J G' H' e1 wk a ha=> ?_⟩;have hGa:G' a=none:=e1.s.free ha;refine⟨fun i m ys H1=>m=ts.length-i/\i<=ts.length/\ys.length<=i/\∃G1 r1 r2,w9 G' G1/\Sub G1 H1/\I0 H' H1/\(∀b,H' b≠none->G' b=none->G1 b=none)/\G1 a=none/\H1 a=some (.lst ys)/\j5 K G1 r1 ys/\
   R9 (O2 nT caps ρ) st gc ge (ts.drop i)=some r2/\rs=r1++r2,⟨ts.length,by simp,Nat.zero_le _,cw8 _,G',[],rs,w9.refl _,?_,ax7 (B4 ha _),fun _ _ z=>z,hGa,n6,j5.nil,by simpa using h2,by simp⟩,?_⟩
 ·exact⟨fun b o z=>by rw[l7 (t6 z hGa)];exact e1.s b o z,e1.s.t.new ha,e1.s.n⟩
 rintro i m ys H1 ⟨rfl,hi,hyl,G1,r1,r2,s1,s2,s3,fr,g1a,h1a,rl,hgo,hrs⟩;have hρ1:B5 K G1 (M4 nT caps σ) (O2 nT caps ρ):=(hρ.cap nT caps).mono (e1.g.trans s1);by_cases hlt:i<ts.length
 ·right;have ht:ts[i]?=some ts[i]:=ct8 hlt;obtain⟨go,yl⟩:=(wk i G1 H1 s1 s2).1 _ ht;refine⟨go,fun x H2 hy=> ?_⟩;obtain⟨G2,e2,r2'⟩:=yl x H2 hy;rw[ct1 hlt]at hgo;obtain⟨ρ1,k1,hgo⟩:=h9 hgo;obtain⟨bq,k2,hgo⟩:=h9 hgo;refine⟨G2,O2 nT caps ρ,ts[i],ρ1,e2.s,hρ1.mono e2.g,r2',k1,fun σ2 hρ2 hl2 hk2=>⟨⟨hl2,fun j v ej=> ?_⟩,?_⟩⟩
  ·by_cases hj:j∈is
   ·exfalso;have hjn:j<nT:=by
     have :=List.all_eq_true.mp his j hj;simpa using this
    unfold M4 at ej;rw[ct4 (by simpa using hjn),cu1,cx8 hjn]at ej;cases ej
   ·rw[hk2 j hj];exact ej
  ·refine⟨G2,ρ1,bq,e2.s,hρ2,k2,fun G3 H3 e3=> ?_⟩;have E13:=e2.trans e3;cases bq with
   |true=>
    obtain⟨t1,k3,hgo⟩:=h9 hgo;obtain⟨r3,k4,hgo⟩:=h9 hgo;cases hgo;refine aj6 ⟨G3,ρ1,t1,e3.s,hρ2.mono e3.g,k3,fun v G4 H4 e4 rv=> ?_⟩;have E14:=E13.trans e4;have h4a:H4 a=some (.lst ys):=E14.h.lst h1a;have g4a:G4 a=none:=E14.fr a (by rw[h1a];simp) g1a;refine⟨h4a,?_,ts.length-(i+1),by omega,rfl,hlt,by rw[cu4,List.length_singleton];omega,G4,r1++[t1],r3,s1.trans E14.g,?_,?_,?_,g4a,n6,(rl.mono E14.g).append (j5.cons rv j5.nil),k4,by rw[hrs];simp⟩
    ·have :(lim:Nat)<sizeLine:=by decide
     omega
    ·exact⟨fun b o z=>by rw[l7 (t6 z g4a)];exact E14.s b o z,E14.s.t.lst h4a,E14.s.n⟩
    ·exact(s3.trans E14.h).upd ha
    ·intro b hb hgb;have h5:H1 b≠none:=s3.ne hb;exact E14.fr b h5 (fr b hb hgb)
   |false=>
    refine aj7 ⟨ts.length-(i+1),by omega,rfl,hlt,by omega,G3,r1,r2,s1.trans E13.g,e3.s,s3.trans E13.h,?_,E13.fr a (by rw[h1a];simp) g1a,E13.h.lst h1a,rl.mono E13.g,hgo,hrs⟩;intro b hb hgb;have h5:H1 b≠none:=s3.ne hb;exact E13.fr b h5 (fr b hb hgb)
 ·left;have ei:i=ts.length:=by omega
  subst ei;refine⟨(wk _ G1 H1 s1 s2).2 (cw8 _) (cw8 _),?_⟩;rw[List.drop_length]at hgo;cases hgo;rw[cs9]at hrs;subst hrs;have sn:=B4 g1a (HO.lst ys);refine q _ (upd G1 a (.lst ys)) H1 (e1.trans ⟨s1.trans sn,⟨fun b o z=> ?_,s2.t,ay4 s2.n rfl⟩,s3,fun b hb hgb=> ?_⟩) ?_
  ·by_cases hb:b=a
   ·subst hb;rw[n6]at z;cases z;exact h1a
   ·rw[l7 hb]at z;exact s2 b o z
  ·rw[l7 (fun z=>hb (by rw[z];exact ha))];exact fr b hb hgb
  ·simp only[Rep];exact⟨a,ys,rfl,n6,rl.mono sn⟩
theorem M7{it:GL}{is:List Nat}{st:St1}{gc:GB}{ge:L3.G}(N':List Str)(nT:Nat)(caps:List Nat)(hcalm:X.calm=true)(chk:O5 X.env.scope X.N scope N' nT caps=true)(hi:Wd (PXI X target iter it))(his:is.all (fun i=>decide (i<nT))=true)(hg:∀cl C s₀ H₀ fp,Wd (PXG (u6 X scope cl C N' s₀ H₀ fp) target is st))(hc:∀cl C s₀ H₀ fp,Wd (at2 (u6 X scope cl C N' s₀ H₀ fp) ifs gc))(he:∀cl C s₀ H₀ fp,Wd (PX (u6 X scope cl C N' s₀ H₀ fp) elt ge))(hs:∀x,foldedSetIterable iter X.env x=pure x:=by intro _;rfl):Wd (PX X (.ListComp elt [⟨target,iter,ifs,0⟩] scope pos) (o0 it nT caps st gc ge)):=⟨have hi:=hi.run;have hg:=fun x0 x1 x2 x3 x4=>(hg x0 x1 x2 x3 x4).run;have hc:=fun x0 x1 x2 x3 x4=>(hc x0 x1 x2 x3 x4).run;have he:=fun x0 x1 x2 x3 x4=>(he x0 x1 x2 x3 x4).run;PE.imp (ck0 (g:=tGt X.K is st) (tc:=tXB X.K gc) (te:=tX X.K ge) N' nT caps hcalm chk hi hg hc he hs) (ay5 his)⟩
end
noncomputable def ap8(K:W.Frag)(G H:Hp)(D:aa6):Out->Prop
 |.nx ρ=>∀σ' G' H',Ext G H G' H'->B5 K G' σ' ρ->D.nx σ' H'
 |.bk ρ=>∀σ' G' H',Ext G H G' H'->B5 K G' σ' ρ->D.bk σ' H'
 |.ct ρ=>∀σ' G' H',Ext G H G' H'->B5 K G' σ' ρ->D.ct σ' H'
 |.ret t=>∀v G' H',Ext G H G' H'->Rep K G' t v->D.rt v H'
theorem ap8.ext{K:W.Frag}{G H G1 H1:Hp}{D:aa6}{o:Out}(e:Ext G H G1 H1)(h:ap8 K G H D o):ap8 K G1 H1 D o:=by
 cases o with
 |nx ρ=>exact fun σ' G' H' e' r=>h σ' G' H' (e.trans e') r
 |bk ρ=>exact fun σ' G' H' e' r=>h σ' G' H' (e.trans e') r
 |ct ρ=>exact fun σ' G' H' e' r=>h σ' G' H' (e.trans e') r
 |ret t=>exact fun v G' H' e' r=>h v G' H' (e.trans e') r
noncomputable def tXS(K:W.Frag)(g:GS):TS:=fun D σ H=>∃G ρ o,Sub G H/\B5 K G σ ρ/\g ρ=some o/\ap8 K G H D o
noncomputable abbrev PXS(X:Cx)(st:Stmt)(g:GS):Prop:=PS X st (tXS X.K g)
noncomputable abbrev ag5(X:Cx)(st:List Stmt)(g:GS):Prop:=PSs X st (tXS X.K g)
section
variable {X:Cx}{st:Stmt}{rest:List Stmt}{e c:Expr}{pos:Pos}
theorem O0:Wd (ag5 X [] o7):=⟨PSs.imp aJ5 fun D σ H zz=>by
 obtain⟨G,ρ,o,sG,hρ,hg,q⟩:=zz;cases hg;exact q σ G H (Ext.refl sG) hρ⟩
theorem v5{g1 g2:GS}(h1:Wd (PXS X st g1))(h2:Wd (ag5 X rest g2)):Wd (ag5 X (st::rest) (j6 g1 g2)):=⟨have h1:=h1.run;have h2:=h2.run;PSs.imp (W8 h1 h2) fun D σ H zz=>by
 obtain⟨G,ρ,o,sG,hρ,hg,q⟩:=zz;obtain⟨o1,k1,hg⟩:=h9 hg;refine⟨G,ρ,o1,sG,hρ,k1,?_⟩;cases o1 with
 |nx ρ1=>exact fun σ' G' H' e' r=>⟨G',ρ1,o,e'.s,r,hg,q.ext e'⟩
 |bk ρ1=>cases hg;exact q
 |ct ρ1=>cases hg;exact q
 |ret t=>cases hg;exact q⟩
theorem k9{g1:GS}(h1:Wd (PXS X st g1)):Wd (ag5 X [st] g1):=⟨have h1:=h1.run;ao6 h1⟩
theorem m8{g:L3.G}(h:Wd (PX X e g)):Wd (PXS X (.Return (some e) pos) (m6 g)):=⟨have h:=h.run;PS.imp (aG1 h) fun D σ H zz=>by
 obtain⟨G,ρ,o,sG,hρ,hg,q⟩:=zz;obtain⟨t,k1,hg⟩:=h9 hg;cases hg;exact⟨G,ρ,t,sG,hρ,k1,fun v G1 H1 e1 r1=>q v G1 H1 e1 r1⟩⟩
noncomputable def bv9:Expr->Bool
 |.ListComp ..=>false
 |.SetComp ..=>false
 |.DictComp ..=>false
 |_=>true
theorem bB6{e:Expr}{t:Option Expr}{n:Nat}{env:Env}(h:bv9 e=true):swapsWith e t n env=pure false:=by
 cases e<;>first |rfl|cases h
theorem D6{x:Str}{pos':Pos}{g:L3.G}(i:Nat)(hN:X.N.Nodup)(h:Wd (PX X e g))(hi:X.N[i]?=some x:=by rfl)(hx:Loc X.env.scope x:=by first |exact Or.inl rfl|exact Or.inr rfl)(hs:bv9 e=true:=by rfl)(hf:X.fn x=true\/X.env.scope.names.lookup x=some .local:=by first |exact .inl rfl|exact .inr rfl):Wd (PXS X (.Assign [.Name x pos'] e pos) (k7 i g)):=⟨have h:=h.run;PS.imp (ac1 hN hi hx h (bB6 hs) hf) fun D σ H zz=>by
 obtain⟨G,ρ,o,sG,hρ,hg,q⟩:=zz;obtain⟨t,k1,hg⟩:=h9 hg;cases hg;exact⟨G,ρ,t,sG,hρ,k1,fun v G1 H1 e1 r1=>q _ G1 H1 e1 ((hρ.mono e1.g).set r1)⟩⟩
theorem Q8{a b:List Stmt}{gc:GB}{ga gb:GS}(hc:Wd (PXB X c gc))(ha:Wd (ag5 X a ga))(hb:Wd (ag5 X b gb)):Wd (PXS X (.If c a b pos) (sIf gc ga gb)):=⟨have hc:=hc.run;have ha:=ha.run;have hb:=hb.run;PS.imp (bj3 hc ha hb) fun D σ H zz=>by
 obtain⟨G,ρ,o,sG,hρ,hg,q⟩:=zz;obtain⟨k,k1,hg⟩:=h9 hg;refine⟨G,ρ,k,sG,hρ,k1,fun G1 H1 e1=> ?_⟩;cases k with
 |true=>exact aj6 ⟨G1,ρ,o,e1.s,hρ.mono e1.g,hg,q.ext e1⟩
 |false=>exact aj7 ⟨G1,ρ,o,e1.s,hρ.mono e1.g,hg,q.ext e1⟩⟩
theorem Z4{tg iter:Expr}{body:List Stmt}{it:GL}{is:List Nat}{s1:St1}{gb:GS}(hp:PassesOwn (model X.prog X.w) X.A X.env X.xe)(hc:X.calm=true)(hi:Wd (PXI X tg iter it))(hg:Wd (PXG X tg is s1))(hb:Wd (ag5 X body gb))(hs:∀x,foldedSetIterable iter X.env x=pure x:=by intro _;rfl):Wd (PXS X (.For tg iter body [] pos) (N0 it s1 gb)):=⟨have hi:=hi.run;have hg:=hg.run;have hb:=hb.run;PS.imp (bt3 hp hc hi hg hb hs) fun D σ H zz=>by
 obtain⟨G,ρ,o,sG,hρ,hg,q⟩:=zz;obtain⟨ts,h1,hg⟩:=h9 hg;refine⟨G,ρ,ts,sG,hρ,h1,fun J G' H' e1 wk=> ?_⟩;refine⟨fun i m σ1 H1=>m=ts.length-i/\i<=ts.length/\∃G1 ρ1,Ext G' H' G1 H1/\B5 X.K G1 σ1 ρ1/\u5 s1 gb (ts.drop i) ρ1=some o,⟨ts.length,by simp,Nat.zero_le _,G',ρ,Ext.refl e1.s,hρ.mono e1.g,by simpa using hg⟩,?_⟩;rintro i m σ1 H1 ⟨rfl,hi,G1,ρ1,x1,r1,hgo⟩;by_cases hlt:i<ts.length
 ·right;have ht:ts[i]?=some ts[i]:=ct8 hlt;obtain⟨go,yl⟩:=(wk i G1 H1 x1.g x1.s).1 _ ht;rw[ct1 hlt]at hgo;obtain⟨ρ2,k1,hgo⟩:=h9 hgo;obtain⟨o2,k2,hgo⟩:=h9 hgo;refine⟨go,fun σ' H2=>∃G2 ρ3,Ext G' H' G2 H2/\B5 X.K G2 σ' ρ3/\u5 s1 gb (ts.drop (i+1)) ρ3=some o,fun σ' H2 ⟨G2,ρ3,x2,r2,h2⟩=>⟨ts.length-(i+1),by omega,rfl,hlt,G2,ρ3,x2,r2,h2⟩,fun x H2 hy=> ?_⟩;obtain⟨G2,e2,rx⟩:=yl x H2 hy;refine⟨G2,ρ1,ts[i],ρ2,e2.s,r1.mono e2.g,rx,k1,fun σ2 hρ2 _ _=>⟨G2,ρ2,o2,e2.s,hρ2,k2,?_⟩⟩;cases o2 with
  |nx ρ3=>exact fun σ' G3 H3 e3 r3=>⟨G3,ρ3,x1.trans (e2.trans e3),r3,hgo⟩
  |ct ρ3=>exact fun σ' G3 H3 e3 r3=>⟨G3,ρ3,x1.trans (e2.trans e3),r3,hgo⟩
  |bk ρ3=>cases hgo;exact fun σ' G3 H3 e3 r3=>q σ' G3 H3 (e1.trans (x1.trans (e2.trans e3))) r3
  |ret t=>cases hgo;exact fun v G3 H3 e3 r3=>q v G3 H3 (e1.trans (x1.trans (e2.trans e3))) r3
 ·left;have ei:i=ts.length:=by omega
  subst ei;refine⟨(wk _ G1 H1 x1.g x1.s).2 (cw8 _) (cw8 _),?_⟩;rw[List.drop_length]at hgo;cases hgo;exact q σ1 G1 H1 (e1.trans x1) r1⟩
theorem aF9{body:List Stmt}{gc:GB}{gb:GS}(fuel:j9->Nat)(hp:PassesOwn (model X.prog X.w) X.A X.env X.xe)(hc:Wd (PXB X c gc))(hb:Wd (ag5 X body gb)):Wd (PXS X (.While c body [] pos) (fun ρ=>v6 gc gb (fuel ρ) ρ)):=⟨have hc:=hc.run;have hb:=hb.run;PS.imp (aU9 hp hc hb) fun D σ H zz=>by
 obtain⟨G,ρ,o,sG,hρ,hg,q⟩:=zz;refine⟨fun m σ1 H1=>∃G1 ρ1,Ext G H G1 H1/\B5 X.K G1 σ1 ρ1/\v6 gc gb m ρ1=some o,⟨fuel ρ,G,ρ,Ext.refl sG,hρ,hg⟩,?_⟩;rintro m σ1 H1 ⟨G1,ρ1,x1,r1,hgo⟩;cases m with
 |zero=>cases hgo
 |succ n=>
  obtain⟨k,k1,hgo⟩:=h9 hgo;refine⟨G1,ρ1,k,x1.s,r1,k1,fun G2 H2 e2=> ?_⟩;cases k with
  |false=>
   cases hgo;exact q σ1 G2 H2 (x1.trans e2) (r1.mono e2.g)
  |true=>
   obtain⟨o2,k2,hgo⟩:=h9 hgo;refine⟨fun σ' H3=>∃G3 ρ3,Ext G H G3 H3/\B5 X.K G3 σ' ρ3/\v6 gc gb n ρ3=some o,fun σ' H3 h3=>⟨n,Nat.lt_succ_self n,h3⟩,⟨G2,ρ1,o2,e2.s,r1.mono e2.g,k2,?_⟩⟩;cases o2 with
   |nx ρ3=>exact fun σ' G3 H3 e3 r3=>⟨G3,ρ3,x1.trans (e2.trans e3),r3,hgo⟩
   |ct ρ3=>exact fun σ' G3 H3 e3 r3=>⟨G3,ρ3,x1.trans (e2.trans e3),r3,hgo⟩
   |bk ρ3=>cases hgo;exact fun σ' G3 H3 e3 r3=>q σ' G3 H3 (x1.trans (e2.trans e3)) r3
   |ret t=>cases hgo;exact fun v G3 H3 e3 r3=>q v G3 H3 (x1.trans (e2.trans e3)) r3⟩
theorem aJ3{elt target iter:Expr}{ifs:List Expr}{scope:Scope}{it:GL}{is:List Nat}{st:St1}{gc:GB}{ge:L3.G}{x:Str}{pos' spos:Pos}(i:Nat)(N':List Str)(nT:Nat)(caps:List Nat)(hN:X.N.Nodup)(hcalm:X.calm=true)(chk:O5 X.env.scope X.N scope N' nT caps=true)(hi:Wd (PXI X target iter it))(his:is.all (fun i=>decide (i<nT))=true)(hg:∀cl C s₀ H₀ fp,Wd (PXG (u6 X scope cl C N' s₀ H₀ fp) target is st))(hc:∀cl C s₀ H₀ fp,Wd (at2 (u6 X scope cl C N' s₀ H₀ fp) ifs gc))(he:∀cl C s₀ H₀ fp,Wd (PX (u6 X scope cl C N' s₀ H₀ fp) elt ge))(hx:X.N[i]?=some x:=by rfl)(hl:X.env.scope.names.lookup x=some .local:=by rfl)(hsw:swapsWith (.ListComp elt [⟨target,iter,ifs,0⟩] scope pos) (some (.Name x pos')) spos.line X.env=pure true:=by rfl)(hs:∀x,foldedSetIterable iter X.env x=pure x:=by intro _;rfl):Wd (PXS X (.Assign [.Name x pos'] (.ListComp elt [⟨target,iter,ifs,0⟩] scope pos) spos) (k7 i (o0 it nT caps st gc ge))):=⟨have hi:=hi.run;have hg:=fun x0 x1 x2 x3 x4=>(hg x0 x1 x2 x3 x4).run;have hc:=fun x0 x1 x2 x3 x4=>(hc x0 x1 x2 x3 x4).run;have he:=fun x0 x1 x2 x3 x4=>(he x0 x1 x2 x3 x4).run;PS.imp (af6 (g:=tGt X.K is st) (tc:=tXB X.K gc) (te:=tX X.K ge) (i:=i) N' nT caps hcalm chk hi hg hc he hN hx hl hsw hs) fun D σ H zz=>by
 obtain⟨G,ρ,o,sG,hρ,hg,q⟩:=zz;obtain⟨t,k1,hg⟩:=h9 hg;cases hg;exact ay5 his σ H _ ⟨G,ρ,t,sG,hρ,k1,fun v G1 H1 e1 r1=>q _ G1 H1 e1 ((hρ.mono e1.g).set r1)⟩⟩
end
section
variable {P:Program}{w:World}{K:W.Frag}{mg:Str->Option Value}{base:Heap}
theorem aa7{N:List Str}{vs:List V}{ts:List T}{G:Hp}(r:j5 K G ts vs)(h:ts.length<=N.length):B5 K G (L2.start N vs) (l9 N.length ts):=by
 refine⟨by simp[L2.start,l9,r.length],fun i t q=> ?_⟩;unfold l9 at q;unfold L2.start;by_cases hi:i<ts.length
 ·rw[ct4 (by simpa using hi),cu0]at q;cases e:ts[i]? with
  |none=>rw[e]at q;cases q
  |some u=>
   rw[e]at q;cases q;obtain⟨x,hx,rx⟩:=r.get e;refine⟨x,?_,rx⟩;rw[ct4 (by rw[cu6,r.length];exact hi),cu0,hx];rfl
 ·rw[ct5 (by simpa using hi),cu1]at q;split at q<;>cases q
theorem fnT{x qual:Str}{st:Stmt}{f:Addr}{fd:FuncData}{N ps:List Str}{k:Nat}{g:GS}(F:Fun K x qual st f fd)(S:l0 N ps (j4 st))(np:ps.length<=N.length)
  (hb:∀(cdv:Value) (A:Around) (outer:List Env) (s:Shared) (H:Hp) (E:XK),B7 k (A.deeper (envOfC qual (j4 st) s.heap.objs.size f cdv))->ag5 (w4 CX0 P w K mg base N qual (j4 st) f cdv A outer s H E).nox (A7 st) g):
  V9 P w K mg base CX0 (k+1) f fd ps (spT K ps.length (u9 ps.length N.length g)):=by
 refine F.ok S (fun vs H Q E h=> ?_) (fun cdv A outer s H vs Q E hr h=> ?_)
 ·obtain⟨G,ts,t,sG,r,hl,_⟩:=h;rw[r.length,hl]
 ·obtain⟨G,ts,t,sG,r,hl,hf,q⟩:=h;refine⟨_,hb cdv A outer s H E hr,?_⟩;unfold u9 at hf;rw[cx8 hl]at hf;have hρ:=aa7 (N:=N) r (by omega);cases hg:g (l9 N.length ts)with
  |none=>rw[hg]at hf;cases hf
  |some o=>
   rw[hg]at hf;refine⟨G,_,o,sG,hρ,hg,?_⟩;cases o with
   |nx ρ=>cases hf;exact fun σ' G' H' e' _=>q .non G' H' e' (by simp[Rep])
   |ret t'=>cases hf;exact fun v G' H' e' rv=>q v G' H' e' rv
   |bk ρ=>cases hf
   |ct ρ=>cases hf
end
section
variable {X:Cx}{pos:Pos}{e:Expr}
noncomputable def Cal(P:Program)(w:World)(K:W.Frag)(mg:Str->Option Value)(base:Heap)(x:Str)(k n:Nat)(F:List T->Option T):Prop:=
 ∃f fd ps,mg x=some (.ref f)/\W.keepIn K (.ref f)=true/\Z1 K fd ps []/\V9 P w K mg base CX0 k f fd ps (spT K n F)
theorem k8{es:List Expr}{l:List L3.G}{k k' n:Nat}{F:List T->Option T}{x:Str}{p:Pos}(h:Cal X.prog X.w X.K X.mg X.base x k n F)(hr:B7 k' X.A)(hk:k<=k')(hg:Gl X x)(ha:Wd (PXA X (e::es) (gs l)))(hn:l.length=n:=by rfl)(hdb:(x==("__debug__":Str))=false:=by decide)(he:starEach (e::es) X.env=(false,eval e X.env)::starEach es X.env:=by rfl)(hpl:(backTo pos (starEach es X.env)).any (·.1)=false:=by rfl):Wd (PX X (.Call (.Name x p) (e::es) [] pos) (gN F l)):=⟨by
 have ha:=ha.run;obtain⟨f,fd,ps,hm,kp,hb,H⟩:=h;exact bP6 (CX:=CX0) n H (hr.mono hk) hg hm kp hb ha hn hdb he hpl⟩
theorem Z5{x:Str}{i:Int}{pos:Pos}(hg:Gl X x)(hm:∃t,X.mg x=some (.int i t))(hd:(x==("__debug__":Str))=false:=by decide):Wd (PX X (.Name x pos) (gC (.int i))):=⟨by
 obtain⟨t,hm⟩:=hm;exact bE3 hg hm hd⟩
theorem aT9{x:Str}{pos:Pos}{t:T}(hg:Gl X x)(hm:∃a,X.mg x=some (.ref a)/\∀G,Rep X.K G t (.ref a))(hd:(x==("__debug__":Str))=false:=by decide):Wd (PX X (.Name x pos) (gC t)):=⟨by
 obtain⟨a,hm,r⟩:=hm;exact bP5 hg hm r hd⟩
theorem aT8{x y:Str}{a b:Expr}{px py pt:Pos}{kt k2:Nat}{pt2:Pos}{ga gb:L3.G}(i j:Nat)(hc:X.calm=true)(hN:X.N.Nodup)(ha:Wd (PXA X [a,b] (gs [ga,gb])))(hi:X.N[i]?=some x:=by rfl)(hj:X.N[j]?=some y:=by rfl)(hij:i≠j:=by decide)(hx:X.env.scope.names.lookup x=some .local:=by rfl)(hy:X.env.scope.names.lookup y=some .local:=by rfl)(hw:swappedStores [.Tuple [.Name x px,.Name y py] kt pt] (.Tuple [a,b] k2 pt2) X.env=pure (some [x,y]):=by rfl)(hs:swapsWithSole [.Tuple [.Name x px,.Name y py] kt pt] (.Tuple [a,b] k2 pt2) pos.line X.env=pure false:=by rfl):Wd (PXS X (.Assign [.Tuple [.Name x px,.Name y py] kt pt] (.Tuple [a,b] k2 pt2) pos) (aT2 i j ga gb)):=⟨have ha:=ha.run;PS.imp (bZ1 hc hN hi hj hij hx hy ha hw hs) fun D σ H zz=>by
 obtain⟨G,ρ,o,sG,hρ,hg,q⟩:=zz;obtain⟨t,k1,hg⟩:=h9 hg;obtain⟨u,k2,hg⟩:=h9 hg;cases hg;refine⟨G,ρ,[t,u],sG,hρ,by simp only[gs,k1,k2,cx3],fun vs G1 H1 e1 r1=> ?_⟩;obtain⟨v,z,e,rv,rz⟩:=ad3 r1;exact⟨v,z,e,q _ G1 H1 e1 (((hρ.mono e1.g).set rv).set rz)⟩⟩
end
theorem ar2(own:List Nat):∀ρ:j9,(t9 own ρ).length=ρ.length:=by
 unfold t9;induction own with
 |nil=>intro ρ;rfl
 |cons i own ih=>intro ρ;rw[ct2,ih,cu9]
theorem av4(i:Nat)(own:List Nat)(ρ:j9):t9 (i::own) ρ=t9 own (ρ.set i none):=rfl
theorem aj3(own:List Nat):∀(ρ:j9) (i:Nat) (o:Option T),i∉own->t9 own (ρ.set i o)=(t9 own ρ).set i o:=by
 unfold t9;induction own with
 |nil=>intro ρ i o _;rfl
 |cons j own ih=>
  intro ρ i o h;have hij:i≠j:=fun z=>h (by rw[z];exact cv8)
  rw[ct2,ct2,List.set_comm _ _ hij,ih _ _ _ fun z=>h (cv7 _ z)]
theorem aN0(own:List Nat):∀(ρ:j9) (i:Nat),t9 own (ρ.set i none)=(t9 own ρ).set i none:=by
 unfold t9;induction own with
 |nil=>intro ρ i;rfl
 |cons j own ih=>
  intro ρ i
  (rw[ct2,ct2]);by_cases h:i=j
  ·subst h;rw[List.set_set,<-ih,List.set_set]
  ·rw[List.set_comm _ _ h,ih]
theorem bG8(own:List Nat):∀(ρ:j9) (i:Nat) (t:T),(t9 own ρ)[i]?=some (some t)->ρ[i]?=some (some t)/\i∉own:=by
 unfold t9;induction own with
 |nil=>intro ρ i t h;exact⟨h,by simp⟩
 |cons j own ih=>
  intro ρ i t h;rw[ct2]at h;obtain⟨h1,h2⟩:=ih _ _ _ h;by_cases e:j=i
  ·subst e;by_cases hl:j<ρ.length
   ·rw[cu3 hl]at h1;cases h1
   ·rw[ct9 (by simpa using hl)]at h1;cases h1
  ·rw[cu2 e]at h1;exact⟨h1,fun z=>by rcases List.mem_cons.mp z with z|z;exact e z.symm;exact h2 z⟩
theorem ar6(own:List Nat)(ρ:j9)(i:Nat)(t:T)(h:ρ[i]?=some (some t))(hn:i∉own):(t9 own ρ)[i]?=some (some t):=by
 revert ρ;unfold t9;induction own with
 |nil=>intro ρ h;exact h
 |cons j own ih=>
  intro ρ h;rw[ct2];refine ih (fun z=>hn (cv7 _ z)) _ ?_;rw[cu2 fun z=>hn (by rw[<-z];exact cv8)];exact h
theorem B5.setN{K:W.Frag}{G:Hp}{σ:L2.St}{ρ:j9}{i:Nat}{o:Option V}(h:B5 K G σ ρ):B5 K G (σ.set i o) (ρ.set i none):=by
 refine⟨by simpa using h.1,fun j u q=> ?_⟩;by_cases e:i=j
 ·subst e;by_cases hl:i<ρ.length
  ·rw[cu3 hl]at q;cases q
  ·rw[ct9 (by simpa using hl)]at q;cases q
 ·rw[cu2 e]at q;obtain⟨w,h1,h2⟩:=h.2 j u q;exact⟨w,by rw[cu2 e];exact h1,h2⟩
inductive U1(K:W.Frag)(G:Hp):T->HO->Prop where
 |lst {ts:List T}{xs:List V}(h:j5 K G ts xs):U1 K G (.lst ts) (.lst xs)
 |dct {ks:List Int}{ts:List T}{xs:List V}(hl:ks.length=xs.length) (h:j5 K G ts xs):U1 K G (.dct ks ts) (.dK ((ks.map Sum.inl).zip xs))
noncomputable def an7:HO->Prop
 |.lst _=>True
 |.dK _=>True
 |_=>False
section
variable {K:W.Frag}{G G' H:Hp}{t:T}{ho o:HO}{a:Addr}
theorem U1.mono(e:w9 G G')(h:U1 K G t ho):U1 K G' t ho:=by
 cases h with
 |lst h=>exact .lst (h.mono e)
 |dct hl h=>exact .dct hl (h.mono e)
theorem U1.no(h:U1 K G t ho):ae5 ho=true:=by cases h<;>rfl
theorem U1.rep(h:U1 K G t ho)(e:G a=some ho):Rep K G t (.ref a):=by
 cases h with
 |lst h=>simp only[Rep];exact⟨a,_,rfl,e,h⟩
 |dct hl h=>simp only[Rep];exact⟨a,_,rfl,e,hl,h⟩
theorem U1.sl(h:U1 K G t ho):an7 ho:=by cases h<;>exact True.intro
theorem U1.upd(h:U1 K G t ho)(n:H a=some ho)(tb:Tbs H):Tbs (L2.upd H a o):=tb.upd fun x e=>by
 rw[n]at e;cases e;cases h with
 |lst h=>exact⟨fun _ z=>HO.noConfusion z,fun _ _ z=>HO.noConfusion z⟩
 |dct hl h=>exact⟨fun _ z=>HO.noConfusion z,fun _ _ z=>HO.noConfusion z⟩
end
structure RO(K:W.Frag)(G0 H0:Hp)(own:List Nat)(G H:Hp)(σ:L2.St)(ρ:j9):Prop where
 x:Ext G0 H0 G H
 r:B5 K G σ (t9 own ρ)
 o:∀i∈own,∃a xs ts,ρ[i]?=some (some ts)/\σ[i]?=some (some (.ref a))/\H0 a=none/\G a=none/\H a=some xs/\U1 K G ts xs
 d:∀i∈own,∀j∈own,∀a,σ[i]?=some (some (.ref a))->σ[j]?=some (some (.ref a))->i=j
section
variable {K:W.Frag}{G0 H0 G H G1 H1:Hp}{own:List Nat}{σ:L2.St}{ρ:j9}
theorem RO.len(h:RO K G0 H0 own G H σ ρ):σ.length=ρ.length:=by rw[h.r.1,ar2]
theorem RO.step(h:RO K G0 H0 own G H σ ρ)(e:Ext G H G1 H1):RO K G0 H0 own G1 H1 σ ρ where
 x:=h.x.trans e
 r:=h.r.mono e.g
 o:=fun i hi=>by
  obtain⟨a,xs,ts,h1,h2,h3,h4,h5,h6⟩:=h.o i hi;exact⟨a,xs,ts,h1,h2,h3,e.fr a (by rw[h5];simp) h4,e.h.yes h5 h6.no,h6.mono e.g⟩
 d:=h.d
theorem RO.start{σ:L2.St}{ρ:j9}(s:Sub G H)(r:B5 K G σ ρ):RO K G H [] G H σ ρ:=⟨Ext.refl s,r,fun i hi=>absurd hi (by simp),fun i hi=>absurd hi (by simp)⟩
theorem RO.set{i:Nat}{v:V}{t:T}(h:RO K G0 H0 own G H σ ρ)(hi:i∉own)(r:Rep K G t v):RO K G0 H0 own G H (σ.set i (some v)) (ρ.set i (some t)) where
 x:=h.x
 r:=by rw[aj3 own ρ i _ hi];exact h.r.set r
 o:=fun j hj=>by
  obtain⟨a,xs,ts,h1,h2,h3⟩:=h.o j hj;have hne:i≠j:=fun z=>hi (by rw[z];exact hj)
  exact⟨a,xs,ts,by rw[cu2 hne];exact h1,by rw[cu2 hne];exact h2,h3⟩
 d:=fun j hj k hk a h1 h2=>by
  rw[cu2 fun z=>hi (by rw[z];exact hj)]at h1;rw[cu2 fun z=>hi (by rw[z];exact hk)]at h2;exact h.d j hj k hk a h1 h2
theorem RO.newO{i:Nat}{p:Addr}{xs:HO}{ts:T}(h:RO K G0 H0 own G H σ ρ)(hi:i∉own)(hl:i<σ.length)(hp:H p=none)(r:U1 K G ts xs):
  RO K G0 H0 (i::own) G (upd H p xs) (σ.set i (some (.ref p))) (ρ.set i (some ts)):=by
 have hGp:G p=none:=h.x.s.free hp;have hlρ:i<ρ.length:=by rw[<-h.len];exact hl
 have fresh:∀j∈own,σ[j]?≠some (some (.ref p)):=fun j hj z=>by
  obtain⟨a,ys,us,h1,h2,h3,h4,h5,h6⟩:=h.o j hj;rw[z]at h2;cases h2;rw[hp]at h5;cases h5
 refine⟨⟨h.x.g,⟨fun b o q=> ?_,h.x.s.t.new hp,h.x.s.n⟩,h.x.h.trans (ax7 (B4 hp _)),h.x.fr⟩,?_,fun j hj=> ?_,fun j hj k hk a h1 h2=> ?_⟩
 ·rw[l7 (t6 q hGp)];exact h.x.s b o q
 ·rw[av4,List.set_set,aN0];exact h.r.setN
 ·rcases List.mem_cons.mp hj with e|hj
  ·subst e;exact⟨p,xs,ts,cu3 hlρ,cu3 hl,h.x.h.free hp,hGp,n6,r⟩
  ·obtain⟨a,ys,us,h1,h2,h3,h4,h5,h6⟩:=h.o j hj;have hne:i≠j:=fun z=>hi (by rw[z];exact hj)
   exact⟨a,ys,us,by rw[cu2 hne];exact h1,by rw[cu2 hne];exact h2,h3,h4,by rw[l7 (t6 h5 hp)];exact h5,h6⟩
 ·rcases List.mem_cons.mp hj with e|hj'<;>rcases List.mem_cons.mp hk with e'|hk'
  ·rw[e,e']
  ·subst e;rw[cu3 hl]at h1;cases h1;rw[cu2 fun z=>hi (by rw[z];exact hk')]at h2;exact absurd h2 (fresh k hk')
  ·subst e';rw[cu3 hl]at h2;cases h2;rw[cu2 fun z=>hi (by rw[z];exact hj')]at h1;exact absurd h1 (fresh j hj')
  ·rw[cu2 fun z=>hi (by rw[z];exact hj')]at h1;rw[cu2 fun z=>hi (by rw[z];exact hk')]at h2;exact h.d j hj' k hk' a h1 h2
theorem RO.new{i:Nat}{p:Addr}{xs:List V}{ts:List T}(h:RO K G0 H0 own G H σ ρ)(hi:i∉own)(hl:i<σ.length)(hp:H p=none)(r:j5 K G ts xs):
  RO K G0 H0 (i::own) G (upd H p (.lst xs)) (σ.set i (some (.ref p))) (ρ.set i (some (.lst ts))):=h.newO hi hl hp (.lst r)
theorem RO.putO{i:Nat}{a:Addr}{ys:HO}{us:T}(h:RO K G0 H0 own G H σ ρ)(hi:i∈own)(ha:σ[i]?=some (some (.ref a)))(r:U1 K G us ys):
  RO K G0 H0 own G (upd H a ys) σ (ρ.set i (some us)):=by
 obtain⟨a',xs,ts',h1,h2,h3,h4,h5,h6⟩:=h.o i hi;rw[ha]at h2;cases h2;have hlρ:i<ρ.length:=by
  rcases Nat.lt_or_ge i ρ.length with q|q
  ·exact q
  ·rw[ct9 q]at h1;cases h1
 refine⟨⟨h.x.g,⟨fun b o q=> ?_,h6.upd h5 h.x.s.t,h.x.s.n⟩,h.x.h.upd h3,h.x.fr⟩,?_,fun j hj=> ?_,h.d⟩
 ·rw[l7 (t6 q h4)];exact h.x.s b o q
 ·have e:∀(own:List Nat),i∈own->∀ρ:j9,t9 own (ρ.set i (some us))=t9 own ρ:=by
   intro own;unfold t9;induction own with
   |nil=>intro hi;exact absurd hi (by simp)
   |cons j own ih=>
    intro hi ρ
    (rw[ct2,ct2]);by_cases z:i=j
    ·subst z;rw[List.set_set]
    ·rw[List.set_comm _ _ z];exact ih ((List.mem_cons.mp hi).resolve_left z) _
  rw[e own hi];exact h.r
 ·by_cases z:i=j
  ·subst z;exact⟨a,ys,us,cu3 hlρ,ha,h3,h4,n6,r⟩
  ·obtain⟨b,zs,vs,k1,k2,k3,k4,k5,k6⟩:=h.o j hj;have hab:b≠a:=fun q=>z (h.d i hi j hj a ha (by rw[<-q];exact k2))
   exact⟨b,zs,vs,by rw[cu2 z];exact k1,k2,k3,k4,by rw[l7 hab];exact k5,k6⟩
theorem RO.put{i:Nat}{a:Addr}{ys:List V}{us:List T}(h:RO K G0 H0 own G H σ ρ)(hi:i∈own)(ha:σ[i]?=some (some (.ref a)))(r:j5 K G us ys):
  RO K G0 H0 own G (upd H a (.lst ys)) σ (ρ.set i (some (.lst us))):=h.putO hi ha (.lst r)
theorem RO.freeze{i:Nat}(h:RO K G0 H0 own G H σ ρ)(hi:i∈own):∃G' a xs ts,w9 G G'/\RO K G0 H0 (own.filter (· !=i)) G' H σ ρ/\ρ[i]?=some (some ts)/\σ[i]?=some (some (.ref a))/\Rep K G' ts (.ref a)/\G' a=some xs:=by
 obtain⟨a,xs,ts,h1,h2,h3,h4,h5,h6⟩:=h.o i hi;have sn:=B4 h4 xs;have rep:Rep K (upd G a xs) ts (.ref a):=(h6.mono sn).rep n6;refine⟨upd G a xs,a,xs,ts,sn,⟨⟨h.x.g.trans sn,⟨fun b o q=> ?_,h.x.s.t,ay4 h.x.s.n h6.no⟩,h.x.h,fun b hb hg=> ?_⟩,⟨?_,fun j u q=> ?_⟩,fun j hj=> ?_,fun j hj k hk b e1 e2=> ?_⟩,h1,h2,rep,n6⟩
 ·by_cases z:b=a
  ·subst z;rw[n6]at q;cases q;exact h5
  ·rw[l7 z]at q;exact h.x.s b o q
 ·rw[l7 fun z=>hb (by rw[z];exact h3)];exact h.x.fr b hb hg
 ·rw[ar2];exact h.len
 ·obtain⟨q1,q2⟩:=bG8 _ _ _ _ q;by_cases z:j=i
  ·subst z;rw[h1]at q1;cases q1;exact⟨.ref a,h2,rep⟩
  ·have hj:j∉own:=fun w=>q2 (List.mem_filter.mpr ⟨w,by simpa using z⟩)
   obtain⟨v,k1,k2⟩:=h.r.2 j u (ar6 _ _ _ _ q1 hj);exact⟨v,k1,k2.mono sn⟩
 ·obtain⟨hj,hji⟩:=List.mem_filter.mp hj;have hji:j≠i:=by simpa using hji
  obtain⟨b,zs,vs,k1,k2,k3,k4,k5,k6⟩:=h.o j hj;have hba:b≠a:=fun z=>hji (h.d j hj i hi b k2 (by rw[z];exact h2))
  exact⟨b,zs,vs,k1,k2,k3,by rw[l7 hba];exact k4,k5,k6.mono sn⟩
 ·exact h.d j (List.mem_filter.mp hj).1 k (List.mem_filter.mp hk).1 b e1 e2
mutual
theorem Rep.del{as:List Addr}(hl:∀a∈as,∃xs,G a=some xs/\an7 xs):∀{t:T}{v:V},Z9 t=true->Rep K G t v->Rep K (fun b=>if b∈as then none else G b) t v
 |.non,_,_,h=>by simpa[Rep]using h
 |.bl _,_,_,h=>by simpa[Rep]using h
 |.int _,_,_,h=>by simpa[Rep]using h
 |.str _,_,_,h=>by simpa[Rep]using h
 |.ref _,_,_,h=>by simpa[Rep]using h
 |.lst _,_,hf,_=>by simp[Z9]at hf
 |.scr _,_,hf,_=>by simp[Z9]at hf
 |.dct _ _,_,hf,_=>by simp[Z9]at hf
 |.tup ts,_,hf,h=>by
  simp only[Rep]at h⊢;simp only[Z9]at hf;obtain⟨a,xs,h1,h2,h3⟩:=h;refine⟨a,xs,h1,?_,j5.del hl hf h3⟩;rcases h2 with(h2|⟨o,h2⟩)|h2
  ·refine .inl (.inl ?_);show(if a∈as then none else G a)=_;rw[cx7 fun z=>by obtain⟨ys,q,n⟩:=hl a z;rw[h2]at q;cases q;exact n];exact h2
  ·refine .inl (.inr ⟨o,?_⟩);show(if a∈as then none else G a)=_;rw[cx7 fun z=>by obtain⟨ys,q,n⟩:=hl a z;rw[h2]at q;cases q;exact n];exact h2
  ·exact .inr h2
theorem j5.del{as:List Addr}(hl:∀a∈as,∃xs,G a=some xs/\an7 xs):∀{ts:List T}{xs:List V},al9 ts=true->j5 K G ts xs->j5 K (fun b=>if b∈as then none else G b) ts xs
 |[],_,_,h=>by simpa[j5]using h
 |t::ts,_,hf,h=>by
  simp only[j5]at h⊢;simp only[al9,cr8]at hf;obtain⟨x,r,h1,h2,h3⟩:=h;exact⟨x,r,h1,Rep.del hl hf.1 h2,j5.del hl hf.2 h3⟩
end
theorem j5.set{t:T}{v:V}(r:Rep K G t v):∀{ts:List T}{xs:List V}(n:Nat),j5 K G ts xs->j5 K G (ts.set n t) (xs.set n v)
 |[],xs,n,h=>by simp only[j5]at h;subst h;simp[j5]
 |u::ts,xs,0,h=>by
  simp only[j5]at h;obtain⟨x,q,e,h1,h2⟩:=h;subst e;exact j5.cons r h2
 |u::ts,xs,n+1,h=>by
  simp only[j5]at h;obtain⟨x,q,e,h1,h2⟩:=h;subst e;exact j5.cons h1 (j5.set r n h2)
noncomputable def P5(σ:L2.St)(own:List Nat):List Addr:=own.filterMap fun i=>match(σ[i]?).join with |some (V.ref a)=>some a|_=>none
theorem RO.mem(h:RO K G0 H0 own G H σ ρ){b:Addr}(hb:b∈P5 σ own):∃i∈own,∃xs ts,ρ[i]?=some (some ts)/\σ[i]?=some (some (.ref b))/\H0 b=none/\G b=none/\H b=some xs/\U1 K G ts xs:=by
 obtain⟨i,hi,e⟩:=List.mem_filterMap.mp hb;obtain⟨a,xs,ts,h1,h2,h3⟩:=h.o i hi;rw[h2]at e;cases e;exact⟨i,hi,xs,ts,h1,h2,h3⟩
theorem RO.of_mem{i:Nat}(hi:i∈own){a:Addr}(ha:σ[i]?=some (some (.ref a))):a∈P5 σ own:=
 List.mem_filterMap.mpr ⟨i,hi,by rw[ha];rfl⟩
theorem RO.peek(h:RO K G0 H0 own G H σ ρ):∃Gp,Sub Gp H/\B5 K Gp σ ρ/\Ext G0 H0 Gp H/\∀G1 H1,Ext Gp H G1 H1->∃G2,w9 G G2/\RO K G0 H0 own G2 H1 σ ρ/\∀t v,(Z9 t=true\/∃p ts,v=.ref p/\t=.lst ts/\al9 ts=true/\H p=none)->Rep K G1 t v->Rep K G2 t v:=by
 have sG:w9 G (fun b=>if b∈P5 σ own then H b else G b):=fun b o q=>by
  show(if b∈P5 σ own then H b else G b)=_;rw[cx7 fun z=>by obtain⟨_,_,_,_,_,_,_,z4,_⟩:=h.mem z;rw[q]at z4;cases z4];exact q
 have sP:w9 (fun b=>if b∈P5 σ own then H b else G b) H:=fun b o q=>by
  have q:(if b∈P5 σ own then H b else G b)=some o:=q;split at q
  ·exact q
  ·exact h.x.s b o q
 have nP:∀b ps,(fun b=>if b∈P5 σ own then H b else G b) b≠some (.tbl ps):=fun b ps q=>by
  have q:(if b∈P5 σ own then H b else G b)=some (.tbl ps):=q;split at q
  ·rename_i z;obtain⟨_,_,xs,_,_,_,_,_,z5,z6⟩:=h.mem z;rw[z5]at q;cases q;exact absurd z6.no (by simp[ae5])
  ·exact h.x.s.n b ps q
 refine⟨fun b=>if b∈P5 σ own then H b else G b,⟨sP,h.x.s.t,nP⟩,⟨h.len,fun i t q=> ?_⟩,⟨h.x.g.trans sG,⟨sP,h.x.s.t,nP⟩,h.x.h,fun b hb hg=> ?_⟩,fun G1 H1 e=> ?_⟩
 ·by_cases hi:i∈own
  ·obtain⟨a,xs,ts,h1,h2,h3,h4,h5,h6⟩:=h.o i hi;rw[h1]at q;cases q;refine⟨.ref a,h2,(h6.mono sG).rep ?_⟩;show(if a∈P5 σ own then H a else G a)=_;rw[cx8 (RO.of_mem hi h2)];exact h5
  ·obtain⟨v,k1,k2⟩:=h.r.2 i t (ar6 _ _ _ _ q hi);exact⟨v,k1,k2.mono sG⟩
 ·show(if b∈P5 σ own then H b else G b)=none;rw[cx7 fun z=>by obtain⟨_,_,_,_,_,_,z3,_⟩:=h.mem z;exact hb z3];exact h.x.fr b hb hg
 ·have g1:∀a∈P5 σ own,∃xs,G1 a=some xs/\an7 xs:=fun a ha=>by
   obtain⟨i,hi,xs,ts,_,_,_,_,h5,h6⟩:=h.mem ha;exact⟨xs,e.g a _ (by show(if a∈P5 σ own then H a else G a)=_;rw[cx8 ha];exact h5),h6.sl⟩
  have s2:w9 G (fun b=>if b∈P5 σ own then none else G1 b):=fun b o q=>by
   show(if b∈P5 σ own then none else G1 b)=_;rw[cx7 fun z=>by obtain⟨_,_,_,_,_,_,_,z4,_⟩:=h.mem z;rw[q]at z4;cases z4];exact e.g b o (sG b o q)
  have n2:∀b ps,(fun b=>if b∈P5 σ own then none else G1 b) b≠some (.tbl ps):=fun b ps q=>by
   have q:(if b∈P5 σ own then none else G1 b)=some (.tbl ps):=q;split at q
   ·cases q
   ·exact e.s.n b ps q
  refine⟨fun b=>if b∈P5 σ own then none else G1 b,s2,⟨⟨h.x.g.trans s2,⟨fun b o q=> ?_,e.s.t,n2⟩,h.x.h.trans e.h,fun b hb hg=> ?_⟩,h.r.mono s2,fun i hi=> ?_,h.d⟩,fun t v hf r=> ?_⟩
  ·have q:(if b∈P5 σ own then none else G1 b)=some o:=q;split at q
   ·cases q
   ·exact e.s b o q
  ·show(if b∈P5 σ own then none else G1 b)=none;split
   ·rfl
   ·rename_i z;refine e.fr b ?_ ?_
    ·exact h.x.h.ne hb
    ·show(if b∈P5 σ own then H b else G b)=none;rw[cx7 z];exact h.x.fr b hb hg
  ·obtain⟨a,xs,ts,h1,h2,h3,h4,h5,h6⟩:=h.o i hi;refine⟨a,xs,ts,h1,h2,h3,?_,e.h.yes h5 h6.no,h6.mono s2⟩;rw[cx8 (RO.of_mem hi h2)]
  ·rcases hf with hf|⟨p,ts,rfl,rfl,hf,hp⟩
   ·exact Rep.del g1 hf r
   ·simp only[Rep]at r⊢;obtain⟨a,xs,e1,e2,e3⟩:=r;cases e1;refine⟨p,xs,rfl,?_,j5.del g1 hf e3⟩;rw[cx7 fun z=>by obtain⟨_,_,_,_,_,_,_,_,z5,_⟩:=h.mem z;rw[hp]at z5;cases z5];exact e2
end
theorem Y5{α:Type}{xs:List α}{i:Nat}{x:α}(h:xs[i]?=some x):i<xs.length:=by
 rcases Nat.lt_or_ge i xs.length with q|q
 ·exact q
 ·rw[ct9 q]at h;cases h
noncomputable def aR3(K:W.Frag)(G0 H0 G:Hp)(own:List Nat)(D:aa6):Out->Prop
 |.nx ρ=>∀σ' G' H',w9 G G'->RO K G0 H0 own G' H' σ' ρ->D.nx σ' H'
 |.ret t=>∀v G' H',Ext G0 H0 G' H'->Rep K G' t v->D.rt v H'
 |_=>False
theorem aR3.mono{K:W.Frag}{G0 H0 G G1:Hp}{own:List Nat}{D:aa6}{o:Out}(s:w9 G G1)(h:aR3 K G0 H0 G own D o):aR3 K G0 H0 G1 own D o:=by
 cases o with
 |nx ρ=>exact fun σ' G' H' s' R=>h σ' G' H' (s.trans s') R
 |ret t=>exact h
 |bk ρ=>exact h
 |ct ρ=>exact h
noncomputable def tXO(K:W.Frag)(G0 H0:Hp)(own own':List Nat)(g:GS):TS:=fun D σ H=>∃G ρ o,RO K G0 H0 own G H σ ρ/\g ρ=some o/\aR3 K G0 H0 G own' D o
noncomputable def NB(g:GS):Prop:=∀ρ o,g ρ=some o->(∀ρ',o≠.bk ρ')/\∀ρ',o≠.ct ρ'
theorem ar1{g:GS}(h:∀ρ o,g ρ=some o->∃ρ',o=.nx ρ'):NB g:=fun ρ o e=>by
 obtain⟨ρ',rfl⟩:=h ρ o e;exact⟨fun _ z=>(nomatch z),fun _ z=>(nomatch z)⟩
theorem U9{i:Nat}{g:L3.G}:NB (k7 i g):=ar1 fun ρ o e=>by
 obtain⟨t,_,e⟩:=h9 e;cases e;exact⟨_,rfl⟩
theorem cc2{i:Nat}{g:L3.G}:NB (S9 i g):=ar1 fun ρ o e=>by
 obtain⟨t,_,e⟩:=h9 e;split at e
 ·split at e
  ·cases e;exact⟨_,rfl⟩
  ·cases e
 ·cases e
theorem cc1{g:L3.G}:NB (m6 g):=fun ρ o e=>by
 obtain⟨t,_,e⟩:=h9 e;cases e;exact⟨fun _ z=>(nomatch z),fun _ z=>(nomatch z)⟩
theorem be8:NB o7:=ar1 fun ρ o e=>by cases e;exact⟨_,rfl⟩
theorem ap1{a b:GS}(ha:NB a)(hb:NB b):NB (j6 a b):=fun ρ o e=>by
 obtain⟨o1,k1,e⟩:=h9 e;cases o1 with
 |nx ρ1=>exact hb _ _ e
 |ret t=>cases e;exact⟨fun _ z=>(nomatch z),fun _ z=>(nomatch z)⟩
 |bk ρ1=>exact absurd rfl ((ha _ _ k1).1 _)
 |ct ρ1=>exact absurd rfl ((ha _ _ k1).2 _)
theorem ck5{c:GB}{a b:GS}(ha:NB a)(hb:NB b):NB (sIf c a b):=fun ρ o e=>by
 obtain⟨k,_,e⟩:=h9 e;cases k with
 |true=>exact ha _ _ e
 |false=>exact hb _ _ e
theorem bL8{st:St1}{b:GS}(hb:NB b):∀xs,NB (u5 st b xs)
 |[]=>be8
 |x::xs=>fun ρ o e=>by
  obtain⟨ρ1,_,e⟩:=h9 e;obtain⟨o1,k1,e⟩:=h9 e;cases o1 with
  |nx ρ2=>exact bL8 hb xs _ _ e
  |ret t=>cases e;exact⟨fun _ z=>(nomatch z),fun _ z=>(nomatch z)⟩
  |bk ρ2=>exact absurd rfl ((hb _ _ k1).1 _)
  |ct ρ2=>exact absurd rfl ((hb _ _ k1).2 _)
theorem bw4{it:GL}{st:St1}{b:GS}(hb:NB b):NB (N0 it st b):=fun ρ o e=>by
 obtain⟨xs,_,e⟩:=h9 e;exact bL8 hb xs _ _ e
structure PXO(X:Cx)(own own':List Nat)(st:Stmt)(g:GS):Prop where
 nb:NB g
 ps:∀G0 H0,PS X st (tXO X.K G0 H0 own own' g)
structure V7(X:Cx)(own own':List Nat)(st:List Stmt)(g:GS):Prop where
 nb:NB g
 ps:∀G0 H0,PSs X st (tXO X.K G0 H0 own own' g)
section
variable {X:Cx}{st:Stmt}{rest:List Stmt}{e c:Expr}{pos:Pos}{own own' own2:List Nat}
theorem L6:V7 X own own [] o7:=⟨be8,fun G0 H0=>PSs.imp aJ5 fun D σ H zz=>by
 obtain⟨G,ρ,o,R,hg,q⟩:=zz;cases hg;exact q σ G H (w9.refl _) R⟩
theorem j8{g1 g2:GS}(h1:PXO X own own' st g1)(h2:V7 X own' own2 rest g2):V7 X own own2 (st::rest) (j6 g1 g2):=⟨ap1 h1.nb h2.nb,fun G0 H0=>PSs.imp (W8 (h1.ps G0 H0) (h2.ps G0 H0)) fun D σ H zz=>by
 obtain⟨G,ρ,o,R,hg,q⟩:=zz;obtain⟨o1,k1,hg⟩:=h9 hg;refine⟨G,ρ,o1,R,k1,?_⟩;cases o1 with
 |nx ρ1=>exact fun σ' G' H' s' R'=>⟨G',ρ1,o,R',hg,q.mono s'⟩
 |bk ρ1=>exact absurd rfl ((h1.nb _ _ k1).1 _)
 |ct ρ1=>exact absurd rfl ((h1.nb _ _ k1).2 _)
 |ret t=>cases hg;exact q⟩
theorem t7{g1:GS}(h1:PXO X own own' st g1):V7 X own own' [st] g1:=⟨h1.nb,fun G0 H0=>ao6 (h1.ps G0 H0)⟩
theorem C5{g:L3.G}(h:Wd (PX X e g)):PXO X own own' (.Return (some e) pos) (m6 g):=have h:=h.run;⟨cc1,fun G0 H0=>PS.imp (aG1 h) fun D σ H zz=>by
 obtain⟨G,ρ,o,R,hg,q⟩:=zz;obtain⟨t,k1,hg⟩:=h9 hg;cases hg;obtain⟨Gp,s,r,x,_⟩:=R.peek;exact⟨Gp,ρ,t,s,r,k1,fun v G1 H1 e1 r1=>q v G1 H1 (x.trans e1) r1⟩⟩
theorem z0{x:Str}{pos':Pos}{g:L3.G}(i:Nat)(hN:X.N.Nodup)(h:Wd (PX X e g))(hm:i∉own:=by decide)(hi:X.N[i]?=some x:=by rfl)(hx:Loc X.env.scope x:=by first |exact Or.inl rfl|exact Or.inr rfl)(hs:swapsWith e (some (.Name x pos')) pos.line X.env=pure false:=by rfl)(hf:X.fn x=true\/X.env.scope.names.lookup x=some .local:=by first |exact .inl rfl|exact .inr rfl):PXO X own own (.Assign [.Name x pos'] e pos) (k7 i (gM own g)):=have h:=h.run;⟨U9,fun G0 H0=>PS.imp (ac1 hN hi hx h hs hf) fun D σ H zz=>by
 obtain⟨G,ρ,o,R,hg,q⟩:=zz;obtain⟨t,k1,hg⟩:=h9 hg;cases hg;exact⟨G,t9 own ρ,t,R.x.s,R.r,k1,fun v G1 H1 e1 r1=>q _ G1 H1 e1.g ((R.step e1).set hm r1)⟩⟩
theorem au8{x:Str}{pos':Pos}{g:L3.G}(i:Nat)(hN:X.N.Nodup)(h:Wd (PX X e g))(hm:i∉own:=by decide)(hi:X.N[i]?=some x:=by rfl)(hx:Loc X.env.scope x:=by first |exact Or.inl rfl|exact Or.inr rfl)(hs:swapsWith e (some (.Name x pos')) pos.line X.env=pure false:=by rfl)(hf:X.fn x=true\/X.env.scope.names.lookup x=some .local:=by first |exact .inl rfl|exact .inr rfl):PXO X own own (.Assign [.Name x pos'] e pos) (k7 i (gF g)):=have h:=h.run;⟨U9,fun G0 H0=>PS.imp (ac1 hN hi hx h hs hf) fun D σ H zz=>by
 obtain⟨G,ρ,o,R,hg,q⟩:=zz;obtain⟨t,k1,hg⟩:=h9 hg;cases hg;obtain⟨t',k2,k1⟩:=h9 k1;split at k1
 case isFalse=>cases k1
 case isTrue hfl=>
 cases k1;obtain⟨Gp,s,r,_,un⟩:=R.peek;refine⟨Gp,ρ,t,s,r,k2,fun v G1 H1 e1 r1=> ?_⟩;obtain⟨G2,s2,R2,fl⟩:=un G1 H1 e1;exact q _ G2 H1 s2 (R2.set hm (fl t v (.inl hfl) r1))⟩
theorem aU7{x:Str}{pos' lp:Pos}(i:Nat)(hN:X.N.Nodup)(hm:i∉own:=by decide)(hi:X.N[i]?=some x:=by rfl)(hx:Loc X.env.scope x:=by first |exact Or.inl rfl|exact Or.inr rfl)(hs:swapsWith (.List [] lp) (some (.Name x pos')) pos.line X.env=pure false:=by rfl)(hf:X.fn x=true\/X.env.scope.names.lookup x=some .local:=by first |exact .inl rfl|exact .inr rfl):PXO X own (i::own) (.Assign [.Name x pos'] (.List [] lp) pos) (k7 i (gC (.lst []))):=⟨U9,fun G0 H0 pins s σ H D I zz=>by
 obtain⟨G,ρ,o,R,hg,q⟩:=zz;cases hg;refine ac1 hN hi hx (aV0 Y4) hs hf pins s σ H D I ⟨Nat.zero_le _,fun p hp=> ?_⟩;exact q _ G _ (w9.refl _) (R.new hm (by rw[I.len];exact Y5 hi) hp j5.nil)⟩
theorem ah8{K:W.Frag}{G0 H0 G H:Hp}{σ:L2.St}{ρ:j9}{i:Nat}(R:RO K G0 H0 own G H σ ρ)(hi:i∈own){ts:List T}(e:(ρ[i]?).join=some (.lst ts)):∃a xs,σ[i]?=some (some (.ref a))/\H a=some (.lst xs)/\j5 K G ts xs:=by
 obtain⟨a,xs,ts',h1,h2,_,_,h5,h6⟩:=R.o i hi;rw[h1]at e;cases e;cases h6 with
 |lst h6=>exact⟨a,_,h2,h5,h6⟩
theorem ad8{x:Str}{p apos cpos:Pos}{g:L3.G}(i:Nat)(he:Wd (PX X e g))(hm:i∈own:=by decide)(hi:X.N[i]?=some x:=by rfl)(hv:Vis X.env.scope x:=by first |exact Or.inl rfl|exact Or.inr (Or.inl rfl)|exact Or.inr (Or.inr rfl))(hd:(x==("__debug__":Str))=false:=by decide)(hcd:(x==("__classdict__":Str))=false:=by decide)(hbase:attributeBase (.Name x p) "append" X.env (eval (.Name x p) X.env)=eval (.Name x p) X.env:=by rfl)(hfew:((backTo cpos (starEach [e] X.env)).all (fun x=> !x.1)&&(backToKw cpos (keywordEach [] X.env)).all (fun x=>x.1.isSome)
   &&decide ([e].length+([]:List Keyword).length+(if([]:List Keyword).isEmpty then 0 else 1)<30))=true:=by rfl) (hline:(apos.endLine==cpos.line)=true:=by rfl) (hs:starEach [e] X.env=(false,eval e X.env)::starEach [] X.env:=by rfl) (hplain:(backTo cpos (starEach [] X.env)).any (·.1)=false:=by rfl) (hsw:swapsWith (.Call (.Attribute (.Name x p) "append" apos) [e] [] cpos) none pos.line X.env=pure false:=by rfl):PXO X own own (.Expr (.Call (.Attribute (.Name x p) "append" apos) [e] [] cpos) pos) (S9 i (gM own g)):=have he:=he.run;⟨cc2,fun G0 H0 pins s σ H D I zz=>by
 obtain⟨G,ρ,o,R,hg,q⟩:=zz;obtain⟨t,k1,hg⟩:=h9 hg;cases hq:(ρ[i]?).join with
 |none=>rw[hq]at hg;cases hg
 |some tl=>
  rw[hq]at hg
  match tl,hq,hg with
  |.lst ts,hq,hg=>
   dsimp only at hg;split at hg
   case isFalse=>cases hg
   case isTrue hlen=>
   cases hg;obtain⟨a,xs,h1,h2,h3⟩:=ah8 R hm hq;refine be2 (bj5 PySem.F.plainAttrs_list PySem.F.slot_list_append PySem.F.type_list_append aM9 (ac2 hi hv hd hcd) (O4 he Y4 hs) hbase hfew hline hs hplain) hsw pins s σ H D I ⟨.ref a,h1,.inl ⟨rfl,xs,SqL.of h2⟩,G,t9 own ρ,t,R.x.s,R.r,k1,fun v G1 H1 e1 r1=> ?_⟩;have R1:=R.step e1;obtain⟨a',xs',h1',h2',h3'⟩:=ah8 R1 hm hq;rw[h1]at h1';cases h1';refine⟨a,xs',v,rfl,rfl,h2',?_,?_⟩
   ·rw[h3'.length];exact cx0 hlen (by decide)
   ·exact q σ G1 _ e1.g (R1.put hm h1 (h3'.append (j5.cons r1 j5.nil)))⟩
theorem K2{a b:List Stmt}{gc:GB}{ga gb:GS}(hc:Wd (PXB X c gc))(ha:V7 X own own' a ga)(hb:V7 X own own' b gb):PXO X own own' (.If c a b pos) (sIf gc ga gb):=have hc:=hc.run;⟨ck5 ha.nb hb.nb,fun G0 H0=>PS.imp (bj3 hc (ha.ps G0 H0) (hb.ps G0 H0)) fun D σ H zz=>by
 obtain⟨G,ρ,o,R,hg,q⟩:=zz;obtain⟨k,k1,hg⟩:=h9 hg;obtain⟨Gp,s,r,_,un⟩:=R.peek;refine⟨Gp,ρ,k,s,r,k1,fun G1 H1 e1=> ?_⟩;obtain⟨G2,s2,R2,_⟩:=un G1 H1 e1;cases k with
 |true=>exact aj6 ⟨G2,ρ,o,R2,hg,q.mono s2⟩
 |false=>exact aj7 ⟨G2,ρ,o,R2,hg,q.mono s2⟩⟩
theorem RO.stored{K:W.Frag}{G0 H0 G H:Hp}{σ σ':L2.St}{ρ ρ':j9}{is:List Nat}{st:St1}{t:T}(R:RO K G0 H0 own G H σ ρ)(hn:∀i∈is,i∉own)(hk:∀ρ ρ',st t ρ=some ρ'->∀i,i∉is->ρ'[i]?=ρ[i]?)
  (e:st t ρ=some ρ') (r:B5 K G σ' (t9 own ρ')) (hs:∀k,k∉is->σ'[k]?=σ[k]?):RO K G0 H0 own G H σ' ρ' where
 x:=R.x
 r:=r
 o:=fun i hi=>by
  obtain⟨a,xs,ts,h1,h2,h3⟩:=R.o i hi;have hni:i∉is:=fun z=>hn i z hi
  exact⟨a,xs,ts,by rw[hk _ _ e i hni];exact h1,by rw[hs i hni];exact h2,h3⟩
 d:=fun i hi j hj a h1 h2=>by
  rw[hs i fun z=>hn i z hi]at h1;rw[hs j fun z=>hn j z hj]at h2;exact R.d i hi j hj a h1 h2
structure bJ6(is:List Nat)(st:St1):Prop where
 m:∀own,(∀i∈is,i∉own)->∀t ρ,(st t ρ).map (t9 own)=st t (t9 own ρ)
 k:∀t ρ ρ',st t ρ=some ρ'->∀i,i∉is->ρ'[i]?=ρ[i]?
theorem bW7(i:Nat):bJ6 [i] (stN i):=⟨fun own h t ρ=>by
  show some (t9 own (ρ.set i (some t)))=some ((t9 own ρ).set i (some t));rw[aj3 own ρ i _ (h i (by simp))],fun t ρ ρ' e j hj=>by
  cases e;rw[cu2 (by simp at hj;omega)]⟩
theorem bW8(i j:Nat):bJ6 [i,j] (st2 i j):=⟨fun own h t ρ=>by
  match t with
  |.tup [x,y]=>
   show some (t9 own ((ρ.set i (some x)).set j (some y)))=some (((t9 own ρ).set i (some x)).set j (some y));rw[aj3 own _ j _ (h j (by simp)),aj3 own ρ i _ (h i (by simp))]
  |.non=>rfl
  |.bl _=>rfl
  |.int _=>rfl
  |.str _=>rfl
  |.lst _=>rfl
  |.ref _=>rfl
  |.scr _=>rfl
  |.dct _ _=>rfl
  |.tup []=>rfl
  |.tup [_]=>rfl
  |.tup (_::_::_::_)=>rfl,fun t ρ ρ' e k hk=>by
  match t,e with
  |.tup [x,y],e=>
   cases e;simp at hk;rw[cu2 (by omega),cu2 (by omega)]⟩
theorem Z7{tg iter:Expr}{body:List Stmt}{it:GL}{is:List Nat}{s1:St1}{gb:GS}(hp:PassesOwn (model X.prog X.w) X.A X.env X.xe)(hc:X.calm=true)(hi:Wd (PXI X tg iter it))(hg:Wd (PXG X tg is s1))(hb:V7 X own own body gb)(so:bJ6 is s1:=by first |exact bW7 _|exact bW8 _ _)(hn:is.all (fun i=> !(own.contains i))=true:=by decide)(hs:∀x,foldedSetIterable iter X.env x=pure x:=by intro _;rfl):PXO X own own (.For tg iter body [] pos) (N0 (gLM own it) s1 gb):=have hi:=hi.run;have hg:=hg.run;⟨bw4 hb.nb,fun G0 H0=>PS.imp (bt3 hp hc hi hg (hb.ps G0 H0) hs) fun D σ H zz=>by
 obtain⟨G,ρ,o,R,hg,q⟩:=zz;have hno:∀i∈is,i∉own:=fun i hi=>by
  have :=List.all_eq_true.mp hn i hi;simpa using this
 obtain⟨ts,h1,hg⟩:=h9 hg;refine⟨G,t9 own ρ,ts,R.x.s,R.r,h1,fun J G' H' e1 wk=> ?_⟩;refine⟨fun i m σ1 H1=>m=ts.length-i/\i<=ts.length/\∃G1 ρ1,w9 G' G1/\RO X.K G0 H0 own G1 H1 σ1 ρ1/\u5 s1 gb (ts.drop i) ρ1=some o,⟨ts.length,by simp,Nat.zero_le _,G',ρ,w9.refl _,R.step e1,by simpa using hg⟩,?_⟩;rintro i m σ1 H1 ⟨rfl,hi,G1,ρ1,sg,R1,hgo⟩;by_cases hlt:i<ts.length
 ·right;have ht:ts[i]?=some ts[i]:=ct8 hlt;obtain⟨go,yl⟩:=(wk i G1 H1 sg R1.x.s).1 _ ht;rw[ct1 hlt]at hgo;obtain⟨ρ2,k1,hgo⟩:=h9 hgo;obtain⟨o2,k2,hgo⟩:=h9 hgo;refine⟨go,fun σ' H2=>∃G2 ρ3,w9 G' G2/\RO X.K G0 H0 own G2 H2 σ' ρ3/\u5 s1 gb (ts.drop (i+1)) ρ3=some o,fun σ' H2 ⟨G2,ρ3,x2,r2,h2⟩=>⟨ts.length-(i+1),by omega,rfl,hlt,G2,ρ3,x2,r2,h2⟩,fun x H2 hy=> ?_⟩;obtain⟨G2,e2,rx⟩:=yl x H2 hy;have R2:=R1.step e2;have mk:s1 ts[i] (t9 own ρ1)=some (t9 own ρ2):=by rw[<-so.m own hno,k1];rfl
  refine⟨G2,t9 own ρ1,ts[i],t9 own ρ2,e2.s,R2.r,rx,mk,fun σ2 hρ2 _ hk=>⟨G2,ρ2,o2,R2.stored hno (so.k _) k1 hρ2 hk,k2,?_⟩⟩;cases o2 with
  |nx ρ3=>exact fun σ' G3 H3 s3 R3=>⟨G3,ρ3,sg.trans (e2.g.trans s3),R3,hgo⟩
  |ct ρ3=>exact absurd rfl ((hb.nb _ _ k2).2 _)
  |bk ρ3=>exact absurd rfl ((hb.nb _ _ k2).1 _)
  |ret t=>cases hgo;exact fun v G3 H3 e3 r3=>q v G3 H3 e3 r3
 ·left;have ei:i=ts.length:=by omega
  subst ei;refine⟨(wk _ G1 H1 sg R1.x.s).2 (cw8 _) (cw8 _),?_⟩;rw[List.drop_length]at hgo;cases hgo;exact q σ1 G1 H1 (e1.g.trans sg) R1⟩
end
section
variable {P:Program}{w:World}{K:W.Frag}{mg:Str->Option Value}{base:Heap}
theorem fnO{x qual:Str}{st:Stmt}{f:Addr}{fd:FuncData}{N ps:List Str}{k:Nat}{g:GS}{own:List Nat}(F:Fun K x qual st f fd)(S:l0 N ps (j4 st))(np:ps.length<=N.length)
  (hb:∀(cdv:Value) (A:Around) (outer:List Env) (s:Shared) (H:Hp) (E:XK),B7 k (A.deeper (envOfC qual (j4 st) s.heap.objs.size f cdv))->V7 (w4 CX0 P w K mg base N qual (j4 st) f cdv A outer s H E).nox [] own (A7 st) g):
  V9 P w K mg base CX0 (k+1) f fd ps (spT K ps.length (u9 ps.length N.length g)):=by
 refine F.ok S (fun vs H Q E h=> ?_) (fun cdv A outer s H vs Q E hr h=> ?_)
 ·obtain⟨G,ts,t,sG,r,hl,_⟩:=h;rw[r.length,hl]
 ·obtain⟨G,ts,t,sG,r,hl,hf,q⟩:=h;refine⟨_,(hb cdv A outer s H E hr).ps G H,?_⟩;unfold u9 at hf;rw[cx8 hl]at hf;have hρ:=aa7 (N:=N) r (by omega);cases hg:g (l9 N.length ts)with
  |none=>rw[hg]at hf;cases hf
  |some o=>
   rw[hg]at hf;refine⟨G,_,o,RO.start sG hρ,hg,?_⟩;cases o with
   |nx ρ=>cases hf;exact fun σ' G' H' _ R=>q .non G' H' R.x (by simp[Rep])
   |ret t'=>cases hf;exact fun v G' H' e' rv=>q v G' H' e' rv
   |bk ρ=>cases hf
   |ct ρ=>cases hf
end
end L3
namespace L3
open PySem PySem.Spec PyProof.Rows
theorem cl9(o:Obj)(f):(o.mapFields f).dict=o.dict:=by
 unfold Obj.mapFields;split<;>rfl
structure Fly(B:Heap)(l:List Env)(e:Addr)(C fl:Value)(h:Heap):Prop where
 st:B.StaysIn h
 new:B.get? e=none
 fr:h.FunFrames B l
 ob:∃oe vs T oT ts,h.get? e=some oe/\(oe.cls=C/\oe.dict=none)/\oe.data=.fields vs/\vs[1]?=some (.ref T)/\vs[2]?=some .none/\B.get? T=none/\T≠e/\h.get? T=some oT/\oT.data=.fields ts/\ts[3]?=some fl
section
variable {M:Model}{A:Around}{E:Value->Shared->Prop}{s:Shared}{B:Heap}{env:Env}{outer l:List Env}{L e:Addr}{C fl:Value}
theorem ar8{g:Option Addr}{Q:Unit->Shared->Prop}(F:Fly B l e C fl s.heap)
  (k:∀h',Fly B l e C (g.elim .none fun f=>rawInt f) h'->s.heap.UpToSlots h'->Q () {s with heap:=h'}):wpAny M A (setFlight (.ref e) g) Q E s:=by
 obtain⟨oe,vs,T,oT,ts,he,hc,hd,h1,h2,hB,hne,hT,hdT,h3⟩:=F.ob;have sz:3<ts.size:=(Array.getElem?_eq_some_iff.mp h3).1;have away:∀b,b≠T->(s.heap.update T (Obj.mapFields (·.setIfInBounds 3 (g.elim .none fun f=>rawInt f)))).get? b=s.heap.get? b:=fun b hb=>cs3 _ _ (Ne.symm hb)
 have plain:∀b o,s.heap.get? b=some o->(∀ws,o.data≠.fields ws)->b≠T:=fun b o hb hn z=>by
  rw[z,hT]at hb;cases hb;exact hn ts hdT
 unfold setFlight
 (refine cx9 (cy1 he hd h1 ?_));rw[cx8 (by simp :(Value.ref T !=Value.none)=true)]
 refine wpAny_setField hT hdT sz (k _ ⟨fun b o hb=> ?_,F.new,F.fr.of_keeps fun b o hb hn=>⟨o,?_,rfl⟩,oe,vs,T,_,_,?_,hc,hd,h1,h2,hB,hne,cs4 _ hT (Obj.isFreed_of_fields (Obj.data_mapFields hdT _)),Obj.data_mapFields hdT _,?_⟩ fun b o hb hn=>⟨o.slots,?_⟩)
 ·rw[away b fun z=>by rw[z,hB]at hb;cases hb];exact F.st b o hb
 ·rw[away b (plain b o hb hn)];exact hb
 ·rw[away e (Ne.symm hne)];exact he
 ·simp[sz]
 ·rw[away b (plain b o hb hn)];exact hb
theorem aN8{oe:Obj}{vs:Array Value}{hd0:Value}{more:Bool}{Q:Unit->Shared->Prop}(hA:A.frames=some (env::outer))(hL:env.frame=some L)(hfr:s.heap.FunFrames B (env::outer))(hst:B.StaysIn s.heap)(hnew:B.get? e=none)
  (he:s.heap.get? e=some oe) (hd:oe.data=.fields vs) (h2:vs[2]?=some .none) (hdi:oe.dict=none)
  (k:∀h',Fly B (env::outer) e oe.cls (rawInt L) h'->s.heap.UpToSlots h'->Q () {s with heap:=h'}):
  wpAny M A (do let a<-frameOf env;let pl<-entryPlaceOf L more;let b<-EntryCells.newEntry hd0 a .none (rawInt L) .none pl;setField (.ref e) 1 b) Q E s:=by
 have sz:1<vs.size:=by have :=(Array.getElem?_eq_some_iff.mp h2).1;omega
 have notFrame:e∉(env::outer).filterMap (·.frame):=fun z=>by
  obtain⟨_,o,ho,hn⟩:=hfr.mem z;rw[he]at ho;cases ho;exact hn vs hd
 refine cx9 (wpAny_frameOf_fun hA hfr hL fun h1 so=>cx9 (wpAny_entryPlaceOf fun pl hpl=> ?_))
 (unfold EntryCells.newEntry newFields);(refine cx9 (cy3 ?_ (hpl.sizeOk5 _ _ _ _ _)));have he1:h1.get? e=some oe:=(so.2.1 e notFrame).trans he
 have st1:B.StaysIn h1:=fun b o hb=>(so.2.1 b fun z=>by rw[(hfr.mem z).1]at hb;cases hb).trans (hst b o hb)
 generalize hTo:({cls:=.type "traceback",dict:=none,data:=.fields ([hd0,.ref L,.none,rawInt L,.none]++(if pl.isEmpty then List.replicate 6 Value.none else pl)).toArray}:Obj)=oT;have dT:oT.data=.fields ([hd0,.ref L,.none,rawInt L,.none]++(if pl.isEmpty then List.replicate 6 Value.none else pl)).toArray:=by rw[<-hTo]
 have fT:oT.isFreed=false:=Obj.isFreed_of_fields dT;have he2:=cs1 (h:=h1) oT he1;have nT:h1.objs.size≠e:=cx1 (cs5 he1);refine wpAny_setField he2 hd sz (k _ ⟨fun b o hb=> ?_,hnew,hfr.of_keeps fun b o hb hn=> ?_,_,_,h1.objs.size,oT,_,cs4 _ he2 (Obj.isFreed_of_fields (Obj.data_mapFields hd _)),⟨Obj.cls_mapFields _ _,(cl9 _ _).trans hdi⟩,Obj.data_mapFields hd _,?_,?_,st1.fresh,nT,?_,dT,?_⟩ fun b o hb hn=> ?_)
 ·have hbe:b≠e:=fun z=>by rw[z,hnew]at hb;cases hb
  (rw[cs3 _ _ (Ne.symm hbe)]);exact cs1 _ (st1 b o hb)
 ·have hbe:b≠e:=fun z=>by rw[z,he]at hb;cases hb;exact hn vs hd
  obtain⟨sl,q⟩:=so.2.2 b o hb;exact⟨{o with slots:=sl},by rw[cs3 _ _ (Ne.symm hbe)];exact cs1 _ q,rfl⟩
 ·simp[sz]
 ·rw[Array.getElem?_setIfInBounds_ne (by decide)];exact h2
 ·rw[cs3 _ _ (Ne.symm nT)];exact cs2 h1 fT
 ·rcases hpl with rfl|⟨_,_,_,_,_,_,_,rfl⟩<;>simp
 ·have hbe:b≠e:=fun z=>by rw[z,he]at hb;cases hb;exact hn vs hd
  obtain⟨sl,q⟩:=so.2.2 b o hb;exact⟨sl,by rw[cs3 _ _ (Ne.symm hbe)];exact cs1 _ q⟩
theorem bx7{oe:Obj}{vs:Array Value}{Q:Unit->Shared->Prop}(hA:A.frames=some (env::outer))(hL:env.frame=some L)(hfr:s.heap.FunFrames B (env::outer))(hst:B.StaysIn s.heap)(hnew:B.get? e=none)
  (he:s.heap.get? e=some oe) (hd:oe.data=.fields vs) (h1:vs[1]?=some .none) (h2:vs[2]?=some .none) (hdi:oe.dict=none)
  (k:∀h',Fly B (env::outer) e oe.cls (rawInt L) h'->s.heap.UpToSlots h'->Q () {s with heap:=h'}):wpAny M A (noteFrame (.ref e) env) Q E s:=by
 unfold noteFrame;simp only[hL]
 (refine cx9 (cy1 he hd h1 ?_));rw[cx7 (by decide)]
 exact aN8 hA hL hfr hst hnew he hd h2 hdi k
theorem aX6{Q:Unit->Shared->Prop}(hA:A.frames=some (env::outer))(hL:env.frame=some L)(F:Fly B (env::outer) e C .none s.heap)
  (k:∀h',Fly B (env::outer) e C (rawInt L) h'->s.heap.UpToSlots h'->Q () {s with heap:=h'}):wpAny M A (noteFrame (.ref e) env) Q E s:=by
 obtain⟨oe,vs,T,oT,ts,he,hc,hd,h1,h2,hB,hne,hT,hdT,h3⟩:=F.ob;obtain⟨hc,hdi⟩:=hc;subst hc;have sz:3<ts.size:=(Array.getElem?_eq_some_iff.mp h3).1;have away:∀b,b≠T->(s.heap.update T (Obj.mapFields (·.setIfInBounds 3 Value.none))).get? b=s.heap.get? b:=fun b hb=>cs3 _ _ (Ne.symm hb)
 have plain:∀b o,s.heap.get? b=some o->(∀ws,o.data≠.fields ws)->b≠T:=fun b o hb hn z=>by
  rw[z,hT]at hb;cases hb;exact hn ts hdT
 unfold noteFrame;simp only[hL]
 (refine cx9 (cy1 he hd h1 ?_));rw[cx8 (by simp :(Value.ref T !=Value.none)=true)]
 (refine cx9 (cy1 hT hdT h3 ?_));rw[cx7 (by simp[rawInt]:¬((Value.none==rawInt L)=true))]
 refine cx9 (wpAny_setField hT hdT sz ?_);refine aN8 hA hL (F.fr.of_keeps fun b o hb hn=>⟨o,(away b (plain b o hb hn)).trans hb,rfl⟩) (fun b o hb=>(away b fun z=>by rw[z,hB]at hb;cases hb).trans (F.st b o hb)) F.new ((away e (Ne.symm hne)).trans he) hd h2 hdi
  fun h' F' u=>k h' F' fun b o hb hn=>u b o ((away b (plain b o hb hn)).trans hb) hn
theorem Fly.pop{h:Heap}(F:Fly B (env::outer) e C fl h):Fly B outer e C fl h:=⟨F.st,F.new,F.fr.2.2,F.ob⟩
theorem bm6{oe:Obj}{vs:Array Value}{Q:Unit->Shared->Prop}(hA:A.frames=some (env::outer))(hL:env.frame=some L)(hfr:s.heap.FunFrames B (env::outer))(hst:B.StaysIn s.heap)(hnew:B.get? e=none)
  (he:s.heap.get? e=some oe) (hd:oe.data=.fields vs) (h1:vs[1]?=some .none) (h2:vs[2]?=some .none) (hdi:oe.dict=none)
  (k:∀h',Fly B outer e oe.cls .none h'->s.heap.UpToSlots h'->Q () {s with heap:=h'}):wpAny M A (leaving env (.ref e)) Q E s:=by
 unfold leaving;exact cx9 (bx7 hA hL hfr hst hnew he hd h1 h2 hdi fun h' F u=>ar8 (g:=none) F fun h2 F2 u2=>k h2 F2.pop (u.trans u2))
theorem aN7{Q:Unit->Shared->Prop}(hA:A.frames=some (env::outer))(hL:env.frame=some L)(F:Fly B (env::outer) e C .none s.heap)
  (k:∀h',Fly B outer e C .none h'->s.heap.UpToSlots h'->Q () {s with heap:=h'}):wpAny M A (leaving env (.ref e)) Q E s:=by
 unfold leaving;exact cx9 (aX6 hA hL F fun h' F u=>ar8 (g:=none) F fun h2 F2 u2=>k h2 F2.pop (u.trans u2))
end
end L3
namespace L3
open PySem PySem.Spec PyProof.Rows L2
structure X2(P:Program)(w:World)(outer:List Env)(H:Hp)(s:Shared)(B:Heap)(ea:Addr)(C fl:Value)(H':Hp)(s':Shared):Prop where
 os:s'.os=s.os
 bare:AllBare s'.gens
 un:Un (frs outer) [] H H' s.heap s'.heap
 hok:HOk P w H' s'.heap
 ne:H' ea=none
 fly:Fly B outer ea C fl s'.heap
 old:∀b o,s'.heap.get? b=some o->(∃u,s.heap.get? b=some u)->b∉frs outer->B.get? b=some o
 trk:∀b,H' b≠none->∃o,B.get? b=some o
noncomputable def CX1(P:Program)(w:World):CXT:=fun outer H s E e s'=>∃ea C H' B,e=.ref ea/\X2 P w outer H s B ea C .none H' s'/\E C none H'
section
variable {P:Program}{w:World}{outer l:List Env}{H H':Hp}{s s':Shared}{B:Heap}{ea:Addr}{C fl fl':Value}
theorem ar4{h h':Heap}(x:HOk P w H h)(k:∀b,H b≠none->∃o,h.get? b=some o/\h'.get? b=some o):HOk P w H h':=fun a o e=>
 (x a o e).stay (fun b u hb q=>by
  have hn:H b≠none:=by
   rcases hb with z|z
   ·rw[z,e];simp
   ·rw[z];simp
  obtain⟨o',q1,q2⟩:=k b hn;rw[q1]at q;cases q;exact q2) (fun _ z=>z) fun _ _ z=>z
theorem bv3{h:Heap}{a:Addr}{o:HO}(x:J6 P w H h a o):∃ob,h.get? a=some ob:=by
 cases o with
 |lst xs=>obtain⟨_,_,_,_,e⟩:=x;exact⟨_,e⟩
 |tup xs=>obtain⟨_,_,_,ob,e,_⟩:=x;exact⟨_,e⟩
 |dK kvs=>obtain⟨_,_,_,_,o,_,_,e,_⟩:=x;exact⟨_,e⟩
 |dT kvs=>obtain⟨_,_,_,_,o,_,_,e,_⟩:=x;exact⟨_,e⟩
 |set S n=>obtain⟨o,_,_,_,e,_⟩:=x;exact⟨_,e⟩
 |ins C dx fs=>obtain⟨_,_,_,e,_⟩:=x;exact⟨_,e⟩
 |own y=>obtain⟨_,e⟩:=x;exact⟨_,e⟩
 |xd fs=>obtain⟨_,⟨_,_,_,e,_⟩,_⟩:=x;exact⟨_,e⟩
 |rng lo hi=>obtain⟨_,_,_,e⟩:=x;exact⟨_,e⟩
 |frz ob u=>obtain⟨e,_⟩:=x;exact⟨_,e⟩
 |tbl ps=>exact⟨_,(show h.get? a=some _ from x)⟩
 |met f y=>exact⟨_,(show h.get? a=some _ from x)⟩
 |ext φ=>obtain⟨_,⟨_,e⟩,_⟩:=x;exact⟨_,e⟩
theorem X2.turn(T:X2 P w outer H s B ea C fl H' s'){h':Heap}(F:Fly B outer ea C fl' h')(u:s'.heap.UpToSlots h'):X2 P w outer H s B ea C fl' H' {s' with heap:=h'}:=by
 have same:∀b o,s'.heap.get? b=some o->(∃v,s.heap.get? b=some v)->b∉frs outer->h'.get? b=some o:=fun b o q v nb=>F.st b o (T.old b o q v nb)
 have isT:∀b,H' b≠none->∃o,s'.heap.get? b=some o/\h'.get? b=some o:=fun b q=>by
  obtain⟨o,z⟩:=T.trk b q;exact⟨o,T.fly.st b o z,F.st b o z⟩
 refine⟨T.os,T.bare,⟨fun b o q n nb hx=> ?_,fun b o q n nb hx=> ?_,fun b o q n hx=>T.un.free b o q n hx,fun b o q hx=> ?_,T.un.tups,T.un.frzs,T.un.tbls⟩,ar4 T.hok isT,T.ne,F,fun b o q v nb=> ?_,T.trk⟩
 ·exact same b o (T.un.keep b o q n nb hx) ⟨o,q⟩ nb
 ·obtain⟨sl,z⟩:=T.un.slot b o q n nb hx;have nf:∀vs,o.data≠.fields vs:=fun vs y=>by
   obtain⟨_,o2,z2,z3⟩:=T.fly.fr.mem nb;rw[z]at z2;cases z2;exact z3 vs y
  obtain⟨sl2,z2⟩:=u b _ z nf;exact⟨sl2,z2⟩
 ·obtain⟨o',z⟩:=T.un.there b o q hx;by_cases nb:b∈frs outer
  ·obtain⟨_,o2,z2,z3⟩:=T.fly.fr.mem nb;obtain⟨sl,z4⟩:=u b o2 z2 z3;exact⟨_,z4⟩
  ·exact⟨o',same b o' z ⟨o,q⟩ nb⟩
 ·obtain⟨v,q'⟩:=v;obtain⟨o',z⟩:=T.un.there b v q' (by simp);have z2:=T.old b o' z ⟨v,q'⟩ nb;have z3:=F.st b o' z2;rw[z3]at q;cases q;exact z2
end
section
variable {X:Cx}{pins:List (Addr×Obj)}{σ:L2.St}{H H':Hp}{s s':Shared}{B:Heap}{ea:Addr}{C fl:Value}
theorem X2.inv(T:X2 X.prog X.w X.stack H s B ea C fl H' s')(I:Inv X pins σ H s):Inv X pins σ H' s':=by
 obtain⟨h',g',d',t',os'⟩:=s';obtain rfl:os'=s.os:=T.os;exact I.call (h':=h') (g':=g') (d':=d') (t':=t') (ch:=[]) T.un T.hok T.bare (fun _ z=>absurd z (by simp))
theorem aJ6{P:Program}{w:World}{K:W.Frag}{mg:Str->Option Value}{base:Heap}{N:List Str}{qual:Str}{scope:Scope}{f:Addr}{cd:Value}{A:Around}{outer:List Env}{s₀:Shared}{H₀:Hp}{E:XK}:
  Y8 (CX1 P w) (w4 (CX1 P w) P w K mg base N qual scope f cd A outer s₀ H₀ E) E:=fun pins σ H s e s' I h=>by
 obtain⟨ea,C,H',B,rfl,T,q⟩:=h;have hL:∀b o,s₀.heap.get? b=some o->b≠s₀.heap.objs.size:=fun b o z=>cx2 (cs5 z)
 refine aN7 (env:=envOfC qual scope s₀.heap.objs.size f cd) (outer:=outer) (L:=s₀.heap.objs.size) I.ok.frames rfl T.fly fun h' F u=> ?_
 have T2:X2 P w (envOfC qual scope s₀.heap.objs.size f cd::outer) H s B ea C .none H' s':=T;have isT:∀b,H' b≠none->∃o,s'.heap.get? b=some o/\h'.get? b=some o:=fun b q=>by
  obtain⟨o,z⟩:=T.trk b q;exact⟨o,T.fly.st b o z,F.st b o z⟩
 have nfr:∀b,b∉frs outer->(∃o,s₀.heap.get? b=some o)->b∉frs (envOfC qual scope s₀.heap.objs.size f cd::outer):=fun b nb ⟨o,z⟩ y=>by
  rcases List.mem_cons.mp (show b∈s₀.heap.objs.size::frs outer from y)with y|y
  ·exact hL b o z y
  ·exact nb y
 have same:∀b o,s'.heap.get? b=some o->(∃v,s₀.heap.get? b=some v)->b∉frs outer->B.get? b=some o:=fun b o q v nb=>by
  obtain⟨v,hv⟩:=v;obtain⟨v2,hv2⟩:=I.base.there b v hv (by simp[w4]);exact T.old b o q ⟨v2,hv2⟩ (nfr b nb ⟨v,hv⟩)
 refine⟨ea,C,H',B,rfl,⟨T.os.trans I.os,T.bare,⟨fun b o z n nb hx=> ?_,fun b o z n nb hx=> ?_,fun b o z n hx=> ?_,fun b o z hx=> ?_,fun b xs z=>T.un.tups b xs (I.base.tups b xs z),fun b o xs z=>T.un.frzs b o xs (I.base.frzs b o xs z),fun b ps z=> ?_⟩,ar4 T.hok isT,T.ne,F,fun b o z v nb=> ?_,T.trk⟩,q⟩
 ·have z1:=I.base.keep b o z n nb (by simp[w4]);have n1:=I.base.free b o z n (by simp[w4]);have z2:=T.un.keep b o z1 n1 (nfr b nb ⟨o,z⟩) (by simp);exact F.st b o (same b o z2 ⟨o,z⟩ nb)
 ·obtain⟨sl,z1⟩:=I.base.slot b o z n nb (by simp[w4]);have n1:=I.base.free b o z n (by simp[w4]);obtain⟨sl2,z2⟩:=T.un.any z1 n1 (by simp);have nf:∀vs,o.data≠.fields vs:=fun vs y=>by
   obtain⟨_,o2,z3,z4⟩:=T.fly.fr.mem (show b∈(envOfC qual scope s₀.heap.objs.size f cd::outer).filterMap (·.frame)from cv7 _ nb);rw[z2]at z3;cases z3;exact z4 vs y
  obtain⟨sl3,z3⟩:=u b _ z2 nf;exact⟨sl3,z3⟩
 ·obtain⟨o',z1⟩:=I.base.there b o z (by simp[w4]);exact T.un.free b o' z1 (I.base.free b o z n (by simp[w4])) (by simp)
 ·obtain⟨o1,z1⟩:=I.base.there b o z (by simp[w4]);obtain⟨o2,z2⟩:=T.un.there b o1 z1 (by simp);by_cases nb:b∈frs outer
  ·obtain⟨_,o3,z3,z4⟩:=T.fly.fr.mem (show b∈(envOfC qual scope s₀.heap.objs.size f cd::outer).filterMap (·.frame)from cv7 _ nb);obtain⟨sl,z5⟩:=u b o3 z3 z4;exact⟨_,z5⟩
  ·exact⟨o2,F.st b o2 (same b o2 z2 ⟨o,z⟩ nb)⟩
 ·obtain⟨m1,z1⟩:=I.base.tbls b ps z;obtain⟨m2,z2⟩:=T.un.tbls b _ z1;exact⟨m1++m2,by rw[z2,Array.append_assoc]⟩
 ·obtain⟨v,hv⟩:=v;obtain⟨o1,z1⟩:=I.base.there b v hv (by simp[w4]);obtain⟨o2,z2⟩:=T.un.there b o1 z1 (by simp);have z3:=same b o2 z2 ⟨v,hv⟩ nb;have z4:=F.st b o2 z3;rw[z4]at z;cases z;exact z3
end
theorem bT9{K:W.Frag}{h:Heap}{C:Addr}{bmB:List Value}{newId:String}(X:K.In h)(q:W.excIn K C bmB newId=true):
  ∃bm N nm qn bs hdct sn sub ab col dd k0 k1 k2 k3 k5 mN,h.get? C=some (excClassObj nm qn C N bs bm hdct sn sub ab col dd k0 k1 k2 k3 k5 newId)/\h.Ns N mN/\mN "__init__"=none/\OwnTail h bmB bm:=by
 unfold W.excIn at q;split at q
 case h_2=>cases q
 case h_1 dd cd sl ho=>
 split at q
 case h_2=>cases q
 case h_1 C' bm k0 k1 k2 k3 n k5 hm hs=>
 (simp only[cr8,beq_iff_eq,Bool.not_eq_true']at q);(obtain⟨⟨⟨⟨⟨rfl,rfl⟩,hdel⟩,ht⟩,hok⟩,hni⟩:=q);(obtain⟨nm,bs,mro,ns,qn,hd,sn,sub,ab,col,del⟩:=cd);dsimp only at hm hdel hok hni
 subst hm hdel;obtain rfl:sl=#[k0,k1,k2,k3,some (.builtin n),k5]:=by
  obtain⟨l⟩:=sl;simp only at hs;rw[hs]
 exact⟨bm,ns,nm,qn,bs,hd,sn,sub,ab,col,dd,k0,k1,k2,k3,k5,_,X _ _ ho,.of_isNs (W.isNs_of_in X hok),W.nsMap_none_of_in X hok hni,W.tail_of_in X ht⟩
section
variable {P:Program}{w:World}{K:W.Frag}{mg:Str->Option Value}{base:Heap}{N:List Str}{qual:Str}{scope:Scope}{f:Addr}{cd:Value}{A:Around}{outer:List Env}{s₀:Shared}{H₀:Hp}{E:XK}
noncomputable def bW6(E:XK)(C:Value):TS:=fun _ _ H=>E C none H
theorem bE7{x:Str}{np cpos pos:Pos}{m:Str}{k:Nat}{mp:Pos}{C:Addr}{bmB:List Value}{Bn newId initId:String}(hm:mg x=some (.ref C))(hx:W.excIn K C bmB newId=true)(FB:ExcBaseFacts Bn newId initId bmB)
  (hg:Gl (w4 (CX1 P w) P w K mg base N qual scope f cd A outer s₀ H₀ E) x) (hd:(x==("__debug__":Str))=false:=by decide)
  (he:starEach [.Constant (.str m) k mp] (w4 (CX1 P w) P w K mg base N qual scope f cd A outer s₀ H₀ E).env=[(false,eval (.Constant (.str m) k mp) (w4 (CX1 P w) P w K mg base N qual scope f cd A outer s₀ H₀ E).env)]:=by rfl):
  PS (w4 (CX1 P w) P w K mg base N qual scope f cd A outer s₀ H₀ E) (.Raise (some (.Call (.Name x np) [.Constant (.str m) k mp] [] cpos)) none pos) (bW6 E (.ref C)):=by
 intro pins s σ H D I q;obtain⟨bm,Nn,nm,qn,bs,hdct,sn,sub,ab,col,dd,k0,k1,k2,k3,k5,mN,hC,hN,hni,T⟩:=bT9 I.mod.kin hx;refine wpAny_Raise_call_subT (C:=C) (nm:=nm) (q:=qn) (N:=Nn) (bs:=bs) (bm:=bm) (hdct:=hdct) (sn:=sn) (sub:=sub) (ab:=ab) (col:=col) (dd:=dd) (k0:=k0) (k1:=k1) (k2:=k2) (k3:=k3) (k5:=k5) FB (mN:=mN) (T.hasType FB.hasBase) (I.ok.hd rfl) ?_ hni (ah9 I hg hm ⟨rfl,?_⟩ hd)
 ·rw[he];rfl
 rw[he];refine Calls.evalArgs_plain (thn (O4 (X:=w4 (CX1 P w) P w K mg base N qual scope f cd A outer s₀ H₀ E) bt8 Y4 he cpos pins s σ H (fun vs H1=>∃y,vs=[y]/\E (.ref C) none H1) I ⟨_,rfl,q⟩) fun us s1 ⟨vs,H1,I1,r1,y,ey,q1⟩=> ?_);subst ey;obtain⟨u,rfl,_⟩:=X6 r1;refine⟨rfl,by show 1<=sizeLine;decide,I1.bk _ _ hC,hN.keeps I1.bk,T.keeps I1.bk,fun h' e M=> ?_⟩;obtain⟨t,he1,_,_⟩:=M.there;have frm:∀b∈frs (envOfC qual scope s₀.heap.objs.size f cd::outer),H1 b=none:=I1.stkFree;have stk:s1.heap.FunFrames base (envOfC qual scope s₀.heap.objs.size f cd::outer):=I1.stack;have hin:∀env∈(envOfC qual scope s₀.heap.objs.size f cd::outer),∀b,env.frame=some b->b∈frs (envOfC qual scope s₀.heap.objs.size f cd::outer):=fun env hv b hb=>List.mem_filterMap.mpr ⟨env,hv,hb⟩
 have nw:(W.hideAll s1.heap (frs (envOfC qual scope s₀.heap.objs.size f cd::outer))).get? e=none:=by
  cases z:(W.hideAll s1.heap (frs (envOfC qual scope s₀.heap.objs.size f cd::outer))).get? e with
  |none=>rfl
  |some o=>
   have :=W.of_hideAll _ z;rw[M.new]at this;cases this
 have hL:∀b o,s₀.heap.get? b=some o->b≠s₀.heap.objs.size:=fun b o z=>cx2 (cs5 z)
 have nfr:∀b,b∉frs outer->(∃o,s₀.heap.get? b=some o)->b∉frs (envOfC qual scope s₀.heap.objs.size f cd::outer):=fun b nb ⟨o,z⟩ y=>by
  rcases List.mem_cons.mp (show b∈s₀.heap.objs.size::frs outer from y)with y|y
  ·exact hL b o z y
  ·exact nb y
 refine bm6 (s:={s1 with heap:=h'}) (B:=W.hideAll s1.heap (frs (envOfC qual scope s₀.heap.objs.size f cd::outer))) (env:=envOfC qual scope s₀.heap.objs.size f cd) (outer:=outer) (L:=s₀.heap.objs.size) I1.ok.frames rfl
  ((W.funFrames_hide stk hin).of_keeps fun b o z _=>⟨o,M.keeps b o z,rfl⟩) (fun b o z=>M.keeps b o (W.of_hideAll _ z)) nw he1 rfl rfl rfl rfl fun h2 F u2=> ?_
 have isB:∀b o,s1.heap.get? b=some o->b∉frs (envOfC qual scope s₀.heap.objs.size f cd::outer)->(W.hideAll s1.heap (frs (envOfC qual scope s₀.heap.objs.size f cd::outer))).get? b=some o:=fun b o z nb=>W.hideAll_get _ z nb
 have trk:∀b,H1 b≠none->∃o,(W.hideAll s1.heap (frs (envOfC qual scope s₀.heap.objs.size f cd::outer))).get? b=some o:=fun b z=>by
  cases y:H1 b with
  |none=>exact absurd y z
  |some ho=>
   obtain⟨o,yo⟩:=bv3 (I1.hok _ _ y);exact⟨o,isB b o yo fun nb=>z (frm b nb)⟩
 refine⟨e,.ref C,H1,_,rfl,⟨I1.os,I1.bare,⟨fun b o z n nb hx=> ?_,fun b o z n nb hx=> ?_,fun b o z n hx=>I1.base.free b o z n (by simp[w4]),fun b o z hx=> ?_,I1.base.tups,I1.base.frzs,I1.base.tbls⟩,ar4 I1.hok fun b z=> ?_,?_,F,fun b o z v nb=> ?_,trk⟩,q1⟩
 ·have z1:=I1.base.keep b o z n nb (by simp[w4]);exact F.st b o (isB b o z1 (nfr b nb ⟨o,z⟩))
 ·obtain⟨sl,z1⟩:=I1.base.slot b o z n nb (by simp[w4]);have nf:∀vs,o.data≠.fields vs:=fun vs y=>by
   obtain⟨_,o2,z3,z4⟩:=stk.mem (show b∈(envOfC qual scope s₀.heap.objs.size f cd::outer).filterMap (·.frame)from cv7 _ nb);rw[z1]at z3;cases z3;exact z4 vs y
  obtain⟨sl3,z3⟩:=u2 b _ (M.keeps _ _ z1) nf;exact⟨sl3,z3⟩
 ·obtain⟨o1,z1⟩:=I1.base.there b o z (by simp[w4]);by_cases nb:b∈frs outer
  ·obtain⟨_,o3,z3,z4⟩:=stk.mem (show b∈(envOfC qual scope s₀.heap.objs.size f cd::outer).filterMap (·.frame)from cv7 _ nb);obtain⟨sl,z5⟩:=u2 b o3 (M.keeps _ _ z3) z4;exact⟨_,z5⟩
  ·exact⟨o1,F.st b o1 (isB b o1 z1 (nfr b nb ⟨o,z⟩))⟩
 ·obtain⟨o,y⟩:=trk b z;exact⟨o,W.of_hideAll _ y,F.st b o y⟩
 ·cases y:H1 e with
  |none=>rfl
  |some ho=>
   obtain⟨o,yo⟩:=bv3 (I1.hok _ _ y);rw[M.new]at yo;cases yo
 ·obtain⟨v,hv⟩:=v;obtain⟨o1,z1⟩:=I1.base.there b v hv (by simp[w4]);have z2:=isB b o1 z1 (nfr b nb ⟨v,hv⟩);have z3:=F.st b o1 z2;rw[z3]at z;cases z;exact z2
end
noncomputable def az4(mg:Str->Option Value)(c:Str):Value:=(mg c).getD .none
noncomputable def aR2(K:W.Frag)(mg:Str->Option Value)(E:XK)(G H:Hp)(D:aa6):bo3->Prop
 |.o o=>ap8 K G H D o
 |.exc c=>∀G' H',Ext G H G' H'->E (az4 mg c) none H'
theorem aR2.ext{K:W.Frag}{mg:Str->Option Value}{E:XK}{G H G1 H1:Hp}{D:aa6}{r:bo3}(e:Ext G H G1 H1)(h:aR2 K mg E G H D r):aR2 K mg E G1 H1 D r:=by
 cases r with
 |o o=>exact ap8.ext e h
 |exc c=>exact fun G' H' e'=>h G' H' (e.trans e')
noncomputable def tXR(K:W.Frag)(mg:Str->Option Value)(E:XK)(g:GR):TS:=fun D σ H=>∃G ρ r,Sub G H/\B5 K G σ ρ/\g ρ=some r/\aR2 K mg E G H D r
noncomputable abbrev PXR(X:Cx)(E:XK)(st:Stmt)(g:GR):Prop:=PS X st (tXR X.K X.mg E g)
noncomputable abbrev aw4(X:Cx)(E:XK)(st:List Stmt)(g:GR):Prop:=PSs X st (tXR X.K X.mg E g)
noncomputable def spR(K:W.Frag)(mg:Str->Option Value)(n:Nat)(F:List T->Option Res):Sp:=fun vs H Q E=>∃G ts r,Sub G H/\j5 K G ts vs/\ts.length=n/\F ts=some r/\
 match r with
 |.val t=>∀v G' H',Ext G H G' H'->Rep K G' t v->Q v H'
 |.exc c=>∀G' H',Ext G H G' H'->E (az4 mg c) none H'
noncomputable def Q1(P:Program)(w:World)(K:W.Frag)(mg:Str->Option Value)(base:Heap)(x:Str)(k n:Nat)(F:List T->Option Res):Prop:=
 ∃f fd ps,mg x=some (.ref f)/\W.keepIn K (.ref f)=true/\Z1 K fd ps []/\V9 P w K mg base (CX1 P w) k f fd ps (spR K mg n F)
noncomputable def tRE(K:W.Frag)(mg:Str->Option Value)(E:XK)(F:List T->Option Res)(l:List L3.G):TE:=fun σ H Q=>∃G ρ xs r,Sub G H/\B5 K G σ ρ/\gs l ρ=some xs/\F xs=some r/\
 match r with
 |.val t=>∀v G' H',Ext G H G' H'->Rep K G' t v->Q v H'
 |.exc c=>∀G' H',Ext G H G' H'->E (az4 mg c) none H'
section
variable {X:Cx}{E:XK}{st:Stmt}{rest:List Stmt}{e c:Expr}{pos:Pos}
theorem bx3:∀{l:List L3.G}{ρ:j9}{xs:List T},gs l ρ=some xs->xs.length=l.length
 |[],_,_,hz=>by cases hz;rfl
 |a::l,ρ,xs,h=>by
  obtain⟨x,_,h⟩:=h9 h;obtain⟨ys,h2,h⟩:=h9 h;cases h;simp[bx3 h2]
theorem an9{es:List Expr}{l:List L3.G}{k k' n:Nat}{F:List T->Option Res}{x:Str}{p:Pos}(h:Q1 X.prog X.w X.K X.mg X.base x k n F)(hx:Y8 (CX1 X.prog X.w) X E)(hr:B7 k' X.A)(hk:k<=k')(hg:Gl X x)
  (ha:PXA X (e::es) (gs l)) (hn:l.length=n:=by rfl) (hdb:(x==("__debug__":Str))=false:=by decide) (he:starEach (e::es) X.env=(false,eval e X.env)::starEach es X.env:=by rfl) (hpl:(backTo pos (starEach es X.env)).any (·.1)=false:=by rfl):
  PE X (.Call (.Name x p) (e::es) [] pos) (tRE X.K X.mg E F l):=by
 obtain⟨f,fd,ps,hm,kp,hb,H⟩:=h;refine PE.imp (ay3 H (hr.mono hk) hg hm kp hb .nil hx ha hdb he hpl) fun σ H Q ⟨G,ρ,xs,r,sG,hρ,hgs,hf,q⟩=> ?_
 refine⟨G,ρ,xs,sG,hρ,hgs,fun vs G1 H1 e1 r1=> ?_⟩;refine⟨G1,xs,r,e1.s,by rw[cs9];exact r1,by rw[bx3 hgs];exact hn,hf,?_⟩;cases r with
 |val t=>exact fun v G' H' e' rv=>q v G' H' (e1.trans e') rv
 |exc c=>exact fun G' H' e'=>q G' H' (e1.trans e')
theorem Z6{es:List Expr}{l:List L3.G}{k k' n:Nat}{F:List T->Option Res}{x:Str}{p:Pos}(h:Q1 X.prog X.w X.K X.mg X.base x k n F)(hr:B7 k' X.A)(hk:k<=k')(hg:Gl X x)(ha:Wd (PXA X (e::es) (gs l)))(hn:l.length=n:=by rfl)(hdb:(x==("__debug__":Str))=false:=by decide)(he:starEach (e::es) X.env=(false,eval e X.env)::starEach es X.env:=by rfl)(hpl:(backTo pos (starEach es X.env)).any (·.1)=false:=by rfl):Wd (PX X (.Call (.Name x p) (e::es) [] pos) (gN (Q4 F) l)):=⟨have ha:=ha.run;PE.imp (an9 (E:=fun _ _ _=>False) h (fun _ _ _ _ _ _ _ ⟨_,_,_,_,_,_,z⟩=>z.elim) hr hk hg ha hn hdb he hpl) fun σ H Q zz=>by
  obtain⟨G,ρ,t,sG,hρ,hgg,q⟩:=zz;obtain⟨xs,h1,hgg⟩:=h9 hgg;obtain⟨r,h2,hgg⟩:=h9 hgg;refine⟨G,ρ,xs,r,sG,hρ,h1,h2,?_⟩;cases r with
  |val u=>cases hgg;exact q
  |exc c=>cases hgg⟩
theorem bO5:aw4 X E [] (L9 o7):=PSs.imp aJ5 fun D σ H zz=>by
 obtain⟨G,ρ,r,sG,hρ,hg,q⟩:=zz;cases hg;exact q σ G H (Ext.refl sG) hρ
theorem T4{g1 g2:GR}(h1:PXR X E st g1)(h2:aw4 X E rest g2):aw4 X E (st::rest) (Q7 g1 g2):=PSs.imp (W8 h1 h2) fun D σ H zz=>by
 obtain⟨G,ρ,r,sG,hρ,hg,q⟩:=zz;obtain⟨r1,k1,hg⟩:=h9 hg;refine⟨G,ρ,r1,sG,hρ,k1,?_⟩;cases r1 with
 |exc c=>cases hg;exact q
 |o o1=>
  cases o1 with
  |nx ρ1=>exact fun σ' G' H' e' r=>⟨G',ρ1,_,e'.s,r,hg,q.ext e'⟩
  |bk ρ1=>cases hg;exact q
  |ct ρ1=>cases hg;exact q
  |ret t=>cases hg;exact q
theorem an8{g1:GR}(h1:PXR X E st g1):aw4 X E [st] g1:=ao6 h1
theorem T0{g:GS}(h:PXS X st g):PXR X E st (L9 g):=PS.imp h fun D σ H zz=>by
 obtain⟨G,ρ,r,sG,hρ,hg,q⟩:=zz;obtain⟨o,k1,hg⟩:=h9 hg;cases hg;exact⟨G,ρ,o,sG,hρ,k1,q⟩
theorem bX1{a b:List Stmt}{gc:GB}{ga gb:GR}(hc:PXB X c gc)(ha:aw4 X E a ga)(hb:aw4 X E b gb):PXR X E (.If c a b pos) (rIf gc ga gb):=PS.imp (bj3 hc ha hb) fun D σ H zz=>by
 obtain⟨G,ρ,r,sG,hρ,hg,q⟩:=zz;obtain⟨k,k1,hg⟩:=h9 hg;refine⟨G,ρ,k,sG,hρ,k1,fun G1 H1 e1=> ?_⟩;cases k with
 |true=>exact aj6 ⟨G1,ρ,r,e1.s,hρ.mono e1.g,hg,q.ext e1⟩
 |false=>exact aj7 ⟨G1,ρ,r,e1.s,hρ.mono e1.g,hg,q.ext e1⟩
theorem aB8{es:List Expr}{l:List L3.G}{F:List T->Option Res}{x:Str}{p cpos:Pos}(h:PE X (.Call (.Name x p) (e::es) [] cpos) (tRE X.K X.mg E F l))(hs:swapsWith (.Call (.Name x p) (e::es) [] cpos) none pos.line X.env=pure false:=by rfl):
  PXR X E (.Expr (.Call (.Name x p) (e::es) [] cpos) pos) (al3 F l):=PS.imp (be2 h hs) fun D σ H zz=>by
 obtain⟨G,ρ,r,sG,hρ,hg,q⟩:=zz;obtain⟨xs,h1,hg⟩:=h9 hg;obtain⟨r1,h2,hg⟩:=h9 hg;refine⟨G,ρ,xs,r1,sG,hρ,h1,h2,?_⟩;cases r1 with
 |val t=>cases hg;exact fun v G1 H1 e1 _=>q σ G1 H1 e1 (hρ.mono e1.g)
 |exc c=>cases hg;exact q
end
section
variable {P:Program}{w:World}{K:W.Frag}{mg:Str->Option Value}{base:Heap}
theorem br1{N:List Str}{qual:Str}{scope:Scope}{f:Addr}{cd:Value}{A:Around}{outer:List Env}{s₀:Shared}{H₀:Hp}{E:XK}{x:Str}{np cpos pos:Pos}{m:Str}{k:Nat}{mp:Pos}{bmB:List Value}{Bn newId initId:String}(hm:∃C,mg x=some (.ref C)/\W.excIn K C bmB newId=true)(FB:ExcBaseFacts Bn newId initId bmB)
  (hg:Gl (w4 (CX1 P w) P w K mg base N qual scope f cd A outer s₀ H₀ E) x) (hd:(x==("__debug__":Str))=false:=by decide)
  (he:starEach [.Constant (.str m) k mp] (w4 (CX1 P w) P w K mg base N qual scope f cd A outer s₀ H₀ E).env=[(false,eval (.Constant (.str m) k mp) (w4 (CX1 P w) P w K mg base N qual scope f cd A outer s₀ H₀ E).env)]:=by rfl):
  PXR (w4 (CX1 P w) P w K mg base N qual scope f cd A outer s₀ H₀ E) E (.Raise (some (.Call (.Name x np) [.Constant (.str m) k mp] [] cpos)) none pos) (bY1 x):=by
 obtain⟨C,hm,hx⟩:=hm;refine PS.imp (bE7 hm hx FB hg hd he) fun D σ H ⟨G,ρ,r,sG,hρ,hg,q⟩=> ?_
 cases hg;have :=q G H (Ext.refl sG);rw[az4,show(w4 (CX1 P w) P w K mg base N qual scope f cd A outer s₀ H₀ E).mg x=some (.ref C)from hm]at this;exact this
theorem fnR{x qual:Str}{st:Stmt}{f:Addr}{fd:FuncData}{N ps:List Str}{k:Nat}{g:GR}(F:Fun K x qual st f fd)(S:l0 N ps (j4 st))(np:ps.length<=N.length)
  (hb:∀(cdv:Value) (A:Around) (outer:List Env) (s:Shared) (H:Hp) (E:XK),B7 k (A.deeper (envOfC qual (j4 st) s.heap.objs.size f cdv))->aw4 (w4 (CX1 P w) P w K mg base N qual (j4 st) f cdv A outer s H E) E (A7 st) g):
  V9 P w K mg base (CX1 P w) (k+1) f fd ps (spR K mg ps.length (aq6 ps.length N.length g)):=by
 obtain⟨oc,od,kV,doc,pm,an,cdv,ct,osl,rfl,lk,hcd⟩:=F.ex;refine bm5 lk hcd S (fun vs H Q E h=> ?_) fun A outer s H vs Q E hr h=> ?_
 ·obtain⟨G,ts,r,sG,rr,hl,_⟩:=h;rw[rr.length,hl]
 ·obtain⟨G,ts,r,sG,rr,hl,hf,q⟩:=h;refine⟨_,hb cdv A outer s H E hr,?_⟩;unfold aq6 at hf;rw[cx8 hl]at hf;have hρ:=aa7 (N:=N) rr (by omega);cases hg:g (l9 N.length ts)with
  |none=>rw[hg]at hf;cases hf
  |some o=>
   rw[hg]at hf;refine⟨G,_,o,sG,hρ,hg,?_⟩;cases o with
   |exc c=>cases hf;exact q
   |o o=>
    cases o with
    |nx ρ=>cases hf;exact fun σ' G' H' e' _=>q .non G' H' e' (by simp[Rep])
    |ret t'=>cases hf;exact fun v G' H' e' rv=>q v G' H' e' rv
    |bk ρ=>cases hf
    |ct ρ=>cases hf
end
end L3
namespace L3
open PySem PySem.Spec PyProof.Rows
noncomputable def an1(h:Heap)(e:Addr):Prop:=∃o vs,h.get? e=some o/\o.data=.fields vs/\vs[2]?=some .none
theorem aP9:entryFor table "proto.unchain"=some Builtin.«proto.unchain»:=entryFor_of_fast (by kernel_rfl)
section
variable {prog:Program}{w:World}{A:Around}{E:Value->Shared->Prop}{s:Shared}
theorem aA8{M:Model}{a:Addr}{i:Nat}{v:Value}{o:Obj}{vs:Array Value}{Q:Unit->Shared->Prop}(ho:s.heap.get? a=some o)(hd:o.data=.fields vs)(hi:i<vs.size)
  (k:Q () {s with heap:=s.heap.update a (Obj.mapFields (·.setIfInBounds i v))}):wpAny M A (updateField a i v) Q E s:=by
 unfold updateField
 (refine cx9 (wpAny_load ho ?_));rw[hd]
 dsimp only;rw[cx8 hi];exact wpAny_update ho k
theorem aJ2{α:Type}{e x:Addr}{oe:Obj}{ws:Array Value}{Q:α->Shared->Prop}(hh:A.handled=some (.ref x))(L:an1 s.heap x)(he:s.heap.get? e=some oe)(hde:oe.data=.fields ws)(hsz:2<ws.size)(hne:x≠e)
  (k:E (.ref e) {s with heap:=s.heap.update e (Obj.mapFields (·.setIfInBounds 2 (.ref x)))}):wpAny (model prog w) A (raiseNew (.ref e):Sem α) Q E s:=by
 obtain⟨o,vs,ho,hd,h2⟩:=L;unfold raiseNew
 (refine cx9 (wpAny_handled ?_));rw[hh]
 dsimp only;have hq:(Value.ref x !=Value.ref e)=true:=by
  rw[bne_iff_ne];exact fun z=>hne (Value.ref.inj z)
 rw[cx8 hq];refine cx9 (wpAny_holding (wpAny_runValue (codeAny_builtin aP9 ?_)));unfold Builtin.«proto.unchain»;refine cx9 (cy1 ho hd h2 ?_);rw[cx8 (by decide)];exact cy5 (cx9 (aA8 he hde hsz (wpAny_throw k)))
theorem an1.keeps{h h':Heap}{e:Addr}(L:an1 h e)(k:∀o,h.get? e=some o->h'.get? e=some o):an1 h' e:=
 let⟨o,vs,a,b,c⟩:=L;⟨o,vs,k o a,b,c⟩
theorem ap0{it l x:Addr}{i:Nat}{items:Array Value}{Q:Option Value->Shared->Prop}(hh:A.handled=some (.ref x))(L:an1 s.heap x)(hx:x≠it)
  (I:s.heap.IsListIter it l i) (hl:s.heap.IsList l items) (hn:items[i]?=none) (k:∀h',Heap.ExtBut it s.heap h'->Q none {s with heap:=h'}):wpAny (model prog w) A (pyNext (.ref it)) Q E s:=by
 obtain⟨o,ho,hc,hd⟩:=id I
 (obtain⟨ol,hol,_,nl,hdl⟩:=hl);unfold pyNext
 refine cx9 (wpAny_attempt (wpAny_callSpecial?_slot (name:=Str.ofString "__next__") I.typeIs slot_listiter_next (cy0 slot_listiter_next I.typeIs entry_listiter_next ?_ (args_listiter_next _))))
 (show wpAny _ _ (field (.ref it) 0>>=_) _ _ s);(refine cx9 (cy1 ho hd (x:=.ref l) rfl ?_));(show wpAny _ _ (if(Value.ref l==Value.none)=true then _ else _) _ _ s);rw[cx7 (fun z=>Bool.noConfusion z:¬((Value.ref l==Value.none)=true))]
 (show wpAny _ _ (field (.ref it) 1>>=_) _ _ s);(refine cx9 (cy1 ho hd (x:=.int i 0) rfl ?_));(show wpAny _ _ (seqItems? (.ref l)>>=_) _ _ s);(refine cx9 (cy7 hol hdl ?_));simp only[cs6,hn]
 (refine cx9 (wpAny_rule (cx9 (wpAny_setField ho hd (by simp) ?_))));(show wpAny _ _ (newExc (.type "StopIteration") []>>=_) _ _ _);refine cx9 ?_
 simp only[newExc,newTuple]
 (refine cx9 (cy3 ?_ (by size_fits)));(refine cx9 (m:=firstArgMember _ _) (wpAny_of_eq (a:=Value.none) (by first |rfl|(simp only[firstArgMember];rfl)) ?_));(refine cy3 ?_ (by size_fits));have e1:Heap.ExtBut it s.heap (s.heap.update it (Obj.mapFields (·.setIfInBounds 0 .none))):=(Heap.SameBut.update ..).extBut
 have xs:x<s.heap.objs.size:=by obtain⟨_,_,a,_⟩:=L;exact cs5 a
 refine aJ2 (ws:=_) (show A.in1.handled=some (.ref x)from hh) ?_ (cs2 _ rfl) rfl (by simp;omega) ?_ ?_
 ·exact L.keeps fun o' q=>cs1 _ (cs1 _ (e1 x o' hx q))
 ·rw[Heap.size_push,Heap.size_after_update];exact cx2 (Nat.lt_succ_of_lt xs)
 refine cx9 (wpAny_isInstance (T:="StopIteration") (b:=true) ⟨_,cs4 _ (cs2 _ rfl) rfl,rfl⟩ isSubtype_stop ?_);refine cy5 (k _ fun b ob hb q=> ?_);rw[cs3]
 ·exact cs1 _ (cs1 _ (e1 b ob hb q))
 ·rw[Heap.size_push,Heap.size_after_update];exact Ne.symm (cx2 (Nat.lt_succ_of_lt (cs5 q)))
theorem ba7(I ax x:Addr)(hne:ax≠I)(hx:x≠I)(hh:A.handled=some (.ref x))(items:Array Value):
  Walks prog w A I [I,ax,x] [I] items.size (fun i v=>items[i]?=some v) (fun i h=>(h.IsListIter I ax i/\h.IsList ax items)/\an1 h x) where
 sub:=fun c hc=>by simp at hc;simp[hc]
 frame:=fun _ _ _ st hk=>⟨⟨st.1.1.at fun o e=>hk I (by simp) o e,st.1.2.at fun o e=>hk ax (by simp) o e⟩,st.2.keeps fun o e=>hk x (by simp) o e⟩
 item:=fun j s0 Q0 E0 hj st hQ=>by
  refine wpAny_pyNext_list_item st.1.1 st.1.2 (x:=items[j]) (by simp[hj]) fun h' hit' hs'=> ?_
  exact hQ _ h' s0.toks (by simp[hj]) ⟨⟨hit',st.1.2.extBut hs'.extBut hne⟩,st.2.keeps fun o e=>hs'.extBut x o hx e⟩ fun b o hb e=>hs'.extBut b o (fun h=>hb (by simp[h])) e
 done:=fun s Q E st hQ=>ap0 hh st.2 hx st.1.1 st.1.2 (by simp) fun h' he'=>hQ h' s.toks fun b o hb e=>he' b o (fun h=>hb (by simp[h])) e
 self:=fun _ _ _ _ st hQ=>wpAny_pyIter_listiter st.1.1 hQ
end
end L3
namespace L3
open PySem PySem.Spec PyProof.Rows L2
section
variable {prog:Program}{w:World}{A:Around}{E:Value->Shared->Prop}{s:Shared}{K:W.Frag}{x D:Addr}{ox:Obj}
open PySem.W in
theorem bx8{Q:Option Value->Shared->Prop}(X:K.In s.heap)(I:InstAt s.heap x ox D none)(hga:findIn K (.ref D) "__getattribute__"=some (some (.builtin "BaseException.__getattribute__")))(hk:findIn K (.ref D) "__getattr__"=some none)
  (hf:findObj K D none "__class__"=some (.bind (.builtin "getset_descriptor.__get__") (.builtin "object.__class__"))) (hm:mroIn K D (.type "object")=some true) (hb:mroIn K D (.type "BaseException")=some true)
  (k:Q (some (.ref D)) {s with toks:=s.toks+1}):wpAny (model prog w) A (getAttr? (.ref x) "__class__") Q E s:=by
 obtain⟨hh,g,d,t,os⟩:=s
 (have L0:=I.type (M:=model prog w));(have L1:=looks_findIn (M:=model prog w) X hga);(have L2:=looks_findIn (M:=model prog w) X hk);have L3:=looks_find (M:=model prog w) X I hf
 have L4:Looks (model prog w) hh (isInstance (.ref x) (.type "BaseException")) true:=L0.andThen (looks_mroIn (M:=model prog w) X hb);have n2:(Value.builtin "BaseException.__getattribute__"==Value.builtin "object.__getattribute__")=false:=by decide +kernel
 (unfold getAttr? getAttrBy? getAttrBy);(refine cx9 (wpAny_mkText (cx9 (wpAny_attempt (wpAny_holding (cx9 (L0.at (cx9 (L1.at ?_)))))))));dsimp only
 rw[n2];simp only[Bool.and_false,cr9,if_false]
 (unfold getAttrByItsOwn hookBefore callGetattribute boundAndCalled);rw[cx8 (show onTheHeap (Value.ref D)=true from rfl)]
 refine cx9 (L2.at (cx9 (wpAny_attempt (wpAny_holding ?_))));simp only[Bool.false_and,cr9,if_false];refine cx9 (wpAny_of_eq (PySem.F.excAttr_ValueError.ga.bind (.ref x)) ?_);refine wpAny_call (codeAny_call_builtin PySem.F.excAttr_ValueError.ga.plain PySem.F.entry_bexc_ga ?_);have hkd:builtinKind "BaseException.__getattribute__"=some .slot:=by decide +kernel
 (have hsplit:splitId "BaseException.__getattribute__"=some ("BaseException","__getattribute__"):=by decide +kernel);have ha:=PySem.F.args_bexc_ga (.ref x) (.str "__class__" t)
 simp only[checkBuiltinCall,hkd,hsplit];refine cx9 (L4.at ?_)
 (simp only[Bool.not_true,cr9,if_false]);repeat(any_goals (first |assumption|with_reducible refine L0.at ?_|with_reducible refine L3.at ?_|wp_step))
 refine class_get (od:=none) X I hm ?_;exact cy5 (handed_on rfl (cy5 k))
open PySem.W in
structure az8(K:Frag)(D:Addr):Prop where
 ga:findIn K (.ref D) "__getattribute__"=some (some (.builtin "BaseException.__getattribute__"))
 hk:findIn K (.ref D) "__getattr__"=some none
 fo:findObj K D none "__class__"=some (.bind (.builtin "getset_descriptor.__get__") (.builtin "object.__class__"))
 mo:mroIn K D (.type "object")=some true
 mb:mroIn K D (.type "BaseException")=some true
 cl:(clsIn K D).isSome=true
open PySem.W in
theorem bT0(L:az8 K D):KitX K (.ref x) (.ref D) (fun h=>∃ox,InstAt h x ox D none) where
 ty:=fun _ _ _ ⟨_,I⟩=>I.type
 it:=fun M h X _=>by
  have z:=L.cl;unfold clsIn at z;split at z
  ·rename_i c' d' cd' sl' ho;intro A' Q' E' s' k q;unfold isType loadHead
   (exact cx9 (wpAny_loadPart (k _ _ (X _ _ ho)) (cy5 q)))
  ·cases z
 ne:=fun h tq dd its n sl X hq=>by
  (refine Bool.eq_false_iff.mpr fun q=> ?_);(have e:D=tq:=Value.ref.inj (beq_iff_eq.mp q));subst e
  have z:=L.cl;unfold clsIn at z;split at z
  ·rename_i c' d' cd' sl' ho;have z2:=(X _ _ ho).symm.trans hq;cases z2
  ·cases z
 ca:=fun X ⟨_,I⟩ k=>bx8 X I L.ga L.hk L.fo L.mo L.mb k
end
structure HX(x:Addr)(X:Cx):Prop where
 hh:X.A.handled=some (.ref x)
 lone:an1 X.s₀.heap x
 un:X.H₀ x=none
 nf:x∉X.fs
 ns:x∉frs X.stack
 ne:x∉X.ex
section
variable {X:Cx}{pins:List (Addr×Obj)}{σ:L2.St}{H:Hp}{s:Shared}{x:Addr}
theorem HX.keep(h:HX x X)(I:Inv X pins σ H s){o:Obj}(e:X.s₀.heap.get? x=some o):s.heap.get? x=some o/\H x=none:=⟨I.base.keep x o e h.un h.nf h.ne,I.base.free x o e h.un h.ne⟩
theorem HX.at(h:HX x X)(I:Inv X pins σ H s):an1 s.heap x/\H x=none:=by
 obtain⟨o,vs,e,r⟩:=h.lone;obtain⟨k1,k2⟩:=h.keep I e;exact⟨⟨o,vs,k1,r⟩,k2⟩
theorem HX.lt(h:HX x X):x<X.s₀.heap.objs.size:=by
 obtain⟨o,vs,e,r⟩:=h.lone;exact cs5 e
theorem HX.comp(h:HX x X)(I:Inv X pins σ H s){scope:Scope}{cl:List (Str×Addr)}{C:Addr}{N':List Str}{fp:List Addr}(hf:∀b∈fp,b∈X.ex\/X.s₀.heap.objs.size<=b):HX x (u6 X scope cl C N' s H fp):=by
 obtain⟨k1,k2⟩:=h.at I;refine⟨h.hh,k1,k2,h.ns,h.ns,fun z=> ?_⟩;rcases hf x z with q|q
 ·exact h.ne q
 ·exact absurd (cx0 h.lt q) (Nat.lt_irrefl _)
end
theorem bh0{x:Addr}{P:Program}{w:World}{K:W.Frag}{tg:Expr}(a it:Addr):bM8 (HX x) P w K tg (Itl K a) [it] it (fun i h=>h.IsListIter it a i) where
 mem:=(af0 (P:=P) (w:=w) (K:=K) (tg:=tg) a it).mem
 obj:=(af0 (P:=P) (w:=w) (K:=K) (tg:=tg) a it).obj
 keep:=(af0 (P:=P) (w:=w) (K:=K) (tg:=tg) a it).keep
 item:=by
  intro X hP hw hK hc i pins s σ H E I hf st hg;subst hP hw hK;obtain⟨xs,y,hq,hx⟩:=hg;obtain⟨its,rv,p,hz⟩:=I.list hq;obtain⟨u,hu,ru⟩:=rv.get hx;obtain⟨f0,f1,f2,f3,f4,f5⟩:=hf it (by simp);refine wpAny_pyNext_list_item st p.isList (x:=u) (by simpa using hu) fun h' st' sb=> ?_
  have I1:Inv X pins σ H {s with heap:=h'}:=I.turned (t':=s.toks) (fun b o hb e=>(sb.2 b hb).trans e) f0 f1 f3 f4 f5;obtain⟨o,e,c,d⟩:=id st';exact⟨u,rfl,aQ4 (s:={s with heap:=h'}) e c d (by decide) ⟨y,H,I1,ru,⟨rfl,fun ys hy=>by rw[I.list_inj hy hq];exact hx⟩,st',fun b hb=>(hf b hb).1⟩⟩
 done:=by
  intro X hP hw hK hc i pins s σ H E I hf st hg;subst hP hw hK;obtain⟨xs,hq,hx⟩:=hg;obtain⟨its,rv,p,hz⟩:=I.list hq;obtain⟨f0,f1,f2,f3,f4,f5⟩:=hf it (by simp);have hl:=rv.length;have hxi:x≠it:=fun z=>by
   rcases f3 with q|q
   ·exact hc.ne (by rw[z];exact q)
   ·have :=hc.lt;rw[z]at this;exact absurd (cx0 this q) (Nat.lt_irrefl _)
  exact ap0 hc.hh (hc.at I).1 hxi st p.isList (by simp;omega) fun h' eb=>⟨rfl,I.turned (t':=s.toks) (fun b o hb e=>eb b o hb e) f0 f1 f3 f4 f5⟩
 self:=(af0 (P:=P) (w:=w) (K:=K) (tg:=tg) a it).self
section
variable {X:Cx}{x:Addr}{tg e:Expr}{pos:Pos}
theorem bE9{l:Expr}{tl:TE}(hl:PE X l tl):PIx (HX x) X tg l (bM1 X.K tl):=by
 intro pins s σ H R I h;refine thn (hl pins s σ H _ I h) fun v s1 ⟨y,H1,I1,r1,q1⟩=> ?_
 obtain⟨a,e,⟨xs,hq⟩,q⟩:=q1;subst e;cases r1;obtain⟨its,rv,p,hz⟩:=I1.list hq;refine cy6 p.isList ?_;refine⟨s1.heap.objs.size,[s1.heap.objs.size],_,_,H1,rfl,I1.kept (t':=s1.toks) fun b o e=>cs1 _ e,bh0 a _,⟨_,cs2 _ rfl,rfl,rfl⟩,fun b hb=> ?_,q⟩;have e:b=s1.heap.objs.size:=by simpa using hb
 subst e;exact I1.fpOk (cw8 _) (I1.hok.fresh (cw8 _))
theorem by9(hx:HX x X):O3 X (.builtin "sum") (fun vs H Q=>∃(p:Addr) (ns:List Int),vs=[.ref p]/\H p=some (.lst (ns.map V.int))/\(ns.all fun n=>decide (0<=n)&&decide (n<=1))=true/\ns.length<=1000/\Q (.int ns.sum) H):=by
 intro pins s σ H vs us Q I r h;obtain⟨p,ns,rfl,hp,hb,hn,q⟩:=h;obtain⟨u,rfl,ru⟩:=X6 r;cases ru;obtain⟨its,rv,pl,hz⟩:=I.list (SqL.of hp);have hl:=rv.length;rw[cu6]at hl;have lt:p<s.heap.objs.size:=by obtain⟨o,e,_⟩:=pl.isList;exact cs5 e
 obtain⟨L,hxn⟩:=hx.at I;have ltx:x<s.heap.objs.size:=by obtain⟨o,vs,e,_⟩:=L;exact cs5 e
 have pre:∀j,j<=ns.length->preSum (fun i=>ns.getD i 0) j=(ns.take j).sum:=by
  intro j;induction j with
  |zero=>intro _;rfl
  |succ j ih=>
   intro hj;rw[preSum,ih (by omega),List.take_succ,List.sum_append];have :ns[j]?=some ns[j]:=ct8 (by omega);simp[this]
 have bd:∀n∈ns,0<=n/\n<=1:=fun n hm=>by
  have :=List.all_eq_true.mp hb n hm;simpa using this
 have sb:∀l:List Int,(∀n∈l,0<=n/\n<=1)->0<=l.sum/\l.sum<=l.length:=by
  intro l;induction l with
  |nil=>intro _;simp
  |cons a l ih=>
   intro h;have h1:=h a cv8;have h2:=ih fun n hn=>h n (cv7 _ hn)
   (rw[List.sum_cons,cu5]);omega
 refine call_sum_walk (cy6 pl.isList ?_);refine⟨s.heap.objs.size,_,_,_,_,_,fun i=>ns.getD i 0,rfl,ba7 (A:=X.A.in1) s.heap.objs.size p x (cx2 lt) (cx2 ltx) hx.hh its.toArray,
  ⟨⟨⟨_,cs2 _ rfl,rfl,rfl⟩,pl.isList.push _⟩,L.keeps fun o e=>cs1 _ e⟩,fun b hb=> ?_,fun i v hv=> ?_,fun j hj=> ?_,fun h' tk t' k=> ?_⟩
 ·show b<(s.heap.push _).objs.size;rw[Heap.size_push]
  (simp only[List.mem_cons,List.not_mem_nil,or_false]at hb);(rcases hb with rfl|rfl|rfl)
  ·exact Nat.lt_succ_self _
  ·exact Nat.lt_succ_of_lt lt
  ·exact Nat.lt_succ_of_lt ltx
 ·have hi:i<ns.length:=by
   have hv':its[i]?=some v:=by simpa using hv
   have :=Y5 hv';omega
  obtain⟨u,hu,ru⟩:=rv.get (i:=i) (x:=.int ns[i]) (by rw[cu0,ct8 hi];rfl);have hv':its[i]?=some v:=by simpa using hv
  rw[hu]at hv';cases hv';obtain⟨t,e⟩:=ru;refine⟨t,?_⟩;rw[e];simp[hi]
 ·have hj':j<ns.length:=by simpa[<-hl]using hj
  have e1:ns.getD j 0=ns[j]:=by simp[hj']
  have b1:=bd ns[j] (List.getElem_mem hj');have b2:=sb (ns.take (j+1)) fun n hn=>bd n (List.mem_of_mem_take hn)
  rw[pre (j+1) (by omega)];have b3:(ns.take (j+1)).length<=1000:=by rw[List.length_take];omega
  show InLong (ns.getD j 0)/\_;rw[e1];exact⟨⟨by omega,by omega⟩,⟨by omega,by omega⟩⟩
 ·have e:preSum (fun i=>ns.getD i 0) its.toArray.size=ns.sum:=by
   rw[cw5,<-hl,pre _ (cw8 _),List.take_length]
  rw[e];refine⟨.int ns.sum,H,?_,⟨t',rfl⟩,q⟩;exact I.kept fun b o e=>k b o (fun z=>cx2 (cs5 e) (by simpa using z)) (cs1 _ e)
end
section
variable {X:Cx}{x:Addr}{a b e:Expr}{pos:Pos}
theorem bt0{tg:Expr}{g:L3.G}(h:PX X e g):PIx (HX x) X tg e (tI X.K (itL g)):=fun pins s σ H R I q=>by
 refine bE9 h pins s σ H R I ?_;obtain⟨G,ρ,ts,sG,hρ,hg,q⟩:=q;obtain⟨t,h1,h2⟩:=h9 hg;refine⟨G,ρ,t,sG,hρ,h1,fun v G1 H1 e1 r1=> ?_⟩;cases t<;>first |(cases h2;done)|skip
 cases h2;simp only[Rep]at r1;obtain⟨p,xs,k1,k2,k3⟩:=r1;exact⟨p,k1,⟨xs,SqL.of (e1.s _ _ k2)⟩,q _ G1 H1 e1 (aL9 k2 k3)⟩
theorem bP2{elt target iter:Expr}{ifs:List Expr}{scope:Scope}{it:GL}{is:List Nat}{st:St1}{gc:GB}{ge:L3.G}(hx:HX x X)(N':List Str)(nT:Nat)(caps:List Nat)(chk:O5 X.env.scope X.N scope N' nT caps=true)(hi:PIx (HX x) X target iter (tI X.K it))(his:is.all (fun i=>decide (i<nT))=true)(hg:∀cl C s₀ H₀ fp,Wd (PXG (u6 X scope cl C N' s₀ H₀ fp) target is st))(hc:∀cl C s₀ H₀ fp,Wd (at2 (u6 X scope cl C N' s₀ H₀ fp) ifs gc))(he:∀cl C s₀ H₀ fp,Wd (PX (u6 X scope cl C N' s₀ H₀ fp) elt ge))(hs:∀x,foldedSetIterable iter X.env x=pure x:=by intro _;rfl):Wd (PX X (.ListComp elt [⟨target,iter,ifs,0⟩] scope pos) (o0 it nT caps st gc ge)):=⟨have hg:=fun x0 x1 x2 x3 x4=>(hg x0 x1 x2 x3 x4).run;have hc:=fun x0 x1 x2 x3 x4=>(hc x0 x1 x2 x3 x4).run;have he:=fun x0 x1 x2 x3 x4=>(he x0 x1 x2 x3 x4).run;PE.imp (ca3 (g:=tGt X.K is st) (tc:=tXB X.K gc) (te:=tX X.K ge) N' nT caps (ok:=HX x) (fun _ _ _ _ _ _ _ I hf=>hx.comp I hf) chk hi hg hc he hs) (ay5 his)⟩
theorem bC0{K:W.Frag}:Y1 K (fun vs H Q=>∃(p:Addr) (ns:List Int),vs=[.ref p]/\H p=some (.lst (ns.map V.int))/\(ns.all fun n=>decide (0<=n)&&decide (n<=1))=true/\ns.length<=1000/\Q (.int ns.sum) H) aH5:=by
 intro G H ts xs tz Q sG r hf q
 match ts,hf with
 |[.lst us],hf=>
  obtain⟨ns,h1,h2⟩:=h9 hf;split at h2
  case isFalse=>cases h2
  case isTrue hb=>
  cases h2;rw[cr8,cx6]at hb;obtain⟨y,e,rx⟩:=N7 r;simp only[Rep]at rx;obtain⟨p,ys,k1,k2,k3⟩:=rx;subst k1;have z:=ab1 h1 k3;subst z;exact⟨p,ns,e,sG _ _ k2,hb.1,hb.2,q _ G H (Ext.refl sG) (by simp[Rep])⟩
theorem bD9{p:Pos}{g:L3.G}(hx:HX x X)(hg:Gl X "sum")(hm:X.mg "sum"=none)(ha:Wd (PXA X [e] (gs [g])))(he:starEach [e] X.env=(false,eval e X.env)::starEach [] X.env:=by rfl)(hpl:(backTo pos (starEach [] X.env)).any (·.1)=false:=by rfl):Wd (PX X (.Call (.Name "sum" p) [e] [] pos) (gN aH5 [g])):=⟨have ha:=ha.run;P4 (by9 hx) bC0 hg hm boot_sum ha (by decide) (by decide) he hpl⟩
theorem bC4{K:W.Frag}:E4 K rNe bm7:=by
 intro G H tx ty u v tz Q sG rx ry hf q
 match tx,ty,hf with
 |.int i,.int j,hf=>
  cases hf;simp only[Rep]at rx ry;subst rx ry;refine⟨rfl,?_⟩;rw[show decide (V.int i=V.int j)=decide (i=j) by rw[bg2];rfl];exact q _ G H (Ext.refl sG) (by simp[Rep])
theorem bP4{ga gb:L3.G}(ha:Wd (PX X a ga))(hb:Wd (PX X b gb)):Wd (PXB X (.Compare a [.NotEq] [b] pos) (bOf (g2 bm7 ga gb))):=⟨have ha:=ha.run;have hb:=hb.run;af7 ck1 bC4 ha hb (O9 _)⟩
theorem ay0{p p':Pos}{c:Str}{g:L3.G}{D:Addr}{t:Bool}{cv:V}{cu:Value}{o:Obj}(hx:HX x X)(ho:X.s₀.heap.get? x=some o)(hc:o.cls=.ref D)(hd:o.dict=none)(L:az8 X.K D)(hcls:W.notCls o=true)(hg:Gl X "isinstance")(hm:X.mg "isinstance"=none)(hn:PE X (.Name c p') (tC cv))(hr:∀u,r8 cv u->u=cu)(hone:W.kitOne X.K (.ref D) cu=some t)(ha:Wd (PX X e g))(hs1:starEach [e,.Name c p'] X.env=(false,eval e X.env)::starEach [.Name c p'] X.env:=by rfl)(hs2:starEach [Expr.Name c p'] X.env=(false,eval (.Name c p') X.env)::starEach [] X.env:=by rfl)(hpl:(backTo pos (starEach [Expr.Name c p'] X.env)).any (·.1)=false:=by rfl):Wd (PX X (.Call (.Name "isinstance" p) [e,.Name c p'] [] pos) (aK5 x t g)):=⟨by
 have ha:=ha.run;have cr:O3 X (.builtin "isinstance") (fun vs H Q=>vs=[.ref x,cv]/\Q (.bl t) H):=by
  intro pins s σ H vs us Q I r h;obtain⟨rfl,q⟩:=h;obtain⟨u,w',rfl,r1,r2⟩:=aQ0 r;cases r1;have hwc:=hr _ r2;subst hwc;obtain⟨k1,_⟩:=hx.keep I ho;refine W.kia_one (bT0 L) I.kIn ⟨o,⟨k1,hc,hcls,by rw[hd];trivial⟩⟩ hone (fun z=>nomatch z) fun tk=>⟨.bl t,H,I.tok _,rfl,q⟩
 refine PE.imp (aC3 cr hg hm boot_isinstance (O4 ha (O4 hn Y4 hs2) hs1) (by decide) (by decide) hs1 hpl) fun σ H Q ⟨G,ρ,t',sG,hρ,hgg,q⟩=> ?_
 obtain⟨tv,h1,h2⟩:=h9 hgg
 match tv,h1,h2 with
 |.ref a,h1,h2=>
  dsimp only at h2;split at h2
  case isFalse=>cases h2
  case isTrue ea=>
  cases h2;subst ea;refine⟨G,ρ,.ref a,sG,hρ,h1,fun v G1 H1 e1 r1=> ?_⟩;simp only[Rep]at r1;subst r1;exact⟨rfl,q _ G1 H1 e1 (by simp[Rep])⟩⟩
theorem bw5:MtM X "list.index" (fun y vs H Q=>∃(l:Addr) (bs:List Bool) (j:Nat),y=.ref l/\vs=[.bl true]/\H l=some (.lst (bs.map V.bl))/\bs.findIdx? id=some j/\bs.length<=1000/\Q (.int j) H):=by
 intro pins s σ H y vs v us Q I rx rv h;obtain⟨l,bs,j,rfl,rfl,hH,hj,hl,q⟩:=h;cases rx;obtain⟨u,rfl,ru⟩:=rv.one;cases ru;obtain⟨z,its,n,r,hln,e⟩:=I.lstM hH;rw[cu6]at hln;have item:∀(m:Nat) (hm:m<its.length),its[m]=.bool (bs[m]'(by omega)):=fun m hm=>by
  obtain⟨w1,h1,h2⟩:=r.get (i:=m) (x:=.bl (bs[m]'(by omega))) (by rw[cu0,ct8 (by omega)];rfl);rw[ct8 hm]at h1;cases h1;exact h2
 obtain⟨hjl,hj1,hj2⟩:=List.findIdx?_eq_some_iff_getElem.mp hj;refine call_meets F.slot_list_index ⟨_,e,rfl⟩ F.entry_list_index (F.args_list_index_2 _ _) (SeqAt.list_indexAt l its.toArray n none #[] (.bool true) (fun v=>match v with |.bool k=>k==true|_=>false) j (by simp;omega) (by omega) ?_ ?_) ⟨e,?_,?_⟩
 ·have :its.toArray[j]'(by simp;omega)=.bool bs[j]:=by simpa using item j (by omega)
  rw[this];simpa using hj1
 ·intro m hm hmj;have hm':m<its.length:=by simpa using hm
  have :its.toArray[m]'hm=.bool (bs[m]'(by omega)):=by simpa using item m hm'
  rw[this];have :=hj2 m hmj;simpa using this
 ·intro y hy;have hy':y∈its:=by simpa using hy
  obtain⟨m,hm,rfl⟩:=List.getElem_of_mem hy';rw[item m hm];exact SeqAt.EqAt.bool_bool _ _
 ·exact⟨.int j,H,I.tok _,⟨_,rfl⟩,q⟩
theorem bj0{apos cpos p:Pos}{o:Expr}{k:Nat}{g:L3.G}(h:Wd (PX X o g))(hbase:attributeBase o "index" X.env (eval o X.env)=eval o X.env:=by rfl)(hfew:((backTo cpos (starEach [.Constant (.bool true) k p] X.env)).all (fun x=> !x.1)&&(backToKw cpos (keywordEach [] X.env)).all (fun x=>x.1.isSome)
   &&decide (([Expr.Constant (.bool true) k p]).length+([]:List Keyword).length+(if([]:List Keyword).isEmpty then 0 else 1)<30))=true:=by rfl) (hline:(apos.endLine==cpos.line)=true:=by rfl) (hs:starEach [.Constant (.bool true) k p] X.env=(false,eval (.Constant (.bool true) k p) X.env)::starEach [] X.env:=by rfl) (hplain:(backTo cpos (starEach [] X.env)).any (·.1)=false:=by rfl):Wd (PX X (.Call (.Attribute o "index" apos) [.Constant (.bool true) k p] [] cpos) (g1 aK6 g)):=⟨by
 have h:=h.run;refine PE.imp (bj5 PySem.F.plainAttrs_list PySem.F.slot_list_index PySem.F.type_list_index bw5 h (O4 bj6 Y4 hs) hbase hfew hline hs hplain) fun σ H Q ⟨G,ρ,t,sG,hρ,hg,q⟩=> ?_
 obtain⟨tv,h1,h2⟩:=h9 hg;refine⟨G,ρ,tv,sG,hρ,h1,fun v G1 H1 e1 r1=> ?_⟩;cases tv<;>first |(cases h2;done)|skip
 rename_i us;obtain⟨bs,h3,h2⟩:=h9 h2;obtain⟨j,h4,h2⟩:=h9 h2;split at h2
 case isFalse=>cases h2
 case isTrue hb=>
 cases h2;simp only[Rep]at r1;obtain⟨l,xs,k1,k2,k3⟩:=r1;subst k1;have z:=as9 h3 k3;subst z;refine⟨.inl ⟨rfl,_,SqL.of (e1.s _ _ k2)⟩,⟨l,bs,j,rfl,rfl,e1.s _ _ k2,h4,hb,q _ G1 H1 e1 (by simp[Rep])⟩⟩⟩
end
section
variable {P:Program}{w:World}{K:W.Frag}{mg:Str->Option Value}{base:Heap}
theorem bm0{b:Bool}{CX:CXT}{N ps:List Str}{qual:Str}{scope:Scope}{f:Addr}{cd:Value}{A:Around}{outer:List Env}{s s1:Shared}{H:Hp}{E:XK}{us:List Value}{vs:List V}
  (S:l0 N ps scope) (hd:b=true->A.handled=none) (e0:an4 P w K mg base A outer s H) (hl:vs.length=ps.length) (r:o9 vs us)
  (x:InCallC s s.heap.objs.size (bindL (envOfC qual scope s.heap.objs.size f cd).kindOf (ps.zip us) fun _=>none) (cellsFrom (s.heap.objs.size+1) scope.names []) (bindC (envOfC qual scope s.heap.objs.size f cd).kindOf (ps.zip us) fun _=>none) s1):
  Inv {w4 CX P w K mg base N qual scope f cd A outer s H E with calm:=b} [] (start N vs) H s1:=by
 have e1:an4 P w K mg base {A with handled:=none} outer s H:=⟨e0.frames,e0.mod,e0.bs,e0.bsz,e0.funs,e0.frf,e0.hok,e0.bare⟩
 have I:=aN3 (CX:=CX) (E:=E) S rfl e1 hl r x;obtain⟨o,i1,i2,i3,i4,i5,i6,i7,i8,i9,i10⟩:=I;exact⟨⟨o.mod,o.kind,o.glob,o.blt,o.above,o.inj,o.has,o.cab,hd,Around.frames_deeper e0.frames,o.stk,o.exf,o.bs,o.bsz,o.noex,o.exfs,o.funs,o.frf⟩,i1,i2,i3,i4,i5,i6,i7,i8,i9,i10⟩
theorem bx6{b:Bool}{CX:CXT}{x qual:Str}{st:Stmt}{f:Addr}{fd:FuncData}{N ps:List Str}{A:Around}{outer:List Env}{s:Shared}{H:Hp}{args:Args}{us:List Value}{vs:List V}{Q:VK}{E:XK}
  (F:Fun K x qual st f fd) (S:l0 N ps (j4 st)) (hd:b=true->A.handled=none) (hdp:A.depth<recursionLimit) (e0:an4 P w K mg base A outer s H) (hl:vs.length=ps.length) (hb:BindsTo s fd args (ps.zip us)) (r:o9 vs us)
  (hbody:∀cdv s1,Inv {w4 CX P w K mg base N qual (j4 st) f cdv A outer s H E with calm:=b} [] (start N vs) H s1->wpAny (model P w) (A.deeper (envOfC qual (j4 st) s.heap.objs.size f cdv)) (execs (A7 st) (envOfC qual (j4 st) s.heap.objs.size f cdv)) (SP {w4 CX P w K mg base N qual (j4 st) f cdv A outer s H E with calm:=b} [] {nx:=fun _ H'=>Q .non H',rt:=Q}) (w4 CX P w K mg base N qual (j4 st) f cdv A outer s H E).xe s1):
  codeAny (model P w) A (.call (.ref f) args) (CR CX outer P w H s Q E) s:=by
 obtain⟨oc,od,kV,doc,pm,an,cdv,ct,osl,rfl,lk,hcd⟩:=F.ex;have KX:K.In s.heap:=e0.mod.kin.keeps fun b o e=>(e0.bs b o e).1
 have lim:s.heap.NoLimit:=e0.mod.nolimit.keeps fun b o e=>(e0.bs b o e).1
 have hkind:∀y∈ps.zip us,(j4 st).names.lookup y.1=some .local\/((j4 st).names.lookup y.1=some .cell/\((cellsFrom (s.heap.objs.size+1) (j4 st).names []).lookup y.1).isSome=true):=fun⟨n,v⟩ hy=>by
  rcases S.par n (cw1 hy).1 with q|q
  ·exact .inl q
  ·exact .inr ⟨q,W.cellsFrom_some _ _ _ (.inl q)⟩
 refine codeAny_call_function hdp (KX _ _ lk) rfl S.co S.gen rfl (W.codeRec_of KX hcd) (hb _ _ _ _ ?_);refine wpAny_newFunctionEnv_cells S.kind hkind fun env he s1 x=> ?_
 subst he;refine⟨lim.keeps x.toInCall.keep,codeAny_func ?_⟩;have I:=bm0 (CX:=CX) (E:=E) S hd e0 hl r x;refine cy2 (hbody cdv s1 I) (fun fl s' hs=> ?_) fun e s' hs=>hs
 have fin:∀{σ':L2.St}{H':Hp}{v:V}{u:Value},Inv {w4 CX P w K mg base N qual (j4 st) f cdv A outer s H E with calm:=b} [] σ' H' s'->r8 v u->Q v H'->CE outer P w H s Q u s':=
  fun{σ' H' v u} J rv q=>⟨v,H',J.os,J.bare,J.base,J.hok,rv,q⟩
 cases fl with
 |ret u=>
  obtain⟨v,σ',H',J,rv,q⟩:=hs;exact fin J rv q
 |next=>
  obtain⟨σ',H',J,q⟩:=hs;exact fin (v:=V.non) (u:=Value.none) J rfl q
 |brk=>
  obtain⟨_,_,_,q⟩:=hs;exact False.elim q
 |cont=>
  obtain⟨_,_,_,q⟩:=hs;exact False.elim q
theorem cl4{b:Bool}{CX:CXT}{x qual:Str}{st:Stmt}{f:Addr}{fd:FuncData}{N ps:List Str}{A:Around}{outer:List Env}{s:Shared}{H:Hp}{args:Args}{us:List Value}{vs:List V}{Q:VK}{E:XK}
  (F:Fun K x qual st f fd) (S:l0 N ps (j4 st)) (hd:b=true->A.handled=none) (hdp:A.depth<recursionLimit) (e0:an4 P w K mg base A outer s H) (hl:vs.length=ps.length) (hb:BindsTo s fd args (ps.zip us)) (r:o9 vs us)
  (hbody:∀cdv,∃t,PSs {w4 CX P w K mg base N qual (j4 st) f cdv A outer s H E with calm:=b} (A7 st) t/\t {nx:=fun _ H'=>Q .non H',rt:=Q} (start N vs) H):
  codeAny (model P w) A (.call (.ref f) args) (CR CX outer P w H s Q E) s:=
 bx6 F S hd hdp e0 hl hb r fun cdv s1 I=>let⟨_,ht,hq⟩:=hbody cdv;ht [] s1 (start N vs) H _ I hq
theorem ce2{b:Bool}{CX:CXT}{x qual:Str}{st:Stmt}{f:Addr}{fd:FuncData}{N ps:List Str}{A:Around}{outer:List Env}{s:Shared}{H G:Hp}{args:Args}{us:List Value}{vs:List V}{ts:List T}{t:T}{Q:VK}{E:XK}{g:GS}
  (F:Fun K x qual st f fd) (S:l0 N ps (j4 st)) (hd:b=true->A.handled=none) (hdp:A.depth<recursionLimit) (e0:an4 P w K mg base A outer s H) (hb:BindsTo s fd args (ps.zip us)) (r:o9 vs us) (np:ps.length<=N.length)
  (hbody:∀cdv,ag5 {w4 CX P w K mg base N qual (j4 st) f cdv A outer s H E with calm:=b} (A7 st) g)
  (sG:Sub G H) (rr:j5 K G ts vs) (hl:ts.length=ps.length) (hf:av3 (g (l9 N.length ts))=some t) (q:∀v G' H',Ext G H G' H'->Rep K G' t v->Q v H'):
  codeAny (model P w) A (.call (.ref f) args) (CR CX outer P w H s Q E) s:=by
 refine cl4 (b:=b) F S hd hdp e0 (by rw[rr.length,hl]) hb r fun cdv=>⟨_,hbody cdv,?_⟩
 have hρ:=aa7 (N:=N) rr (by omega);cases hg:g (l9 N.length ts)with
 |none=>rw[hg]at hf;cases hf
 |some o=>
  rw[hg]at hf;refine⟨G,_,o,sG,hρ,hg,?_⟩;cases o with
  |nx ρ=>cases hf;exact fun σ' G' H' e' _=>q .non G' H' e' (by simp[Rep])
  |ret t'=>cases hf;exact fun v G' H' e' rv=>q v G' H' e' rv
  |bk ρ=>cases hf
  |ct ρ=>cases hf
theorem HX.start{x:Addr}{b:Bool}{CX:CXT}{N:List Str}{qual:Str}{scope:Scope}{f:Addr}{cd:Value}{A:Around}{outer:List Env}{s:Shared}{H:Hp}{E:XK}(hh:A.handled=some (.ref x))(L:an1 s.heap x)(un:H x=none)(nf:x∉frs outer):
  HX x {w4 CX P w K mg base N qual scope f cd A outer s H E with calm:=b}:=by
 refine⟨hh,L,un,nf,fun z=> ?_,fun z=>absurd (show x∈([]:List Addr)from z) (by simp)⟩;rcases List.mem_cons.mp (show x∈s.heap.objs.size::frs outer from z)with e|e
 ·obtain⟨o,vs,h,_⟩:=L;exact absurd (cs5 h) (by rw[e];exact Nat.lt_irrefl _)
 ·exact nf e
end
theorem T9{env:Env}(f:Str×NameKind->List (Str×Addr)->Sem (ForInStep (List (Str×Addr))))(hf:f=fun x cs=>(do let r<-(if(x.2==NameKind.free)=true then do let c<-cellOf env x.1;pure ((x.1,c)::cs)else pure cs);pure (ForInStep.yield r))):∀(names:List (Str×NameKind)) (acc:List (Str×Addr)),(∀x,(x,NameKind.free)∈names->∃c,env.cells.lookup x=some c)->(∀x c,acc.lookup x=some c->env.cells.lookup x=some c)->
  ∃cl:List (Str×Addr),forIn names acc f=(pure cl:Sem _)/\(∀x c,cl.lookup x=some c->env.cells.lookup x=some c)/\(∀x,(x,NameKind.free)∈names->∃c,cl.lookup x=some c)/\∀x c,acc.lookup x=some c->∃c',cl.lookup x=some c'
 |[],acc,_,h2=>⟨acc,rfl,h2,fun x hx=>absurd hx (by simp),fun x c h=>⟨c,h⟩⟩
 |(n,k)::r,acc,h1,h2=>by
  by_cases hk:(k==NameKind.free)=true
  ·obtain⟨c,hc⟩:=h1 n (by rw[eq_of_beq hk];exact cv8);have h2':∀x c',((n,c)::acc).lookup x=some c'->env.cells.lookup x=some c':=fun x c' h=>by
    rw[cv0]at h;by_cases e:(x==n)=true
    ·rw[e]at h;cases h;rw[eq_of_beq e];exact hc
    ·rw[Bool.not_eq_true]at e;rw[e]at h;exact h2 x c' h
   obtain⟨cl,e,q1,q2,q3⟩:=T9 f hf r ((n,c)::acc) (fun x hx=>h1 x (cv7 _ hx)) h2';refine⟨cl,?_,q1,fun x hx=> ?_,fun x c' h=> ?_⟩
   ·rw[List.forIn_cons];have :f (n,k) acc=pure (ForInStep.yield ((n,c)::acc)):=by
     subst hf;dsimp only;rw[cx8 hk];simp only[cellOf,hc,pure_bind]
    rw[this,pure_bind];exact e
   ·rcases List.mem_cons.mp hx with z|z
    ·cases z;exact q3 _ c (by rw[cv0,beq_self_eq_true])
    ·exact q2 x z
   ·by_cases en:(x==n)=true
    ·exact q3 x c (by rw[cv0,en])
    ·rw[Bool.not_eq_true]at en;exact q3 x c' (by rw[cv0,en];exact h)
  ·obtain⟨cl,e,q1,q2,q3⟩:=T9 f hf r acc (fun x hx=>h1 x (cv7 _ hx)) h2;refine⟨cl,?_,q1,fun x hx=> ?_,q3⟩
   ·rw[List.forIn_cons];have :f (n,k) acc=pure (ForInStep.yield acc):=by
     subst hf;dsimp only;rw[cx7 hk,pure_bind]
    rw[this,pure_bind];exact e
   ·rcases List.mem_cons.mp hx with z|z
    ·cases z;exact absurd rfl hk
    ·exact q2 x z
theorem bn3{env:Env}{scope:Scope}(h:∀x,(x,NameKind.free)∈scope.names->∃c,env.cells.lookup x=some c):
  ∃cl:List (Str×Addr),closureFor scope env=pure cl/\(∀x c,cl.lookup x=some c->env.cells.lookup x=some c)/\∀x,(x,NameKind.free)∈scope.names->∃c,cl.lookup x=some c:=by
 obtain⟨cl,e,q1,q2,_⟩:=T9 (env:=env) _ rfl scope.names [] h (fun x c z=>by cases z);refine⟨cl,?_,q1,q2⟩;unfold closureFor;have :∀(g g':Str×NameKind->List (Str×Addr)->Sem (ForInStep (List (Str×Addr)))),g=g'->forIn scope.names [] g=forIn scope.names [] g':=fun g g' z=>by rw[z]
 refine Eq.trans (congrArg (fun m:Sem (List (Str×Addr))=>m>>=fun cs=>pure cs) (this _ _ ?_)) ((congrArg (fun m:Sem (List (Str×Addr))=>m>>=fun cs=>pure cs) e).trans (by rw[pure_bind]))
 funext x cs
 obtain⟨n,k⟩:=x;dsimp only;split<;>simp
theorem bQ9{X:Cx}{E:XK}(hstk:X.stack=X.env::X.outer)(hfr:X.env.frame=some X.env.locals)(hex:X.ex=[])
  (hxe:X.xe=fun e s'=>wpAny (model X.prog X.w) X.A (leaving X.env e) (fun _ s''=>CX1 X.prog X.w X.outer X.H₀ X.s₀ E e s'') (fun e' s''=>CX1 X.prog X.w X.outer X.H₀ X.s₀ E e' s'') s'):
  Y8 (CX1 X.prog X.w) X E:=fun pins σ H s e s' I h=>by
 obtain⟨ea,C,H',B,rfl,T,q⟩:=h;have hL:∀b o,X.s₀.heap.get? b=some o->b≠X.env.locals:=fun b o z=>cx2 (cx0 (cs5 z) I.ok.above)
 rw[hxe];rw[hstk]at T;refine aN7 (env:=X.env) (outer:=X.outer) (L:=X.env.locals) (by rw[<-hstk];exact I.ok.frames) hfr T.fly fun h' F u=> ?_
 have T2:X2 X.prog X.w (X.env::X.outer) H s B ea C .none H' s':=T;have isT:∀b,H' b≠none->∃o,s'.heap.get? b=some o/\h'.get? b=some o:=fun b q=>by
  obtain⟨o,z⟩:=T.trk b q;exact⟨o,T.fly.st b o z,F.st b o z⟩
 have nfr:∀b,b∉frs X.outer->(∃o,X.s₀.heap.get? b=some o)->b∉frs (X.env::X.outer):=fun b nb ⟨o,z⟩ y=>by
  rcases List.mem_cons.mp (show b∈X.env.locals::frs X.outer by simpa[frs,hfr]using y)with y|y
  ·exact hL b o z y
  ·exact nb y
 have same:∀b o,s'.heap.get? b=some o->(∃v,X.s₀.heap.get? b=some v)->b∉frs X.outer->B.get? b=some o:=fun b o q v nb=>by
  obtain⟨v,hv⟩:=v;obtain⟨v2,hv2⟩:=I.base.there b v hv (by rw[hex];simp);exact T.old b o q ⟨v2,hv2⟩ (nfr b nb ⟨v,hv⟩)
 refine⟨ea,C,H',B,rfl,⟨T.os.trans I.os,T.bare,⟨fun b o z n nb hx=> ?_,fun b o z n nb hx=> ?_,fun b o z n hx=> ?_,fun b o z hx=> ?_,fun b xs z=>T.un.tups b xs (I.base.tups b xs z),fun b o xs z=>T.un.frzs b o xs (I.base.frzs b o xs z),fun b ps z=> ?_⟩,ar4 T.hok isT,T.ne,F,fun b o z v nb=> ?_,T.trk⟩,q⟩
 ·have z1:=I.base.keep b o z n nb (by rw[hex];simp);have n1:=I.base.free b o z n (by rw[hex];simp);have z2:=T.un.keep b o z1 n1 (nfr b nb ⟨o,z⟩) (by simp);exact F.st b o (same b o z2 ⟨o,z⟩ nb)
 ·obtain⟨sl,z1⟩:=I.base.slot b o z n nb (by rw[hex];simp);have n1:=I.base.free b o z n (by rw[hex];simp);obtain⟨sl2,z2⟩:=T.un.any z1 n1 (by simp);have nf:∀vs,o.data≠.fields vs:=fun vs y=>by
   obtain⟨_,o2,z3,z4⟩:=T.fly.fr.mem (show b∈(X.env::X.outer).filterMap (·.frame) by simp[hfr];exact .inr (by simpa[frs]using nb));rw[z2]at z3;cases z3;exact z4 vs y
  obtain⟨sl3,z3⟩:=u b _ z2 nf;exact⟨sl3,z3⟩
 ·obtain⟨o',z1⟩:=I.base.there b o z (by rw[hex];simp);exact T.un.free b o' z1 (I.base.free b o z n (by rw[hex];simp)) (by simp)
 ·obtain⟨o1,z1⟩:=I.base.there b o z (by rw[hex];simp);obtain⟨o2,z2⟩:=T.un.there b o1 z1 (by simp);by_cases nb:b∈frs X.outer
  ·obtain⟨_,o3,z3,z4⟩:=T.fly.fr.mem (show b∈(X.env::X.outer).filterMap (·.frame) by simp[hfr];exact .inr (by simpa[frs]using nb));obtain⟨sl,z5⟩:=u b o3 z3 z4;exact⟨_,z5⟩
  ·exact⟨o2,F.st b o2 (same b o2 z2 ⟨o,z⟩ nb)⟩
 ·obtain⟨m1,z1⟩:=I.base.tbls b ps z;obtain⟨m2,z2⟩:=T.un.tbls b _ z1;exact⟨m1++m2,by rw[z2,Array.append_assoc]⟩
 ·obtain⟨v,hv⟩:=v;obtain⟨o1,z1⟩:=I.base.there b v hv (by rw[hex];simp);obtain⟨o2,z2⟩:=T.un.there b o1 z1 (by simp);have z3:=same b o2 z2 ⟨v,hv⟩ nb;have z4:=F.st b o2 z3;rw[z4]at z;cases z;exact z3
noncomputable def aG7(X:Cx)(E:XK)(qual:Str)(scope:Scope)(fa c':Addr)(cl:List (Str×Addr))(N:List Str)(s:Shared)(H:Hp):Cx where
 prog:=X.prog
 w:=X.w
 K:=X.K
 mg:=X.mg
 base:=X.base
 A:=X.A.deeper (W.envX qual scope s.heap.objs.size fa (.ref c') cl)
 N:=N
 s₀:=s
 H₀:=H
 env:=W.envX qual scope s.heap.objs.size fa (.ref c') cl
 outer:=X.stack
 stack:=W.envX qual scope s.heap.objs.size fa (.ref c') cl::X.stack
 ex:=[]
 fn:=fun _=>false
 calm:=true
 pn:=[]
 xe:=fun e s'=>wpAny (model X.prog X.w) (X.A.deeper (W.envX qual scope s.heap.objs.size fa (.ref c') cl)) (leaving (W.envX qual scope s.heap.objs.size fa (.ref c') cl) e) (fun _ s''=>CX1 X.prog X.w X.stack H s E e s'') (fun e' s''=>CX1 X.prog X.w X.stack H s E e' s'') s'
structure ch7(scope:Scope)(cl:List (Str×Addr))(N:List Str)(vs:List V)(H:Hp)(h:Heap):Prop where
 inj:∀x y c,cl.lookup x=some c->cl.lookup y=some c->x=y
 has:∀x,(scope.names.lookup x=some .cell\/scope.names.lookup x=some .free)->∃c,cl.lookup x=some c
 cell:∀x c,cl.lookup x=some c->(∃v,h.IsCell c v)/\H c=none
 val:∀(i:Nat) (x:Str) (v:V),N[i]?=some x->vs[i]?=some v->scope.names.lookup x=some .free/\∃c u,cl.lookup x=some c/\h.IsCell c (some u)/\r8 v u
 len:vs.length=N.length
theorem bl8{X:Cx}{E:XK}{qual:Str}{scope:Scope}{fa c':Addr}{cl:List (Str×Addr)}{N:List Str}{s:Shared}{H:Hp}:Y8 (CX1 X.prog X.w) (aG7 X E qual scope fa c' cl N s H) E:=
 bQ9 rfl rfl rfl rfl
section
variable {X:Cx}{pins:List (Addr×Obj)}{σ:L2.St}{H:Hp}{s:Shared}{E:XK}{qual:Str}{scope:Scope}{fa c':Addr}{cl:List (Str×Addr)}{N:List Str}{vs:List V}
theorem bS9(I:Inv X pins σ H s)(hd:X.A.handled=none)(C:ch7 scope cl N vs H s.heap)(hk:scope.kind=.function){h1:Heap}{tk:Tok}{m:Str->Option Value}(hns:h1.Ns s.heap.objs.size m)(hk1:∀b o,s.heap.get? b=some o->h1.get? b=some o):
  Inv (aG7 X E qual scope fa c' cl N s H) [] (vs.map some) H {s with heap:=h1,toks:=tk}:=by
 have noA:∀b:Addr,b∉(aG7 X E qual scope fa c' cl N s H).ex:=fun b z=>absurd (show b∈([]:List Addr)from z) (by simp)
 have e0:=I.env0;refine⟨⟨e0.mod,hk,rfl,rfl,cw8 _,C.inj,C.has,fun y c z=>absurd (show false=true from z) (by simp),fun _=>hd,Around.frames_deeper e0.frames,.inr ⟨rfl,rfl⟩,fun b z=>absurd z (noA b),e0.bs,e0.bsz,fun b _ _=>noA b,fun b z=>absurd z (noA b),e0.funs,e0.frf⟩,
  rfl,e0.bare,Un.kept hk1,⟨_,hns,fun i y v q1 q2 q3=> ?_⟩,fun y c h=> ?_,e0.hok.fresh (cw8 _),fun y c h=>(C.cell y c h).2,fun p hp=>absurd (show p∈([]:List (Addr×Obj))from hp) (by simp),e0.hok.kept hk1,?_⟩
 ·have q2':vs[i]?=some v:=by
   rw[cu0]at q2;cases z:vs[i]? with
   |none=>rw[z]at q2;cases q2
   |some a=>rw[z]at q2;cases q2;rfl
  obtain⟨kf,c,u,k1,k2,k3⟩:=C.val i y v q1 q2';refine⟨u,k3,.inr ⟨.inr kf,c,k1,?_⟩⟩;obtain⟨o,z1,z2⟩:=k2;exact⟨o,hk1 _ _ z1,z2⟩
 ·obtain⟨⟨v,o,z1,z2⟩,_⟩:=C.cell y c h;exact⟨v,o,hk1 _ _ z1,z2⟩
 ·rw[cu6];exact C.len
theorem by2{params:Arguments}{body:Expr}{pm ctv:Value}{Q:VK}{t:TE}(I:Inv X pins σ H s)(hd:X.A.handled=none)(hdp:X.A.depth<recursionLimit)
  (ho:s.heap.get? fa=some (W.kla_obj "<lambda>" qual params body scope cl pm c' ctv)) (hcd:s.heap.CodeRec (.ref c') qual)
  (hbind:bindArgs (W.kla_fn "<lambda>" qual params body scope cl pm (.ref c') ctv) ⟨[],[]⟩=pure []) (C:ch7 scope cl N vs H s.heap)
  (hk:scope.kind=.function) (hco:scope.isCoroutine=false) (hgen:scope.isGenerator=false) (hcell:∀x∈scope.names,x.2≠.cell)
  (hbody:PE (aG7 X E qual scope fa c' cl N s H) body t) (ht:t (vs.map some) H Q) (hx:Y8 (CX1 X.prog X.w) X E):
  wpAny (model X.prog X.w) X.A (call (.ref fa) []) (EP X pins σ Q) X.xe s:=by
 have e0:=I.env0;have lim:s.heap.NoLimit:=e0.mod.nolimit.keeps fun b o e=>(e0.bs b o e).1
 have main:codeAny (model X.prog X.w) X.A (.call (.ref fa) ⟨[],[]⟩) (CR (CX1 X.prog X.w) X.stack X.prog X.w H s Q E) s:=by
  refine W.kla_callFunE hdp ho rfl hco hgen rfl hcd ?_;rw[hbind];refine cy5 (wpAny_newFunctionEnv hcell (fun y hy=>absurd hy (by simp)) (fun h1 hns hsb=>⟨lim.fresh _ hsb,?_⟩) hk);show codeAny _ _ (.expr body (W.envX qual scope s.heap.objs.size fa (.ref c') cl)) _ _;have hk1:∀b o,s.heap.get? b=some o->h1.get? b=some o:=fun b o e=>hsb.extBut b o (cx2 (cs5 e)) (cs1 _ e)
  have J:=bS9 (E:=E) (qual:=qual) (fa:=fa) (c':=c') (tk:=s.toks+0) I hd C hk hns hk1;refine W.kla_codeExpr (cy2 (hbody [] _ _ H Q J ht) (fun v s' ⟨v',H',J',r,q⟩=> ?_) fun e s' h=> ?_)
  ·exact⟨v',H',J'.os,J'.bare,J'.base,J'.hok,r,q⟩
  ·exact cy2 h (fun _ _ z=>z) fun _ _ z=>z
 refine wpAny_call (codeAny_mono main fun r s' hq=> ?_);cases r with
 |error e=>exact hx pins σ H s e s' I hq
 |ok fl=>
  cases fl with
  |ret u=>exact I.after hq
  |next=>exact False.elim hq
  |brk=>exact False.elim hq
  |cont=>exact False.elim hq
end
section
variable {X:Cx}{pins:List (Addr×Obj)}{σ:L2.St}{H:Hp}{s:Shared}
theorem bT5{M:Model}{A:Around}{E:Value->Shared->Prop}{i:Nat}{x:Str}{pos:Pos}{Q:Unit->Shared->Prop}(I:Inv X pins σ H s)(hN:X.N.Nodup)(hi:X.N[i]?=some x)(hk:X.env.scope.names.lookup x=some .local)
  (h:∀s',Inv X pins (σ.set i none) H s'->Q () s'):wpAny M A (do bindName X.env x .none;unbindBehindTheSuite X.env x pos) Q E s:=by
 obtain⟨m,hn,hl⟩:=id I.loc;have hcls:(X.env.scope.kind==.class||(X.env.scope.kind==.module&&X.env.locals !=X.env.globals))=false:=by rw[I.ok.kind];rfl
 have hiσ:i<σ.length:=by rw[I.len];exact(List.getElem?_eq_some_iff.mp hi).1
 have cne:=I.cne;refine wpAny_nameGoes_keeps hk hn hcls fun h' v hn' hs=> ?_
 obtain⟨oL,_,_,hoL,_⟩:=id hn;have away:∀b o,X.s₀.heap.get? b=some o->h'.get? b=s.heap.get? b:=fun b o e=>hs.2 b (cx2 (cx0 (cs5 e) I.ok.above))
 have tr:HOk X.prog X.w H h':=fun b ob e=>by
  refine(I.hok b ob e).stay (fun c w' hc q=>(hs.2 c ?_).trans q) (fun _ q=>q) fun _ _ q=>q
  rintro rfl;rcases hc with rfl|hc
  ·rw[I.free]at e;cases e
  ·rw[I.free]at hc;cases hc
 refine h _ ⟨I.ok,I.os,I.bare,⟨fun b o e n hb hx=> ?_,fun b o e n hb hx=> ?_,I.base.free,fun b o e hx=> ?_,I.base.tups,I.base.frzs,I.base.tbls⟩,⟨_,hn',fun j y v' e1 e2 e3=> ?_⟩,fun y c e=> ?_,I.free,I.freeC,fun p hp=> ?_,tr,by simpa using I.len⟩
 ·exact(away b o e).trans (I.base.keep b o e n hb hx)
 ·obtain⟨sl,e1⟩:=I.base.slot b o e n hb hx;exact⟨sl,(away b o e).trans e1⟩
 ·obtain⟨o',e1⟩:=I.base.there b o e hx;exact⟨o',(away b o e).trans e1⟩
 ·by_cases hj:j=i
  ·subst hj;rw[cu3 hiσ]at e2;cases e2
  ·rw[cu2 (Ne.symm hj)]at e2;obtain⟨u',r',q⟩:=hl j y v' e1 e2 e3;refine⟨u',r',?_⟩;rcases q with⟨k,e⟩|⟨k,c,e,z⟩
   ·refine .inl ⟨k,?_⟩;have :y≠x:=fun e=>hj (aC7 hN e1 (e▸hi))
    simp[this,e]
   ·exact .inr ⟨k,c,e,z.sameBut hs (cne y c e)⟩
 ·obtain⟨w',z⟩:=I.cell y c e;exact⟨w',z.sameBut hs (cne y c e)⟩
 ·obtain⟨e,n,ne,nf,d⟩:=I.pin p hp;exact⟨(hs.2 p.1 ne).trans e,n,ne,nf,d⟩
noncomputable abbrev aj4(X:Cx)(e:Value)(xe:Value->Shared->Prop):Cx:={X with A:=X.A.mark (some e),calm:=false,xe:=xe}
theorem Inv.mark(I:Inv X pins σ H s)(e:Value)(xe:Value->Shared->Prop):Inv (aj4 X e xe) pins σ H s:=
 ⟨⟨I.ok.mod,I.ok.kind,I.ok.glob,I.ok.blt,I.ok.above,I.ok.inj,I.ok.has,I.ok.cab,fun z=>absurd (show false=true from z) (by simp),I.ok.frames,I.ok.stk,I.ok.exf,I.ok.bs,I.ok.bsz,I.ok.noex,I.ok.exfs,I.ok.funs,I.ok.frf⟩,I.os,I.bare,I.base,I.loc,I.cell,I.free,I.freeC,I.pin,I.hok,I.len⟩
theorem Inv.unmark{e:Value}{xe:Value->Shared->Prop}(ok:X.Ok)(I:Inv (aj4 X e xe) pins σ H s):Inv X pins σ H s:=
 ⟨ok,I.os,I.bare,I.base,I.loc,I.cell,I.free,I.freeC,I.pin,I.hok,I.len⟩
end
noncomputable def cr6(X:Cx)(fa:Addr)(dsp:Hp->VK->XK->Prop):Prop:=∀xe pins s σ H Q E,Inv (X.wish xe) pins σ H s->Y8 (CX1 X.prog X.w) (X.wish xe) E->dsp H Q E->W.FnAt fa s.heap/\
 wpAny (model X.prog X.w) X.A (call (.ref fa) []) (EP (X.wish xe) pins σ Q) xe s
noncomputable def bJ5(P:Program)(w:World)(K:W.Frag)(mg:Str->Option Value)(base:Heap)(fwd:Addr)(wd:Addr->Str->Prop):Prop:=
 ∀(A:Around) (outer:List Env) (s:Shared) (H G:Hp) (ea D:Addr) (c:Str) (o:Obj) (Q:VK) (E:XK),A.handled=some (.ref ea)->A.depth<recursionLimit->an4 P w K mg base A outer s H->s.heap.get? ea=some o->o.cls=.ref D->o.dict=none->W.notCls o=true->
  an1 s.heap ea->H ea=none->ea∉frs outer->Sub G H->wd D c->(∀v G' H',Ext G H G' H'->Rep K G' (.str c) v->Q v H')->codeAny (model P w) A (.call (.ref fwd) ⟨[.ref ea],[]⟩) (CR CX0 outer P w H s Q E) s
section
variable {X:Cx}
noncomputable def ci1(K:W.Frag)(i0:Nat)(fa:Addr)(dsp:Hp->VK->XK->Prop)(wd:Addr->Str->Prop):TS:=fun D σ H=>σ[i0]?=some (some (.ref fa))/\
 dsp H D.rt (fun C _ H'=>∃D' c,C=.ref D'/\wd D' c/\∃G',Sub G' H'/\∀v G2 H2,Ext G' H' G2 H2->Rep K G2 (.str c) v->D.rt v H2)
theorem bB4{s:Shared}{σ:L2.St}{H:Hp}{D:aa6}{dn en wn fw:Str}{i0 i1:Nat}{fa W fwd:Addr}{dsp:Hp->VK->XK->Prop}{wd:Addr->Str->Prop}{p1 p2 p3 p4 p5 p6 p7 p8 p9 p10:Pos}(hstk:X.stack=X.env::X.outer)(hfr:X.env.frame=some X.env.locals)(hdp:X.A.depth<recursionLimit)
  (hN:X.N.Nodup) (h0:X.N[i0]?=some dn) (hn1:X.N[i1]?=some en) (hk0:X.env.scope.names.lookup dn=some .local) (hk1:X.env.scope.names.lookup en=some .local)
  (hgW:Gl X wn) (hmW:X.mg wn=some (.ref W)) (hgF:Gl X fw) (hmF:X.mg fw=some (.ref fwd)) (hkF:PySem.W.keepIn X.K (.ref fwd)=true) (word:bJ5 X.prog X.w X.K X.mg X.base fwd wd)
  (hex:∀D c,wd D c->PySem.W.exmOne X.K (.ref D) (.ref W)=some true) (deed:cr6 X fa dsp)
  (hd1:(dn==("__debug__":Str))=false:=by decide) (hd2:(dn==("__classdict__":Str))=false:=by decide) (hd3:(wn==("__debug__":Str))=false:=by decide) (hd4:(fw==("__debug__":Str))=false:=by decide)
  (hd5:(en==("__debug__":Str))=false:=by decide) (hd6:(en==("__classdict__":Str))=false:=by decide) (hs:starEach [.Name en p6] X.env=(false,eval (.Name en p6) X.env)::starEach [] X.env:=by rfl):
  Inv X [] σ H s->ci1 X.K i0 fa dsp wd D σ H->wpAny (model X.prog X.w) X.A (execs [.Try [.Return (some (.Call (.Name dn p1) [] [] p2)) p3] [.ExceptHandler (some (.Name wn p4)) (some en) [.Return (some (.Call (.Name fw p5) [.Name en p6] [] p7)) p8] p9] [] [] p10] X.env) (SP X [] D) X.xe s:=by
 intro I ⟨hσ,hq⟩;have ok:=I.ok;refine wpAny_execs_cons (thn (Q:=SP X [] D) ?_ fun f s1 q=>by cases f with |next=>exact wpAny_execs_nil q|ret v=>exact q|brk=>exact q|cont=>exact q);refine wpAny_Try_except ?_;generalize hxe:(fun(e:Value) (s₁:Shared)=>wpAny (model X.prog X.w) X.A (noteFrame e X.env) (fun _ s₂=>wpAny (model X.prog X.w) X.A (setFlight e none) (fun _ s₃=>wpAny (model X.prog X.w) X.A (handleBy e X.env [.ExceptHandler (some (.Name wn p4)) (some en) [.Return (some (.Call (.Name fw p5) [.Name en p6] [] p7)) p8] p9]) (SP X [] D) X.xe s₃) X.xe s₂) X.xe s₁)=xe;have hpass:Y8 (CX1 X.prog X.w) (X.wish xe) (fun C _ H'=>∃D' c,C=.ref D'/\wd D' c/\∃G',Sub G' H'/\∀v G2 H2,Ext G' H' G2 H2->Rep X.K G2 (.str c) v->D.rt v H2):=by
  intro pins' σ' H1 s1 e s2 I1 ⟨ea,C,H',B,he,T,D',c,hC,hwd,G',sG,q⟩;subst he hC;show xe _ _;rw[<-hxe];dsimp only;have T':X2 X.prog X.w (X.env::X.outer) H1 s1 B ea (.ref D') .none H' s2:=by rw[<-hstk];exact T
  have ok2:=ok;have hA:X.A.frames=some (X.env::X.outer):=by rw[<-hstk];exact ok.frames
  refine aX6 (env:=X.env) (outer:=X.outer) (L:=X.env.locals) hA hfr T'.fly fun h1 F1 u1=> ?_
  refine ar8 (g:=none) (s:={s2 with heap:=h1}) F1 fun h2 F2 u2=> ?_
  have T2:=T'.turn F2 (u1.trans u2);have I2:Inv X [] σ' H' {s2 with heap:=h2}:=((by rw[hstk];exact T2:X2 X.prog X.w X.stack H1 s1 B ea (.ref D') .none H' {s2 with heap:=h2}).inv I1.unwish).pins_of (fun p hp=>absurd hp (by simp));refine wpAny_handleBy_cons (codeAny_handlers_test ?_) (by intro z;cases z);have IM:=Inv.mark I2 (.ref ea) (fun _ _=>False);refine ah9 (X:=aj4 X (.ref ea) fun _ _=>False) IM hgW hmW ?_ hd3;obtain⟨oe,vs,Tb,oT,ts,z1,⟨z2,zd⟩,z3,z4,z5,z6⟩:=F2.ob;have LT:PySem.W.Looks (model X.prog X.w) h2 (typeOf (.ref ea)) (.ref D'):=(⟨z1,z2,by unfold PySem.W.notCls;rw[z3],by rw[zd];trivial⟩:PySem.W.InstAt h2 ea oe D' none).type;refine(PySem.W.exm_one (M:=model X.prog X.w) (show X.K.In h2 from I2.kIn) LT (hex D' c hwd)).here ?_
  (refine codeAny_handlers_suite_as ?_);refine ar8 (g:=none) (s:={s2 with heap:=h2}) F2 fun h3 F3 u3=> ?_
  have T3:=T2.turn F3 u3;have I3:Inv X [] σ' H' {s2 with heap:=h3}:=((by rw[hstk];exact T3:X2 X.prog X.w X.stack H1 s1 B ea (.ref D') .none H' {s2 with heap:=h3}).inv I1.unwish).pins_of (fun p hp=>absurd hp (by simp));obtain⟨oe,vs,Tb,oT,ts,z1,⟨z2,zd⟩,z3,z4,z5,z6⟩:=F3.ob;refine au3 I3 hN hn1 (.inl hk1) (v:=.ref ea) rfl (fun s4 I4 ⟨a,same,ha⟩=> ?_) (.inr hk1);have nea:ea≠a:=fun z=>by
   rcases ha with y|y
   ·obtain⟨m,⟨o,es,ep,e,hdd,_⟩,_⟩:=I3.loc;rw[<-y,<-z]at e;rw[show h3.get? ea=some o from e]at z1;cases z1;rw[z3]at hdd;cases hdd
   ·obtain⟨v,o,e,hdd⟩:=I3.cell _ _ y;rw[<-z]at e;rw[show h3.get? ea=some o from e]at z1;cases z1;rw[z3]at hdd;cases hdd
  have e4:s4.heap.get? ea=some oe:=(same.2 ea nea).trans z1;have nfs:ea∉frs X.stack:=fun z=>by
   obtain⟨_,o,y1,y2⟩:=F3.fr.mem (show ea∈(X.env::X.outer).filterMap (·.frame) by rw[<-hstk];exact z);rw[y1]at z1;cases z1;exact y2 vs z3
  have nel:ea≠X.env.locals:=fun z=>nfs (by rw[hstk];show ea∈(X.env::X.outer).filterMap (·.frame);simp[hfr,z])
  have IM4:Inv (aj4 X (.ref ea) fun _ _=>False) [(ea,oe)] _ H' s4:=(Inv.mark I4 (.ref ea) (fun _ _=>False)).pins_of fun p hp=>by
   rw[List.mem_singleton]at hp;subst hp;exact⟨e4,T3.ne,nel,fun z=>nfs (by rw[hstk];show ea∈(X.env::X.outer).filterMap (·.frame);rw[List.filterMap_cons,hfr];exact cv7 _ z),fun v z=>by rw[z3]at z;cases z⟩
  refine wpAny_execs_cons (wpAny_Return_some (cy2 (E:=fun _ _=>False) (Q:=EP (aj4 X (.ref ea) fun _ _=>False) [(ea,oe)] (σ'.set i1 (some (.ref ea))) D.rt) ?_ (fun u s5 ⟨v,H5,I5,r5,q5⟩=> ?_) (fun _ _ z=>z.elim)))
  ·refine wpAny_Call_Name_kw (ah9 (X:=aj4 X (.ref ea) fun _ _=>False) IM4 hgF hmF ?_ hd4);have hi1:i1<σ'.length:=by rw[I3.len];exact(List.getElem?_eq_some_iff.mp hn1).1
   refine PySem.W.callWith_K (h₀:=X.base) ok.mod.kin hkF (thn (O4 (X:=aj4 X (.ref ea) fun _ _=>False) (ac2 hn1 (.inl hk1) hd5 hd6) Y4 hs p7 [(ea,oe)] s4 _ H' (fun vs H2=>vs=[.ref ea]/\H2=H') IM4 ⟨.ref ea,by rw[cu3 hi1],rfl,rfl⟩) fun us s5 ⟨vs',H5,I5,r5,ev,eH⟩=>⟨I5.kIn,?_⟩) hs;subst ev eH;obtain⟨u,eu,ru⟩:=X6 r5;cases ru;subst eu;obtain⟨e5,n5,_⟩:=I5.pin (ea,oe) (by simp);refine wpAny_call (codeAny_mono (word (X.A.mark (some (.ref ea))) X.stack s5 H5 G' ea D' c oe D.rt E0 rfl hdp I5.env0 e5 z2 zd (by unfold PySem.W.notCls;rw[z3]) ⟨oe,vs,e5,z3,z5⟩ n5 nfs sG hwd q) fun r s' hq=> ?_);cases r with
   |error e=>exact False.elim hq
   |ok fl=>
    cases fl with
    |ret u=>exact I5.after hq
    |next=>exact False.elim hq
    |brk=>exact False.elim hq
    |cont=>exact False.elim hq
  ·exact bT5 ((Inv.unmark ok I5).pins_of (pins':=[]) fun p hp=>absurd hp (by simp)) hN hn1 hk1 fun s' I'=>⟨v,_,H5,I',r5,q5⟩
 have key:PSs (X.wish xe) [.Return (some (.Call (.Name dn p1) [] [] p2)) p3] (fun D' σ' H'=>D'.rt=D.rt/\σ'=σ/\H'=H):=by
  refine ao6 (aG1 (te:=fun σ' H' Q=>Q=D.rt/\σ'=σ/\H'=H) ?_);intro pins' s' σ' H' Q I' ⟨e1,e2,e3⟩;subst e1 e2 e3;refine wpAny_Call_Name_kw ?_;refine thn (ac2 (X:=X.wish xe) h0 (.inl hk0) hd1 hd2 pins' s' σ' H' (fun v H1=>v=.ref fa/\H1=H') I' ⟨.ref fa,hσ,rfl,rfl⟩) fun u s1 ⟨v,H1,I1,r1,ev,eH⟩=> ?_
  subst ev eH;cases r1;obtain⟨hfn,hc⟩:=deed xe pins' s1 σ' H1 D.rt _ I1 hpass hq;exact PySem.W.callWith_F0 hfn hc
 refine cy2 (key [] s σ H D (I.wish xe) ⟨rfl,rfl,rfl⟩) (fun f s1 q=> ?_) (fun e s1 z=>z);have q':=q.unwish;cases f with
 |next=>exact wpAny_execs_nil q'
 |ret v=>exact q'
 |brk=>exact q'
 |cont=>exact q'
end
section
variable {X:Cx}{pins:List (Addr×Obj)}{σ:L2.St}{H:Hp}{s:Shared}
theorem Inv.table(I:Inv X pins σ H s){P c':Addr}{ps more:Array Value}{q:Str}{h':Heap}{t':Nat}(hP:H P=some (.tbl ps))(hge:s.heap.objs.size<=c')(hx:∀b o,b≠P->s.heap.get? b=some o->h'.get? b=some o)
  (hrec:h'.CodeRec (.ref c') q) (htb:h'.get? P=some {cls:=.none,data:=.fields (ps++more)}):
  Inv X pins σ (upd (upd H c' (W2 c' q)) P (.tbl (ps++more))) {s with heap:=h',toks:=t'}:=by
 have hc:H c'=none:=I.hok.fresh hge;have nPc:c'≠P:=fun z=>by rw[z,hP]at hc;cases hc
 have old:∀b o,s.heap.get? b=some o->b≠c':=fun b o e z=>by rw[z]at e;exact absurd (cs5 e) (Nat.not_lt.mpr hge)
 have nP:∀b,H b=none->b≠P:=fun b e z=>by rw[z,hP]at e;cases e
 have get:∀b,b≠P->b≠c'->upd (upd H c' (W2 c' q)) P (.tbl (ps++more)) b=H b:=fun b h1 h2=>by rw[l7 h1,l7 h2]
 have getS:∀b x,H b=some x->b≠P->upd (upd H c' (W2 c' q)) P (.tbl (ps++more)) b=some x:=fun b x e h1=>by
  rw[get b h1 (t6 e hc)];exact e
 refine I.un ⟨fun b o e n _ _=>hx b o (nP b n) e,fun b o e n _ _=>⟨o.slots,hx b o (nP b n) e⟩,fun b o e n _=> ?_,fun b o e _=> ?_,fun b xs e=> ?_,fun b o u e=> ?_,fun b p e=> ?_⟩ fun a o e=> ?_
 ·rw[get b (nP b n) (old b o e)];exact n
 ·by_cases z:b=P
  ·rw[z];exact⟨_,htb⟩
  ·exact⟨o,hx b o z e⟩
 ·exact getS b _ e fun z=>by rw[z,hP]at e;cases e
 ·exact getS b _ e fun z=>by rw[z,hP]at e;cases e
 ·by_cases z:b=P
  ·subst z;rw[hP]at e;cases e;exact⟨more,n6⟩
  ·exact⟨#[],by rw[getS b _ e z,Array.append_empty]⟩
 ·by_cases z:a=P
  ·subst z;rw[n6]at e;cases e;exact htb
  ·rw[l7 z]at e;by_cases z2:a=c'
   ·subst z2;rw[n6]at e;cases e;refine⟨hrec,?_,fun h1 h2 x k=> ?_⟩
    ·obtain⟨c,o,vs,t,e1,e2,_⟩:=hrec;cases e1;exact⟨o,e2⟩
    ·obtain⟨c,o,vs,t,e1,e2,e3⟩:=x;cases e1;exact⟨_,o,vs,t,rfl,k o e2,e3⟩
   ·rw[l7 z2]at e;refine(I.hok a o e).stay (fun b u hb y=>hx b u (fun w=> ?_) y) (fun b y=>getS b _ y fun w=>by rw[w,hP]at y;cases y) fun b xs y=>getS b _ y fun w=>by rw[w,hP]at y;cases y
    rcases hb with w1|w1
    ·exact z (w1.symm.trans w)
    ·rw[w,hP]at w1;cases w1
noncomputable def BM(mg:Str->Option Value)(base:Heap):Prop:=∃bm o,mg "__builtins__"=some (.ref bm)/\bm≠builtinsNs/\bm≠mainGlobals/\base.get? bm=some o/\o.cls=.type "module"/\o.dict=some builtinsNs/\o.data=.plain
theorem bH2{params:Arguments}{body:Expr}{scope:Scope}{pos:Pos}{P c:Addr}{q:Str}{clos:List (Str×Addr)}{Q:Value->Shared->Prop}{E:Value->Shared->Prop}{A:Around}(I:Inv X pins σ H s)(B:BM X.mg X.base)(hT:Tbs H)(hp:(P,q)∈Z2)(hq:X.env.qual++"<lambda>"=q)
  (hcode:X.env.code=.ref c) (hcd:W.codeHdIn X.K c P=true) (hcl:closureFor scope X.env=pure clos) (hdef:defaultsOf params X.env=([],[]))
  (k:∀fa c' pm ctv H1 s1,Inv X pins σ H1 s1->Tbs H1->I0 H H1->s1.heap.get? fa=some (W.kla_obj "<lambda>" q params body scope clos pm c' ctv)->H1 c'=some (W2 c' q)->H1 fa=none->s.heap.objs.size<=fa->
   (∀b o,s.heap.get? b=some o->H b=none->s1.heap.get? b=some o/\H1 b=none)->(∀b o,H b=some o->ae5 o=true->H1 b=some o)->(∀b,b∈frs X.stack->fa≠b)->Q (.ref fa) s1):
  wpAny (model X.prog X.w) A (eval (.Lambda params body scope pos) X.env) Q E s:=by
 obtain⟨ps,hP,tr⟩:=hT (P,q) hp;have hPh:s.heap.get? P=some (W.tabObj ps):=I.hok P _ hP;have hgs:s.heap.Ns mainGlobals X.mg:=I.mod.glob.keeps I.bk;have gfree:H mainGlobals=none:=by
  obtain⟨o,es,ep,e,_⟩:=I.mod.glob;exact(I.bs _ _ e).2
 have hgP:mainGlobals≠P:=fun z=>by rw[<-z]at hP;dsimp only at hP;rw[gfree]at hP;cases hP
 obtain⟨bm,ob,b1,b2,b3,b4,b5⟩:=B;have hbP:bm≠P:=fun z=>by
  have :=(I.bs _ _ b4).2;rw[z]at this;dsimp only at hP;rw[this]at hP;cases hP
 have hB:s.heap.BuiltinsAt X.mg P:=⟨bm,ob,b1,b2,b3,hbP,I.bk _ _ b4,b5⟩
 have C:=W.codeHd_of_K I.kIn hcd;have frl:∀b∈frs X.stack,b<s.heap.objs.size:=fun b hb=>by
  obtain⟨_,o,e,_⟩:=I.stack.mem hb;exact cs5 e
 refine W.kla_eval hdef ?_;rw[hq];cases hca:codeAmong pos ps.toList with
 |none=>
  refine W.kla_makeFunction hcl I.ok.glob hgs hcode C hPh tr.triples hca hgP hB fun c' ctv h' tk hx hge hlt hrec htb=> ?_
  have J:=Inv.table (t':=tk) (h':=h'.push (W.kla_obj "<lambda>" q params body scope clos ((X.mg "__name__").getD .none) c' ctv)) I hP hge (fun b o n e=>cs1 _ (hx b o n e)) (hrec.push _) (cs1 _ htb);have hc:H c'=none:=I.hok.fresh hge;have nPc:c'≠P:=fun z=>by rw[z]at hc;dsimp only at hP;rw[hP]at hc;cases hc
  have old:∀b o,s.heap.get? b=some o->b≠c':=fun b o e z=>by rw[z]at e;exact absurd (cs5 e) (Nat.not_lt.mpr hge)
  have nP:∀b,H b=none->b≠P:=fun b e z=>by rw[z]at e;dsimp only at hP;rw[hP]at e;cases e
  have hsz:s.heap.objs.size<=h'.objs.size:=Nat.le_of_lt (Nat.lt_of_le_of_lt hge hlt);have nt:∀b o,H b=some o->ae5 o=true->upd (upd H c' (W2 c' q)) P (.tbl (ps++ #[rawInt pos.line,rawInt pos.col,.ref c'])) b=some o:=fun b o e n=>by
   rw[l7 (fun z=>by rw[z]at e;dsimp only at hP;rw[hP]at e;cases e;cases n),l7 (t6 e hc)];exact e
  refine k _ c' _ ctv _ _ J (fun p hpp=> ?_) (fun b o e=> ?_) (cs2 _ rfl) (by rw[l7 nPc,n6]) ?_ hsz (fun b o e n=>⟨cs1 _ (hx b o (nP b n) e),?_⟩) nt fun b hb=>cx1 (cx0 (frl b hb) hsz)
  ·obtain⟨ps',hP',tr'⟩:=hT p hpp;have mono:∀a,H a=some (W2 a p.2)->upd (upd H c' (W2 c' q)) P (.tbl (ps++ #[rawInt pos.line,rawInt pos.col,.ref c'])) a=some (W2 a p.2):=fun a e=>nt a _ e rfl
   by_cases z:p.1=P
   ·rw[z];have pq:p.2=q:=bN8 p hpp (P,q) hp z;rw[z]at hP';dsimp only at hP;rw[hP]at hP';cases hP';refine⟨_,n6,?_⟩;rw[Array.toList_append];refine M2.more ?_ (tr'.mono mono);rw[pq,l7 nPc,n6]
   ·refine⟨ps',?_,tr'.mono mono⟩;rw[l7 z,l7 (t6 hP' hc)];exact hP'
  ·by_cases n:ae5 o=true
   ·exact⟨o,nt b o e n,fun _=>rfl⟩
   ·by_cases z:b=P
    ·rw[z];exact⟨_,n6,fun w=>absurd w n⟩
    ·exact⟨o,by rw[l7 z,l7 (t6 e hc)];exact e,fun _=>rfl⟩
  ·rw[l7 (fun z=>by have z':h'.objs.size=P:=z;exact absurd (cs5 hPh) (Nat.not_lt.mpr (by rw[<-z'];exact hsz))),l7 (cx1 hlt)];exact I.hok.fresh hsz
  ·rw[l7 (nP b n),l7 (old b o e)];exact n
 |some cv=>
  obtain⟨c',ecv,hc'⟩:=tr.hit hca;subst ecv;obtain⟨hrec,_⟩:=I.hok c' _ hc';refine W.kla_makeFunctionHit hcl I.ok.glob hgs hcode C hPh tr.triples hca hB fun ctv h' tk hk hsz=> ?_
  have hk2:∀b o,s.heap.get? b=some o->(h'.push (W.kla_obj "<lambda>" q params body scope clos ((X.mg "__name__").getD .none) c' ctv)).get? b=some o:=fun b o e=>cs1 _ (hk b o e)
  exact k _ c' _ ctv H _ (I.kept (t':=tk) hk2) hT (I0.refl _) (cs2 _ rfl) hc' (I.hok.fresh hsz) hsz (fun b o e n=>⟨hk2 b o e,n⟩) (fun b o e _=>e) fun b hb=>cx1 (cx0 (frl b hb) hsz)
end
noncomputable def aW5(sc:Scope)(N:List Str)(scope:Scope)(NL:List Str)(caps:List Nat):Bool:=
 (match scope.kind with |.function=>true|_=>false)&& !scope.isCoroutine&& !scope.isGenerator&&
 scope.names.all (fun y=>y.2 !=.cell&&(y.2 !=.free||sc.names.lookup y.1==some .cell))&&NL.length==caps.length&&
 (caps.zip NL).all (fun y=>N[y.1]?==some y.2&&sc.names.lookup y.2==some .cell&&scope.names.lookup y.2==some .free)
structure cm1(sc:Scope)(N:List Str)(scope:Scope)(NL:List Str)(caps:List Nat):Prop where
 kind:scope.kind=.function
 co:scope.isCoroutine=false
 gen:scope.isGenerator=false
 nocell:∀x∈scope.names,x.2≠.cell
 free:∀x,(x,NameKind.free)∈scope.names->sc.names.lookup x=some .cell
 len:NL.length=caps.length
 cap:∀(i:Nat) (j:Nat) (x:Str),caps[i]?=some j->NL[i]?=some x->N[j]?=some x/\sc.names.lookup x=some .cell/\scope.names.lookup x=some .free
theorem cc3{sc:Scope}{N:List Str}{scope:Scope}{NL:List Str}{caps:List Nat}(h:aW5 sc N scope NL caps=true):cm1 sc N scope NL caps:=by
 unfold aW5 at h
 (simp only[cr8]at h);obtain⟨⟨⟨⟨⟨h1,h2⟩,h3⟩,h4⟩,h5⟩,h6⟩:=h
 refine⟨?_,by simpa using h2,by simpa using h3,fun x hx=> ?_,fun x hx=> ?_,by simpa using h5,fun i j x e1 e2=> ?_⟩
 ·split at h1
  ·assumption
  ·cases h1
 ·have :=List.all_eq_true.mp h4 x hx;simp only[cr8]at this;simpa using this.1
 ·have :=List.all_eq_true.mp h4 _ hx;simp only[cr8,Bool.or_eq_true]at this;rcases this.2 with z|z
  ·simp at z
  ·simpa using z
 ·have hz:(j,x)∈caps.zip NL:=by
   have :(caps.zip NL)[i]?=some (j,x):=by
    rw[List.getElem?_zip_eq_some];exact⟨e1,e2⟩
   exact cv9 this
  have :=List.all_eq_true.mp h6 _ hz;simp only[cr8,beq_iff_eq]at this;exact⟨this.1.1,this.1.2,this.2⟩
theorem aO3{K:W.Frag}{G:Hp}{σ:L2.St}{ρ:j9}(hρ:B5 K G σ ρ):∀{caps:List Nat}{xs:List T},gs (caps.map d0) ρ=some xs->
  ∃vs,j5 K G xs vs/\vs.length=caps.length/\xs.length=caps.length/\∀(i j:Nat) (v:V),caps[i]?=some j->vs[i]?=some v->σ[j]?=some (some v)
 |[],xs,h=>by cases h;exact⟨[],j5.nil,rfl,rfl,fun i j v e=>by simp at e⟩
 |c::caps,xs,h=>by
  obtain⟨x,h1,h⟩:=h9 h;obtain⟨ys,h2,h⟩:=h9 h;cases h;obtain⟨v,e1,e2⟩:=hρ.2 c x (av5 h1);obtain⟨vs,r,l1,l2,k⟩:=aO3 hρ h2;refine⟨v::vs,j5.cons e2 r,by simp[l1],by simp[l2],fun i j w ei ej=> ?_⟩;cases i with
  |zero=>simp at ei ej;subst ei ej;exact e1
  |succ i=>exact k i j w (by simpa using ei) (by simpa using ej)
theorem bO6{K:W.Frag}{G:Hp}{xs:List T}{vs:List V}(r:j5 K G xs vs):B5 K G (vs.map some) (xs.map some):=by
 refine⟨by simp[r.length],fun i t e=> ?_⟩;rw[cu0]at e;cases z:xs[i]? with
 |none=>rw[z]at e;cases e
 |some y=>
  rw[z]at e;cases e;obtain⟨v,h1,h2⟩:=r.get z;exact⟨v,by rw[cu0,h1];rfl,h2⟩
structure aI2(P:Program)(w:World)(K:PySem.W.Frag)(mg:Str->Option Value)(base:Heap)(tn:Str)(wd:Addr->Str->Prop):Prop where
 ex:∃(tst:Stmt) (ft W fwd:Addr) (fdT:FuncData) (dn en wn fw:Str) (p1 p2 p3 p4 p5 p6 p7 p8 p9 p10:Pos),Fun K tn tn tst ft fdT/\mg tn=some (.ref ft)/\l0 [dn,en] [dn] (j4 tst)/\Z1 K fdT [dn] []/\
  A7 tst=[.Try [.Return (some (.Call (.Name dn p1) [] [] p2)) p3] [.ExceptHandler (some (.Name wn p4)) (some en) [.Return (some (.Call (.Name fw p5) [.Name en p6] [] p7)) p8] p9] [] [] p10]/\
  (j4 tst).names.lookup dn=some .local/\(j4 tst).names.lookup en=some .local/\(j4 tst).names.lookup wn=some .globalImplicit/\(j4 tst).names.lookup fw=some .globalImplicit/\mg wn=some (.ref W)/\mg fw=some (.ref fwd)/\PySem.W.keepIn K (.ref fwd)=true/\
  bJ5 P w K mg base fwd wd/\(∀D c,wd D c->PySem.W.exmOne K (.ref D) (.ref W)=some true)/\
  (dn==("__debug__":Str))=false/\(dn==("__classdict__":Str))=false/\(wn==("__debug__":Str))=false/\(fw==("__debug__":Str))=false/\(en==("__debug__":Str))=false/\(en==("__classdict__":Str))=false
 cls:∀c∈as4,∃D,mg c=some (.ref D)/\wd D c
 bm:BM mg base
noncomputable def cq0(K:W.Frag)(mg:Str->Option Value)(G H:Hp)(Q:VK)(E:XK):Res->Prop
 |.val t=>∀v G' H',Ext G H G' H'->Rep K G' t v->Q v H'
 |.exc c=>∀G' H',Ext G H G' H'->E (az4 mg c) none H'
section
variable {X:Cx}
theorem ai6{tn fn:Str}{wd:Addr->Str->Prop}{P c:Addr}{q:Str}{params:Arguments}{a0:Expr}{as:List Expr}{scope:Scope}{pt pf bp lpos cpos:Pos}{k kk n:Nat}{F:List T->Option Res}{l:List L3.G}(NL:List Str)(caps:List Nat)(Te:aI2 X.prog X.w X.K X.mg X.base tn wd)(hr:B7 kk X.A)(hkk:k+2<=kk)(hgT:Gl X tn)(hp:(P,q)∈Z2)(hq:X.env.qual++"<lambda>"=q)(hcode:X.env.code=.ref c)(hcd:PySem.W.codeHdIn X.K c P=true)(hdef:defaultsOf params X.env=([],[]))(chk:aW5 X.env.scope X.N scope NL caps=true)(hbind:∀(qual:Str) (cl:List (Str×Addr)) (pm cv ctv:Value),bindArgs (PySem.W.kla_fn "<lambda>" qual params (.Call (.Name fn pf) (a0::as) [] bp) scope cl pm cv ctv) ⟨[],[]⟩=pure [])(hF:Q1 X.prog X.w X.K X.mg X.base fn k n F)(hgl:scope.names.lookup fn=some .globalImplicit)(hargs:∀(Y:Cx) (E:XK) (fa c':Addr) (cl:List (Str×Addr)) (s:Shared) (H:Hp),Wd (PXA (aG7 Y E q scope fa c' cl NL s H) (a0::as) (gs l)))(hn:l.length=n:=by rfl)(hdT:(tn==("__debug__":Str))=false:=by decide)(hdF:(fn==("__debug__":Str))=false:=by decide)(he:∀env,starEach (a0::as) env=(false,eval a0 env)::starEach as env:=by intro _;rfl)(hpl:∀env,(backTo bp (starEach as env)).any (·.1)=false:=by intro _;rfl)(he2:starEach [.Lambda params (.Call (.Name fn pf) (a0::as) [] bp) scope lpos] X.env=(false,eval (.Lambda params (.Call (.Name fn pf) (a0::as) [] bp) scope lpos) X.env)::starEach [] X.env:=by rfl)(hpl2:(backTo cpos (starEach [] X.env)).any (·.1)=false:=by rfl):Wd (PX X (.Call (.Name tn pt) [.Lambda params (.Call (.Name fn pf) (a0::as) [] bp) scope lpos] [] cpos) (gN (X7 F l) (caps.map d0))):=⟨by
 have hargs:=fun x0 x1 x2 x3 x4 x5 x6=>(hargs x0 x1 x2 x3 x4 x5 x6).run
 intro pins s σ H Q I ⟨G,ρ,t,sG,hρ,hg,q1⟩;obtain⟨xs,hgs,ht⟩:=h9 hg;obtain⟨ys,hys,ht⟩:=h9 (show(gs l (xs.map some)).bind (aq1 F)=some t from ht);obtain⟨r,hr1,ht⟩:=h9 ht;obtain⟨vs,rep,lv,lx,hσ⟩:=aO3 hρ hgs;obtain⟨⟨tst,ft,W,fwd,fdT,dn,en,wn,fw,p1,p2,p3,p4,p5,p6,p7,p8,p9,p10,FT,hmT,ST,bT,hbT,k1,k2,k3,k4,mW,mF,kF,word,hex,d1,d2,d3,d4,d5,d6⟩,hcls,bm⟩:=Te;have LO:=cc3 chk;have kinds:∀x,X.env.scope.names.lookup x=some .cell->∃c,X.env.cells.lookup x=some c:=fun x e=>I.ok.has x (.inl e)
 obtain⟨clos,hcl,hsub,hall⟩:=bn3 (env:=X.env) (scope:=scope) fun x hx=>kinds x (LO.free x hx)
 refine wpAny_Call_Name_kw (ah9 I hgT hmT ?_ hdT);refine PySem.W.callWith_K (h₀:=X.base) I.ok.mod.kin FT.kp ?_ he2 hpl2;rw[he2];show wpAny _ _ (spliced ((false,eval (.Lambda params (.Call (.Name fn pf) (a0::as) [] bp) scope lpos) X.env)::backTo cpos (starEach [] X.env))) _ _ s;refine Calls.spliced_cons (bH2 I bm sG.t hp hq hcode hcd hcl hdef fun fa c' pm ctv H1 s1 I1 T1 n1 ho hc1 hfa hsz keep nt nfr=>Calls.spliced_nil ⟨I1.kIn,?_⟩);have E01:Ext G H G H1:=⟨w9.refl _,⟨fun b o e=>nt b o (sG b o e) (by cases o with |tbl ps=>exact absurd e (sG.n b ps)|_=>rfl),T1,sG.n⟩,n1,fun _ _ z=>z⟩
 show wpAny _ _ (call (.ref ft) [.ref fa]) _ _ s1;refine wpAny_call (codeAny_mono (bx6 (b:=true) (CX:=CX0) (E:=E0) (Q:=Q) (vs:=[.ref fa]) (us:=[.ref fa]) (args:=⟨[.ref fa],[]⟩) FT ST (fun _=>hr.hd) (by have :=hr.dp;omega) I1.env0 rfl (bT s1 [.ref fa] I1.kIn rfl) (.cons rfl .nil) fun cdv s2 I2=> ?_) fun r s' hq=> ?_)
 ·rw[hbT];refine bB4 (X:={w4 CX0 X.prog X.w X.K X.mg X.base [dn,en] tn (j4 tst) ft cdv X.A X.stack s1 H1 E0 with calm:=true}) (i0:=0) (i1:=1) (fa:=fa) (W:=W) (fwd:=fwd) (wd:=wd)
   (dsp:=fun H' Q E=>H'=H1/\cq0 X.K X.mg G H1 Q E r)
   rfl rfl (by have :=hr.dp;show X.A.depth+1<_;omega) ST.nd rfl rfl k1 k2 k3 mW k4 mF kF word hex ?_ d1 d2 d3 d4 d5 d6 rfl I2 ⟨rfl,rfl,?_⟩
  ·intro xe pins' s3 σ3 H3 Q3 E3 I3 pass ⟨eH,hm⟩;subst eH;have ho3:=I3.base.keep fa _ ho hfa (fun z=>nfr fa z rfl) (by simp[w4]);have hrec3:s3.heap.CodeRec (.ref c') q:=(I3.hok c' _ hc1).1;have cellK:∀x c,X.env.cells.lookup x=some c->∀v,s.heap.IsCell c v->s3.heap.IsCell c v/\H3 c=none:=fun x c e v zz=>by
    obtain⟨o,z1,z2⟩:=zz;obtain⟨z3,z4⟩:=keep c o z1 (I.freeC x c e);obtain⟨sl,z5⟩:=I3.base.any z3 z4 (by simp[w4]);exact⟨⟨_,z5,z2⟩,z4⟩
   refine⟨⟨_,_,_,_,ho3⟩,by2 (N:=NL) (vs:=vs) (t:=tRE X.K X.mg E3 F l) I3 hr.hd (by have :=hr.dp;show X.A.depth+1<_;omega) ho3 hrec3 (hbind _ _ _ _ _) ?_ LO.kind LO.co LO.gen LO.nocell
    (an9 hF bl8 (((hr.mono hkk).deeper _).deeper _) (cw8 k) hgl (hargs _ _ _ _ _ _ _) hn hdF (he _) (hpl _)) ⟨G,xs.map some,ys,r,E01.s,bO6 rep,hys,hr1,by cases r<;>exact hm⟩ pass⟩
   refine⟨fun x y c h1 h2=>I.ok.inj x y c (hsub _ _ h1) (hsub _ _ h2),fun x hx=> ?_,fun x c h=> ?_,fun i x v e1 e2=> ?_,by rw[lv];exact LO.len.symm⟩
   ·rcases hx with z|z
    ·exact absurd rfl (LO.nocell _ (PySem.mem_of_lookup z))
    ·exact hall x (PySem.mem_of_lookup z)
   ·obtain⟨v,z⟩:=I.cell x c (hsub x c h);obtain⟨z1,z2⟩:=cellK x c (hsub x c h) v z;exact⟨⟨v,z1⟩,z2⟩
   ·have hi:i<caps.length:=by rw[<-lv];exact Y5 e2
    obtain⟨j1,j2,j3⟩:=LO.cap i caps[i] x (ct8 hi) e1;have hs:=hσ i caps[i] v (ct8 hi) e2;obtain⟨m,_,loc⟩:=I.loc;obtain⟨u,ru,lk⟩:=loc caps[i] x v j1 hs (.inr (.inl j2));refine⟨j3,?_⟩;rcases lk with⟨z,_⟩|⟨_,c,z1,z2⟩
    ·rw[show X.env.kindOf x=X.env.scope.names.lookup x from rfl,j2]at z;cases z
    ·obtain⟨c2,z3⟩:=hall x (PySem.mem_of_lookup j3);have z4:=hsub x c2 z3;rw[z1]at z4;cases z4;exact⟨c,u,z3,(cellK x c z1 _ z2).1,ru⟩
  ·cases r with
   |val u=>
    cases ht;exact fun v G' H' e rv=>q1 v G' H' (E01.trans e) rv
   |exc c0=>
    dsimp only at ht;split at ht
    case isFalse=>cases ht
    case isTrue hc0=>
    cases ht;intro G' H' e;obtain⟨D',m1,w1⟩:=hcls c0 hc0;exact⟨D',c0,by rw[az4,m1];rfl,w1,G',e.s,fun v G2 H2 e2 rv=>q1 v G2 H2 ((E01.trans e).trans e2) rv⟩
 ·cases r with
  |error e=>exact False.elim hq
  |ok fl=>
   cases fl with
   |ret u=>exact I1.after hq
   |next=>exact False.elim hq
   |brk=>exact False.elim hq
   |cont=>exact False.elim hq⟩
end
structure cg0(K:W.Frag)(x qual:Str)(st:Stmt)(f:Addr)(fd:FuncData)(c:Addr):Prop where
 ex:∃(oc:Value) (od:Option Addr) (kV doc pm:Value) (an:Option Addr) (ct:Value) (osl:Array (Option Value)),
  fd=W.fnOf x qual (ab3 st) (A7 st) (j4 st) .none kV doc pm an (.ref c) ct/\K.lookup f=some ⟨oc,od,.func fd,osl⟩/\W.codeIn K (.ref c) qual=true
 kp:W.keepIn K (.ref f)=true
section
variable {P:Program}{w:World}{K:W.Frag}{mg:Str->Option Value}{base:Heap}
end
noncomputable def T6(b:Addr):Bool:=Z2.any fun p=>p.1==b
theorem af9{b:Addr}(h:T6 b=true):∃p∈Z2,p.1=b:=by
 unfold T6 at h;obtain⟨p,h1,h2⟩:=List.any_eq_true.mp h;exact⟨p,h1,by simpa using h2⟩
theorem bw6{p:Addr×Str}(h:p∈Z2):T6 p.1=true:=List.any_eq_true.mpr ⟨p,h,by simp⟩
noncomputable def F7(Hs:Hp):Hp:=fun b=>if T6 b=true then some (.tbl #[])else Hs b
theorem bw7{P:Program}{w:World}{K:W.Frag}{mg mb:Str->Option Value}{k:Nat}{fa a:Addr}{fd:FuncData}{x:Str}{s₁:Shared}{vs:List Value}{ns:List Int}{FL:List T->Option T}
  (KX:K.In s₁.heap) (hns:s₁.heap.Ns mainGlobals mg) (hb:s₁.heap.Ns builtinsNs mb) (hbb:∀x:Str,x≠"__name__"->mb x=bootBuiltins x) (hlim:s₁.heap.NoLimit) (hg:s₁.gens=#[])
  (ha:s₁.heap.get? a=some {cls:=.type "list",data:=.seq vs.toArray}) (hi:IntsAre vs ns) (hl:ns.length<=sizeLine) (hr:B7 k callerA)
  (hT:∀p∈Z2,s₁.heap.get? p.1=some (W.tabObj #[])) (hTc:∀p∈Z2,∃c,W.CodeHd s₁.heap c p.1) (hnt:W.noTabs K=true)
  (hbm:∃bm ob,mg "__builtins__"=some (.ref bm)/\bm≠builtinsNs/\s₁.heap.get? bm=some ob/\ob.cls=.type "module"/\ob.dict=some builtinsNs/\ob.data=.plain)
  (F:∀base:Heap,K.In base->base.Ns mainGlobals mg->BM mg base->V9 P w K mg base CX0 k fa fd [x] (spT K 1 FL)) (hbind:∀(s:Shared) (u:Value),BindsTo s fd ⟨[u],[]⟩ [(x,u)])
  (hF:FL [.scr ns]=some (.bl true)):
  codeAny (model P w) callerA (.call (.ref fa) ⟨[.ref a],[]⟩) (fun r s'=>r=.ok (.ret (.bool true))/\OldK s₁.heap s'.heap/\s'.os=s₁.os/\AllBare s'.gens) s₁:=by
 have rv:=ae9 hi;have lenV:=hi.length;have aT:T6 a=false:=by
  cases e:T6 a with
  |false=>rfl
  |true=>
   obtain⟨p,h1,h2⟩:=af9 e;have :=hT p h1;rw[h2,ha]at this;cases this
 have core:∀Hs:Hp,cq2 Hs->SqL K Hs a (ns.map V.int)->HOk P w Hs s₁.heap->(∀b,Hs b≠none->b=a)->(Hs a≠none->K.lookup a=none)->
   codeAny (model P w) callerA (.call (.ref fa) ⟨[.ref a],[]⟩) (fun r s'=>r=.ok (.ret (.bool true))/\OldK s₁.heap s'.heap/\s'.os=s₁.os/\AllBare s'.gens) s₁:=by
  intro Hs hO hS hok hA hK;have notT:∀b,T6 b=false->F7 Hs b=Hs b:=fun b e=>by unfold F7;rw[e];rfl
  have isT:∀b,T6 b=true->F7 Hs b=some (.tbl #[]):=fun b e=>by unfold F7;rw[e];rfl
  have same:w9 Hs (F7 Hs):=fun b o e=>by
   have eb:b=a:=hA b (by rw[e];simp);rw[notT b (by rw[eb];exact aT)];exact e
  have hokT:HOk P w (F7 Hs) s₁.heap:=fun b o e=>by
   cases z:T6 b with
   |true=>
    rw[isT b z]at e;cases e;obtain⟨p,h1,h2⟩:=af9 z;have :=hT p h1;rw[h2]at this;exact this
   |false=>
    rw[notT b z]at e;exact(hok b o e).stay (fun _ _ _ q=>q) (fun c q=>same c _ q) fun c xs q=>same c _ q
  have plainN:∀{b:Addr}{o:Obj},s₁.heap.get? b=some o->(∀xs n,o.data≠.seq xs n)->(∀vs,o.data≠.fields vs)->F7 Hs b=none:=fun{b o} e d1 d2=>by
   cases z:T6 b with
   |true=>
    obtain⟨p,h1,h2⟩:=af9 z;have :=hT p h1;rw[h2,e]at this;cases this;exact absurd rfl (d2 _)
   |false=>
    rw[notT b z];cases q:Hs b with
    |none=>rfl
    |some u=>
     have e':b=a:=hA b (by rw[q];simp);subst e';rw[ha]at e;cases e;exact absurd rfl (d1 _ _)
  have nsK:∀{b:Addr}{m:Str->Option Value},s₁.heap.Ns b m->(ar5 s₁.heap (F7 Hs)).Ns b m:=fun{b m} ⟨o,es,ep,e,d,r⟩=>⟨o,es,ep,aD2 e (plainN e (fun _ _ z=>by rw[d]at z;cases z) fun _ z=>by rw[d]at z;cases z),d,r⟩
  have hKb:K.In (ar5 s₁.heap (F7 Hs)):=fun b o e=>aD2 (KX b o e) (by
   cases z:T6 b with
   |true=>
    obtain⟨p,h1,h2⟩:=af9 z;have y:=hT p h1;rw[h2,KX b o e]at y;cases y;have y2:=List.all_eq_true.mp hnt (b,_) (W.mem_of_lookupK e);exact absurd (show false=true from y2) cs0
   |false=>
    rw[notT b z];cases q:Hs b with
    |none=>rfl
    |some u=>
     have e':b=a:=hA b (by rw[q];simp);subst e';rw[hK (by rw[q];simp)]at e;cases e)
  have hM:Mod K mg (ar5 s₁.heap (F7 Hs)):=⟨hKb,nsK hns,⟨mb,nsK hb,hbb⟩,let⟨mc,h1,h2⟩:=hlim;⟨mc,nsK h1,h2⟩⟩
  have hB:BM mg (ar5 s₁.heap (F7 Hs)):=by
   obtain⟨bm,ob,b1,b2,b3,b4,b5,b6⟩:=hbm;refine⟨bm,ob,b1,b2,fun z=> ?_,aD2 b3 (plainN b3 (fun _ _ z=>by rw[b6]at z;cases z) fun _ z=>by rw[b6]at z;cases z),b4,b5,b6⟩;obtain⟨o,es,ep,e,d,_⟩:=hns;rw[<-z,b3]at e;cases e;rw[b6]at d;cases d
  have e0:an4 P w K mg (ar5 s₁.heap (F7 Hs)) callerA [] s₁ (F7 Hs):=⟨rfl,hM,fun b o e=>bR6 e,Nat.le_of_eq (bx1 _ _),trivial,fun b hb=>absurd (show b∈([]:List Addr)from hb) (by simp),hokT,.of_eq hg⟩
  have sub:Sub Hs (F7 Hs):=⟨same,fun p hp=>⟨#[],isT _ (bw6 hp),trivial⟩,fun b ps z=>by
   rcases hO b with y|⟨o,xs,y⟩
   ·rw[y]at z;cases z
   ·rw[y]at z;cases z⟩
  refine codeAny_mono ((F _ hKb (nsK hns) hB).run callerA [] s₁ (F7 Hs) ⟨[.ref a],[]⟩ [.ref a] [.ref a] (fun v _=>v=.bl true) E0 hr e0 (hbind s₁ (.ref a)) (.cons rfl .nil) ⟨Hs,[.scr ns],.bl true,sub,j5.cons (by simp only[Rep];exact⟨a,rfl,hS⟩) j5.nil,rfl,hF,fun v G' H' _ r=>by simpa[Rep]using r⟩) fun r s' h=> ?_
  cases r with
  |error e=>exact False.elim h
  |ok fl=>
   cases fl with
   |next=>exact False.elim h
   |brk=>exact False.elim h
   |cont=>exact False.elim h
   |ret u=>
    obtain⟨v,H',os,bare,un,hok',r',q⟩:=h;have q':v=.bl true:=q;subst q';obtain rfl:u=Value.bool true:=r';have old:∀b o,s₁.heap.get? b=some o->T6 b=false->s'.heap.get? b=some o:=fun b o e z=>by
     cases q:F7 Hs b with
     |none=>exact un.keep b o e q (by intro z;exact absurd (show b∈([]:List Addr)from z) (by simp)) (by simp)
     |some u=>
      have q0:=q;rw[notT b z]at q0;rcases hO b with y|⟨ob,xs,y⟩
      ·rw[q0]at y;cases y
      ·have y2:=un.frzs b ob _ (by rw[notT b z];exact y);obtain⟨e1,_⟩:=hokT b _ (by rw[notT b z];exact y);obtain⟨e2,_⟩:=hok' b _ y2;rw[e]at e1;cases e1;exact e2
    have tb:∀b o,s₁.heap.get? b=some o->T6 b=true->o=W.tabObj #[]/\(∃c,W.CodeHd s₁.heap c b)/\∃more,s'.heap.get? b=some (W.tabObj (#[]++more)):=fun b o e z=>by
     obtain⟨p,h1,h2⟩:=af9 z;have y:=hT p h1;rw[h2,e]at y;cases y;obtain⟨more,y2⟩:=un.tbls b _ (isT b z);exact⟨rfl,by rw[<-h2];exact hTc p h1,more,hok' b _ y2⟩
    refine⟨rfl,⟨fun b o e=> ?_,fun b o e=> ?_⟩,os,bare⟩
    ·cases z:T6 b with
     |false=>exact .inl (old b o e z)
     |true=>
      obtain⟨eo,⟨c,oc,cvs,file,tf,flags,tg,inF,text,tt,c1,c2,c3,c4,_⟩,more,y⟩:=tb b o e z;subst eo;exact .inr (.inl ⟨⟨c,oc,cvs,c1,c2,c3,c4⟩,rfl,#[],more,rfl,y⟩)
    ·cases z:T6 b with
     |false=>exact⟨o,old b o e z⟩
     |true=>
      obtain⟨_,_,more,y⟩:=tb b o e z;exact⟨_,y⟩
 cases hk:K.lookup a with
 |some o=>
  have e:=KX a o hk;rw[ha]at e;cases e;refine core (fun _=>none) (fun _=>.inl rfl) (.inr ⟨_,vs.toArray,_,hk,rfl,rfl,rfl,by rw[cw5,lenV];exact hl,by simpa using rv⟩) (fun b u z=>by have z':(none:Option HO)=some u:=z;cases z') (fun b z=>absurd rfl z) fun z=>absurd rfl z
 |none=>
  refine core (fun b=>if b=a then some (.frz {cls:=.type "list",data:=.seq vs.toArray} (.lst (ns.map V.int)))else none) (fun b=> ?_) (.inl (.inr ⟨{cls:=.type "list",data:=.seq vs.toArray},cx8 rfl⟩)) (fun b u z=> ?_) (fun b z=> ?_) fun _=>hk
  ·by_cases hb:b=a
   ·exact .inr ⟨_,_,cx8 hb⟩
   ·exact .inl (cx7 hb)
  ·by_cases hb:b=a
   ·have z':=(cx8 hb).symm.trans z;cases z';subst hb;exact⟨ha,by rw[cu6];exact hl,vs,_,rv,ha⟩
   ·have z':=(cx7 hb).symm.trans z;cases z'
  ·by_cases hb:b=a
   ·exact hb
   ·exact absurd (cx7 hb) z
theorem ci0{l:W.OpenLaw}{n k:Nat}{q:Program}{loose:List Str}{XP:(Str->Option Value)->Heap->Prop}{YP:World->Heap->Prop}{d:DefRec}{K:Params->W.Frag}{x:Str}{FL:List T->Option T}
  (hn:l.most=some n) (hn2:n<=sizeLine) (hdf:d.params.defaults=[]) (hr:B7 k callerA)
  (hY:∀(w:World) (h:Heap),YP w h->(K w.params).In h)
  (F:∀(w:World) (mg:Str->Option Value) (fa:Addr) (h:Heap),(K w.params).In h->h.Ns mainGlobals mg->mg d.name=some (.ref fa)->YP w h->
   W.noTabs (K w.params)=true/\(∀p∈Z2,h.get? p.1=some (W.tabObj #[]))/\(∀p∈Z2,∃c,W.CodeHd h c p.1)/\∃fd:FuncData,(∀(s:Shared) (u:Value),BindsTo s fd ⟨[u],[]⟩ [(x,u)])/\
    ∀base:Heap,(K w.params).In base->base.Ns mainGlobals mg->BM mg base->V9 l.prog w (K w.params) mg base CX0 k fa fd [x] (spT (K w.params) 1 FL))
  (hsp:∀ns:List Int,ns.length<=n->FL [.scr ns]=some (.bl true)):
  W.WalkO q loose XP YP l.row.toRowW d [] (fun f vs=>PySem.call f vs):=by
 refine Att.attach_call hn hdf fun w s₀ s₁ mg mb fa o pm cd doc a vs ns G Y ho hd hcd hmg hobj hints hlen hg=> ?_
 have KX:=hY w _ Y;obtain⟨nt,hT,hTc,fd,hb,hF⟩:=F w mg fa _ KX G.T.g hmg Y;exact bw7 KX G.T.g G.T.b G.T.builtins G.T.nolimit hg hobj hints (cw9 hlen hn2) hr hT hTc nt G.T.bmain hF hb (hsp ns hlen)
end L3
namespace L2
open PySem PySem.Spec PyProof.Rows
section
variable {κ:Type}[DecidableEq κ]
noncomputable def Y2(kvs:List (κ×V))(k:κ):Option V:=(kvs.find? fun kv=>decide (kv.1=k)).map (·.2)
noncomputable def W7(kvs:List (κ×V))(k:κ)(v:V):List (κ×V):=
 if(kvs.any fun kv=>decide (kv.1=k))=true then kvs.map (fun kv=>if kv.1=k then(kv.1,v)else kv)else kvs++[(k,v)]
theorem ai3{p:κ×V}{r:List (κ×V)}{k:κ}(e:p.1=k):Y2 (p::r) k=some p.2:=by simp[Y2,List.find?_cons,e]
theorem ai4{p:κ×V}{r:List (κ×V)}{k:κ}(e:¬p.1=k):Y2 (p::r) k=Y2 r k:=by simp[Y2,List.find?_cons,e]
theorem aA9(k:κ):∀kvs:List (κ×V),(kvs.any fun kv=>decide (kv.1=k))=(Y2 kvs k).isSome
 |[]=>rfl
 |p::r=>by
  rw[cs8];by_cases e:p.1=k
  ·simp only[ai3 e,cx5 e,Bool.true_or,Option.isSome_some]
  ·rw[ai4 e,cx4 e,Bool.false_or];exact aA9 k r
theorem am7(kvs:List (κ×V))(k:κ)(v:V):(W7 kvs k v).length<=kvs.length+1:=by
 unfold W7;split
 ·rw[cu6];omega
 ·rw[cu4,cu5,cu7];omega
theorem bE5{kvs:List (κ×V)}{k:κ}(v:V)(h:Y2 kvs k=none):W7 kvs k v=kvs++[(k,v)]:=by
 unfold W7;rw[aA9,h];exact cx7 (by decide)
theorem an0.isSome_eq{o:Option V}{u:Option Value}(r:an0 o u):o.isSome=u.isSome:=by
 cases o with
 |none=>cases u with
  |none=>rfl
  |some _=>exact(show False from r).elim
 |some _=>cases u with
  |none=>exact(show False from r).elim
  |some _=>rfl
theorem KV.val{kvs:List (κ×V)}{vs:List (κ×Value)}(r:KV kvs vs)(k:κ):an0 (Y2 kvs k) (valueAt vs k):=by
 unfold KV at r;induction r with
 |nil=>exact True.intro
 | @cons p q ps qs h t ih=>
  obtain⟨h1,h2⟩:=h;by_cases e:p.1=k
  ·have e':q.1=k:=h1.symm.trans e;have b:valueAt (q::qs) k=some q.2:=by simp[valueAt,List.find?_cons,e']
   rw[ai3 e,b];exact h2
  ·have e':¬q.1=k:=fun z=>e (h1.trans z)
   have b:valueAt (q::qs) k=valueAt qs k:=by simp[valueAt,List.find?_cons,e']
   rw[ai4 e,b];exact ih
theorem KV.any{kvs:List (κ×V)}{vs:List (κ×Value)}(r:KV kvs vs)(k:κ):(kvs.any fun kv=>decide (kv.1=k))=vs.any fun kv=>decide (kv.1=k):=by
 unfold KV at r;induction r with
 |nil=>rfl
 |cons h t ih=>rw[cs8,cs8,ih,h.1]
theorem KV.repl{kvs:List (κ×V)}{vs:List (κ×Value)}(r:KV kvs vs)(k:κ){y:V}{u:Value}(ry:r8 y u):
  KV (kvs.map fun kv=>if kv.1=k then(kv.1,y)else kv) (vs.map fun kv=>if kv.1=k then(kv.1,u)else kv):=by
 unfold KV at r⊢;induction r with
 |nil=>exact .nil
 | @cons p q ps qs h t ih=>
  rw[cv2,cv2];refine .cons ?_ ih;obtain⟨h1,h2⟩:=h;by_cases e:p.1=k
  ·rw[cx8 e,cx8 (h1.symm.trans e)];exact⟨h1,ry⟩
  ·rw[cx7 e,cx7 (fun z=>e (h1.trans z))];exact⟨h1,h2⟩
theorem KV.put{kvs:List (κ×V)}{vs:List (κ×Value)}(r:KV kvs vs)(k:κ){y:V}{u:Value}(ry:r8 y u):KV (W7 kvs k y) (stored vs k u):=by
 unfold W7 stored;rw[r.any k];by_cases e:(vs.any fun kv=>decide (kv.1=k))=true
 ·rw[cx8 e,cx8 e];exact r.repl k ry
 ·rw[cx7 e,cx7 e];exact Paired.snoc r ⟨rfl,ry⟩
theorem KV.keys{kvs:List (κ×V)}{vs:List (κ×Value)}(r:KV kvs vs):kvs.map (·.1)=vs.map (·.1):=by
 unfold KV at r;induction r with
 |nil=>rfl
 |cons h t ih=>rw[cv2,cv2,ih,h.1]
theorem KV.length{kvs:List (κ×V)}{vs:List (κ×Value)}(r:KV kvs vs):kvs.length=vs.length:=Paired.length r
end
theorem aG9{P:Program}{w:World}{k:Key}{u:Value}(r:r8 (kV k) u):(F9 P w).is k u=true:=by
 cases k with
 |inl i=>obtain⟨t,e⟩:=(show∃t,u=Value.int i t from r);subst e;exact bc1 P w i t
 |inr x=>obtain⟨t,e⟩:=(show∃t,u=Value.str x t from r);subst e;exact bc0 P w x t
theorem aN2{P:Program}{w:World}:∀{ks:List Key}{us:List Value},o9 (ks.map kV) us->ItemsAre (F9 P w) ks us
 |[],_,r=>by rw[cv4]at r;cases r;exact .nil
 |k::ks,_,r=>by
  rw[cv2]at r;cases r with
  |cons h t=>exact .cons (aG9 h) (aN2 t)
noncomputable abbrev KT(H:Hp):List (List Key×V)->List (List Key×Addr×Value)->Prop:=Paired fun p q=>p.1=q.1/\H q.2.1=some (.tup (p.1.map kV))/\r8 p.2 q.2.2
theorem KT.val{H:Hp}{kvs:List (List Key×V)}{xs:List (List Key×Addr×Value)}(r:KT H kvs xs)(k:List Key):an0 (Y2 kvs k) ((atKey xs k).map (·.2)):=by
 induction r with
 |nil=>exact True.intro
 | @cons p q ps qs h t ih=>
  obtain⟨h1,_,h2⟩:=h;by_cases e:p.1=k
  ·have e':q.1=k:=h1.symm.trans e;have b:atKey (q::qs) k=some q.2:=by simp[atKey,List.find?_cons,e']
   rw[ai3 e,b];exact h2
  ·have e':¬q.1=k:=fun z=>e (h1.trans z)
   have b:atKey (q::qs) k=atKey qs k:=by simp[atKey,List.find?_cons,e']
   rw[ai4 e,b];exact ih
theorem KT.repl{H:Hp}{kvs:List (List Key×V)}{xs:List (List Key×Addr×Value)}(r:KT H kvs xs)(k:List Key){y:V}{u:Value}(ry:r8 y u):
  KT H (kvs.map fun kv=>if kv.1=k then(kv.1,y)else kv) (xs.map (putAt k u)):=by
 induction r with
 |nil=>exact .nil
 | @cons p q ps qs h t ih=>
  rw[cv2,cv2];refine .cons ?_ ih;obtain⟨h1,h2,h3⟩:=h;unfold putAt;by_cases e:p.1=k
  ·rw[cx8 e,cx8 (h1.symm.trans e)];exact⟨h1,h2,ry⟩
  ·rw[cx7 e,cx7 (fun z=>e (h1.trans z))];exact⟨h1,h2,h3⟩
theorem KT.put{H:Hp}{kvs:List (List Key×V)}{xs:List (List Key×Addr×Value)}(r:KT H kvs xs)(k:List Key){b:Addr}{y:V}{u:Value}(hb:H b=some (.tup (k.map kV)))(ry:r8 y u):
  KT H (W7 kvs k y) (storedH xs k b u):=by
 have e:(kvs.any fun kv=>decide (kv.1=k))=(atKey xs k).isSome:=by
  rw[aA9,(r.val k).isSome_eq,Option.isSome_map]
 unfold W7 storedH;rw[e];by_cases q:(atKey xs k).isSome=true
 ·rw[cx8 q,cx8 q];exact r.repl k ry
 ·rw[cx7 q,cx7 q];exact Paired.snoc r ⟨rfl,hb,ry⟩
theorem KT.keeps{H H':Hp}{kvs:List (List Key×V)}{xs:List (List Key×Addr×Value)}(r:KT H kvs xs)(ht:∀b ys,H b=some (.tup ys)->H' b=some (.tup ys)):KT H' kvs xs:=
 Paired.mapP r fun _ _ z=>⟨z.1,ht _ _ z.2.1,z.2.2⟩
section
variable {P:Program}{w:World}{H:Hp}{h:Heap}{a:Addr}
theorem bK8{u:HO}(ok:HOk P w H h)(e:Rd H a u):J6 P w H h a u:=e.ok ok
theorem aQ6{kvs:List (Key×V)}(ok:HOk P w H h)(e:Rd H a (.dK kvs)):kvs.length<=sizeLine/\(a==sysModules)=false/\∃vs,KV kvs vs/\h.DictOf (F9 P w) a vs:=
 show J6 P w H h a (.dK kvs)from bK8 ok e
theorem bn0{kvs:List (Key×V)}(ok:HOk P w H h)(e:H a=some (.dK kvs)):kvs.length<=sizeLine/\(a==sysModules)=false/\∃vs,KV kvs vs/\h.DictOf (F9 P w) a vs:=aQ6 ok (.inl e)
theorem aG8{ks:List Key}(ok:HOk P w H h)(e:H a=some (.tup (ks.map kV))):(tupleKind (F9 P w)).is h ks a:=by
 obtain⟨_,its,r,o,h1,h2,n,h3⟩:=(show J6 P w H h a (.tup (ks.map kV))from ok a _ e)
 exact⟨o,its.toArray,n,h1,h2,h3,by simpa using aN2 r⟩
theorem aQ5{kvs:List (List Key×V)}(ok:HOk P w H h)(e:Rd H a (.dT kvs)):kvs.length<=sizeLine/\(a==sysModules)=false/\
  ∃xs,KT H kvs xs/\h.DictOfH (tupleKind (F9 P w)) a xs:=by
 obtain⟨z,y,xs,r,o,es,ep,h1,h2,h3,h4,h5⟩:=(show J6 P w H h a (.dT kvs)from bK8 ok e)
 refine⟨z,y,xs,r,o,es,ep,h1,h2,h3,h4,fun x hx=> ?_,h5⟩;have all:∀{l:List (List Key×V)}{m:List (List Key×Addr×Value)},KT H l m->∀x∈m,(tupleKind (F9 P w)).is h x.1 x.2.1:=by
  intro l m q;induction q with
  |nil=>intro x hx;exact nomatch hx
  | @cons p q ps qs hq t ih=>
   intro x hx;rcases List.mem_cons.mp hx with e|hx
   ·subst e;exact aG8 ok (by rw[<-hq.1];exact hq.2.1)
   ·exact ih x hx
 exact all r x hx
theorem cl8{kvs:List (List Key×V)}(ok:HOk P w H h)(e:H a=some (.dT kvs)):kvs.length<=sizeLine/\(a==sysModules)=false/\
  ∃xs,KT H kvs xs/\h.DictOfH (tupleKind (F9 P w)) a xs:=aQ5 ok (.inl e)
end
noncomputable def at8(H:Hp)(a:Addr)(y:V)(r:Option V):Prop:=
 (∃kvs k,Rd H a (.dK kvs)/\y=kV k/\r=Y2 kvs k)\/∃kvs k b,Rd H a (.dT kvs)/\y=.ref b/\H b=some (.tup (k.map kV))/\r=Y2 kvs k
noncomputable def ba4(H:Hp)(a:Addr)(y v:V)(H':Hp):Prop:=
 (∃kvs k,H a=some (.dK kvs)/\y=kV k/\kvs.length<sizeLine/\H'=upd H a (.dK (W7 kvs k v)))\/
 ∃kvs k b,H a=some (.dT kvs)/\y=.ref b/\H b=some (.tup (k.map kV))/\kvs.length<sizeLine/\H'=upd H a (.dT (W7 kvs k v))
theorem at8.k{H:Hp}{a:Addr}{kvs:List (Key×V)}{k:Key}(e:H a=some (.dK kvs)):at8 H a (kV k) (Y2 kvs k):=.inl ⟨kvs,k,.inl e,rfl,rfl⟩
theorem ba4.k{H:Hp}{a:Addr}{kvs:List (Key×V)}{k:Key}{v:V}(e:H a=some (.dK kvs))(hl:kvs.length<sizeLine):ba4 H a (kV k) v (upd H a (.dK (W7 kvs k v))):=.inl ⟨kvs,k,e,rfl,hl,rfl⟩
section
variable {X:Cx}{pins:List (Addr×Obj)}{σ:St}{H:Hp}{s:Shared}{a:Addr}{y v:V}{u r:Value}{o:Option V}{A:Around}{E:Value->Shared->Prop}
theorem Inv.big(I:Inv X pins σ H s):sysModules<s.heap.objs.size:=by
 have h:mainGlobals<s.heap.objs.size:=(I.mod.glob.keeps I.bk).lt;exact Nat.lt_trans (by decide) h
theorem by4{Q:Value->Shared->Prop}(hu:A.units+1<cLine)(I:Inv X pins σ H s)(g:at8 H a y (some v))(ry:r8 y u)(h:∀w' s',Inv X pins σ H s'->r8 v w'->Q w' s'):
  wpAny (model X.prog X.w) A (getItem (.ref a) u) Q E s:=by
 rcases g with⟨kvs,k,e,ey,l⟩|⟨kvs,k,b,e,ey,eb,l⟩
 ·subst ey;obtain⟨z,hd,vs,rel,dd⟩:=aQ6 I.hok e;obtain⟨w',hw,rw'⟩:=an0.some_of (v:=v) (o:=valueAt vs k) (by rw[l];exact rel.val k);exact wpAny_getItem_of (aG9 ry) dd.mapOf hw (h w' _ (I.tok _) rw')
 ·subst ey;cases(show u=Value.ref b from ry);obtain⟨z,hd,xs,rel,dd⟩:=aQ5 I.hok e;obtain⟨w',hw,rw'⟩:=an0.some_of (v:=v) (o:=(atKey xs k).map (·.2)) (by rw[l];exact rel.val k);obtain⟨p,hp,hp2⟩:=Option.map_eq_some_iff.mp hw;refine wpAny_getItem_heap (tupleKind_room_in1 hu) (aG8 I.hok eb) dd hp ?_;rw[hp2];exact h w' _ (I.tok _) rw'
theorem bU5{Q:Value->Shared->Prop}(hu:A.units+1<cLine)(I:Inv X pins σ H s)(g:at8 H a y o)(ry:r8 y u)(h:∀s',Inv X pins σ H s'->Q (.bool (!o.isSome)) s'):
  wpAny (model X.prog X.w) A (compareOp .NotIn u (.ref a)) Q E s:=by
 rcases g with⟨kvs,k,e,ey,l⟩|⟨kvs,k,b,e,ey,eb,l⟩
 ·subst ey;obtain⟨z,hd,vs,rel,dd⟩:=aQ6 I.hok e;refine wpAny_notIn_of (aG9 ry) hd dd.mapOf ?_;rw[<-(rel.val k).isSome_eq,<-l];exact h _ (I.tok _)
 ·subst ey;cases(show u=Value.ref b from ry);obtain⟨z,hd,xs,rel,dd⟩:=aQ5 I.hok e;refine wpAny_notIn_heap (tupleKind_room_in1 hu) (aG8 I.hok eb) hd dd ?_;have q:=(rel.val k).isSome_eq;rw[Option.isSome_map]at q;rw[<-q,<-l];exact h _ (I.tok _)
theorem aK8{h':Heap}{t':Nat}{ob:HO}(I:Inv X pins σ H s)(mu:Mut (H a))(hs:Heap.SameBut a s.heap h')(he:∃q,h'.get? a=some q)(new:J6 X.prog X.w (upd H a ob) h' a ob):
  Inv X pins σ (upd H a ob) {s with heap:=h',toks:=t'}:=
 I.write (x:=a) (e:=a) mu (.inl rfl) (fun b q hb z=>(hs.2 b hb).trans z) he new
theorem by0{P:Program}{w:World}{H':Hp}{h':Heap}{kvs:List (Key×V)}{vs:List (Key×Value)}(z:kvs.length<=sizeLine)(hd:(a==sysModules)=false)(rel:KV kvs vs)(dd:h'.DictOf (F9 P w) a vs):
  J6 P w H' h' a (.dK kvs):=⟨z,hd,vs,rel,dd⟩
theorem by3{H':Hp}{Q:Unit->Shared->Prop}(hu:A.units+1<cLine)(I:Inv X pins σ H s)(g:ba4 H a y v H')(ry:r8 y u)(rv:r8 v r)(h:∀s',Inv X pins σ H' s'->Q () s'):
  wpAny (model X.prog X.w) A (setItem (.ref a) u r) Q E s:=by
 rcases g with⟨kvs,k,e,ey,l,eH⟩|⟨kvs,k,b,e,ey,eb,l,eH⟩
 ·subst ey eH;obtain⟨z,hd,vs,rel,dd⟩:=bn0 I.hok e;have hz:vs.length<=sizeLine:=by rw[<-rel.length];exact z
  have hl:(W7 kvs k v).length<=sizeLine:=by have :=am7 kvs k v;omega
  refine wpAny_setItem_pairs (hsz:=hz) (aG9 ry) dd fun h' dd' hs=>h _ ?_
  have he:∃q,h'.get? a=some q:=let⟨q,_,_,hq,_⟩:=dd';⟨q,hq⟩;exact aK8 I (by rw[e];exact True.intro) hs he (by0 hl hd (rel.put k rv) dd')
 ·subst ey eH;cases(show u=Value.ref b from ry);obtain⟨z,hd,xs,rel,dd⟩:=cl8 I.hok e;have hz:xs.length<=sizeLine:=by rw[<-Paired.length rel];exact z
  have hl:(W7 kvs k v).length<=sizeLine:=by have :=am7 kvs k v;omega
  refine wpAny_setItem_heap (hsz:=hz) (tupleKind_room_in1 hu) (aG8 I.hok eb) dd fun h' dd' hs=>h _ ?_
  obtain⟨q,es,ep,hq,h2,h3,h4,_,h5⟩:=dd';refine aK8 I (by rw[e];exact True.intro) hs ⟨q,hq⟩ ⟨hl,hd,_,(rel.put k eb rv).keeps fun c ys ec=> ?_,q,es,ep,hq,h2,h3,h4,h5⟩;rw[l7 (ck2 ec e (fun z=>nomatch z))];exact ec
end
section
variable {X:Cx}{pins:List (Addr×Obj)}{σ:St}{H:Hp}{s:Shared}{a:Addr}{kvs:List (Key×V)}{k:Key}{u:Value}{A:Around}{E:Value->Shared->Prop}
end
noncomputable def bJ8(i:Expr):Prop:=∀ov iv,subscripted i false ov iv=operate [ov,iv] (getItem ov iv)
theorem bO1{prog:Program}{w:World}{A:Around}{E:Value->Shared->Prop}{s:Shared}{env:Env}{value slice:Expr}{pos:Pos}{T id:String}{Q:Value->Shared->Prop}
  (hl:typeLookup (.type T) "__getitem__"=pure (some (.builtin id))) (hs:bJ8 slice)
  (h:wpAny (model prog w) A (eval value env) (fun o s₁=>wpAny (model prog w) A (eval slice env) (fun i s₂=>s₂.TypeIs o T/\wpAny (model prog w) A (getItem o i) Q E s₂) E s₁) E s):
  wpAny (model prog w) A (eval (.Subscript value slice pos) env) Q E s:=by
 refine Subscript_ (cy2 h (fun o s₁ h₁=>cy2 h₁ (fun i s₂ h₂=> ?_) fun _ _ x=>x) fun _ _ x=>x);obtain⟨hT,h₂⟩:=h₂;unfold subscriptTail;refine cx9 ?_;rw[getitemInPython_of_ne hT.not_modules];refine cx9 (wpAny_specialOf hT hl ?_);have fin:wpAny (model prog w) A (subscripted slice false o i) (fun r s₃=>wpAny (model prog w) A (letTemporaryGo value o r>>=fun _=>pure r) Q E s₃) E s₂:=by
  rw[hs o i];exact wpAny_operating (cy2 h₂ (fun r s₃ h₃=>cx9 (wpAny_letTemporaryGo (cy5 h₃))) fun _ _ x=>x)
 first
  |exact cy5 (cx9 fin)
  |exact cx9 (cy5 (cx9 fin))
  |exact cx9 fin
theorem bc2{X:Cx}{pins:List (Addr×Obj)}{σ:St}{H:Hp}{s:Shared}{a:Addr}{y:V}{o:Option V}(I:Inv X pins σ H s)(g:at8 H a y o):s.TypeIs (.ref a) "dict":=by
 rcases g with⟨kvs,k,e,_,_⟩|⟨kvs,k,b,e,_,_,_⟩
 ·obtain⟨_,_,vs,_,dd⟩:=aQ6 I.hok e;exact dd.typeIs
 ·obtain⟨_,_,xs,_,dd⟩:=aQ5 I.hok e;exact dd.typeIs
noncomputable def ci7(td ty:TE):TE:=fun σ H Q=>td σ H fun x H1=>ty σ H1 fun y H2=>∃a v,x=.ref a/\at8 H2 a y (some v)/\Q v H2
noncomputable def bO0(ty td:TE):TE:=fun σ H Q=>ty σ H fun y H1=>td σ H1 fun x H2=>∃a o,x=.ref a/\at8 H2 a y o/\Q (.bl (!o.isSome)) H2
noncomputable def aq5(td ty tv:TE):TS:=fun D σ H=>tv σ H fun v H1=>td σ H1 fun x H2=>ty σ H2 fun y H3=>∃a H4,x=.ref a/\ba4 H3 a y v H4/\D.nx σ H4
section
variable {X:Cx}{o i e value:Expr}{pos pos' tpos:Pos}{td ty tv:TE}
theorem bQ7(hu:X.A.units+1<cLine)(ho:PE X o td)(hi:PE X i ty)(hs:bJ8 i):PE X (.Subscript o i pos) (ci7 td ty):=by
 intro pins s σ H Q I h;refine bO1 PySem.F.slot_dict_getitem.lookup hs (thn (ho pins s σ H _ I h) fun u s1 ⟨x,H1,I1,rx,q1⟩=>thn (hi pins s1 σ H1 _ I1 q1) fun iv s2 ⟨y,H2,I2,ry,a,v,ex,g,q2⟩=> ?_);subst ex;obtain rfl:u=Value.ref a:=rx;exact⟨bc2 I2 g,by4 hu I2 g ry fun w' s3 I3 rw'=>⟨v,H2,I3,rw',q2⟩⟩
theorem bt9(hu:X.A.units+1<cLine)(hi:PE X i ty)(ho:PE X o td):PC X .NotIn i o (bO0 ty td):=by
 intro pins s σ H Q I h;refine thn (hi pins s σ H _ I h) fun iv s1 ⟨y,H1,I1,ry,q1⟩=>thn (ho pins s1 σ H1 _ I1 q1) fun u s2 ⟨x,H2,I2,rx,a,ov,ex,g,q2⟩=> ?_
 subst ex;obtain rfl:u=Value.ref a:=rx;exact bU5 hu I2 g ry fun s3 I3=>⟨.bl (!ov.isSome),H2,I3,rfl,q2⟩
theorem bP9(hu:X.A.units+1<cLine)(ho:PE X o td)(hi:PE X i ty)(hv:PE X value tv)(hs:swapsWith value (some (.Subscript o i pos')) pos.line X.env=pure false):
  PS X (.Assign [.Subscript o i pos'] value pos) (aq5 td ty tv):=by
 intro pins s σ H D I h;refine wpAny_Assign_Subscript (thn (hv pins s σ H _ I h) fun r s1 ⟨v,H1,I1,rv,q1⟩=>thn (ho pins s1 σ H1 _ I1 q1) fun u s2 ⟨x,H2,I2,rx,q2⟩=>thn (hi pins s2 σ H2 _ I2 q2) fun iv s3 ⟨y,H3,I3,ry,a,H4,ex,g,q3⟩=> ?_) hs;subst ex;obtain rfl:u=Value.ref a:=rx;exact by3 hu I3 g ry rv fun s4 I4=>⟨σ,H4,I4,q3⟩
end
theorem bI1{P:Program}{w:World}{H:Hp}(h:Heap)(hb:sysModules<h.objs.size):J6 P w H (h.push {cls:=.type "dict",data:=.dict #[]}) h.objs.size (.dK []):=
 ⟨Nat.zero_le _,beq_eq_false_iff_ne.mpr (Ne.symm (cx2 hb)),[],.nil,Heap.DictOf.new h⟩
section
variable {X:Cx}{pos:Pos}
end
noncomputable def aR6:List (TE×TE)->St->Hp->(List (V×V)->Hp->Prop)->Prop
 |[],_,H,Q=>Q [] H
 |(tk,tv)::r,σ,H,Q=>tk σ H fun x H1=>tv σ H1 fun y H2=>aR6 r σ H2 fun ps H3=>Q ((x,y)::ps) H3
noncomputable abbrev VV:List (V×V)->List (Value×Value)->Prop:=Paired fun p q=>r8 p.1 q.1/\r8 p.2 q.2
noncomputable def PPs(X:Cx)(pos:Pos)(keys:List (Option Expr))(values:List Expr)(trs:List (TE×TE)):Prop:=
 ∀(pins:List (Addr×Obj)) (s:Shared) (σ:St) (H:Hp) (Q:List (V×V)->Hp->Prop),Inv X pins σ H s->aR6 trs σ H Q->
  wpAny (model X.prog X.w) X.A (evalPairs (pairTrees keys values X.env pos)) (fun vs s'=>∃ps H',Inv X pins σ H' s'/\VV ps vs/\Q ps H') X.xe s
theorem bQ1{X:Cx}{pos:Pos}:PPs X pos [] [] []:=fun pins s σ H Q I h=>pairTrees_nil_walk ⟨[],H,I,.nil,h⟩
theorem bE8{X:Cx}{pos:Pos}{k v:Expr}{ks:List (Option Expr)}{vs:List Expr}{tk tv:TE}{trs:List (TE×TE)}(hk:PE X k tk)(hv:PE X v tv)(hr:PPs X pos ks vs trs):
  PPs X pos (some k::ks) (v::vs) ((tk,tv)::trs):=fun pins s σ H Q I h=>
 pairTrees_cons_walk (thn (hk pins s σ H _ I h) fun u s1 ⟨x,H1,I1,rx,q1⟩=>thn (hv pins s1 σ H1 _ I1 q1) fun w2 s2 ⟨y,H2,I2,ry,q2⟩=>
  thn (hr pins s2 σ H2 _ I2 q2) fun ws s3 ⟨ps,H3,I3,rel,q3⟩=>⟨(x,y)::ps,H3,I3,.cons ⟨rx,ry⟩ rel,q3⟩)
noncomputable def aj2(kvs more:List (Key×V)):List (Key×V):=more.foldl (fun acc kv=>W7 acc kv.1 kv.2) kvs
theorem KV.merge:∀{more:List (Key×V)}{rs:List (Key×Value)}{kvs:List (Key×V)}{vs:List (Key×Value)},KV more rs->KV kvs vs->KV (aj2 kvs more) (merged vs rs):=by
 intro more rs kvs vs r;unfold KV at r;induction r generalizing kvs vs with
 |nil=>intro q;exact q
 | @cons p q ps qs h t ih=>
  intro r0;have e:KV (W7 kvs p.1 p.2) (stored vs q.1 q.2):=by
   have :=r0.put p.1 h.2;rw[<-h.1];exact this
  exact ih e
theorem at9:∀(more kvs:List (Key×V)),(aj2 kvs more).length<=kvs.length+more.length
 |[],kvs=>by show kvs.length<=kvs.length+0;omega
 |p::r,kvs=>by
  have h1:=at9 r (W7 kvs p.1 p.2);have h2:=am7 kvs p.1 p.2;show(aj2 (W7 kvs p.1 p.2) r).length<=_;rw[cu5];omega
theorem aH9{P:Program}{w:World}:∀{kvs:List (Key×V)}{ws:List (Value×Value)},VV (kvs.map fun kv=>(kV kv.1,kv.2)) ws->∃rs,Carries (F9 P w) ws rs/\KV kvs rs
 |[],_,r=>by rw[cv4]at r;cases r;exact⟨[],True.intro,.nil⟩
 |p::kvs,_,r=>by
  rw[cv2]at r;cases r with
  | @cons a b as bs h t=>
   obtain⟨rs,c,q⟩:=aH9 (P:=P) (w:=w) t;obtain⟨b1,b2⟩:=b;exact⟨(p.1,b2)::rs,⟨aG9 h.1,rfl,c⟩,.cons ⟨rfl,h.2⟩ q⟩
noncomputable def ci6(trs:List (TE×TE)):TE:=fun σ H Q=>∀p,H p=none->aR6 trs σ (upd H p (.dK [])) fun ps H2=>H2 p=some (.dK [])/\∃kvs:List (Key×V),ps=kvs.map (fun kv=>(kV kv.1,kv.2))/\kvs.length<=15/\Q (.ref p) (upd H2 p (.dK (aj2 [] kvs)))
theorem bQ6{X:Cx}{pos:Pos}{keys:List (Option Expr)}{values:List Expr}{trs:List (TE×TE)}(h:PPs X pos keys values trs)(hall:keys.all (·.isSome)=true)(hl:keys.length=values.length)(h0:keys≠[])
  (h15:keys.length<=15):PE X (.Dict keys values pos) (ci6 trs):=by
 intro pins s σ H Q I q;have hn:=I.hok.fresh (cw8 s.heap.objs.size);have I1:=I.laid (a:=s.heap.objs.size) (o:=.dK []) (h':=s.heap.push {cls:=.type "dict",data:=.dict #[]}) (t':=s.toks) (fun _ _ q=>cs1 _ q) (cw8 _) (bI1 s.heap I.big);refine wpAny_Dict_walk (knd:=F9 X.prog X.w) hall hl h0 h15 (thn (h pins _ σ _ _ I1 (q _ hn)) fun ws s2 ⟨ps,H2,I2,rel,e,kvs,ep,lk,q2⟩=> ?_);subst ep;obtain⟨rs,c,rk⟩:=aH9 (P:=X.prog) (w:=X.w) rel;obtain⟨z,hd,vs0,r0,dd⟩:=bn0 I2.hok e;cases r0;refine⟨rs,c,dd,fun h' dd' hs=>⟨.ref s.heap.objs.size,_,?_,rfl,q2⟩⟩;have hz:(aj2 [] kvs).length<=sizeLine:=by
  have h1:=at9 kvs [];rw[cu7]at h1;rw[sizeLine_eq];omega
 have he:∃q,h'.get? s.heap.objs.size=some q:=let⟨q,_,_,hq,_⟩:=dd';⟨q,hq⟩;exact aK8 I2 (by rw[e];exact True.intro) hs he (by0 hz hd (rk.merge .nil) dd')
end L2
namespace L3
open PySem PySem.Spec PyProof.Rows L2
section
variable {K:W.Frag}{G:Hp}
theorem aY1{i:Int}{t:T}:∀{ks:List Int}{ts:List T}{xs:List V},ks.length=xs.length->j5 K G ts xs->aa2 i ks ts=some t->∃x,Y2 ((ks.map (Sum.inl:Int->Key)).zip xs) (Sum.inl i)=some x/\Rep K G t x
 |[],_,_,_,_,h=>by simp[aa2]at h
 |k::ks,[],_,_,_,h=>by simp[aa2]at h
 |k::ks,u::ts,xs,hl,r,h=>by
  simp only[j5]at r;obtain⟨x,q,e,r1,r2⟩:=r;subst e;by_cases hk:k=i
  ·subst hk;simp only[aa2,if_true]at h;cases h;exact⟨x,ai3 rfl,r1⟩
  ·simp only[aa2,cx7 hk]at h;obtain⟨y,h1,h2⟩:=aY1 (by simpa using hl) r2 h;refine⟨y,?_,h2⟩;rw[cv2,cw7,ai4 (fun z=>hk (Sum.inl.inj z))];exact h1
theorem aK3{i:Int}:∀{ks:List Int}{xs:List V},ks.length=xs.length->(Y2 ((ks.map (Sum.inl:Int->Key)).zip xs) (Sum.inl i)).isSome=ks.contains i
 |[],_,_=>rfl
 |k::ks,[],h=>by simp at h
 |k::ks,x::xs,h=>by
  rw[cv2,cw7,List.contains_cons];by_cases hk:k=i
  ·subst hk;rw[ai3 rfl];simp
  ·rw[ai4 (fun z=>hk (Sum.inl.inj z)),aK3 (by simpa using h)];have :(i==k)=false:=by simpa using fun z:i=k=>hk z.symm
   rw[this,Bool.false_or]
end
section
variable {X:Cx}{a b e tg:Expr}{pos:Pos}
theorem aU0{ga gb:L3.G}{k:Nat}(hr:B7 k X.A)(ha:Wd (PX X a ga))(hb:Wd (PX X b gb))(hs:bJ8 b:=by intro _ _;rfl):Wd (PX X (.Subscript a b pos) (g2 aH7 ga gb)):=⟨have ha:=ha.run;have hb:=hb.run;PE.imp (bQ7 (by have :=hu8 hr;omega) ha hb hs) fun σ H Q zz=>by
  obtain⟨G,ρ,t,sG,hρ,hg,q⟩:=zz;obtain⟨tx,k1,hg⟩:=h9 hg;obtain⟨ty,k2,hg⟩:=h9 hg;cases tx<;>first |(cases hg;done)|skip
  cases ty<;>first |(cases hg;done)|skip
  rename_i ks ts i;refine⟨G,ρ,_,sG,hρ,k1,fun v G1 H1 e1 r1=>⟨G1,ρ,_,e1.s,hρ.mono e1.g,k2,fun u G2 H2 e2 r2=> ?_⟩⟩;have r1:=r1.mono e2.g;simp only[Rep]at r1 r2;obtain⟨p,xs,h1,h2,h3,h4⟩:=r1;obtain⟨x,h5,h6⟩:=aY1 h3 h4 hg;subst r2;refine⟨p,x,h1,?_,q x G2 H2 (e1.trans e2) h6⟩;rw[<-h5];exact at8.k (k:=Sum.inl i) (e2.s _ _ h2)⟩
theorem bj1{ga gb:L3.G}{k:Nat}(hr:B7 k X.A)(ha:Wd (PX X a ga))(hb:Wd (PX X b gb))(hm:behindInMarks .NotIn b=false:=by with_unfolding_all rfl):Wd (PXB X (.Compare a [.NotIn] [b] pos) (bOf (g2 az2 ga gb))):=⟨have ha:=ha.run;have hb:=hb.run;PT.imp (bZ0 (bt9 (by have :=hu8 hr;omega) ha hb) hm) fun σ H Q zz=>by
  obtain⟨G,ρ,t,sG,hρ,hg,q⟩:=zz;obtain⟨tz,hg,ht⟩:=h9 hg;obtain⟨tx,k1,hg⟩:=h9 hg;obtain⟨ty,k2,hg⟩:=h9 hg
  match tx,ty,k1,k2,hg with
  |.int i,.dct ks ts,k1,k2,hg=>
  cases hg;cases ht;refine⟨G,ρ,_,sG,hρ,k1,fun v G1 H1 e1 r1=>⟨G1,ρ,_,e1.s,hρ.mono e1.g,k2,fun u G2 H2 e2 r2=> ?_⟩⟩;simp only[Rep]at r1 r2;obtain⟨p,xs,h1,h2,h3,h4⟩:=r2;subst r1;refine⟨p,_,h1,at8.k (k:=Sum.inl i) (e2.s _ _ h2),_,rfl,?_⟩;rw[aK3 h3];exact q G2 H2 (e1.trans e2)⟩
theorem ai5{g:L3.G}(h:Wd (PX X e g)):Wd (PXI X tg e (itT g)):=⟨have h:=h.run;PI.imp (bZ7 h) fun σ H R zz=>by
 obtain⟨G,ρ,ts,sG,hρ,hg,q⟩:=zz;obtain⟨t,h1,h2⟩:=h9 hg;refine⟨G,ρ,t,sG,hρ,h1,fun v G1 H1 e1 r1=> ?_⟩;cases t<;>first |(cases h2;done)|skip
 cases h2;simp only[Rep]at r1;obtain⟨p,xs,k1,k2,k3⟩:=r1;refine⟨p,k1,⟨xs,S8 e1.s.s k2⟩,q _ G1 H1 e1 ?_⟩;intro i G2 H2 s1 s2;have hH:SqT X.K H2 p xs:=S8 s2.s (S8 s1 k2);refine⟨fun t ht=> ?_,fun h1 h2=>⟨xs,hH,by rw[k3.length];exact h1⟩⟩;obtain⟨x,hx,rx⟩:=k3.get ht;refine⟨⟨xs,x,hH,hx⟩,fun y H3 hy=> ?_⟩;obtain⟨e,hy⟩:=hy;subst e;have :=hy xs hH;rw[hx]at this;cases this;exact⟨G2,Ext.refl s2,rx.mono s1⟩⟩
theorem bb3{p:Pos}{ga gb:L3.G}(hg:Gl X "range")(hm:X.mg "range"=none)(ha:Wd (PXA X [a,b] (gs [ga,gb])))(hs:starEach [a,b] X.env=[(false,eval a X.env),(false,eval b X.env)]:=by rfl)(hs2:starEach [b] X.env=[(false,eval b X.env)]:=by rfl):Wd (PXI X tg (.Call (.Name "range" p) [a,b] [] pos) (aW8 ga gb)):=⟨have ha:=ha.run;PI.imp (bt5 hg hm ha hs hs2) fun σ H R zz=>by
  obtain⟨G,ρ,ts,sG,hρ,hg,q⟩:=zz;obtain⟨m,h1,hg⟩:=h9 hg;obtain⟨n,h2,hg⟩:=h9 hg;obtain⟨tx,k1,k2⟩:=h9 h1;obtain⟨ty,k3,k4⟩:=h9 h2;cases tx<;>first |(cases k2;done)|skip
  cases ty<;>first |(cases k4;done)|skip
  cases k2;cases k4;refine⟨G,ρ,[.int m,.int n],sG,hρ,?_,fun vs G1 H1 e1 r1=> ?_⟩
  ·simp only[gs,k1,k3,cx3]
  ·obtain⟨x,y,e,rx,ry⟩:=ad3 r1;simp only[Rep]at rx ry;subst rx ry;split at hg
   ·rename_i hn;cases hg;have hl:(lim:Int)<2^62:=by decide
    exact⟨m,n,e,⟨by omega,by omega,by omega,by omega⟩,q _ G1 H1 e1 aF1⟩
   ·cases hg⟩
theorem cb2:OpR X (compareOp .Is) (fun x y H Q=>∃c d,x=.bl c/\y=.bl d/\Q (.bl (c==d)) H):=by
 intro pins s σ H x y v u Q I rx ry h;obtain⟨c,d,rfl,rfl,q⟩:=h;cases rx;cases ry;refine wpAny_is_plain (by rfl) (K7 I q ?_);cases c<;>cases d<;>rfl
theorem bF7:OpR X (compareOp .IsNot) (fun x y H Q=>∃c d,x=.bl c/\y=.bl d/\Q (.bl !(c==d)) H):=by
 intro pins s σ H x y v u Q I rx ry h;obtain⟨c,d,rfl,rfl,q⟩:=h;cases rx;cases ry;refine wpAny_isNot_plain (by rfl) (K7 I q ?_);cases c<;>cases d<;>rfl
theorem bD1{K:W.Frag}:E4 K (fun x y H Q=>∃c d,x=.bl c/\y=.bl d/\Q (.bl (c==d)) H) (fun x y=>match y with |.bl d=>aX9 d x|_=>none):=by
 intro G H tx ty x y tz Q sG rx ry hf q;cases ty<;>first |(cases hf;done)|skip
 cases tx<;>first |(cases hf;done)|skip
 simp only[Rep]at rx ry;cases hf;exact⟨_,_,rx,ry,q _ G H (Ext.refl sG) (by simp[Rep])⟩
theorem bi4{K:W.Frag}:E4 K (fun x y H Q=>∃c d,x=.bl c/\y=.bl d/\Q (.bl !(c==d)) H) (fun x y=>match y with |.bl d=>ac7 d x|_=>none):=by
 intro G H tx ty x y tz Q sG rx ry hf q;cases ty<;>first |(cases hf;done)|skip
 cases tx<;>first |(cases hf;done)|skip
 simp only[Rep]at rx ry;cases hf;exact⟨_,_,rx,ry,q _ G H (Ext.refl sG) (by simp[Rep])⟩
theorem bP3{g:L3.G}{c:Bool}{j:Nat}{pc:Pos}(h:Wd (PX X a g)):Wd (PX X (.Compare a [.Is] [.Constant (.bool c) j pc] pos) (g1 (aX9 c) g)):=⟨by
 have h:=h.run;have :=af4 (pos:=pos) cb2 bD1 h (bL0 (X:=X) (i:=c) (j:=j) (pos:=pc)) (O9 _);have e:g2 (fun x y=>match y with |.bl d=>aX9 d x|_=>none) g (gC (.bl c))=g1 (aX9 c) g:=rfl;rw[e]at this;exact this⟩
theorem aC2{g:L3.G}{c:Bool}{j:Nat}{pc:Pos}(h:Wd (PX X a g)):Wd (PXB X (.Compare a [.IsNot] [.Constant (.bool c) j pc] pos) (bOf (g1 (ac7 c) g))):=⟨by
 have h:=h.run;have :=af7 (pos:=pos) bF7 bi4 h (bL0 (X:=X) (i:=c) (j:=j) (pos:=pc)) (O9 _);have e:g2 (fun x y=>match y with |.bl d=>ac7 d x|_=>none) g (gC (.bl c))=g1 (ac7 c) g:=rfl;rw[e]at this;exact this⟩
theorem be0{g:L3.G}(h:Wd (PX X e g))(he:∀O7,isTrue e X.env O7=(do let v<-O7;standAt e.pos;holding [v] (truthy v)):=by intro _;rfl):Wd (PXB X e (aL0 g)):=⟨have h:=h.run;PT.imp (bE6 h he) fun σ H Q zz=>by
  obtain⟨G,ρ,t,sG,hρ,hg,q⟩:=zz;obtain⟨tx,k1,hg⟩:=h9 hg
  match tx,k1,hg with
  |.lst ts,k1,hg=>
  cases hg;refine⟨G,ρ,_,sG,hρ,k1,fun v G1 H1 e1 r1=> ?_⟩;simp only[Rep]at r1;obtain⟨p,xs,h1,h2,h3⟩:=r1;subst h1;refine⟨_,.inl ⟨xs,SqL.of (e1.s _ _ h2),?_⟩,q G1 H1 e1⟩;have :=h3.length;cases ts with
  |nil=>
   cases xs with
   |nil=>rfl
   |cons x xs=>simp at this
  |cons u ts=>
   cases xs with
   |nil=>simp at this
   |cons x xs=>rfl⟩
end
section
variable {X:Cx}{a b e:Expr}{pos:Pos}
theorem by8(hc:X.calm=true):O3 X (.builtin "sum") (fun vs H Q=>∃(p:Addr) (ns:List Int),vs=[.ref p]/\H p=some (.lst (ns.map V.int))/\(ns.all fun n=>decide (0<=n)&&decide (n<=1000))=true/\ns.length<=1000/\Q (.int ns.sum) H):=by
 intro pins s σ H vs us Q I r h;obtain⟨p,ns,rfl,hp,hb,hn,q⟩:=h;obtain⟨u,rfl,ru⟩:=X6 r;cases ru;obtain⟨its,rv,pl,hz⟩:=I.list (SqL.of hp);have hl:=rv.length;rw[cu6]at hl;have lt:p<s.heap.objs.size:=by obtain⟨o,e,_⟩:=pl.isList;exact cs5 e
 have pre:∀j,j<=ns.length->preSum (fun i=>ns.getD i 0) j=(ns.take j).sum:=by
  intro j;induction j with
  |zero=>intro _;rfl
  |succ j ih=>
   intro hj;rw[preSum,ih (by omega),List.take_succ,List.sum_append];have :ns[j]?=some ns[j]:=ct8 (by omega);simp[this]
 have bd:∀n∈ns,0<=n/\n<=1000:=fun n hm=>by
  have :=List.all_eq_true.mp hb n hm;simpa using this
 have sb:∀l:List Int,(∀n∈l,0<=n/\n<=1000)->0<=l.sum/\l.sum<=l.length*1000:=by
  intro l;induction l with
  |nil=>intro _;simp
  |cons a l ih=>
   intro h;have h1:=h a cv8;have h2:=ih fun n hn=>h n (cv7 _ hn)
   simp only[cu5,List.sum_cons];omega
 refine call_sum_walk (cy6 pl.isList ?_);refine⟨s.heap.objs.size,_,_,_,_,_,fun i=>ns.getD i 0,rfl,Walks.list (A:=X.A.in1) (I.ok.hd hc) s.heap.objs.size p (cx2 lt) its.toArray,
  ⟨⟨_,cs2 _ rfl,rfl,rfl⟩,pl.isList.push _⟩,fun b hb=> ?_,fun i v hv=> ?_,fun j hj=> ?_,fun h' tk t' k=> ?_⟩
 ·show b<(s.heap.push _).objs.size;rw[Heap.size_push];simp only[List.mem_cons,List.not_mem_nil,or_false]at hb;rcases hb with rfl|rfl
  ·exact Nat.lt_succ_self _
  ·exact Nat.lt_succ_of_lt lt
 ·have hi:i<ns.length:=by
   have hv':its[i]?=some v:=by simpa using hv
   have :=Y5 hv';omega
  obtain⟨u,hu,ru⟩:=rv.get (i:=i) (x:=.int ns[i]) (by rw[cu0,ct8 hi];rfl);have hv':its[i]?=some v:=by simpa using hv
  rw[hu]at hv';cases hv';obtain⟨t,e⟩:=ru;refine⟨t,?_⟩;rw[e];simp[hi]
 ·have hj':j<ns.length:=by simpa[<-hl]using hj
  have e1:ns.getD j 0=ns[j]:=by simp[hj']
  have b1:=bd ns[j] (List.getElem_mem hj');have b2:=sb (ns.take (j+1)) fun n hn=>bd n (List.mem_of_mem_take hn)
  rw[pre (j+1) (by omega)];have b3:(ns.take (j+1)).length<=1000:=by rw[List.length_take];omega
  show InLong (ns.getD j 0)/\_;rw[e1];exact⟨⟨by omega,by omega⟩,⟨by omega,by omega⟩⟩
 ·have e:preSum (fun i=>ns.getD i 0) its.toArray.size=ns.sum:=by
   rw[cw5,<-hl,pre _ (cw8 _),List.take_length]
  rw[e];refine⟨.int ns.sum,H,?_,⟨t',rfl⟩,q⟩;exact I.kept fun b o e=>k b o (fun z=>cx2 (cs5 e) (by simpa using z)) (cs1 _ e)
theorem br3{K:W.Frag}:Y1 K (fun vs H Q=>∃(p:Addr) (ns:List Int),vs=[.ref p]/\H p=some (.lst (ns.map V.int))/\(ns.all fun n=>decide (0<=n)&&decide (n<=1000))=true/\ns.length<=1000/\Q (.int ns.sum) H) ar9:=by
 intro G H ts xs tz Q sG r hf q
 match ts,hf with
 |[.lst us],hf=>
  obtain⟨ns,h1,h2⟩:=h9 hf;split at h2
  case isFalse=>cases h2
  case isTrue hb=>
  cases h2;rw[cr8,cx6]at hb;obtain⟨y,e,rx⟩:=N7 r;simp only[Rep]at rx;obtain⟨p,ys,k1,k2,k3⟩:=rx;subst k1;have z:=ab1 h1 k3;subst z;exact⟨p,ns,e,sG _ _ k2,hb.1,hb.2,q _ G H (Ext.refl sG) (by simp[Rep])⟩
theorem aC1{p:Pos}{g:L3.G}(hc:X.calm=true)(hg:Gl X "sum")(hm:X.mg "sum"=none)(ha:Wd (PXA X [e] (gs [g])))(he:starEach [e] X.env=(false,eval e X.env)::starEach [] X.env:=by rfl)(hpl:(backTo pos (starEach [] X.env)).any (·.1)=false:=by rfl):Wd (PX X (.Call (.Name "sum" p) [e] [] pos) (gN ar9 [g])):=⟨have ha:=ha.run;P4 (by8 hc) br3 hg hm boot_sum ha (by decide) (by decide) he hpl⟩
theorem bf1:∀{ns:List Int}{m:Int},m∈ns->(∀a∈ns,m<=a)->ac3 ns=some m
 |[],_,h,_=>by cases h
 |[x],m,h,_=>by simp at h;subst h;rfl
 |x::y::ns,m,h,hl=>by
  by_cases hx:m∈(y::ns)
  ·have ih:=bf1 hx fun a ha=>hl a (cv7 _ ha)
   have :=hl x cv8;rw[ac3,ih];simp only;by_cases e:m<x
   ·rw[cx8 e]
   ·rw[cx7 e];congr 1;omega
  ·have hm:m=x:=by rcases List.mem_cons.mp h with e|e;exact e;exact absurd e hx
   subst hm;rw[ac3];cases q:ac3 (y::ns)with
   |none=>rfl
   |some z=>
    have hz:z∈(y::ns):=by
     have :∀{l:List Int}{z:Int},ac3 l=some z->z∈l:=by
      intro l;induction l with
      |nil=>intro z h;cases h
      |cons a l ih=>
       intro z h;rw[ac3]at h;cases q:ac3 l with
       |none=>rw[q]at h;cases h;exact cv8
       |some w=>
        rw[q]at h;simp only at h;split at h
        ·cases h;exact cv7 _ (ih q)
        ·cases h;exact cv8
     exact this q
    have :=hl z (cv7 _ hz);simp only;rw[cx7 (by omega)]
theorem bH4:∀{ns:List Int}{its:List Value},o9 (ns.map V.int) its->IntsAre its ns:=fun{ns its} h=>ah3 h
theorem bz0(hc:X.calm=true):O3 X (.builtin "min") (fun vs H Q=>∃(p:Addr) (ns:List Int) (m:Int),vs=[.ref p]/\H p=some (.lst (ns.map V.int))/\ac3 ns=some m/\Q (.int m) H):=by
 intro pins s σ H vs us Q I r h;obtain⟨p,ns,m,rfl,hp,hm,q⟩:=h;obtain⟨u,rfl,ru⟩:=X6 r;cases ru;obtain⟨its,rv,pl,hz⟩:=I.list (SqL.of hp);have hi:=bH4 rv;obtain⟨xs,e⟩:=hi.allInts.items;have hns:ns=xs.toList.map (·.1):=(by rw[<-hi.numsOf,<-nums_intItems,<-e])
 have hne:ns≠[]:=fun z=>by rw[z]at hm;cases hm
 have hsz:0<xs.size:=by
  have :0<ns.length:=List.length_pos_iff.mpr hne;rw[hns,cu6,Array.length_toList]at this;exact this
 have hl:=pl.isList;rw[e]at hl;refine min_intList (I.ok.hd hc) hl hsz fun v h' tk hv hk=> ?_
 obtain⟨t,rfl⟩:=intItems_at hv;have hb:=argBest_lt (numAt xs) (xs.size-1);have hlen:(xs.toList.map (·.1)).length=xs.size:=by rw[cu6,Array.length_toList]
 have q1:numAt xs (argBest (fun i j=>decide (numAt xs i<numAt xs j)) (xs.size-1))∈ns:=by
  rw[hns,numAt_eq];exact getD_mem (by have :=hb.1;omega)
 have q2:∀z∈ns,numAt xs (argBest (fun i j=>decide (numAt xs i<numAt xs j)) (xs.size-1))<=z:=fun z hz=>by
  rw[hns]at hz;obtain⟨j,hj,ez⟩:=mem_getD hz;have :=hb.2 j (by omega);rw[numAt_eq xs j]at this;rw[<-ez];exact this
 have q3:=bf1 q1 q2;rw[hm]at q3;cases q3;exact⟨.int _,H,I.kept fun b o e=>hk b o e,⟨t,rfl⟩,q⟩
theorem br5{K:W.Frag}:Y1 K (fun vs H Q=>∃(p:Addr) (ns:List Int) (m:Int),vs=[.ref p]/\H p=some (.lst (ns.map V.int))/\ac3 ns=some m/\Q (.int m) H) ay9:=by
 intro G H ts xs tz Q sG r hf q
 match ts,hf with
 |[.lst us],hf=>
  obtain⟨ns,h1,h2⟩:=h9 hf;obtain⟨m,h3,h2⟩:=h9 h2;cases h2;obtain⟨y,e,rx⟩:=N7 r;simp only[Rep]at rx;obtain⟨p,ys,k1,k2,k3⟩:=rx;subst k1;have z:=ab1 h1 k3;subst z;exact⟨p,ns,m,e,sG _ _ k2,h3,q _ G H (Ext.refl sG) (by simp[Rep])⟩
theorem bE0{p:Pos}{g:L3.G}(hc:X.calm=true)(hg:Gl X "min")(hm:X.mg "min"=none)(ha:Wd (PXA X [e] (gs [g])))(he:starEach [e] X.env=(false,eval e X.env)::starEach [] X.env:=by rfl)(hpl:(backTo pos (starEach [] X.env)).any (·.1)=false:=by rfl):Wd (PX X (.Call (.Name "min" p) [e] [] pos) (gN ay9 [g])):=⟨have ha:=ha.run;P4 (bz0 hc) br5 hg hm boot_min ha (by decide) (by decide) he hpl⟩
theorem aM1:∀{as bs:List Int},as.Perm bs->as.Pairwise (· <=·)->bs.Pairwise (· <=·)->as=bs
 |[],bs,p,_,_=>by rw[List.nil_perm]at p;exact p.symm
 |a::as,bs,p,h1,h2=>by
  cases bs with
  |nil=>exact absurd p.symm (by simp)
  |cons b bs=>
   rw[List.pairwise_cons]at h1 h2;have e:a=b:=by
    have m1:a∈b::bs:=p.mem_iff.mp cv8;have m2:b∈a::as:=p.mem_iff.mpr cv8;rcases List.mem_cons.mp m1 with q|q
    ·exact q
    ·rcases List.mem_cons.mp m2 with r|r
     ·exact r.symm
     ·have :=h1.1 b r;have :=h2.1 a q;omega
   subst e;rw[aM1 (List.Perm.cons_inv p) h1.2 h2.2]
theorem av6(x:Int):∀xs:List Int,(ac5 x xs).Perm (x::xs)
 |[]=>List.Perm.refl _
 |y::ys=>by
  unfold ac5;split
  ·exact List.Perm.refl _
  ·exact((av6 x ys).cons y).trans (List.Perm.swap x y ys)
theorem aq4:∀xs:List Int,(A1 xs).Perm xs
 |[]=>List.Perm.refl _
 |x::xs=>(av6 x _).trans ((aq4 xs).cons x)
theorem aA1(x:Int):∀xs:List Int,xs.Pairwise (· <=·)->(ac5 x xs).Pairwise (· <=·)
 |[],_=>by simp[ac5]
 |y::ys,h=>by
  rw[List.pairwise_cons]at h;unfold ac5;split
  ·rename_i hx;rw[List.pairwise_cons,List.pairwise_cons];exact⟨fun z hz=>by rcases List.mem_cons.mp hz with e|e;exact e▸hx;exact Int.le_trans hx (h.1 z e),h⟩
  ·rename_i hx;rw[List.pairwise_cons];refine⟨fun z hz=> ?_,aA1 x ys h.2⟩;rcases List.mem_cons.mp ((av6 x ys).mem_iff.mp hz)with e|e
   ·omega
   ·exact h.1 z e
theorem au4:∀xs:List Int,(A1 xs).Pairwise (· <=·)
 |[]=>List.Pairwise.nil
 |x::xs=>aA1 x _ (au4 xs)
end
section
variable {X:Cx}{a b e:Expr}{pos:Pos}
theorem ae9:∀{us:List Value}{ns:List Int},IntsAre us ns->o9 (ns.map V.int) us
 |_,_,.nil=>.nil
 |_,_,.cons _ t r=>.cons ⟨t,rfl⟩ (ae9 r)
theorem aT5{K:W.Frag}{G:Hp}:∀ns:List Int,j5 K G (ns.map T.int) (ns.map V.int)
 |[]=>j5.nil
 |n::ns=>j5.cons (by simp[Rep]) (aT5 ns)
theorem aW6{P:Program}{w:World}{i:Int}{u:Value}(h:(F9 P w).is (Sum.inl i) u=true):∃t,u=.int i t:=Value.isInt_shape (k:=i) (v:=u) h
theorem cd8{P:Program}{w:World}{A:Around}{E:Value->Shared->Prop}{s:Shared}{T:String}{r d:Addr}{n:Nat}{Pr:Nat->Value->Prop}{OK:Heap->Prop}{R:List Value->Shared->Prop}(K:W.KdlSrc P w T r d n Pr OK)(hh:A.handled=none)(ok:OK s.heap)(hn:n<=sizeLine)
  (h:∀(g:Heap) (tk:Nat) (acc:Array Value),(∀b o,s.heap.get? b=some o->g.get? b=some o)->s.heap.objs.size<=g.objs.size->ItemsOf Pr acc n->R acc.toList {s with heap:=g,toks:=tk}):
  wpAny (model P w) A (collect (.ref r)) R E s:=by
 have th:=K.there _ ok;unfold collect;refine cx9 (wpAny_runValue (codeAny_builtin entry_proto_collect' ?_));rw[Around.under_plainId PySem.F.plain_proto_collect _];show wpAny _ A.in1 (newList []>>=fun l=>again (.builtin "list.__iadd__" ⟨[l,.ref r],[]⟩)) _ _ s;refine cx9 (cy3 ?_);refine cy5 ⟨plainId_quiet PySem.F.plain_list_iadd _,codeAny_builtin entry_list_iadd' ?_⟩;rw[Around.under_plainId PySem.F.plain_list_iadd _];have new:(s.heap.push {cls:=.type "list",data:=.seq ([]:List Value).toArray}).get? s.heap.objs.size=some {cls:=.type "list",data:=.seq #[]}:=cs2 _ rfl;change wpAny _ A.in1 (Builtin.List.listExtendWith (.ref s.heap.objs.size) (.ref r) (.ref s.heap.objs.size)) _ _ _
 let Rr:Result->Shared->Prop:=fun q s'=>∃(g:Heap) (tk:Nat) (acc:Array Value) (c:Nat),q=.ok (.ret (.ref s.heap.objs.size))/\s'={s with heap:=g,toks:=tk}/\(∀b o,s.heap.get? b=some o->g.get? b=some o)/\g.get? s.heap.objs.size=some {cls:=.type "list",dict:=none,data:=.seq acc c,slots:=#[]}/\ItemsOf Pr acc n
 have fin:∀(g:Heap) (tk:Nat) (acc:Array Value) (c:Nat),(∀b o,s.heap.get? b=some o->g.get? b=some o)->g.get? s.heap.objs.size=some {cls:=.type "list",dict:=none,data:=.seq acc c,slots:=#[]}->ItemsOf Pr acc n->R acc.toList {s with heap:=g,toks:=tk}:=fun g tk acc c k e i=>h g tk acc k (Nat.le_of_lt (cs5 e)) i
 have key:=W.kdl_extend (A:=A) (s:={s with heap:=s.heap.push {cls:=.type "list",data:=.seq ([]:List Value).toArray}}) (R:=Rr) K hh (K.keep _ _ ok fun b _ o e=>cs1 _ e) s.heap.objs.size (cx1 th.1) (cx1 th.2) (.ref s.heap.objs.size) 0 new
  (fun g tk acc c k e i=>⟨g,tk,acc,c,rfl,rfl,fun b o z=>k b o (cx2 (cs5 z)) (cs1 _ z),e,i⟩) hn
 refine cy2 key (fun f s' x=> ?_) fun f s' x=> ?_
 ·cases f with
  |done f=>
   obtain⟨g,tk,acc,c,z,rfl,k,e,i⟩:=x;cases z;show wpAny _ A (load s.heap.objs.size>>=_) _ _ _;exact cx9 (wpAny_load e (cy5 (fin g tk acc c k e i)))
  |again c₁=>
   refine⟨x.1,codeAny_mono x.2 fun q s₂ y=> ?_⟩;obtain⟨g,tk,acc,c,rfl,rfl,k,e,i⟩:=y;show wpAny _ A (load s.heap.objs.size>>=_) _ _ _;exact cx9 (wpAny_load e (cy5 (fin g tk acc c k e i)))
 ·obtain⟨_,_,_,_,z,_⟩:=x;cases z
theorem bc3:∀{xs:List V}{us:List Value},xs.length=us.length->(∀(j:Nat) (x:V) (u:Value),xs[j]?=some x->us[j]?=some u->r8 x u)->o9 xs us
 |[],[],_,_=>.nil
 |x::xs,u::us,hl,h=>.cons (h 0 x u rfl rfl) (bc3 (by simpa using hl) fun j y w h1 h2=>h (j+1) y w h1 h2)
theorem aY7(hc:X.calm=true):O3 X (.builtin "sorted") (fun vs H Q=>∃(p:Addr) (ks:List Int) (xs:List V),vs=[.ref p]/\H p=some (.dK ((ks.map Sum.inl).zip xs))/\ks.length=xs.length/\ks.length<64/\∀l,H l=none->Q (.ref l) (upd H l (.lst ((A1 ks).map V.int)))):=by
 intro pins s σ H vs us Q I r h;obtain⟨p,ks,xs,rfl,hp,hl,h64,q⟩:=h;obtain⟨u,rfl,ru⟩:=X6 r;cases ru;obtain⟨hz,hsm,kvs,rk,dd⟩:=bn0 I.hok hp;obtain⟨ep,hat⟩:=dd.dictAt;have hlen:kvs.length=ks.length:=by
  rw[<-rk.length,List.length_zip,cu6];omega
 have hkey:∀(j:Nat) (k:Key) (x:Value),kvs[j]?=some (k,x)->∃i,ks[j]?=some i/\k=Sum.inl i:=by
  intro j k x hj;have e1:(kvs.map (·.1))[j]?=some k:=by rw[cu0,hj];rfl
  rw[<-rk.keys,List.map_fst_zip (by rw[cu6];omega),cu0]at e1;cases e2:ks[j]? with
  |none=>rw[e2]at e1;cases e1
  |some i=>rw[e2]at e1;cases e1;exact⟨i,rfl,rfl⟩
 refine Calls.call_function_entry kind_sorted plain_sorted entry_sorted (args_sorted1 _) ?_;unfold Builtin.«sorted»;refine cx9 (m:=checkCount "sorted" 1 1 _) (cy5 ?_);refine cx9 (cd8 (A:=X.A.in1) (W.kdl_dict (knd:=F9 X.prog X.w) (kvs:=kvs) (ep:=ep) hsm) (I.ok.hd hc) hat (by rw[hlen,sizeLine_eq];omega) fun h' tk acc hk hge hacc=> ?_);have hsz:acc.toList.length=ks.length:=by rw[Array.length_toList,hacc.1,hlen]
 have hI:IntsAre acc.toList ks:=ah3 (bc3 (by rw[cu6];exact hsz.symm) fun j x u hx hu=>by
  obtain⟨k,y,h1,h2⟩:=hacc.2 j u (by rw[<-Array.getElem?_toList];exact hu);obtain⟨i,h3,rfl⟩:=hkey j k y h1;rw[cu0,h3]at hx;cases hx;exact aW6 h2)
 refine cx9 (wpAny_newList ?_ (by rw[hsz,sizeLine_eq];omega));have ho:(h'.push {cls:=.type "list",data:=.seq acc.toList.toArray}).get? h'.objs.size=some (seqObj "list" acc.toList.toArray 0):=cs2 _ rfl;refine cx9 (wpAny_holding (cy0 slot_list_sort ⟨_,ho,rfl⟩ entry_list_sort (list_sort_tree ho hI (by omega) fun out ns' a1 a2 a3=>⟨_,rfl,?_⟩) (args_list_sort _)));refine cy5 ⟨_,rfl,?_⟩;obtain⟨ee,he⟩:=sortedHeap_at (out:=out) ho;have e1:ns'=A1 ks:=aM1 (a2.trans (aq4 ks).symm) a3 (au4 ks);have kp:∀b o,s.heap.get? b=some o->(sortedHeap (h'.push {cls:=.type "list",data:=.seq acc.toList.toArray}) h'.objs.size acc.toList out).get? b=some o:=fun b o eb=>by
  have h1:=hk b o eb;have h2:b<h'.objs.size:=cs5 h1;rw[sortedHeap_old (cx2 h2) (by rw[Heap.size_push];exact Nat.lt_succ_of_lt h2)];exact cs1 _ h1
 refine⟨.ref h'.objs.size,_,I.laid (t':=tk) kp hge (show J6 X.prog X.w _ _ _ (.lst ((A1 ks).map V.int))from ?_),rfl,q _ (I.hok.fresh hge)⟩;have e2:(A1 ks).length=ks.length:=(aq4 ks).length_eq;refine⟨by rw[cu6,e2,sizeLine_eq];omega,out.toList,ee,?_,by simpa using he⟩;rw[<-e1];exact ae9 a1
theorem bb1{K:W.Frag}:Y1 K (fun vs H Q=>∃(p:Addr) (ks:List Int) (xs:List V),vs=[.ref p]/\H p=some (.dK ((ks.map Sum.inl).zip xs))/\ks.length=xs.length/\ks.length<64/\∀l,H l=none->Q (.ref l) (upd H l (.lst ((A1 ks).map V.int)))) Y0:=by
 intro G H ts xs tz Q sG r hf q
 match ts,hf with
 |[.dct ks us],hf=>
  have hf:(if ks.length<64 then some (T.lst ((A1 ks).map T.int))else none)=some tz:=hf;split at hf
  case isFalse=>cases hf
  case isTrue h64=>
  cases hf;obtain⟨y,e,rx⟩:=N7 r;simp only[Rep]at rx;obtain⟨p,ys,k1,k2,k3,k4⟩:=rx;subst k1;refine⟨p,ks,ys,e,sG _ _ k2,k3,h64,fun l hl=>q _ (upd G l (.lst ((A1 ks).map V.int))) _ (Ext.new sG hl _) ?_⟩;simp only[Rep];exact⟨l,_,rfl,n6,aT5 _⟩
theorem aG0{p:Pos}{g:L3.G}(hc:X.calm=true)(hg:Gl X "sorted")(hm:X.mg "sorted"=none)(ha:Wd (PXA X [e] (gs [g])))(he:starEach [e] X.env=(false,eval e X.env)::starEach [] X.env:=by rfl)(hpl:(backTo pos (starEach [] X.env)).any (·.1)=false:=by rfl):Wd (PX X (.Call (.Name "sorted" p) [e] [] pos) (gN Y0 [g])):=⟨have ha:=ha.run;P4 (aY7 hc) bb1 hg hm boot_sorted ha (by decide) (by decide) he hpl⟩
end
noncomputable def tXf(K:W.Frag)(g:L3.G):TE:=fun σ H Q=>∃G ρ ts,Sub G H/\B5 K G σ ρ/\g ρ=some (.lst ts)/\∀a xs G' H',H a=none->G' a=none->Ext G H G' H'->H' a=some (.lst xs)->j5 K G' ts xs->Q (.ref a) H'
noncomputable abbrev PXf(X:Cx)(e:Expr)(g:L3.G):Prop:=PE X e (tXf X.K g)
theorem Ext.lay{G H G1 H1:Hp}{p:Addr}{o:HO}(e:Ext G H G1 H1)(h:H1 p=none):Ext G H G1 (upd H1 p o):=
 ⟨e.g,⟨fun b u z=>by rw[l7 (t6 z (e.s.free h))];exact e.s b u z,e.s.t.new h,e.s.n⟩,e.h.trans (ax7 (B4 h o)),e.fr⟩
theorem aX5{g:L3.G}{ρ:j9}{t:T}(h:gFr g ρ=some t):∃ts,g ρ=some (.lst ts)/\t=.lst ts:=by
 obtain⟨u,h1,h2⟩:=h9 h;cases u<;>first |(cases h2;done)|skip
 cases h2;exact⟨_,h1,rfl⟩
theorem aW4{K:W.Frag}{it:GL}{is:List Nat}{st:St1}{gc:GB}{ge:L3.G}{nT:Nat}{caps:List Nat}(his:is.all (fun i=>decide (i<nT))=true):
  ∀σ H Q,tXf K (o0 it nT caps st gc ge) σ H Q->tLC (tI K it) (tGt K is st) (tXB K gc) (tX K ge) nT caps σ H Q:=fun σ H Q zz=>by
 obtain⟨G,ρ,t,sG,hρ,hg,q⟩:=zz;obtain⟨ts,h1,hg⟩:=h9 hg;split at hg
 case isFalse=>cases hg
 case isTrue hlim=>
 obtain⟨rs,h2,hg⟩:=h9 hg;obtain rfl:rs=t:=by cases hg;rfl
 refine⟨G,ρ,ts,sG,hρ,h1,fun J G' H' e1 wk a ha=> ?_⟩;have hGa:G' a=none:=e1.s.free ha;refine⟨fun i m ys H1=>m=ts.length-i/\i<=ts.length/\ys.length<=i/\∃G1 r1 r2,w9 G' G1/\Sub G1 H1/\I0 H' H1/\(∀b,H' b≠none->G' b=none->G1 b=none)/\G1 a=none/\H1 a=some (.lst ys)/\j5 K G1 r1 ys/\
   R9 (O2 nT caps ρ) st gc ge (ts.drop i)=some r2/\rs=r1++r2,⟨ts.length,by simp,Nat.zero_le _,cw8 _,G',[],rs,w9.refl _,?_,ax7 (B4 ha _),fun _ _ z=>z,hGa,n6,j5.nil,by simpa using h2,by simp⟩,?_⟩
 ·exact⟨fun b o z=>by rw[l7 (t6 z hGa)];exact e1.s b o z,e1.s.t.new ha,e1.s.n⟩
 rintro i m ys H1 ⟨rfl,hi,hyl,G1,r1,r2,s1,s2,s3,fr,g1a,h1a,rl,hgo,hrs⟩;have hρ1:B5 K G1 (M4 nT caps σ) (O2 nT caps ρ):=(hρ.cap nT caps).mono (e1.g.trans s1);by_cases hlt:i<ts.length
 ·right;have ht:ts[i]?=some ts[i]:=ct8 hlt;obtain⟨go,yl⟩:=(wk i G1 H1 s1 s2).1 _ ht;refine⟨go,fun x H2 hy=> ?_⟩;obtain⟨G2,e2,r2'⟩:=yl x H2 hy;rw[ct1 hlt]at hgo;obtain⟨ρ1,k1,hgo⟩:=h9 hgo;obtain⟨bq,k2,hgo⟩:=h9 hgo;refine⟨G2,O2 nT caps ρ,ts[i],ρ1,e2.s,hρ1.mono e2.g,r2',k1,fun σ2 hρ2 hl2 hk2=>⟨⟨hl2,fun j v ej=> ?_⟩,?_⟩⟩
  ·by_cases hj:j∈is
   ·exfalso;have hjn:j<nT:=by
     have :=List.all_eq_true.mp his j hj;simpa using this
    unfold M4 at ej;rw[ct4 (by simpa using hjn),cu1,cx8 hjn]at ej;cases ej
   ·rw[hk2 j hj];exact ej
  ·refine⟨G2,ρ1,bq,e2.s,hρ2,k2,fun G3 H3 e3=> ?_⟩;have E13:=e2.trans e3;cases bq with
   |true=>
    obtain⟨t1,k3,hgo⟩:=h9 hgo;obtain⟨r3,k4,hgo⟩:=h9 hgo;cases hgo;refine aj6 ⟨G3,ρ1,t1,e3.s,hρ2.mono e3.g,k3,fun v G4 H4 e4 rv=> ?_⟩;have E14:=E13.trans e4;have h4a:H4 a=some (.lst ys):=E14.h.lst h1a;have g4a:G4 a=none:=E14.fr a (by rw[h1a];simp) g1a;refine⟨h4a,?_,ts.length-(i+1),by omega,rfl,hlt,by rw[cu4,List.length_singleton];omega,G4,r1++[t1],r3,s1.trans E14.g,?_,?_,?_,g4a,n6,(rl.mono E14.g).append (j5.cons rv j5.nil),k4,by rw[hrs];simp⟩
    ·have :(lim:Nat)<sizeLine:=by decide
     omega
    ·exact⟨fun b o z=>by rw[l7 (t6 z g4a)];exact E14.s b o z,E14.s.t.lst h4a,E14.s.n⟩
    ·exact(s3.trans E14.h).upd ha
    ·intro b hb hgb;have h5:H1 b≠none:=s3.ne hb;exact E14.fr b h5 (fr b hb hgb)
   |false=>
    refine aj7 ⟨ts.length-(i+1),by omega,rfl,hlt,by omega,G3,r1,r2,s1.trans E13.g,e3.s,s3.trans E13.h,?_,E13.fr a (by rw[h1a];simp) g1a,E13.h.lst h1a,rl.mono E13.g,hgo,hrs⟩;intro b hb hgb;have h5:H1 b≠none:=s3.ne hb;exact E13.fr b h5 (fr b hb hgb)
 ·left;have ei:i=ts.length:=by omega
  subst ei;refine⟨(wk _ G1 H1 s1 s2).2 (cw8 _) (cw8 _),?_⟩;rw[List.drop_length]at hgo;cases hgo;rw[cs9]at hrs;subst hrs;exact q a ys G1 H1 (e1.h.free ha) g1a (e1.trans ⟨s1,s2,s3,fr⟩) h1a rl
section
variable {X:Cx}{a b e c:Expr}{pos:Pos}{own own':List Nat}
theorem bd9{es:List Expr}{l:List L3.G}(h:Wd (PXA X es (gs l)))(hl:l.length<=lim:=by decide):Wd (PXf X (.List es pos) (o6 l)):=⟨have h:=h.run;PE.imp (aV0 h) fun σ H Q zz=>by
  obtain⟨G,ρ,ts,sG,hρ,hg,q⟩:=zz;obtain⟨xs,h1,hg⟩:=h9 hg;obtain rfl:xs=ts:=by cases hg;rfl
  refine⟨G,ρ,xs,sG,hρ,h1,fun vs G1 H1 e1 r1=>⟨by rw[r1.length,ab2 h1];exact ab8 hl,fun p hp=> ?_⟩⟩;exact q p vs G1 _ (e1.h.free hp) (e1.s.free hp) (e1.lay hp) n6 r1⟩
theorem aU3{p:Pos}{g:L3.G}(hv:bootBuiltins "list"=some (.type "list"))(hg:Gl X "list")(hm:X.mg "list"=none)(ha:Wd (PXA X [e] (gs [g])))(he:starEach [e] X.env=(false,eval e X.env)::starEach [] X.env:=by rfl)(hpl:(backTo pos (starEach [] X.env)).any (·.1)=false:=by rfl):Wd (PXf X (.Call (.Name "list" p) [e] [] pos) (gN as2 [g])):=⟨have ha:=ha.run;PE.imp (aM7 aY8 hg hm hv ha (by decide) (by decide) he hpl) fun σ H Q zz=>by
  obtain⟨G,ρ,ts,sG,hρ,hg,q⟩:=zz;obtain⟨us,h1,hg⟩:=h9 hg;refine⟨G,ρ,us,sG,hρ,h1,fun vs G1 H1 e1 r1=> ?_⟩
  match us,hg,r1 with
  |[.lst ws],hg,r1=>
   cases hg;obtain⟨y,e,rx⟩:=N7 r1;simp only[Rep]at rx;obtain⟨p,ys,k1,k2,k3⟩:=rx;subst k1;exact⟨p,ys,e,.inl (SqL.of (e1.s _ _ k2)),fun l hl=>q l ys G1 _ (e1.h.free hl) (e1.s.free hl) (e1.lay hl) n6 k3⟩
  |[.tup ws],hg,r1=>
   cases hg;obtain⟨y,e,rx⟩:=N7 r1;simp only[Rep]at rx;obtain⟨p,ys,k1,k2,k3⟩:=rx;subst k1;exact⟨p,ys,e,.inr (S8 e1.s.s k2),fun l hl=>q l ys G1 _ (e1.h.free hl) (e1.s.free hl) (e1.lay hl) n6 k3⟩⟩
theorem RO.add{K:W.Frag}{G0 H0 G H:Hp}{σ:L2.St}{ρ:j9}{i:Nat}{p:Addr}{xs:HO}{ts:T}(h:RO K G0 H0 own G H σ ρ)(hi:i∉own)(hl:i<σ.length)(h0:H0 p=none)(hg:G p=none)(hp:H p=some xs)(fresh:∀j∈own,σ[j]?≠some (some (.ref p)))(r:U1 K G ts xs):
  RO K G0 H0 (i::own) G H (σ.set i (some (.ref p))) (ρ.set i (some ts)):=by
 have hlρ:i<ρ.length:=by rw[<-h.len];exact hl
 refine⟨h.x,?_,fun j hj=> ?_,fun j hj k hk a h1 h2=> ?_⟩
 ·rw[av4,List.set_set,aN0];exact h.r.setN
 ·rcases List.mem_cons.mp hj with e|hj
  ·subst e;exact⟨p,xs,ts,cu3 hlρ,cu3 hl,h0,hg,hp,r⟩
  ·obtain⟨a,ys,us,h1,h2,h3⟩:=h.o j hj;have hne:i≠j:=fun z=>hi (by rw[z];exact hj)
   exact⟨a,ys,us,by rw[cu2 hne];exact h1,by rw[cu2 hne];exact h2,h3⟩
 ·rcases List.mem_cons.mp hj with e|hj'<;>rcases List.mem_cons.mp hk with e'|hk'
  ·rw[e,e']
  ·subst e;rw[cu3 hl]at h1;cases h1;rw[cu2 fun z=>hi (by rw[z];exact hk')]at h2;exact absurd h2 (fresh k hk')
  ·subst e';rw[cu3 hl]at h2;cases h2;rw[cu2 fun z=>hi (by rw[z];exact hj')]at h1;exact absurd h1 (fresh j hj')
  ·rw[cu2 fun z=>hi (by rw[z];exact hj')]at h1;rw[cu2 fun z=>hi (by rw[z];exact hk')]at h2;exact h.d j hj' k hk' a h1 h2
theorem RO.other{K:W.Frag}{G0 H0 G H:Hp}{σ:L2.St}{ρ:j9}{p:Addr}(h:RO K G0 H0 own G H σ ρ)(hp:H p=none):∀j∈own,σ[j]?≠some (some (.ref p)):=fun j hj z=>by
 obtain⟨a,ys,us,h1,h2,h3,h4,h5,h6⟩:=h.o j hj;rw[z]at h2;cases h2;rw[hp]at h5;cases h5
theorem au9{x:Str}{pos':Pos}{g:L3.G}(i:Nat)(hN:X.N.Nodup)(h:Wd (PXf X e g))(hm:i∉own:=by decide)(hi:X.N[i]?=some x:=by rfl)(hx:Loc X.env.scope x:=by first |exact Or.inl rfl|exact Or.inr rfl)(hs:swapsWith e (some (.Name x pos')) pos.line X.env=pure false:=by rfl)(hf:X.fn x=true\/X.env.scope.names.lookup x=some .local:=by first |exact .inl rfl|exact .inr rfl):PXO X own (i::own) (.Assign [.Name x pos'] e pos) (k7 i (gFr (gM own g))):=have h:=h.run;⟨U9,fun G0 H0 pins s σ H D I zz=>by
 obtain⟨G,ρ,o,R,hg,q⟩:=zz;obtain⟨t,k1,hg⟩:=h9 hg;cases hg;obtain⟨ts,k2,rfl⟩:=aX5 k1;refine ac1 hN hi hx h hs hf pins s σ H D I ⟨G,t9 own ρ,ts,R.x.s,R.r,k2,fun p xs G1 H1 hp gp e1 h1 r1=> ?_⟩;exact q _ G1 H1 e1.g ((R.step e1).add hm (by rw[I.len];exact Y5 hi) (R.x.h.free hp) gp h1 (R.other hp) (.lst r1))⟩
theorem bs5{elt target iter:Expr}{ifs:List Expr}{scope:Scope}{it:GL}{is:List Nat}{st:St1}{gc:GB}{ge:L3.G}{x:Str}{pos' spos:Pos}(i:Nat)(N':List Str)(nT:Nat)(caps:List Nat)(hN:X.N.Nodup)(hcalm:X.calm=true)(chk:O5 X.env.scope X.N scope N' nT caps=true)(hi:Wd (PXI X target iter it))(his:is.all (fun i=>decide (i<nT))=true)(hg:∀cl C s₀ H₀ fp,Wd (PXG (u6 X scope cl C N' s₀ H₀ fp) target is st))(hc:∀cl C s₀ H₀ fp,Wd (at2 (u6 X scope cl C N' s₀ H₀ fp) ifs gc))(he:∀cl C s₀ H₀ fp,Wd (PX (u6 X scope cl C N' s₀ H₀ fp) elt ge))(hm:i∉own:=by decide)(hx:X.N[i]?=some x:=by rfl)(hl:X.env.scope.names.lookup x=some .local:=by rfl)(hsw:swapsWith (.ListComp elt [⟨target,iter,ifs,0⟩] scope pos) (some (.Name x pos')) spos.line X.env=pure true:=by rfl)(hs:∀x,foldedSetIterable iter X.env x=pure x:=by intro _;rfl):PXO X own (i::own) (.Assign [.Name x pos'] (.ListComp elt [⟨target,iter,ifs,0⟩] scope pos) spos) (k7 i (gFr (gM own (o0 it nT caps st gc ge)))):=have hi:=hi.run;have hg:=fun x0 x1 x2 x3 x4=>(hg x0 x1 x2 x3 x4).run;have hc:=fun x0 x1 x2 x3 x4=>(hc x0 x1 x2 x3 x4).run;have he:=fun x0 x1 x2 x3 x4=>(he x0 x1 x2 x3 x4).run;⟨U9,fun G0 H0 pins s σ H D I zz=>by
 obtain⟨G,ρ,o,R,hgo,q⟩:=zz;obtain⟨t,k1,hgo⟩:=h9 hgo;cases hgo;obtain⟨ts,k2,rfl⟩:=aX5 k1;refine af6 (g:=tGt X.K is st) (tc:=tXB X.K gc) (te:=tX X.K ge) (i:=i) N' nT caps hcalm chk hi hg hc he hN hx hl hsw hs pins s σ H D I (aW4 his σ H _ ⟨G,t9 own ρ,ts,R.x.s,R.r,k2,fun p xs G1 H1 hp gp e1 h1 r1=> ?_⟩);exact q _ G1 H1 e1.g ((R.step e1).add hm (by rw[I.len];exact Y5 hx) (R.x.h.free hp) gp h1 (R.other hp) (.lst r1))⟩
theorem bs2{elt target iter:Expr}{ifs:List Expr}{scope:Scope}{it:GL}{is:List Nat}{st:St1}{gc:GB}{ge:L3.G}{x:Str}{pos' spos:Pos}(i:Nat)(N':List Str)(nT:Nat)(caps:List Nat)(hN:X.N.Nodup)(hcalm:X.calm=true)(chk:O5 X.env.scope X.N scope N' nT caps=true)(hi:Wd (PXI X target iter it))(his:is.all (fun i=>decide (i<nT))=true)(hg:∀cl C s₀ H₀ fp,Wd (PXG (u6 X scope cl C N' s₀ H₀ fp) target is st))(hc:∀cl C s₀ H₀ fp,Wd (at2 (u6 X scope cl C N' s₀ H₀ fp) ifs gc))(he:∀cl C s₀ H₀ fp,Wd (PX (u6 X scope cl C N' s₀ H₀ fp) elt ge))(hm:i∉own:=by decide)(hx:X.N[i]?=some x:=by rfl)(hl:X.env.scope.names.lookup x=some .local:=by rfl)(hsw:swapsWith (.ListComp elt [⟨target,iter,ifs,0⟩] scope pos) (some (.Name x pos')) spos.line X.env=pure true:=by rfl)(hs:∀x,foldedSetIterable iter X.env x=pure x:=by intro _;rfl):PXO X own own (.Assign [.Name x pos'] (.ListComp elt [⟨target,iter,ifs,0⟩] scope pos) spos) (k7 i (gM own (o0 it nT caps st gc ge))):=have hi:=hi.run;have hg:=fun x0 x1 x2 x3 x4=>(hg x0 x1 x2 x3 x4).run;have hc:=fun x0 x1 x2 x3 x4=>(hc x0 x1 x2 x3 x4).run;have he:=fun x0 x1 x2 x3 x4=>(he x0 x1 x2 x3 x4).run;⟨U9,fun G0 H0 pins s σ H D I zz=>by
 obtain⟨G,ρ,o,R,hgo,q⟩:=zz;obtain⟨t,k1,hgo⟩:=h9 hgo;cases hgo;exact af6 (g:=tGt X.K is st) (tc:=tXB X.K gc) (te:=tX X.K ge) (i:=i) N' nT caps hcalm chk hi hg hc he hN hx hl hsw hs pins s σ H D I (ay5 his σ H _ ⟨G,t9 own ρ,t,R.x.s,R.r,k1,fun v G1 H1 e1 r1=>q _ G1 H1 e1.g ((R.step e1).set hm r1)⟩)⟩
end
section
variable {X:Cx}{a b e c:Expr}{pos:Pos}{own own':List Nat}
theorem cd9{g:L3.G}{ρ:j9}{t:T}(h:gFL g ρ=some t):g ρ=some t/\aX7 t=true:=by
 obtain⟨u,h1,h2⟩:=h9 h;split at h2
 case isFalse=>cases h2
 case isTrue hf=>
 cases h2;exact⟨h1,hf⟩
theorem bj2{elt target iter:Expr}{ifs:List Expr}{scope:Scope}{it:GL}{is:List Nat}{st:St1}{gc:GB}{ge:L3.G}{x:Str}{pos' spos:Pos}(i:Nat)(N':List Str)(nT:Nat)(caps:List Nat)(hN:X.N.Nodup)(hcalm:X.calm=true)(chk:O5 X.env.scope X.N scope N' nT caps=true)(hi:Wd (PXI X target iter it))(his:is.all (fun i=>decide (i<nT))=true)(hg:∀cl C s₀ H₀ fp,Wd (PXG (u6 X scope cl C N' s₀ H₀ fp) target is st))(hc:∀cl C s₀ H₀ fp,Wd (at2 (u6 X scope cl C N' s₀ H₀ fp) ifs gc))(he:∀cl C s₀ H₀ fp,Wd (PX (u6 X scope cl C N' s₀ H₀ fp) elt ge))(hm:i∉own:=by decide)(hx:X.N[i]?=some x:=by rfl)(hl:X.env.scope.names.lookup x=some .local:=by rfl)(hsw:swapsWith (.ListComp elt [⟨target,iter,ifs,0⟩] scope pos) (some (.Name x pos')) spos.line X.env=pure true:=by rfl)(hs:∀x,foldedSetIterable iter X.env x=pure x:=by intro _;rfl):PXO X own own (.Assign [.Name x pos'] (.ListComp elt [⟨target,iter,ifs,0⟩] scope pos) spos) (k7 i (gFL (o0 it nT caps st gc ge))):=have hi:=hi.run;have hg:=fun x0 x1 x2 x3 x4=>(hg x0 x1 x2 x3 x4).run;have hc:=fun x0 x1 x2 x3 x4=>(hc x0 x1 x2 x3 x4).run;have he:=fun x0 x1 x2 x3 x4=>(he x0 x1 x2 x3 x4).run;⟨U9,fun G0 H0 pins s σ H D I zz=>by
 obtain⟨G,ρ,o,R,hgo,q⟩:=zz;obtain⟨t,k1,hgo⟩:=h9 hgo;cases hgo;obtain⟨k2,hfl⟩:=cd9 k1;obtain⟨ts,et⟩:∃ts,t=.lst ts:=by
  obtain⟨xs,_,k3⟩:=h9 k2;split at k3
  ·obtain⟨rs,_,k3⟩:=h9 k3;cases k3;exact⟨rs,rfl⟩
  ·cases k3
 subst et;obtain⟨Gp,sp,rp,_,un⟩:=R.peek;refine af6 (g:=tGt X.K is st) (tc:=tXB X.K gc) (te:=tX X.K ge) (i:=i) N' nT caps hcalm chk hi hg hc he hN hx hl hsw hs pins s σ H D I (aW4 his σ H _ ⟨Gp,ρ,ts,sp,rp,k2,fun p xs G1 H1 hp gp e1 h1 r1=> ?_⟩);have e2:Ext Gp H (upd G1 p (.lst xs)) H1:=⟨e1.g.trans (B4 gp _),⟨fun b o z=>by
   by_cases hb:b=p
   ·subst hb;rw[n6]at z;cases z;exact h1
   ·rw[l7 hb]at z;exact e1.s b o z,e1.s.t,ay4 e1.s.n rfl⟩,e1.h,fun b hb hg=>by rw[l7 (fun z=>hb (by rw[z];exact hp))];exact e1.fr b hb hg⟩
 obtain⟨G2,s2,R2,fl⟩:=un _ H1 e2;refine q _ G2 H1 s2 (R2.set hm (fl (.lst ts) (.ref p) (.inr ⟨p,ts,rfl,rfl,hfl,hp⟩) ?_));simp only[Rep];exact⟨p,xs,rfl,n6,r1.mono (B4 gp _)⟩⟩
theorem RO.unown{K:W.Frag}{G0 H0 G H:Hp}{σ:L2.St}{ρ:j9}{i:Nat}(h:RO K G0 H0 own G H σ ρ)(hi:i∈own)(ho:own.filter (· !=i)=own'):∃G',w9 G G'/\RO K G0 H0 own' G' H σ ρ:=by
 obtain⟨G',_,_,_,s,R,_⟩:=h.freeze hi;subst ho;exact⟨G',s,R⟩
theorem bs8{st:List Stmt}{g:GS}{own1 own2:List Nat}(i:Nat)(h:V7 X own own1 st g)(hi:i∈own1:=by decide)(ho:own1.filter (· !=i)=own2:=by rfl):V7 X own own2 st g:=⟨h.nb,fun G0 H0=>PSs.imp (h.ps G0 H0) fun D σ H zz=>by
 obtain⟨G,ρ,o,R,hg,q⟩:=zz;refine⟨G,ρ,o,R,hg,?_⟩;cases o with
 |nx ρ1=>
  intro σ' G' H' s' R';obtain⟨G2,s2,R2⟩:=R'.unown hi ho;exact q σ' G2 H' (s'.trans s2) R2
 |ret t=>exact q
 |bk ρ1=>exact q
 |ct ρ1=>exact q⟩
theorem aV9{c:GB}{b:GS}(hb:NB b):∀n,NB (v6 c b n)
 |0=>fun ρ o e=>by cases e
 |n+1=>fun ρ o e=>by
  obtain⟨k,_,e⟩:=h9 e;cases k with
  |false=>cases e;exact⟨fun _ z=>(nomatch z),fun _ z=>(nomatch z)⟩
  |true=>
   obtain⟨o1,k1,e⟩:=h9 e;cases o1 with
   |nx ρ2=>exact aV9 hb n _ _ e
   |ret t=>cases e;exact⟨fun _ z=>(nomatch z),fun _ z=>(nomatch z)⟩
   |bk ρ2=>exact absurd rfl ((hb _ _ k1).1 _)
   |ct ρ2=>exact absurd rfl ((hb _ _ k1).2 _)
theorem aq8{body:List Stmt}{gc:GB}{gb:GS}(fuel:j9->Nat)(hp:PassesOwn (model X.prog X.w) X.A X.env X.xe)(hc:Wd (PXB X c gc))(hb:V7 X own own body gb):PXO X own own (.While c body [] pos) (fun ρ=>v6 gc gb (fuel ρ) ρ):=have hc:=hc.run;⟨fun ρ o e=>aV9 hb.nb _ ρ o e,fun G0 H0=>PS.imp (aU9 hp hc (hb.ps G0 H0)) fun D σ H zz=>by
 obtain⟨G,ρ,o,R,hg,q⟩:=zz;refine⟨fun m σ1 H1=>∃G1 ρ1,w9 G G1/\RO X.K G0 H0 own G1 H1 σ1 ρ1/\v6 gc gb m ρ1=some o,⟨fuel ρ,G,ρ,w9.refl _,R,hg⟩,?_⟩;rintro m σ1 H1 ⟨G1,ρ1,s1,R1,hgo⟩;cases m with
 |zero=>cases hgo
 |succ n=>
  obtain⟨k,k1,hgo⟩:=h9 hgo;obtain⟨Gp,sp,rp,_,un⟩:=R1.peek;refine⟨Gp,ρ1,k,sp,rp,k1,fun G2 H2 e2=> ?_⟩;obtain⟨G3,s3,R3,_⟩:=un G2 H2 e2;cases k with
  |false=>
   cases hgo;exact q σ1 G3 H2 (s1.trans s3) R3
  |true=>
   obtain⟨o2,k2,hgo⟩:=h9 hgo;refine⟨fun σ' H4=>∃G4 ρ4,w9 G G4/\RO X.K G0 H0 own G4 H4 σ' ρ4/\v6 gc gb n ρ4=some o,fun σ' H4 h4=>⟨n,Nat.lt_succ_self n,h4⟩,⟨G3,ρ1,o2,R3,k2,?_⟩⟩;cases o2 with
   |nx ρ4=>exact fun σ' G4 H4 s4 R4=>⟨G4,ρ4,s1.trans (s3.trans s4),R4,hgo⟩
   |ct ρ4=>exact absurd rfl ((hb.nb _ _ k2).2 _)
   |bk ρ4=>exact absurd rfl ((hb.nb _ _ k2).1 _)
   |ret t=>cases hgo;exact fun v G4 H4 e4 r4=>q v G4 H4 e4 r4⟩
end
section
variable {X:Cx}{a b e c:Expr}{pos:Pos}{own own':List Nat}
noncomputable def cj3:V->V->Hp->VK->Prop:=fun x y H Q=>∃p xs i j v,x=.ref p/\y=.int i/\H p=some (.lst xs)/\ixN xs.length i=some j/\0<=i/\xs[j]?=some v/\Q v H
theorem bH6:cf7 X cj3:=by
 intro pins s σ H o i ov iv Q I ro ri h;obtain⟨p,xs,k,j,v,rfl,rfl,hp,hj,h0,hv,q⟩:=h;cases ro;obtain⟨t,rfl⟩:=ri;obtain⟨its,r,pl,hz⟩:=I.list (SqL.of hp);obtain⟨w,ew,rw'⟩:=r.get hv;have hl:=r.length;have hk:k.toNat=j:=by
  unfold ixN at hj;rw[cx8 h0]at hj;split at hj
  ·cases hj;rfl
  ·cases hj
 have hjl:=Y5 ew;refine wpAny_getItem_list pl.isList (by omega) (by have :=aj5;have :=hz;omega) (by rw[hk];simpa using ew) ?_;exact⟨v,H,I,rw',q⟩
structure bK5(X:Cx)(op:Operator)(f:T->T->Option T):Prop where
 ex:∃h:Int->Int->Int,PIp X op (ipI h)/\∀x y z,f x y=some z->∃i j,x=.int i/\y=.int j/\z=.int (h i j)
theorem aL1:bK5 X .Add am0:=⟨_,cd3,fun x y z h=>by
 cases x<;>first |(cases h;done)|skip
 cases y<;>first |(cases h;done)|skip
 cases h;exact⟨_,_,rfl,rfl,rfl⟩⟩
theorem bg6:bK5 X .Sub aH6:=⟨_,cd2,fun x y z h=>by
 cases x<;>first |(cases h;done)|skip
 cases y<;>first |(cases h;done)|skip
 cases h;exact⟨_,_,rfl,rfl,rfl⟩⟩
theorem aW0{i:Nat}{op:T->T->Option T}{gi g:L3.G}:NB (V5 i op gi g):=ar1 fun ρ o e=>by
 obtain⟨t,_,e⟩:=h9 e;obtain⟨k,_,e⟩:=h9 e;split at e
 ·split at e
  ·obtain⟨n,_,e⟩:=h9 e;obtain⟨x,_,e⟩:=h9 e;obtain⟨z,_,e⟩:=h9 e;cases e;exact⟨_,rfl⟩
  ·cases e
 ·cases e
theorem ai8{x:Str}{p tpos:Pos}{ix:Expr}{op:Operator}{f:T->T->Option T}{g gi:L3.G}(i:Nat)(ho:bK5 X op f)(hix:Wd (PX X ix gi))(he:Wd (PX X e g))(hm:i∈own:=by decide)(hi:X.N[i]?=some x:=by rfl)(hv:Vis X.env.scope x:=by first |exact Or.inl rfl|exact Or.inr (Or.inl rfl)|exact Or.inr (Or.inr rfl))(hd:(x==("__debug__":Str))=false:=by decide)(hcd:(x==("__classdict__":Str))=false:=by decide)(ha:∀ov iv new,augStore ix ov iv new=(do holding [new,ov,iv] (setItem ov iv new);release [new,ov,iv] [];pure .next):=by intros;rfl):PXO X own own (.AugAssign (.Subscript (.Name x p) ix tpos) op e pos) (V5 i f (gM own gi) (gM own g)):=have hix:=hix.run;have he:=he.run;⟨aW0,fun G0 H0 pins s σ H D I zz=>by
 obtain⟨G,ρ,o,R,hg,q⟩:=zz;obtain⟨tk,k1,hg⟩:=h9 hg;obtain⟨ty,k2,hg⟩:=h9 hg;cases hq:(ρ[i]?).join with
 |none=>rw[hq]at hg;cases hg
 |some tl=>
  rw[hq]at hg
  match tl,tk,hq,k1,hg with
  |.lst ts,.int k,hq,k1,hg=>
   dsimp only at hg;split at hg
   case isFalse=>cases hg
   case isTrue h0=>
   obtain⟨n,hn,hg⟩:=h9 hg;obtain⟨tx,hx,hg⟩:=h9 hg;obtain⟨tz,hz,hg⟩:=h9 hg;cases hg;obtain⟨hh,hip,hfo⟩:=ho.ex;obtain⟨u,v,rfl,rfl,rfl⟩:=hfo tx ty tz hz;obtain⟨ad,xs,a1,a2,a3⟩:=ah8 R hm hq;refine bQ0 (ac2 hi hv hd hcd) hix bH6 he hip aS4 ha pins s σ H D I ⟨.ref ad,a1,G,t9 own ρ,.int k,R.x.s,R.r,k1,fun w G1 H1 e1 r1=> ?_⟩;have R1:=R.step e1;obtain⟨ad',xs',b1,b2,b3⟩:=ah8 R1 hm hq;rw[a1]at b1;cases b1;simp only[Rep]at r1;subst r1;obtain⟨y,hy,ry⟩:=b3.get hx;simp only[Rep]at ry;subst ry;refine⟨ad,xs',k,n,.int u,rfl,rfl,b2,by rw[b3.length];exact hn,h0,hy,G1,t9 own ρ,.int v,R1.x.s,R1.r,k2,fun w G2 H2 e2 r2=> ?_⟩;have R2:=R1.step e2;obtain⟨ad',xs2,c1,c2,c3⟩:=ah8 R2 hm hq;rw[a1]at c1;cases c1;simp only[Rep]at r2;refine⟨u,v,rfl,r2,ad,xs2,k,n,rfl,rfl,c2,by rw[c3.length];exact hn,?_⟩;exact q σ G2 _ (e1.g.trans e2.g) (R2.put hm a1 (c3.set (t:=.int (hh u v)) (v:=.int (hh u v)) (by simp[Rep]) n))⟩
end
section
variable {X:Cx}{a b e c:Expr}{pos:Pos}{own own':List Nat}
theorem bS3{i j:Nat}:NB (ax8 i j):=ar1 fun ρ o e=>by
 unfold ax8 at e;split at e
 ·cases e;exact⟨_,rfl⟩
 ·cases e
theorem j5.uncons'{K:W.Frag}{G:Hp}{t:T}{ts:List T}{xs:List V}(h:j5 K G (t::ts) xs):∃x r,xs=x::r/\Rep K G t x/\j5 K G ts r:=by
 simp only[j5]at h;exact h
theorem bs4{x y:Str}{p yp apos cpos kp:Pos}{kj:Nat}(i j:Nat)(hN:X.N.Nodup)(hm:i∈own:=by decide)(hj:j∉own:=by decide)(hi:X.N[i]?=some x:=by rfl)(hv:Vis X.env.scope x:=by first |exact Or.inl rfl|exact Or.inr (Or.inl rfl)|exact Or.inr (Or.inr rfl))(hd:(x==("__debug__":Str))=false:=by decide)(hcd:(x==("__classdict__":Str))=false:=by decide)(hy:X.N[j]?=some y:=by rfl)(hl:Loc X.env.scope y:=by first |exact Or.inl rfl|exact Or.inr rfl)(hbase:attributeBase (.Name x p) "pop" X.env (eval (.Name x p) X.env)=eval (.Name x p) X.env:=by rfl)(hfew:((backTo cpos (starEach [.Constant (.int 0) kj kp] X.env)).all (fun x=> !x.1)&&(backToKw cpos (keywordEach [] X.env)).all (fun x=>x.1.isSome)
   &&decide ([Expr.Constant (.int 0) kj kp].length+([]:List Keyword).length+(if([]:List Keyword).isEmpty then 0 else 1)<30))=true:=by rfl) (hline:(apos.endLine==cpos.line)=true:=by rfl) (hs:starEach [.Constant (.int 0) kj kp] X.env=(false,eval (.Constant (.int 0) kj kp) X.env)::starEach [] X.env:=by rfl) (hplain:(backTo cpos (starEach [] X.env)).any (·.1)=false:=by rfl) (hsw:swapsWith (.Call (.Attribute (.Name x p) "pop" apos) [.Constant (.int 0) kj kp] [] cpos) (some (.Name y yp)) pos.line X.env=pure false:=by rfl) (hf:X.fn y=true\/X.env.scope.names.lookup y=some .local:=by first |exact .inl rfl|exact .inr rfl):PXO X own own (.Assign [.Name y yp] (.Call (.Attribute (.Name x p) "pop" apos) [.Constant (.int 0) kj kp] [] cpos) pos) (ax8 i j):=⟨bS3,fun G0 H0 pins s σ H D I zz=>by
 obtain⟨G,ρ,o,R,hg,q⟩:=zz;unfold ax8 at hg;cases hq:(ρ[i]?).join with
 |none=>rw[hq]at hg;cases hg
 |some tl=>
  rw[hq]at hg
  match tl,hq,hg with
  |.lst (t::ts),hq,hg=>
   cases hg;obtain⟨ad,xs,a1,a2,a3⟩:=ah8 R hm hq;obtain⟨v,r,rfl,rv,rr⟩:=a3.uncons';have hij:i≠j:=fun z=>hj (by rw[<-z];exact hm)
   refine ac1 hN hy hl (bj5 PySem.F.plainAttrs_list PySem.F.slot_list_pop PySem.F.type_list_pop bG7 (ac2 hi hv hd hcd) (O4 aV1 Y4 hs) hbase hfew hline hs hplain) hsw hf pins s σ H D I ⟨.ref ad,a1,.inl ⟨rfl,_,SqL.of a2⟩,?_⟩;refine⟨ad,v::r,0,0,v,rfl,rfl,a2,by decide,by decide,?_,rfl,?_⟩
   ·exact seqIndex_of (by decide) (by simp)
   ·exact q _ G _ (w9.refl _) ((R.put hm a1 rr).set hj rv)
  |.lst [],hq,hg=>cases hg⟩
theorem bS4{i:Nat}{gk g:L3.G}:NB (aq5 i gk g):=ar1 fun ρ o e=>by
 obtain⟨t,_,e⟩:=h9 e;obtain⟨k,_,e⟩:=h9 e;split at e
 ·split at e
  ·cases e;exact⟨_,rfl⟩
  ·cases e
 ·cases e
theorem be6{K:W.Frag}{G0 H0 G H:Hp}{σ:L2.St}{ρ:j9}{i:Nat}(R:RO K G0 H0 own G H σ ρ)(hi:i∈own){ks:List Int}{ts:List T}(e:(ρ[i]?).join=some (.dct ks ts)):∃a xs,σ[i]?=some (some (.ref a))/\H a=some (.dK ((ks.map Sum.inl).zip xs))/\ks.length=xs.length/\j5 K G ts xs:=by
 obtain⟨a,xs,ts',h1,h2,_,_,h5,h6⟩:=R.o i hi;rw[h1]at e;cases e;cases h6 with
 |dct hl h6=>exact⟨a,_,h2,h5,hl,h6⟩
theorem bs7{x:Str}{p tpos:Pos}{ix:Expr}{g gi:L3.G}{k:Nat}(i:Nat)(hr:B7 k X.A)(he:Wd (PX X e g))(hix:Wd (PX X ix gi))(hm:i∈own:=by decide)(hi:X.N[i]?=some x:=by rfl)(hv:Vis X.env.scope x:=by first |exact Or.inl rfl|exact Or.inr (Or.inl rfl)|exact Or.inr (Or.inr rfl))(hd:(x==("__debug__":Str))=false:=by decide)(hcd:(x==("__classdict__":Str))=false:=by decide)(hs:swapsWith e (some (.Subscript (.Name x p) ix tpos)) pos.line X.env=pure false:=by rfl):PXO X own own (.Assign [.Subscript (.Name x p) ix tpos] e pos) (aq5 i (gM own gi) (gM own g)):=have he:=he.run;have hix:=hix.run;⟨bS4,fun G0 H0 pins s σ H D I zz=>by
 obtain⟨G,ρ,o,R,hg,q⟩:=zz;obtain⟨t,k1,hg⟩:=h9 hg;obtain⟨tk,k2,hg⟩:=h9 hg;cases hq:(ρ[i]?).join with
 |none=>rw[hq]at hg;cases hg
 |some tl=>
  rw[hq]at hg
  match tl,tk,hq,k2,hg with
  |.dct ks ts,.int j,hq,k2,hg=>
   dsimp only at hg;split at hg
   case isFalse=>cases hg
   case isTrue hb=>
   cases hg;obtain⟨hlen,hno,hkt⟩:=hb;refine bP9 (by have :=hu8 hr;omega) (ac2 hi hv hd hcd) hix he hs pins s σ H D I ⟨G,t9 own ρ,t,R.x.s,R.r,k1,fun v G1 H1 e1 r1=> ?_⟩;have R1:=R.step e1;obtain⟨ad,xs,a1,a2,a3,a4⟩:=be6 R1 hm hq;refine⟨.ref ad,a1,G1,t9 own ρ,.int j,R1.x.s,R1.r,k2,fun u G2 H2 e2 r2=> ?_⟩;have R2:=R1.step e2;obtain⟨ad',xs2,b1,b2,b3,b4⟩:=be6 R2 hm hq;rw[a1]at b1;cases b1;simp only[Rep]at r2;subst r2;have hnone:Y2 ((ks.map (Sum.inl:Int->Key)).zip xs2) (Sum.inl j)=none:=by
    have :=aK3 (i:=j) b3;rw[hno]at this;cases z:Y2 ((ks.map (Sum.inl:Int->Key)).zip xs2) (Sum.inl j)with
    |none=>rfl
    |some w=>rw[z]at this;cases this
   refine⟨ad,_,rfl,ba4.k (k:=Sum.inl j) b2 ?_,?_⟩
   ·rw[List.length_zip,cu6];exact Nat.lt_of_le_of_lt (Nat.min_le_left _ _) (cx0 hlen (by decide))
   ·rw[bE5 v hnone];have ez:(ks.map (Sum.inl:Int->Key)).zip xs2++[(Sum.inl j,v)]=((ks++[j]).map (Sum.inl:Int->Key)).zip (xs2++[v]):=by
     rw[cv1,List.zip_append (by rw[cu6];exact b3)];rfl
    rw[ez];exact q σ G2 _ (e1.g.trans e2.g) (R2.putO hm a1 (.dct (by simp[b3]) (b4.append (j5.cons (r1.mono e2.g) j5.nil))))⟩
theorem bs6{x:Str}{pos' dp:Pos}{g gi:L3.G}(i:Nat)(hN:X.N.Nodup)(hk:Wd (PX X a gi))(hv:Wd (PX X b g))(hm:i∉own:=by decide)(hi:X.N[i]?=some x:=by rfl)(hx:Loc X.env.scope x:=by first |exact Or.inl rfl|exact Or.inr rfl)(hs:swapsWith (.Dict [some a] [b] dp) (some (.Name x pos')) pos.line X.env=pure false:=by rfl)(hf:X.fn x=true\/X.env.scope.names.lookup x=some .local:=by first |exact .inl rfl|exact .inr rfl):PXO X own (i::own) (.Assign [.Name x pos'] (.Dict [some a] [b] dp) pos) (k7 i (gM own (g2 bm8 gi g))):=have hk:=hk.run;have hv:=hv.run;⟨U9,fun G0 H0 pins s σ H D I zz=>by
 obtain⟨G,ρ,o,R,hg,q⟩:=zz;obtain⟨t,k1,hg⟩:=h9 hg;cases hg;obtain⟨tx,k2,k1⟩:=h9 (show((gi (t9 own ρ)).bind fun x=>(g (t9 own ρ)).bind fun y=>bm8 x y)=some t from k1);obtain⟨ty,k3,k1⟩:=h9 k1
 match tx,k2,k1 with
 |.int j,k2,k1=>
  cases k1;refine ac1 hN hi hx (bQ6 (bE8 hk hv bQ1) rfl rfl (by simp) (by simp)) hs hf pins s σ H D I fun p hp=> ?_
  have e0:Ext G H G (upd H p (.dK [])):=(Ext.refl R.x.s).lay hp;refine⟨G,t9 own ρ,.int j,e0.s,R.r,k2,fun v G1 H1 e1 r1=>⟨G1,t9 own ρ,ty,e1.s,R.r.mono e1.g,k3,fun u G2 H2 e2 r2=> ?_⟩⟩;have E:=(e0.trans e1).trans e2;have hpd:H2 p=some (.dK []):=(e1.trans e2).h.yes n6 rfl;have gp:G2 p=none:=(e1.trans e2).fr p (by rw[n6];simp) (R.x.s.free hp);simp only[Rep]at r1;subst r1;refine⟨hpd,[(Sum.inl j,u)],rfl,by simp,?_⟩;have E2:Ext G H G2 (upd H2 p (.dK (aj2 [] [(Sum.inl j,u)]))):=⟨E.g,⟨fun b o z=>by rw[l7 (t6 z gp)];exact E.s b o z,E.s.t.upd fun x e=>by rw[hpd]at e;cases e;exact⟨fun _ z=>HO.noConfusion z,fun _ _ z=>HO.noConfusion z⟩,E.s.n⟩,E.h.upd hp,E.fr⟩
  refine q _ G2 _ E2.g ((R.step E2).add hm (by rw[I.len];exact Y5 hi) (R.x.h.free hp) gp n6 (R.other hp) ?_);show U1 X.K G2 (.dct [j] [ty]) (.dK (aj2 [] [(Sum.inl j,u)]));exact .dct (ks:=[j]) (xs:=[u]) rfl (j5.cons r2 j5.nil)⟩
end
noncomputable def spO(K:W.Frag)(n:Nat)(F:List T->Option T):Sp:=fun vs H Q _=>∃G ts us,Sub G H/\j5 K G ts vs/\ts.length=n/\F ts=some (.lst us)/\∀a xs G' H',H a=none->G' a=none->Ext G H G' H'->H' a=some (.lst xs)->j5 K G' us xs->Q (.ref a) H'
noncomputable def del(H:Hp)(a:Addr):Hp:=fun b=>if b=a then none else H b
noncomputable def spI(K:W.Frag)(n:Nat)(F:List T->Option T):Sp:=fun vs H Q _=>∃G ts us t a xs vs0,vs=vs0++[V.ref a]/\Sub G H/\G a=none/\H a=some (.lst xs)/\j5 K G ts vs0/\j5 K G us xs/\ts.length+1=n/\F (ts++[.lst us])=some t/\∀v G' H',Ext G (del H a) G' H'->Rep K G' t v->Q v H'
noncomputable def ba5(P:Program)(w:World)(K:W.Frag)(mg:Str->Option Value)(base:Heap)(x:Str)(k n:Nat)(F:List T->Option T):Prop:=
 ∃f fd ps,mg x=some (.ref f)/\W.keepIn K (.ref f)=true/\Z1 K fd ps []/\V9 P w K mg base CX0 k f fd ps (spO K n F)
noncomputable def ba6(P:Program)(w:World)(K:W.Frag)(mg:Str->Option Value)(base:Heap)(x:Str)(k n:Nat)(F:List T->Option T):Prop:=
 ∃f fd ps,mg x=some (.ref f)/\W.keepIn K (.ref f)=true/\Z1 K fd ps []/\V9 P w K mg base CX0 k f fd ps (spI K n F)
theorem aw0{H:Hp}{a b:Addr}(h:b≠a):del H a b=H b:=cx7 h
theorem by1{H:Hp}{a:Addr}:del H a a=none:=cx8 rfl
theorem Tbs.del{H:Hp}{a:Addr}{xs:List V}(h:Tbs H)(n:H a=some (.lst xs)):Tbs (L3.del H a):=fun p hp=>by
 obtain⟨ps,e,r⟩:=h p hp;have n1:p.1≠a:=fun z=>by rw[z,n]at e;cases e
 refine⟨ps,by rw[aw0 n1];exact e,r.mono fun c hc=> ?_⟩;rw[aw0 fun z=>by rw[z,n]at hc;cases hc];exact hc
theorem Ext.del{G H G1 H1:Hp}{a:Addr}{xs:List V}(e:Ext G H G1 H1)(h:H a=none)(g:G1 a=none)(n:H1 a=some (.lst xs)):Ext G H G1 (L3.del H1 a):=
 ⟨e.g,⟨fun b o z=>by rw[aw0 (t6 z g)];exact e.s b o z,e.s.t.del n,e.s.n⟩,fun b o z=>by rw[aw0 (t6 z h)];exact e.h b o z,e.fr⟩
section
variable {X:Cx}{a b e c:Expr}{pos:Pos}{own own':List Nat}
theorem aU1{es:List Expr}{l:List L3.G}{k k' n:Nat}{F:List T->Option T}{x:Str}{p:Pos}(h:ba5 X.prog X.w X.K X.mg X.base x k n F)(hr:B7 k' X.A)(hk:k<=k')(hg:Gl X x)(ha:Wd (PXA X (e::es) (gs l)))(hn:l.length=n:=by rfl)(hdb:(x==("__debug__":Str))=false:=by decide)(he:starEach (e::es) X.env=(false,eval e X.env)::starEach es X.env:=by rfl)(hpl:(backTo pos (starEach es X.env)).any (·.1)=false:=by rfl):Wd (PXf X (.Call (.Name x p) (e::es) [] pos) (gN F l)):=⟨by
 have ha:=ha.run;obtain⟨f,fd,ps,hm,kp,hb,Hf⟩:=h;refine PE.imp (ay3 Hf (hr.mono hk) hg hm kp hb .nil bj7 ha hdb he hpl) fun σ H Q ⟨G,ρ,us,sG,hρ,hg,q⟩=> ?_
 obtain⟨ts,h1,hg⟩:=h9 hg;refine⟨G,ρ,ts,sG,hρ,h1,fun vs G1 H1 e1 r1=> ?_⟩;show spO X.K n F (vs++[]) H1 Q E0;rw[cs9];exact⟨G1,ts,us,e1.s,r1,by rw[ab2 h1,hn],hg,fun a xs G2 H2 ha ga e2 h2 r2=>q a xs G2 H2 (e1.h.free ha) ga (e1.trans e2) h2 r2⟩⟩
theorem aU2{k k':Nat}{ga gb:L3.G}{F:List T->Option T}{x:Str}{p:Pos}(h:ba6 X.prog X.w X.K X.mg X.base x k 2 F)(hr:B7 k' X.A)(hk:k<=k')(hg:Gl X x)(ha:Wd (PX X a ga))(hb:Wd (PXf X b gb))(hdb:(x==("__debug__":Str))=false:=by decide)(hs1:aG5 a=true:=by rfl)(hs2:aG5 b=true:=by rfl)(hpl:(backTo pos (starEach [b] X.env)).any (·.1)=false:=by rfl):Wd (PX X (.Call (.Name x p) [a,b] [] pos) (gN F [ga,gFr gb])):=⟨by
 have ha:=ha.run;have hb:=hb.run;obtain⟨f,fd,ps,hm,kp,hbi,Hf⟩:=h;refine PE.imp (ay3 Hf (hr.mono hk) hg hm kp hbi .nil bj7 (O4 ha (O4 hb Y4 (ax4 hs2)) (ax4 hs1)) hdb (ax4 hs1) hpl) fun σ H Q ⟨G,ρ,t,sG,hρ,hg,q⟩=> ?_
 obtain⟨ts,h1,hg⟩:=h9 hg;obtain⟨tx,k1,h1⟩:=h9 h1;obtain⟨r,k2,h1⟩:=h9 h1;cases h1;obtain⟨ty,k3,k2⟩:=h9 k2;cases k2;obtain⟨us,k4,rfl⟩:=aX5 k3;refine⟨G,ρ,tx,sG,hρ,k1,fun v G1 H1 e1 r1=>⟨G1,ρ,us,e1.s,hρ.mono e1.g,k4,fun ad xs G2 H2 hn gn e2 h2 r2=> ?_⟩⟩;show spI X.K 2 F ([v,.ref ad]++[]) H2 Q E0;rw[cs9];exact⟨G2,[tx],us,t,ad,xs,[v],rfl,e2.s,gn,h2,j5.cons (r1.mono e2.g) j5.nil,r2,rfl,hg,fun w G3 H3 e3 r3=>q w G3 H3 (e1.trans ((e2.del hn gn h2).trans e3)) r3⟩⟩
noncomputable def isL:T->Bool
 |.lst _=>true
 |_=>false
noncomputable def cm7(K:W.Frag)(G0 H0:Hp)(D:aa6):Out->Prop
 |.ret t=>(isL t=false->False)/\∀ts a xs G' H',t=.lst ts->H0 a=none->G' a=none->Ext G0 H0 G' H'->H' a=some (.lst xs)->j5 K G' ts xs->D.rt (.ref a) H'
 |_=>False
noncomputable def tXZ(K:W.Frag)(G0 H0:Hp)(own:List Nat)(g:GS):TS:=fun D σ H=>∃G ρ o,RO K G0 H0 own G H σ ρ/\g ρ=some o/\cm7 K G0 H0 D o
structure PXZ(X:Cx)(own:List Nat)(st:List Stmt)(g:GS):Prop where
 ps:∀G0 H0,PSs X st (tXZ X.K G0 H0 own g)
noncomputable def NR(g:GS):Prop:=∀ρ o,g ρ=some o->∀t,o≠.ret t
theorem bL7{g:GS}(h:∀ρ o,g ρ=some o->∃ρ',o=.nx ρ'):NR g:=fun ρ o e t=>by
 obtain⟨ρ',rfl⟩:=h ρ o e;exact fun z=>nomatch z
theorem bv5{i:Nat}{g:L3.G}:NR (k7 i g):=bL7 fun ρ o e=>by
 obtain⟨t,_,e⟩:=h9 e;cases e;exact⟨_,rfl⟩
theorem aG3{i:Nat}{op:T->T->Option T}{gi g:L3.G}:NR (V5 i op gi g):=bL7 fun ρ o e=>by
 obtain⟨t,_,e⟩:=h9 e;obtain⟨k,_,e⟩:=h9 e;split at e
 ·split at e
  ·obtain⟨n,_,e⟩:=h9 e;obtain⟨x,_,e⟩:=h9 e;obtain⟨z,_,e⟩:=h9 e;cases e;exact⟨_,rfl⟩
  ·cases e
 ·cases e
theorem bv6{a b:GS}(ha:NR a)(hb:NR b):NR (j6 a b):=fun ρ o e t=>by
 obtain⟨o1,k1,e⟩:=h9 e;cases o1 with
 |nx ρ1=>exact hb _ _ e t
 |ret u=>exact absurd rfl (ha _ _ k1 u)
 |bk ρ1=>cases e;exact fun z=>nomatch z
 |ct ρ1=>cases e;exact fun z=>nomatch z
theorem bl3{st:St1}{b:GS}(hb:NR b):∀xs,NR (u5 st b xs)
 |[]=>fun ρ o e t=>by cases e;exact fun z=>nomatch z
 |x::xs=>fun ρ o e t=>by
  obtain⟨ρ1,_,e⟩:=h9 e;obtain⟨o1,k1,e⟩:=h9 e;cases o1 with
  |nx ρ2=>exact bl3 hb xs _ _ e t
  |ct ρ2=>exact bl3 hb xs _ _ e t
  |bk ρ2=>cases e;exact fun z=>nomatch z
  |ret u=>exact absurd rfl (hb _ _ k1 u)
theorem bv7{it:GL}{st:St1}{b:GS}(hb:NR b):NR (N0 it st b):=fun ρ o e t=>by
 obtain⟨xs,_,e⟩:=h9 e;exact bl3 hb xs _ _ e t
noncomputable def Rt(g:GS):Prop:=∀ρ o,g ρ=some o->∃t,o=.ret t
theorem bX3{g:L3.G}:Rt (m6 g):=fun ρ o e=>by
 obtain⟨t,_,e⟩:=h9 e;cases e;exact⟨t,rfl⟩
theorem br2{a b:GS}(nb:NB a)(nr:NR a)(hb:Rt b):Rt (j6 a b):=fun ρ o e=>by
 obtain⟨o1,k1,e⟩:=h9 e;cases o1 with
 |nx ρ1=>exact hb _ _ e
 |bk ρ1=>exact absurd rfl ((nb _ _ k1).1 _)
 |ct ρ1=>exact absurd rfl ((nb _ _ k1).2 _)
 |ret t=>exact absurd rfl (nr _ _ k1 t)
theorem aM6{st:Stmt}{rest:List Stmt}{g1 g2:GS}(h1:PXO X own own' st g1)(nr:NR g1)(h2:PXZ X own' rest g2):PXZ X own (st::rest) (j6 g1 g2):=⟨fun G0 H0=>PSs.imp (W8 (h1.ps G0 H0) (h2.ps G0 H0)) fun D σ H zz=>by
 obtain⟨G,ρ,o,R,hg,q⟩:=zz;obtain⟨o1,k1,hg⟩:=h9 hg;refine⟨G,ρ,o1,R,k1,?_⟩;cases o1 with
 |nx ρ1=>exact fun σ' G' H' s' R'=>⟨G',ρ1,o,R',hg,q⟩
 |bk ρ1=>exact absurd rfl ((h1.nb _ _ k1).1 _)
 |ct ρ1=>exact absurd rfl ((h1.nb _ _ k1).2 _)
 |ret t=>exact absurd rfl (nr _ _ k1 t)⟩
theorem bE2{x:Str}{p:Pos}(i:Nat)(hm:i∈own:=by decide)(hi:X.N[i]?=some x:=by rfl)(hv:Vis X.env.scope x:=by first |exact Or.inl rfl|exact Or.inr (Or.inl rfl)|exact Or.inr (Or.inr rfl))(hd:(x==("__debug__":Str))=false:=by decide)(hcd:(x==("__classdict__":Str))=false:=by decide):PXZ X own [.Return (some (.Name x p)) pos] (m6 (d0 i)):=⟨fun G0 H0=>ao6 (PS.imp (aG1 (ac2 hi hv hd hcd)) fun D σ H zz=>by
 obtain⟨G,ρ,o,R,hg,q⟩:=zz;obtain⟨t,k1,hg⟩:=h9 hg;cases hg;obtain⟨a,ho,t',h1,h2,h3,h4,h5,h6⟩:=R.o i hm;have k1:(ρ[i]?).join=some t:=k1;rw[h1]at k1;cases k1;refine⟨.ref a,h2,?_⟩;cases h6 with
 |lst r=>exact q.2 _ a _ G H rfl h3 h4 R.x h5 r
 |dct hl r=>exact(q.1 rfl).elim)⟩
end
section
variable {P:Program}{w:World}{K:W.Frag}{mg:Str->Option Value}{base:Heap}
theorem cp5{x qual:Str}{st:Stmt}{f:Addr}{fd:FuncData}{N ps:List Str}{k:Nat}{g:GS}(F:Fun K x qual st f fd)(S:l0 N ps (j4 st))(np:ps.length<=N.length)
  (hb:∀(cdv:Value) (A:Around) (outer:List Env) (s:Shared) (H:Hp) (E:XK),B7 k (A.deeper (envOfC qual (j4 st) s.heap.objs.size f cdv))->PXZ (w4 CX0 P w K mg base N qual (j4 st) f cdv A outer s H E).nox [] (A7 st) g) (nn:Rt g):
  V9 P w K mg base CX0 (k+1) f fd ps (spO K ps.length (u9 ps.length N.length g)):=by
 refine F.ok S (fun vs H Q E h=> ?_) (fun cdv A outer s H vs Q E hr h=> ?_)
 ·obtain⟨G,ts,t,sG,r,hl,_⟩:=h;rw[r.length,hl]
 ·obtain⟨G,ts,us,sG,r,hl,hf,q⟩:=h;refine⟨_,(hb cdv A outer s H E hr).ps G H,?_⟩;unfold u9 at hf;rw[cx8 hl]at hf;have hρ:=aa7 (N:=N) r (by omega);cases hg:g (l9 N.length ts)with
  |none=>rw[hg]at hf;cases hf
  |some o=>
   rw[hg]at hf;obtain⟨t,rfl⟩:=nn _ _ hg;cases hf;refine⟨G,_,_,RO.start sG hρ,hg,?_⟩;refine⟨(fun z=>nomatch z),fun ts' a xs G' H' e h0 g0 ex ha rr=> ?_⟩;cases e;exact q a xs G' H' h0 g0 ex ha rr
theorem cp6{x qual:Str}{st:Stmt}{f:Addr}{fd:FuncData}{N ps:List Str}{k m:Nat}{g:GS}{own:List Nat}(F:Fun K x qual st f fd)(S:l0 N ps (j4 st))(np:ps.length<=N.length)(hm:ps.length=m+1)
  (hb:∀(cdv:Value) (A:Around) (outer:List Env) (s:Shared) (H:Hp) (E:XK),B7 k (A.deeper (envOfC qual (j4 st) s.heap.objs.size f cdv))->V7 (w4 CX0 P w K mg base N qual (j4 st) f cdv A outer s H E).nox [m] own (A7 st) g):
  V9 P w K mg base CX0 (k+1) f fd ps (spI K ps.length (u9 ps.length N.length g)):=by
 refine F.ok S (fun vs H Q E h=> ?_) (fun cdv A outer s H vs Q E hr h=> ?_)
 ·obtain⟨G,ts,us,t,a,xs,vs0,rfl,_,_,_,r,_,hl,_⟩:=h;rw[cu4,r.length];exact hl
 ·obtain⟨G,ts,us,t,a,xs,vs0,rfl,sG,ga,ha,r,ru,hl,hf,q⟩:=h;have hlt:ts.length=m:=by omega
  have hlv:vs0.length=m:=by rw[r.length,hlt]
  refine⟨_,(hb cdv A outer s H E hr).ps G (L3.del H a),?_⟩;unfold u9 at hf;rw[cx8 (by rw[cu4];exact hl)]at hf;cases hg:g (l9 N.length (ts++[.lst us]))with
  |none=>rw[hg]at hf;cases hf
  |some o=>
   rw[hg]at hf;have R:RO K G (L3.del H a) [m] G H (L2.start N (vs0++[.ref a])) (l9 N.length (ts++[.lst us])):=by
    refine⟨⟨w9.refl _,sG,fun b o z=> ?_,fun b _ q=>q⟩,?_,?_,?_⟩
    ·exact⟨o,by rw[<-z];exact(aw0 (a:=a) (fun y=>by rw[y,by1]at z;cases z)).symm,fun _=>rfl⟩
    ·refine⟨by simp[t9,L2.start,l9,hlv,hlt],fun i t q=> ?_⟩;have q:((l9 N.length (ts++[.lst us])).set m none)[i]?=some (some t):=q;have hi:i≠m:=fun z=>by
      rw[z,cu3 (by simp[l9,hlt]<;>omega)]at q;cases q
     rw[cu2 (Ne.symm hi)]at q;unfold l9 at q;unfold L2.start;by_cases hi2:i<ts.length
     ·rw[ct4 (by simp;omega),cv1,ct4 (by simpa using hi2),cu0]at q;cases e:ts[i]? with
      |none=>rw[e]at q;cases q
      |some u=>
       rw[e]at q;cases q;obtain⟨x,hx,rx⟩:=r.get e;refine⟨x,?_,rx⟩;rw[ct4 (by simp[hlv];omega),cv1,ct4 (by rw[cu6,r.length];exact hi2),cu0,hx];rfl
     ·rw[ct5 (by simp;omega),cu1]at q;split at q<;>cases q
    ·intro i hi;rw[List.mem_singleton]at hi;subst hi;refine⟨a,.lst xs,.lst us,?_,?_,by1,ga,ha,.lst ru⟩
     ·unfold l9;rw[ct4 (by simp[hlt]),cv1,ct5 (by simp[hlt])];simp[hlt]
     ·unfold L2.start;rw[ct4 (by simp[hlv]),cv1,ct5 (by simp[hlv])];simp[hlv]
    ·intro i hi j hj _ _ _;rw[List.mem_singleton]at hi hj;rw[hi,hj]
   refine⟨G,_,o,R,hg,?_⟩;cases o with
   |nx ρ=>cases hf;exact fun σ' G' H' _ R=>q .non G' H' R.x (by simp[Rep])
   |ret t'=>cases hf;exact fun v G' H' e' rv=>q v G' H' e' rv
   |bk ρ=>cases hf
   |ct ρ=>cases hf
end
end L3
namespace L2
open PySem PySem.Spec PyProof.Rows
structure Src(P:Program)(w:World)(it l:Addr)(S:Nat->Heap->Prop)(L:Array Value->Heap->Prop):Prop where
 item:∀{A:Around}{s:Shared}{E:Value->Shared->Prop}{Q:Value->Shared->Prop}{i:Nat}{xs:Array Value}{x:Value},S i s.heap->L xs s.heap->xs[i]?=some x->(∀h',S (i+1) h'->Heap.SameBut it s.heap h'->Q x {s with heap:=h'})->wpAny (model P w) A (Builtin.SmallTypes.nextOf (.ref it)) Q E s
 stop:∀{A:Around}{s:Shared}{E:Value->Shared->Prop}{Q:Value->Shared->Prop}{i:Nat}{xs:Array Value},A.handled=none->S i s.heap->L xs s.heap->xs[i]?=none->(∀h' e,Heap.ExtBut it s.heap h'->(∃o,h'.get? e=some o/\o.cls=.type "StopIteration")->E (.ref e) {s with heap:=h'})->wpAny (model P w) A (Builtin.SmallTypes.nextOf (.ref it)) Q E s
 sx:∀{i:Nat}{h h':Heap},S i h->(∀o,h.get? it=some o->h'.get? it=some o)->S i h'
 lx:∀{xs:Array Value}{h h':Heap},L xs h->(∀o,h.get? l=some o->h'.get? l=some o)->L xs h'
 ob:∀{i:Nat}{h:Heap},S i h->∃o,h.get? it=some o/\∀v,o.data≠.cell v
section
variable {P:Program}{w:World}
theorem ad5{it l:Addr}:Src P w it l (fun i h=>h.IsListIter it l i) (fun xs h=>h.IsList l xs) where
 item:=fun a b c d=>wpAny_nextOf_list_item a b c d
 stop:=fun a b c d e=>wpAny_nextOf_list_end a b c d e
 sx:=fun a k=>a.at k
 lx:=fun a k=>a.at k
 ob:=fun⟨o,e,_,d⟩=>⟨o,e,fun v z=>by rw[d]at z;cases z⟩
theorem ax5{it l:Addr}:Src P w it l (fun i h=>h.IsTupleIter it l i) (fun xs h=>h.IsTuple l xs) where
 item:=fun{A s E Q i xs x} hit ht hx hQ=>by
  obtain⟨o,ho,hc,hd⟩:=id hit;obtain⟨ol,hol,_,nl,hdl⟩:=ht;unfold Builtin.SmallTypes.nextOf;refine cx9 (wpAny_callSpecial?_slot (name:=Str.ofString "__next__") hit.typeIs F.slot_tuple_iterator_next (cy0 F.slot_tuple_iterator_next hit.typeIs F.entry_tuple_iterator_next ?_ (F.args_tuple_iterator_next_1 _)));show wpAny _ _ (field (.ref it) 0>>=_) _ _ s;refine cx9 (cy1 ho hd (x:=.ref l) rfl ?_);show wpAny _ _ (if(Value.ref l==Value.none)=true then _ else _) _ _ s;rw[cx7 (show¬((Value.ref l==Value.none)=true)from cs0)];show wpAny _ _ (field (.ref it) 1>>=_) _ _ s;refine cx9 (cy1 ho hd (x:=.int i 0) rfl ?_);show wpAny _ _ (seqItems? (.ref l)>>=_) _ _ s;refine cx9 (cy7 hol hdl ?_);simp only[cs6,hx];refine cx9 (wpAny_setField ho hd (by simp) (cy5 ⟨x,rfl,cy5 (hQ _ ?_ (Heap.SameBut.update ..))⟩));exact⟨_,cs4 _ ho (Obj.isFreed_of_fields (Obj.data_mapFields hd _)),(Obj.cls_mapFields ..).trans hc,by rw[Obj.data_mapFields hd];simp[rawInt]⟩
 stop:=fun{A s E Q i xs} hh hit ht hx hE=>by
  obtain⟨o,ho,hc,hd⟩:=id hit;obtain⟨ol,hol,_,nl,hdl⟩:=ht;unfold Builtin.SmallTypes.nextOf;refine cx9 (wpAny_callSpecial?_slot (name:=Str.ofString "__next__") hit.typeIs F.slot_tuple_iterator_next (cy0 F.slot_tuple_iterator_next hit.typeIs F.entry_tuple_iterator_next ?_ (F.args_tuple_iterator_next_1 _)));show wpAny _ _ (field (.ref it) 0>>=_) _ _ s;refine cx9 (cy1 ho hd (x:=.ref l) rfl ?_);show wpAny _ _ (if(Value.ref l==Value.none)=true then _ else _) _ _ s;rw[cx7 (show¬((Value.ref l==Value.none)=true)from cs0)];show wpAny _ _ (field (.ref it) 1>>=_) _ _ s;refine cx9 (cy1 ho hd (x:=.int i 0) rfl ?_);show wpAny _ _ (seqItems? (.ref l)>>=_) _ _ s;refine cx9 (cy7 hol hdl ?_);simp only[cs6,hx];refine cx9 (wpAny_rule (cx9 (wpAny_setField ho hd (by simp) ?_)));show wpAny _ _ (newExc (.type "StopIteration") []>>=_) _ _ _;refine cx9 ?_;simp only[newExc,newTuple];refine cx9 (cy3 ?_ (by size_fits));refine cx9 (m:=firstArgMember _ _) (wpAny_of_eq (a:=Value.none) (by first |rfl|(simp only[firstArgMember];rfl)) ?_);refine cy3 ?_ (by size_fits);simp only[raiseNew];refine cx9 (wpAny_handled ?_);first |rw[show A.in1.handled=none from hh]|rw[hh]
  refine cx9 (cy5 (wpAny_throw ?_));exact hE _ _ (((Heap.SameBut.update ..).extBut.push _).push _) ⟨_,cs2 _ rfl,rfl⟩
 sx:=fun a k=>a.at k
 lx:=fun⟨o,e,r⟩ k=>⟨o,k o e,r⟩
 ob:=fun⟨o,e,_,d⟩=>⟨o,e,fun v z=>by rw[d]at z;cases z⟩
noncomputable abbrev A2(h:Heap)(T:Addr)(xs:Array Value):Prop:=h.get? T=some {cls:=.type "tuple",data:=.seq xs}
theorem af1{A:Around}{s:Shared}{E:Value->Shared->Prop}{T:Addr}{xs:Array Value}{x:Value}{k:Nat}{Q:Unit->Shared->Prop}(hT:A2 s.heap T xs)
  (h:∀h',A2 h' T (xs.setIfInBounds k x)->Heap.SameBut T s.heap h'->Q () {s with heap:=h'}) (hl:xs.size<=3:=by first |decide|simp):wpAny (model P w) A (updateSeq T (·.setIfInBounds k x)) Q E s:=by
 have q:xs.size<=sizeLine:=cw9 hl (by decide);refine wpAny_updateSeq hT rfl (h _ ?_ (Heap.SameBut.update ..)) q (by rw[Array.size_setIfInBounds];omega);show Heap.get? _ _=_;rw[cs4 _ hT rfl];simp[Obj.mapSeq]
structure Ap2(z TI TO i1 i2 l1 l2:Addr):Prop where
 TIz:TI≠z
 TOz:TO≠z
 TITO:TI≠TO
 i1z:i1≠z
 TIi1:TI≠i1
 TOi1:TO≠i1
 i2z:i2≠z
 TIi2:TI≠i2
 TOi2:TO≠i2
 i12:i1≠i2
 l1z:l1≠z
 l1TO:l1≠TO
 l1i1:l1≠i1
 l1i2:l1≠i2
 l2z:l2≠z
 l2TO:l2≠TO
 l2i1:l2≠i1
 l2i2:l2≠i2
structure Ap3(z TI TO i1 i2 i3 l1 l2 l3:Addr):Prop where
 TIz:TI≠z
 TOz:TO≠z
 TITO:TI≠TO
 i1z:i1≠z
 TIi1:TI≠i1
 TOi1:TO≠i1
 i2z:i2≠z
 TIi2:TI≠i2
 TOi2:TO≠i2
 i3z:i3≠z
 TIi3:TI≠i3
 TOi3:TO≠i3
 i12:i1≠i2
 i13:i1≠i3
 i23:i2≠i3
 l1z:l1≠z
 l1TO:l1≠TO
 l1i1:l1≠i1
 l1i2:l1≠i2
 l1i3:l1≠i3
 l2z:l2≠z
 l2TO:l2≠TO
 l2i1:l2≠i1
 l2i2:l2≠i2
 l2i3:l2≠i3
 l3z:l3≠z
 l3TO:l3≠TO
 l3i1:l3≠i1
 l3i2:l3≠i2
 l3i3:l3≠i3
theorem bA6{A:Around}{s:Shared}{E:Value->Shared->Prop}{z TI TO i1 i2 l1 l2:Addr}{S1:Nat->Heap->Prop}{S2:Nat->Heap->Prop}{L1:Array Value->Heap->Prop}{L2:Array Value->Heap->Prop}{k:Nat}{xs1 xs2:Array Value}{x1 x2 a1 a2:Value}{Q:Value->Shared->Prop}(D:Ap2 z TI TO i1 i2 l1 l2)
  (c1:Src P w i1 l1 S1 L1) (c2:Src P w i2 l2 S2 L2)
  (hz:IsZip s.heap z TI TO .none) (hTI:A2 s.heap TI #[.ref i1,.ref i2]) (hTO:A2 s.heap TO #[a1,a2])
  (h1:S1 k s.heap) (h2:S2 k s.heap) (hl1:L1 xs1 s.heap) (hl2:L2 xs2 s.heap) (hx1:xs1[k]?=some x1) (hx2:xs2[k]?=some x2)
  (hQ:∀h',IsZip h' z TI TO (rawInt s.heap.objs.size)->A2 h' TO #[x1,x2]->S1 (k+1) h'->S2 (k+1) h'->A2 h' s.heap.objs.size #[x1,x2]->h'.objs.size=s.heap.objs.size+1->
   (∀b u,b≠z->b≠TO->b≠i1->b≠i2->s.heap.get? b=some u->h'.get? b=some u)->Q (.ref s.heap.objs.size) {s with heap:=h'}):
  wpAny (model P w) A (Builtin.«zip.__next__» ⟨[.ref z],[]⟩) (fun fin s'=>∃v,fin=.done (.ret v)/\Q v s') E s:=by
 change wpAny _ _ (field (.ref z) 2>>=_) _ _ _;refine cx9 (cy1 hz rfl (x:=.bool false) rfl ?_);change wpAny _ _ (field (.ref z) 3>>=_) _ _ _;refine cx9 (cy1 hz rfl (x:=.ref TI) rfl (cx9 (cy7 hTI rfl ?_)));change wpAny _ _ (Builtin.SmallTypes.ownedTupleIsFree (.ref z)>>=_) _ _ _;refine cx9 ?_;unfold Builtin.SmallTypes.ownedTupleIsFree;refine cx9 (cy1 hz rfl (x:=.none) rfl (cy5 ?_));simp only[if_true];refine cx9 (wpAny_rule (cx9 (cy1 hz rfl (x:=.ref TO) rfl ?_)));refine cx9 (cy8 hz (by simp) fun h₁ hz₁ hs₁=> ?_);replace hz₁:IsZip h₁ z TI TO .ellipsis:=hz₁;refine cx9 ?_;simp only[List.zipIdx_cons,List.zipIdx_nil,List.forIn_cons,List.forIn_nil];refine cx9 (cx9 (cy4 ?_));change wpAny _ _ (Builtin.SmallTypes.nextOf (.ref i1)>>=_) _ _ _;refine cx9 (c1.item (c1.sx h1 fun o e=>(hs₁.2 _ D.i1z).trans (e)) (c1.lx hl1 fun o e=>(hs₁.2 _ D.l1z).trans (e)) hx1 fun g1 q1 e1=>cy5 ?_);have to1:A2 g1 TO #[a1,a2]:=(e1.2 _ D.TOi1).trans ((hs₁.2 _ D.TOz).trans (hTO));refine cx9 (cy7 to1 rfl (cx9 (af1 to1 fun u1 hu1 f1=> ?_)));replace hu1:A2 u1 TO #[x1,a2]:=hu1;refine cx9 (wpAny_letGo ?_);refine cy5 ?_;refine cx9 (cx9 (cy4 ?_));change wpAny _ _ (Builtin.SmallTypes.nextOf (.ref i2)>>=_) _ _ _;refine cx9 (c2.item (c2.sx h2 fun o e=>(f1.2 _ D.TOi2.symm).trans ((e1.2 _ D.i12.symm).trans ((hs₁.2 _ D.i2z).trans (e)))) (c2.lx hl2 fun o e=>(f1.2 _ D.l2TO).trans ((e1.2 _ D.l2i1).trans ((hs₁.2 _ D.l2z).trans (e)))) hx2 fun g2 q2 e2=>cy5 ?_);have to2:A2 g2 TO #[x1,a2]:=(e2.2 _ D.TOi2).trans (hu1);refine cx9 (cy7 to2 rfl (cx9 (af1 to2 fun u2 hu2 f2=> ?_)));replace hu2:A2 u2 TO #[x1,x2]:=hu2;refine cx9 (wpAny_letGo ?_);refine cy5 (cy5 ?_);refine cx9 (cy7 hu2 rfl (cx9 (wpAny_newTuple ?_)));have hsz:u2.objs.size=s.heap.objs.size:=by rw[f2.1,e2.1,f1.1,e1.1,hs₁.1]
 have hz5:IsZip u2 z TI TO .ellipsis:=(f2.2 _ D.TOz.symm).trans ((e2.2 _ D.i2z.symm).trans ((f1.2 _ D.TOz.symm).trans ((e1.2 _ D.i1z.symm).trans (hz₁))));have hk5:∀c o,c≠z->c≠TO->c≠i1->c≠i2->s.heap.get? c=some o->u2.get? c=some o:=fun c o cz cO c_i1 c_i2 e=>(f2.2 _ cO).trans ((e2.2 _ c_i2).trans ((f1.2 _ cO).trans ((e1.2 _ c_i1).trans ((hs₁.2 _ cz).trans (e)))))
 have s1:S1 (k+1) u2:=(c1.sx q1 fun o e=>(f2.2 _ D.TOi1.symm).trans ((e2.2 _ D.i12).trans ((f1.2 _ D.TOi1.symm).trans (e))))
 have s2:S2 (k+1) u2:=(c2.sx q2 fun o e=>(f2.2 _ D.TOi2.symm).trans (e))
 have hzlt:z<u2.objs.size:=cs5 hz5;change wpAny _ _ (Builtin.SmallTypes.ownedTupleHandOut (.ref z) (.ref u2.objs.size)>>=_) _ _ _;refine cx9 ?_;unfold Builtin.SmallTypes.ownedTupleHandOut;have hz6:IsZip (u2.push {cls:=.type "tuple",data:=.seq #[x1,x2]}) z TI TO .ellipsis:=cs1 _ hz5;refine cx9 (cy8 hz6 (by simp) fun h₇ hz₇ hs₇=> ?_);replace hz₇:IsZip h₇ z TI TO (rawInt u2.objs.size):=hz₇;refine cy8 hz₇ (by simp) fun h₈ hz₈ hs₈=> ?_;replace hz₈:IsZip h₈ z TI TO (rawInt u2.objs.size):=hz₈
 have up:∀c o,c≠z->u2.get? c=some o->h₈.get? c=some o:=fun c o cz e=>(hs₈.2 _ cz).trans ((hs₇.2 _ cz).trans (cs1 _ e))
 have hT₈:A2 h₈ u2.objs.size #[x1,x2]:=(hs₈.2 _ (cx1 hzlt)).trans ((hs₇.2 _ (cx1 hzlt)).trans (cs2 _ rfl));have hz8:h₈.objs.size=u2.objs.size+1:=by rw[hs₈.1,hs₇.1,Heap.size_push]
 rw[hsz]at hz₈ hT₈ hz8;refine cy5 ⟨_,rfl,?_⟩;change Q (.ref u2.objs.size) _;rw[hsz];exact hQ h₈ hz₈ (up _ _ D.TOz hu2) (c1.sx s1 fun o e=>up _ o D.i1z e) (c2.sx s2 fun o e=>up _ o D.i2z e) hT₈ hz8 fun c o cz cO c_i1 c_i2 e=>up c o cz (hk5 c o cz cO c_i1 c_i2 e)
theorem bA5{A:Around}{s:Shared}{E:Value->Shared->Prop}{z TI TO i1 i2 i3 l1 l2 l3:Addr}{S1:Nat->Heap->Prop}{S2:Nat->Heap->Prop}{S3:Nat->Heap->Prop}{L1:Array Value->Heap->Prop}{L2:Array Value->Heap->Prop}{L3:Array Value->Heap->Prop}{k:Nat}{xs1 xs2 xs3:Array Value}{x1 x2 x3 a1 a2 a3:Value}{Q:Value->Shared->Prop}(D:Ap3 z TI TO i1 i2 i3 l1 l2 l3)
  (c1:Src P w i1 l1 S1 L1) (c2:Src P w i2 l2 S2 L2) (c3:Src P w i3 l3 S3 L3)
  (hz:IsZip s.heap z TI TO .none) (hTI:A2 s.heap TI #[.ref i1,.ref i2,.ref i3]) (hTO:A2 s.heap TO #[a1,a2,a3])
  (h1:S1 k s.heap) (h2:S2 k s.heap) (h3:S3 k s.heap) (hl1:L1 xs1 s.heap) (hl2:L2 xs2 s.heap) (hl3:L3 xs3 s.heap) (hx1:xs1[k]?=some x1) (hx2:xs2[k]?=some x2) (hx3:xs3[k]?=some x3)
  (hQ:∀h',IsZip h' z TI TO (rawInt s.heap.objs.size)->A2 h' TO #[x1,x2,x3]->S1 (k+1) h'->S2 (k+1) h'->S3 (k+1) h'->A2 h' s.heap.objs.size #[x1,x2,x3]->h'.objs.size=s.heap.objs.size+1->
   (∀b u,b≠z->b≠TO->b≠i1->b≠i2->b≠i3->s.heap.get? b=some u->h'.get? b=some u)->Q (.ref s.heap.objs.size) {s with heap:=h'}):
  wpAny (model P w) A (Builtin.«zip.__next__» ⟨[.ref z],[]⟩) (fun fin s'=>∃v,fin=.done (.ret v)/\Q v s') E s:=by
 change wpAny _ _ (field (.ref z) 2>>=_) _ _ _;refine cx9 (cy1 hz rfl (x:=.bool false) rfl ?_);change wpAny _ _ (field (.ref z) 3>>=_) _ _ _;refine cx9 (cy1 hz rfl (x:=.ref TI) rfl (cx9 (cy7 hTI rfl ?_)));change wpAny _ _ (Builtin.SmallTypes.ownedTupleIsFree (.ref z)>>=_) _ _ _;refine cx9 ?_;unfold Builtin.SmallTypes.ownedTupleIsFree;refine cx9 (cy1 hz rfl (x:=.none) rfl (cy5 ?_));simp only[if_true];refine cx9 (wpAny_rule (cx9 (cy1 hz rfl (x:=.ref TO) rfl ?_)));refine cx9 (cy8 hz (by simp) fun h₁ hz₁ hs₁=> ?_);replace hz₁:IsZip h₁ z TI TO .ellipsis:=hz₁;refine cx9 ?_;simp only[List.zipIdx_cons,List.zipIdx_nil,List.forIn_cons,List.forIn_nil];refine cx9 (cx9 (cy4 ?_));change wpAny _ _ (Builtin.SmallTypes.nextOf (.ref i1)>>=_) _ _ _;refine cx9 (c1.item (c1.sx h1 fun o e=>(hs₁.2 _ D.i1z).trans (e)) (c1.lx hl1 fun o e=>(hs₁.2 _ D.l1z).trans (e)) hx1 fun g1 q1 e1=>cy5 ?_);have to1:A2 g1 TO #[a1,a2,a3]:=(e1.2 _ D.TOi1).trans ((hs₁.2 _ D.TOz).trans (hTO));refine cx9 (cy7 to1 rfl (cx9 (af1 to1 fun u1 hu1 f1=> ?_)));replace hu1:A2 u1 TO #[x1,a2,a3]:=hu1;refine cx9 (wpAny_letGo ?_);refine cy5 ?_;refine cx9 (cx9 (cy4 ?_));change wpAny _ _ (Builtin.SmallTypes.nextOf (.ref i2)>>=_) _ _ _;refine cx9 (c2.item (c2.sx h2 fun o e=>(f1.2 _ D.TOi2.symm).trans ((e1.2 _ D.i12.symm).trans ((hs₁.2 _ D.i2z).trans (e)))) (c2.lx hl2 fun o e=>(f1.2 _ D.l2TO).trans ((e1.2 _ D.l2i1).trans ((hs₁.2 _ D.l2z).trans (e)))) hx2 fun g2 q2 e2=>cy5 ?_);have to2:A2 g2 TO #[x1,a2,a3]:=(e2.2 _ D.TOi2).trans (hu1);refine cx9 (cy7 to2 rfl (cx9 (af1 to2 fun u2 hu2 f2=> ?_)));replace hu2:A2 u2 TO #[x1,x2,a3]:=hu2;refine cx9 (wpAny_letGo ?_);refine cy5 ?_;refine cx9 (cx9 (cy4 ?_));change wpAny _ _ (Builtin.SmallTypes.nextOf (.ref i3)>>=_) _ _ _;refine cx9 (c3.item (c3.sx h3 fun o e=>(f2.2 _ D.TOi3.symm).trans ((e2.2 _ D.i23.symm).trans ((f1.2 _ D.TOi3.symm).trans ((e1.2 _ D.i13.symm).trans ((hs₁.2 _ D.i3z).trans (e)))))) (c3.lx hl3 fun o e=>(f2.2 _ D.l3TO).trans ((e2.2 _ D.l3i2).trans ((f1.2 _ D.l3TO).trans ((e1.2 _ D.l3i1).trans ((hs₁.2 _ D.l3z).trans (e)))))) hx3 fun g3 q3 e3=>cy5 ?_);have to3:A2 g3 TO #[x1,x2,a3]:=(e3.2 _ D.TOi3).trans (hu2);refine cx9 (cy7 to3 rfl (cx9 (af1 to3 fun u3 hu3 f3=> ?_)));replace hu3:A2 u3 TO #[x1,x2,x3]:=hu3;refine cx9 (wpAny_letGo ?_);refine cy5 (cy5 ?_);refine cx9 (cy7 hu3 rfl (cx9 (wpAny_newTuple ?_)));have hsz:u3.objs.size=s.heap.objs.size:=by rw[f3.1,e3.1,f2.1,e2.1,f1.1,e1.1,hs₁.1]
 have hz5:IsZip u3 z TI TO .ellipsis:=(f3.2 _ D.TOz.symm).trans ((e3.2 _ D.i3z.symm).trans ((f2.2 _ D.TOz.symm).trans ((e2.2 _ D.i2z.symm).trans ((f1.2 _ D.TOz.symm).trans ((e1.2 _ D.i1z.symm).trans (hz₁))))));have hk5:∀c o,c≠z->c≠TO->c≠i1->c≠i2->c≠i3->s.heap.get? c=some o->u3.get? c=some o:=fun c o cz cO c_i1 c_i2 c_i3 e=>(f3.2 _ cO).trans ((e3.2 _ c_i3).trans ((f2.2 _ cO).trans ((e2.2 _ c_i2).trans ((f1.2 _ cO).trans ((e1.2 _ c_i1).trans ((hs₁.2 _ cz).trans (e)))))))
 have s1:S1 (k+1) u3:=(c1.sx q1 fun o e=>(f3.2 _ D.TOi1.symm).trans ((e3.2 _ D.i13).trans ((f2.2 _ D.TOi1.symm).trans ((e2.2 _ D.i12).trans ((f1.2 _ D.TOi1.symm).trans (e))))))
 have s2:S2 (k+1) u3:=(c2.sx q2 fun o e=>(f3.2 _ D.TOi2.symm).trans ((e3.2 _ D.i23).trans ((f2.2 _ D.TOi2.symm).trans (e))))
 have s3:S3 (k+1) u3:=(c3.sx q3 fun o e=>(f3.2 _ D.TOi3.symm).trans (e))
 have hzlt:z<u3.objs.size:=cs5 hz5;change wpAny _ _ (Builtin.SmallTypes.ownedTupleHandOut (.ref z) (.ref u3.objs.size)>>=_) _ _ _;refine cx9 ?_;unfold Builtin.SmallTypes.ownedTupleHandOut;have hz6:IsZip (u3.push {cls:=.type "tuple",data:=.seq #[x1,x2,x3]}) z TI TO .ellipsis:=cs1 _ hz5;refine cx9 (cy8 hz6 (by simp) fun h₇ hz₇ hs₇=> ?_);replace hz₇:IsZip h₇ z TI TO (rawInt u3.objs.size):=hz₇;refine cy8 hz₇ (by simp) fun h₈ hz₈ hs₈=> ?_;replace hz₈:IsZip h₈ z TI TO (rawInt u3.objs.size):=hz₈
 have up:∀c o,c≠z->u3.get? c=some o->h₈.get? c=some o:=fun c o cz e=>(hs₈.2 _ cz).trans ((hs₇.2 _ cz).trans (cs1 _ e))
 have hT₈:A2 h₈ u3.objs.size #[x1,x2,x3]:=(hs₈.2 _ (cx1 hzlt)).trans ((hs₇.2 _ (cx1 hzlt)).trans (cs2 _ rfl));have hz8:h₈.objs.size=u3.objs.size+1:=by rw[hs₈.1,hs₇.1,Heap.size_push]
 rw[hsz]at hz₈ hT₈ hz8;refine cy5 ⟨_,rfl,?_⟩;change Q (.ref u3.objs.size) _;rw[hsz];exact hQ h₈ hz₈ (up _ _ D.TOz hu3) (c1.sx s1 fun o e=>up _ o D.i1z e) (c2.sx s2 fun o e=>up _ o D.i2z e) (c3.sx s3 fun o e=>up _ o D.i3z e) hT₈ hz8 fun c o cz cO c_i1 c_i2 c_i3 e=>up c o cz (hk5 c o cz cO c_i1 c_i2 c_i3 e)
theorem bN5{A:Around}{s:Shared}{E:Value->Shared->Prop}{z TI TO i1 i2 l1 l2:Addr}{S1:Nat->Heap->Prop}{S2:Nat->Heap->Prop}{L1:Array Value->Heap->Prop}{L2:Array Value->Heap->Prop}{k:Nat}{xs1 xs2:Array Value}{a1 a2:Value}{Q:Fin->Shared->Prop}(hh:A.handled=none)(D:Ap2 z TI TO i1 i2 l1 l2)
  (c1:Src P w i1 l1 S1 L1) (c2:Src P w i2 l2 S2 L2)
  (hz:IsZip s.heap z TI TO .none) (hTI:A2 s.heap TI #[.ref i1,.ref i2]) (hTO:A2 s.heap TO #[a1,a2])
  (h1:S1 k s.heap) (h2:S2 k s.heap) (hl1:L1 xs1 s.heap) (hl2:L2 xs2 s.heap) (hend:xs1[k]?=none\/xs2[k]?=none)
  (hE:∀h' e,(∀b u,b≠z->b≠TO->b≠i1->b≠i2->s.heap.get? b=some u->h'.get? b=some u)->(∃o,h'.get? e=some o/\o.cls=.type "StopIteration")->E (.ref e) {s with heap:=h'}):
  wpAny (model P w) A (Builtin.«zip.__next__» ⟨[.ref z],[]⟩) Q E s:=by
 change wpAny _ _ (field (.ref z) 2>>=_) _ _ _;refine cx9 (cy1 hz rfl (x:=.bool false) rfl ?_);change wpAny _ _ (field (.ref z) 3>>=_) _ _ _;refine cx9 (cy1 hz rfl (x:=.ref TI) rfl (cx9 (cy7 hTI rfl ?_)));change wpAny _ _ (Builtin.SmallTypes.ownedTupleIsFree (.ref z)>>=_) _ _ _;refine cx9 ?_;unfold Builtin.SmallTypes.ownedTupleIsFree;refine cx9 (cy1 hz rfl (x:=.none) rfl (cy5 ?_));simp only[if_true];refine cx9 (wpAny_rule (cx9 (cy1 hz rfl (x:=.ref TO) rfl ?_)));refine cx9 (cy8 hz (by simp) fun h₁ hz₁ hs₁=> ?_);replace hz₁:IsZip h₁ z TI TO .ellipsis:=hz₁;refine cx9 ?_;simp only[List.zipIdx_cons,List.zipIdx_nil,List.forIn_cons,List.forIn_nil];refine cx9 (cx9 (cy4 ?_));change wpAny _ _ (Builtin.SmallTypes.nextOf (.ref i1)>>=_) _ _ _;cases hx1:xs1[k]? with
 |none=>
  refine cx9 (c1.stop hh (c1.sx h1 fun o e=>(hs₁.2 _ D.i1z).trans (e)) (c1.lx hl1 fun o e=>(hs₁.2 _ D.l1z).trans (e)) hx1 fun g1 e es1 he=> ?_);obtain⟨oe,hoe,hce⟩:=he;have hz2:IsZip g1 z TI TO .ellipsis:=es1 _ _ D.i1z.symm (hz₁);have hez:e≠z:=fun x=>by subst x;rw[hz2]at hoe;cases hoe;simp at hce
  refine cy8 hz2 (by simp) fun h₃ _ hs₃=>hE h₃ e (fun c o cz cO c_i1 c_i2 x=>(hs₃.2 _ cz).trans (es1 _ _ c_i1 ((hs₁.2 _ cz).trans (x)))) ⟨oe,(hs₃.2 _ hez).trans hoe,hce⟩
 |some x1=>
  refine cx9 (c1.item (c1.sx h1 fun o e=>(hs₁.2 _ D.i1z).trans (e)) (c1.lx hl1 fun o e=>(hs₁.2 _ D.l1z).trans (e)) hx1 fun g1 q1 e1=>cy5 ?_);have to1:A2 g1 TO #[a1,a2]:=(e1.2 _ D.TOi1).trans ((hs₁.2 _ D.TOz).trans (hTO));refine cx9 (cy7 to1 rfl (cx9 (af1 to1 fun u1 hu1 f1=> ?_)));replace hu1:A2 u1 TO #[x1,a2]:=hu1;refine cx9 (wpAny_letGo ?_);refine cy5 ?_;refine cx9 (cx9 (cy4 ?_));change wpAny _ _ (Builtin.SmallTypes.nextOf (.ref i2)>>=_) _ _ _;have hx2:xs2[k]?=none:=by simp[hx1]at hend;simpa using hend
  refine cx9 (c2.stop hh (c2.sx h2 fun o e=>(f1.2 _ D.TOi2.symm).trans ((e1.2 _ D.i12.symm).trans ((hs₁.2 _ D.i2z).trans (e)))) (c2.lx hl2 fun o e=>(f1.2 _ D.l2TO).trans ((e1.2 _ D.l2i1).trans ((hs₁.2 _ D.l2z).trans (e)))) hx2 fun g2 e es2 he=> ?_);obtain⟨oe,hoe,hce⟩:=he;have hz2:IsZip g2 z TI TO .ellipsis:=es2 _ _ D.i2z.symm ((f1.2 _ D.TOz.symm).trans ((e1.2 _ D.i1z.symm).trans (hz₁)));have hez:e≠z:=fun x=>by subst x;rw[hz2]at hoe;cases hoe;simp at hce
  refine cy8 hz2 (by simp) fun h₃ _ hs₃=>hE h₃ e (fun c o cz cO c_i1 c_i2 x=>(hs₃.2 _ cz).trans (es2 _ _ c_i2 ((f1.2 _ cO).trans ((e1.2 _ c_i1).trans ((hs₁.2 _ cz).trans (x)))))) ⟨oe,(hs₃.2 _ hez).trans hoe,hce⟩
theorem bN4{A:Around}{s:Shared}{E:Value->Shared->Prop}{z TI TO i1 i2 i3 l1 l2 l3:Addr}{S1:Nat->Heap->Prop}{S2:Nat->Heap->Prop}{S3:Nat->Heap->Prop}{L1:Array Value->Heap->Prop}{L2:Array Value->Heap->Prop}{L3:Array Value->Heap->Prop}{k:Nat}{xs1 xs2 xs3:Array Value}{a1 a2 a3:Value}{Q:Fin->Shared->Prop}(hh:A.handled=none)(D:Ap3 z TI TO i1 i2 i3 l1 l2 l3)
  (c1:Src P w i1 l1 S1 L1) (c2:Src P w i2 l2 S2 L2) (c3:Src P w i3 l3 S3 L3)
  (hz:IsZip s.heap z TI TO .none) (hTI:A2 s.heap TI #[.ref i1,.ref i2,.ref i3]) (hTO:A2 s.heap TO #[a1,a2,a3])
  (h1:S1 k s.heap) (h2:S2 k s.heap) (h3:S3 k s.heap) (hl1:L1 xs1 s.heap) (hl2:L2 xs2 s.heap) (hl3:L3 xs3 s.heap) (hend:xs1[k]?=none\/xs2[k]?=none\/xs3[k]?=none)
  (hE:∀h' e,(∀b u,b≠z->b≠TO->b≠i1->b≠i2->b≠i3->s.heap.get? b=some u->h'.get? b=some u)->(∃o,h'.get? e=some o/\o.cls=.type "StopIteration")->E (.ref e) {s with heap:=h'}):
  wpAny (model P w) A (Builtin.«zip.__next__» ⟨[.ref z],[]⟩) Q E s:=by
 change wpAny _ _ (field (.ref z) 2>>=_) _ _ _;refine cx9 (cy1 hz rfl (x:=.bool false) rfl ?_);change wpAny _ _ (field (.ref z) 3>>=_) _ _ _;refine cx9 (cy1 hz rfl (x:=.ref TI) rfl (cx9 (cy7 hTI rfl ?_)));change wpAny _ _ (Builtin.SmallTypes.ownedTupleIsFree (.ref z)>>=_) _ _ _;refine cx9 ?_;unfold Builtin.SmallTypes.ownedTupleIsFree;refine cx9 (cy1 hz rfl (x:=.none) rfl (cy5 ?_));simp only[if_true];refine cx9 (wpAny_rule (cx9 (cy1 hz rfl (x:=.ref TO) rfl ?_)));refine cx9 (cy8 hz (by simp) fun h₁ hz₁ hs₁=> ?_);replace hz₁:IsZip h₁ z TI TO .ellipsis:=hz₁;refine cx9 ?_;simp only[List.zipIdx_cons,List.zipIdx_nil,List.forIn_cons,List.forIn_nil];refine cx9 (cx9 (cy4 ?_));change wpAny _ _ (Builtin.SmallTypes.nextOf (.ref i1)>>=_) _ _ _;cases hx1:xs1[k]? with
 |none=>
  refine cx9 (c1.stop hh (c1.sx h1 fun o e=>(hs₁.2 _ D.i1z).trans (e)) (c1.lx hl1 fun o e=>(hs₁.2 _ D.l1z).trans (e)) hx1 fun g1 e es1 he=> ?_);obtain⟨oe,hoe,hce⟩:=he;have hz2:IsZip g1 z TI TO .ellipsis:=es1 _ _ D.i1z.symm (hz₁);have hez:e≠z:=fun x=>by subst x;rw[hz2]at hoe;cases hoe;simp at hce
  refine cy8 hz2 (by simp) fun h₃ _ hs₃=>hE h₃ e (fun c o cz cO c_i1 c_i2 c_i3 x=>(hs₃.2 _ cz).trans (es1 _ _ c_i1 ((hs₁.2 _ cz).trans (x)))) ⟨oe,(hs₃.2 _ hez).trans hoe,hce⟩
 |some x1=>
  refine cx9 (c1.item (c1.sx h1 fun o e=>(hs₁.2 _ D.i1z).trans (e)) (c1.lx hl1 fun o e=>(hs₁.2 _ D.l1z).trans (e)) hx1 fun g1 q1 e1=>cy5 ?_);have to1:A2 g1 TO #[a1,a2,a3]:=(e1.2 _ D.TOi1).trans ((hs₁.2 _ D.TOz).trans (hTO));refine cx9 (cy7 to1 rfl (cx9 (af1 to1 fun u1 hu1 f1=> ?_)));replace hu1:A2 u1 TO #[x1,a2,a3]:=hu1;refine cx9 (wpAny_letGo ?_);refine cy5 ?_;refine cx9 (cx9 (cy4 ?_));change wpAny _ _ (Builtin.SmallTypes.nextOf (.ref i2)>>=_) _ _ _;cases hx2:xs2[k]? with
  |none=>
   refine cx9 (c2.stop hh (c2.sx h2 fun o e=>(f1.2 _ D.TOi2.symm).trans ((e1.2 _ D.i12.symm).trans ((hs₁.2 _ D.i2z).trans (e)))) (c2.lx hl2 fun o e=>(f1.2 _ D.l2TO).trans ((e1.2 _ D.l2i1).trans ((hs₁.2 _ D.l2z).trans (e)))) hx2 fun g2 e es2 he=> ?_);obtain⟨oe,hoe,hce⟩:=he;have hz2:IsZip g2 z TI TO .ellipsis:=es2 _ _ D.i2z.symm ((f1.2 _ D.TOz.symm).trans ((e1.2 _ D.i1z.symm).trans (hz₁)));have hez:e≠z:=fun x=>by subst x;rw[hz2]at hoe;cases hoe;simp at hce
   refine cy8 hz2 (by simp) fun h₃ _ hs₃=>hE h₃ e (fun c o cz cO c_i1 c_i2 c_i3 x=>(hs₃.2 _ cz).trans (es2 _ _ c_i2 ((f1.2 _ cO).trans ((e1.2 _ c_i1).trans ((hs₁.2 _ cz).trans (x)))))) ⟨oe,(hs₃.2 _ hez).trans hoe,hce⟩
  |some x2=>
   refine cx9 (c2.item (c2.sx h2 fun o e=>(f1.2 _ D.TOi2.symm).trans ((e1.2 _ D.i12.symm).trans ((hs₁.2 _ D.i2z).trans (e)))) (c2.lx hl2 fun o e=>(f1.2 _ D.l2TO).trans ((e1.2 _ D.l2i1).trans ((hs₁.2 _ D.l2z).trans (e)))) hx2 fun g2 q2 e2=>cy5 ?_);have to2:A2 g2 TO #[x1,a2,a3]:=(e2.2 _ D.TOi2).trans (hu1);refine cx9 (cy7 to2 rfl (cx9 (af1 to2 fun u2 hu2 f2=> ?_)));replace hu2:A2 u2 TO #[x1,x2,a3]:=hu2;refine cx9 (wpAny_letGo ?_);refine cy5 ?_;refine cx9 (cx9 (cy4 ?_));change wpAny _ _ (Builtin.SmallTypes.nextOf (.ref i3)>>=_) _ _ _;have hx3:xs3[k]?=none:=by simp[hx1,hx2]at hend;simpa using hend
   refine cx9 (c3.stop hh (c3.sx h3 fun o e=>(f2.2 _ D.TOi3.symm).trans ((e2.2 _ D.i23.symm).trans ((f1.2 _ D.TOi3.symm).trans ((e1.2 _ D.i13.symm).trans ((hs₁.2 _ D.i3z).trans (e)))))) (c3.lx hl3 fun o e=>(f2.2 _ D.l3TO).trans ((e2.2 _ D.l3i2).trans ((f1.2 _ D.l3TO).trans ((e1.2 _ D.l3i1).trans ((hs₁.2 _ D.l3z).trans (e)))))) hx3 fun g3 e es3 he=> ?_);obtain⟨oe,hoe,hce⟩:=he;have hz2:IsZip g3 z TI TO .ellipsis:=es3 _ _ D.i3z.symm ((f2.2 _ D.TOz.symm).trans ((e2.2 _ D.i2z.symm).trans ((f1.2 _ D.TOz.symm).trans ((e1.2 _ D.i1z.symm).trans (hz₁)))));have hez:e≠z:=fun x=>by subst x;rw[hz2]at hoe;cases hoe;simp at hce
   refine cy8 hz2 (by simp) fun h₃ _ hs₃=>hE h₃ e (fun c o cz cO c_i1 c_i2 c_i3 x=>(hs₃.2 _ cz).trans (es3 _ _ c_i3 ((f2.2 _ cO).trans ((e2.2 _ c_i2).trans ((f1.2 _ cO).trans ((e1.2 _ c_i1).trans ((hs₁.2 _ cz).trans (x)))))))) ⟨oe,(hs₃.2 _ hez).trans hoe,hce⟩
theorem bG6{A:Around}{s:Shared}{E:Value->Shared->Prop}{z TI TO i1 i2 l1 l2:Addr}{S1:Nat->Heap->Prop}{S2:Nat->Heap->Prop}{L1:Array Value->Heap->Prop}{L2:Array Value->Heap->Prop}{k:Nat}{xs1 xs2:Array Value}{x1 x2 a1 a2:Value}{Q:Option Value->Shared->Prop}(D:Ap2 z TI TO i1 i2 l1 l2)
  (c1:Src P w i1 l1 S1 L1) (c2:Src P w i2 l2 S2 L2)
  (hz:IsZip s.heap z TI TO .none) (hTI:A2 s.heap TI #[.ref i1,.ref i2]) (hTO:A2 s.heap TO #[a1,a2])
  (h1:S1 k s.heap) (h2:S2 k s.heap) (hl1:L1 xs1 s.heap) (hl2:L2 xs2 s.heap) (hx1:xs1[k]?=some x1) (hx2:xs2[k]?=some x2)
  (hQ:∀h',IsZip h' z TI TO (rawInt s.heap.objs.size)->A2 h' TO #[x1,x2]->S1 (k+1) h'->S2 (k+1) h'->A2 h' s.heap.objs.size #[x1,x2]->h'.objs.size=s.heap.objs.size+1->
   (∀b u,b≠z->b≠TO->b≠i1->b≠i2->s.heap.get? b=some u->h'.get? b=some u)->Q (some (.ref s.heap.objs.size)) {s with heap:=h'}):
  wpAny (model P w) A (pyNext (.ref z)) Q E s:=by
 have tz:s.TypeIs (.ref z) "zip":=⟨_,hz,rfl⟩;unfold pyNext;exact cx9 (wpAny_attempt (wpAny_callSpecial?_slot (name:=Str.ofString "__next__") tz F.slot_zip_next (cy0 F.slot_zip_next tz F.entry_zip_next
   (bA6 D c1 c2 hz hTI hTO h1 h2 hl1 hl2 hx1 hx2 fun h' b1 b2 b3 b4 b5 b6 b7=>cy5 (hQ h' b1 b2 b3 b4 b5 b6 b7)) (F.args_zip_next_1 _))))
theorem bw2{A:Around}{s:Shared}{E:Value->Shared->Prop}{z TI TO i1 i2 l1 l2:Addr}{S1:Nat->Heap->Prop}{S2:Nat->Heap->Prop}{L1:Array Value->Heap->Prop}{L2:Array Value->Heap->Prop}{k:Nat}{xs1 xs2:Array Value}{a1 a2:Value}{Q:Option Value->Shared->Prop}(hh:A.handled=none)(D:Ap2 z TI TO i1 i2 l1 l2)
  (c1:Src P w i1 l1 S1 L1) (c2:Src P w i2 l2 S2 L2)
  (hz:IsZip s.heap z TI TO .none) (hTI:A2 s.heap TI #[.ref i1,.ref i2]) (hTO:A2 s.heap TO #[a1,a2])
  (h1:S1 k s.heap) (h2:S2 k s.heap) (hl1:L1 xs1 s.heap) (hl2:L2 xs2 s.heap) (hend:xs1[k]?=none\/xs2[k]?=none)
  (hQ:∀h',(∀b u,b≠z->b≠TO->b≠i1->b≠i2->s.heap.get? b=some u->h'.get? b=some u)->Q none {s with heap:=h'}):wpAny (model P w) A (pyNext (.ref z)) Q E s:=by
 have tz:s.TypeIs (.ref z) "zip":=⟨_,hz,rfl⟩;unfold pyNext;refine cx9 (wpAny_attempt (wpAny_callSpecial?_slot (name:=Str.ofString "__next__") tz F.slot_zip_next (cy0 F.slot_zip_next tz F.entry_zip_next
   (bN5 hh D c1 c2 hz hTI hTO h1 h2 hl1 hl2 hend fun h' e hk he=> ?_) (F.args_zip_next_1 _))))
 obtain⟨o,ho,hc⟩:=he;exact cx9 (wpAny_isInstance (T:="StopIteration") (b:=true) ⟨o,ho,hc⟩ isSubtype_stop (cy5 (hQ _ hk)))
theorem bG5{A:Around}{s:Shared}{E:Value->Shared->Prop}{z TI TO i1 i2 i3 l1 l2 l3:Addr}{S1:Nat->Heap->Prop}{S2:Nat->Heap->Prop}{S3:Nat->Heap->Prop}{L1:Array Value->Heap->Prop}{L2:Array Value->Heap->Prop}{L3:Array Value->Heap->Prop}{k:Nat}{xs1 xs2 xs3:Array Value}{x1 x2 x3 a1 a2 a3:Value}{Q:Option Value->Shared->Prop}(D:Ap3 z TI TO i1 i2 i3 l1 l2 l3)
  (c1:Src P w i1 l1 S1 L1) (c2:Src P w i2 l2 S2 L2) (c3:Src P w i3 l3 S3 L3)
  (hz:IsZip s.heap z TI TO .none) (hTI:A2 s.heap TI #[.ref i1,.ref i2,.ref i3]) (hTO:A2 s.heap TO #[a1,a2,a3])
  (h1:S1 k s.heap) (h2:S2 k s.heap) (h3:S3 k s.heap) (hl1:L1 xs1 s.heap) (hl2:L2 xs2 s.heap) (hl3:L3 xs3 s.heap) (hx1:xs1[k]?=some x1) (hx2:xs2[k]?=some x2) (hx3:xs3[k]?=some x3)
  (hQ:∀h',IsZip h' z TI TO (rawInt s.heap.objs.size)->A2 h' TO #[x1,x2,x3]->S1 (k+1) h'->S2 (k+1) h'->S3 (k+1) h'->A2 h' s.heap.objs.size #[x1,x2,x3]->h'.objs.size=s.heap.objs.size+1->
   (∀b u,b≠z->b≠TO->b≠i1->b≠i2->b≠i3->s.heap.get? b=some u->h'.get? b=some u)->Q (some (.ref s.heap.objs.size)) {s with heap:=h'}):
  wpAny (model P w) A (pyNext (.ref z)) Q E s:=by
 have tz:s.TypeIs (.ref z) "zip":=⟨_,hz,rfl⟩;unfold pyNext;exact cx9 (wpAny_attempt (wpAny_callSpecial?_slot (name:=Str.ofString "__next__") tz F.slot_zip_next (cy0 F.slot_zip_next tz F.entry_zip_next
   (bA5 D c1 c2 c3 hz hTI hTO h1 h2 h3 hl1 hl2 hl3 hx1 hx2 hx3 fun h' b1 b2 b3 b4 b5 b6 b7 b8=>cy5 (hQ h' b1 b2 b3 b4 b5 b6 b7 b8)) (F.args_zip_next_1 _))))
theorem bw1{A:Around}{s:Shared}{E:Value->Shared->Prop}{z TI TO i1 i2 i3 l1 l2 l3:Addr}{S1:Nat->Heap->Prop}{S2:Nat->Heap->Prop}{S3:Nat->Heap->Prop}{L1:Array Value->Heap->Prop}{L2:Array Value->Heap->Prop}{L3:Array Value->Heap->Prop}{k:Nat}{xs1 xs2 xs3:Array Value}{a1 a2 a3:Value}{Q:Option Value->Shared->Prop}(hh:A.handled=none)(D:Ap3 z TI TO i1 i2 i3 l1 l2 l3)
  (c1:Src P w i1 l1 S1 L1) (c2:Src P w i2 l2 S2 L2) (c3:Src P w i3 l3 S3 L3)
  (hz:IsZip s.heap z TI TO .none) (hTI:A2 s.heap TI #[.ref i1,.ref i2,.ref i3]) (hTO:A2 s.heap TO #[a1,a2,a3])
  (h1:S1 k s.heap) (h2:S2 k s.heap) (h3:S3 k s.heap) (hl1:L1 xs1 s.heap) (hl2:L2 xs2 s.heap) (hl3:L3 xs3 s.heap) (hend:xs1[k]?=none\/xs2[k]?=none\/xs3[k]?=none)
  (hQ:∀h',(∀b u,b≠z->b≠TO->b≠i1->b≠i2->b≠i3->s.heap.get? b=some u->h'.get? b=some u)->Q none {s with heap:=h'}):wpAny (model P w) A (pyNext (.ref z)) Q E s:=by
 have tz:s.TypeIs (.ref z) "zip":=⟨_,hz,rfl⟩;unfold pyNext;refine cx9 (wpAny_attempt (wpAny_callSpecial?_slot (name:=Str.ofString "__next__") tz F.slot_zip_next (cy0 F.slot_zip_next tz F.entry_zip_next
   (bN4 hh D c1 c2 c3 hz hTI hTO h1 h2 h3 hl1 hl2 hl3 hend fun h' e hk he=> ?_) (F.args_zip_next_1 _))))
 obtain⟨o,ho,hc⟩:=he;exact cx9 (wpAny_isInstance (T:="StopIteration") (b:=true) ⟨o,ho,hc⟩ isSubtype_stop (cy5 (hQ _ hk)))
end
noncomputable abbrev itO(c:String)(l:Addr):Obj:={cls:=.type c,data:=.fields #[.ref l,.int 0 0]}
noncomputable abbrev tpO(xs:Array Value):Obj:={cls:=.type "tuple",data:=.seq xs}
noncomputable abbrev zpO(a b:Addr):Obj:={cls:=.type "zip",data:=.fields #[.none,.bool false,.bool false,.ref a,.ref b]}
noncomputable abbrev mk2(h:Heap)(l1 l2:Addr):Heap:=
 ((((h.push (itO "tuple_iterator" l1)).push (itO "tuple_iterator" l2)).push (tpO #[.ref h.objs.size,.ref (h.push (itO "tuple_iterator" l1)).objs.size])).push (tpO #[.none,.none])).push
  (zpO ((h.push (itO "tuple_iterator" l1)).push (itO "tuple_iterator" l2)).objs.size (((h.push (itO "tuple_iterator" l1)).push (itO "tuple_iterator" l2)).push (tpO #[.ref h.objs.size,.ref (h.push (itO "tuple_iterator" l1)).objs.size])).objs.size)
noncomputable abbrev it3(h:Heap)(l1 l2 l3:Addr):Heap:=((h.push (itO "list_iterator" l1)).push (itO "list_iterator" l2)).push (itO "list_iterator" l3)
noncomputable abbrev ti3(h:Heap)(l1 l2 l3:Addr):Heap:=(it3 h l1 l2 l3).push (tpO #[.ref h.objs.size,.ref (h.push (itO "list_iterator" l1)).objs.size,.ref ((h.push (itO "list_iterator" l1)).push (itO "list_iterator" l2)).objs.size])
noncomputable abbrev mk3(h:Heap)(l1 l2 l3:Addr):Heap:=((ti3 h l1 l2 l3).push (tpO #[.none,.none,.none])).push (zpO (it3 h l1 l2 l3).objs.size (ti3 h l1 l2 l3).objs.size)
theorem bS1(l1 l2:Addr)(xs ys:Array Value):
  Meets (Builtin.«zip.__new__» ⟨[.type "zip",.ref l1,.ref l2],[]⟩) (fun _ R s=>s.heap.IsTuple l1 xs/\s.heap.IsTuple l2 ys/\
   R (.ok (.ret (.ref (((((s.heap.push (itO "tuple_iterator" l1)).push (itO "tuple_iterator" l2)).push (tpO #[.ref s.heap.objs.size,.ref (s.heap.push (itO "tuple_iterator" l1)).objs.size])).push (tpO #[.none,.none])).objs.size)))) {s with heap:=mk2 s.heap l1 l2}):=
 .of_wp fun prog w A R s h=>by
  obtain⟨hp,g,d,tk,os⟩:=s;obtain⟨q1,q2,h⟩:=h;have hsub:=sub_zip;have k1:Heap.IsTuple (Shared.heap ⟨hp,g,d,tk,os⟩) l1 xs:=q1;have k2:Heap.IsTuple (Shared.heap ⟨hp.push (itO "tuple_iterator" l1),g,d,tk,os⟩) l2 ys:=let⟨o,e,r⟩:=q2;⟨o,cs1 _ e,r⟩
  wp_walk using wpAny_pyIter_tuple k1,wpAny_pyIter_tuple k2
  exact⟨_,rfl,h⟩
theorem bS0(l1 l2 l3:Addr)(xs ys zs:Array Value):
  Meets (Builtin.«zip.__new__» ⟨[.type "zip",.ref l1,.ref l2,.ref l3],[]⟩) (fun _ R s=>s.heap.IsList l1 xs/\s.heap.IsList l2 ys/\s.heap.IsList l3 zs/\
   R (.ok (.ret (.ref ((ti3 s.heap l1 l2 l3).push (tpO #[.none,.none,.none])).objs.size))) {s with heap:=mk3 s.heap l1 l2 l3}):=
 .of_wp fun prog w A R s h=>by
  obtain⟨hp,g,d,tk,os⟩:=s;obtain⟨q1,q2,q3,h⟩:=h;have hsub:=sub_zip;have k1:Heap.IsList (Shared.heap ⟨hp,g,d,tk,os⟩) l1 xs:=q1;have k2:Heap.IsList (Shared.heap ⟨hp.push (itO "list_iterator" l1),g,d,tk,os⟩) l2 ys:=Heap.IsList.push q2 _;have k3:Heap.IsList (Shared.heap ⟨(hp.push (itO "list_iterator" l1)).push (itO "list_iterator" l2),g,d,tk,os⟩) l3 zs:=Heap.IsList.push (Heap.IsList.push q3 _) _
  wp_walk using cy6 k1,cy6 k2,cy6 k3
  exact⟨_,rfl,h⟩
theorem bW3(a b c:Value):checkTypeCall "zip" ⟨[a,b,c],[]⟩=pure ():=by kernel_rfl
theorem cc0(a b c:Value):checkBuiltinCall "zip.__new__" ⟨[.type "zip",a,b,c],[]⟩=pure ():=by kernel_rfl
theorem cf5(a b c d:Value):argsOk "object.__init__" ⟨[a,b,c,d],[]⟩:=by
 unfold argsOk;rw[signature?_of (id:="object.__init__") (n:=['_','_','t','i','n','i','_','_']) (o:=['t','c','e','j','b','o']) (by kernel_rfl) F.owner_object];kernel_rfl
section
variable {P:Program}{w:World}{A:Around}{E:Value->Shared->Prop}{s:Shared}
theorem psz{h:Heap}{o:Obj}{n:Nat}(e:h.objs.size=n):(h.push o).objs.size=n+1:=by rw[Heap.size_push,e]
theorem pat{h:Heap}{o:Obj}{n:Nat}(e:h.objs.size=n)(hf:o.isFreed=false):(h.push o).get? n=some o:=by subst e;exact cs2 _ hf
theorem bI5{l1 l2:Addr}{xs ys:Array Value}{Q:Value->Shared->Prop}(hl1:s.heap.IsTuple l1 xs)(hl2:s.heap.IsTuple l2 ys)
  (h:∀h',IsZip h' (s.heap.objs.size+4) (s.heap.objs.size+2) (s.heap.objs.size+3) .none->A2 h' (s.heap.objs.size+2) #[.ref s.heap.objs.size,.ref (s.heap.objs.size+1)]->
   A2 h' (s.heap.objs.size+3) #[.none,.none]->h'.IsTupleIter s.heap.objs.size l1 0->h'.IsTupleIter (s.heap.objs.size+1) l2 0->
   (∀b u,s.heap.get? b=some u->h'.get? b=some u)->Q (.ref (s.heap.objs.size+4)) {s with heap:=h'}):
  wpAny (model P w) A (call (.type "zip") [.ref l1,.ref l2]) Q E s:=by
 refine callType_new F.called_zip (by decide) (F.typeCall_zip_2 _ _) (F.newCall_zip_2 _ _) (fun obj=>F.args_object_init_3 obj _ _) F.entry_zip_new (bS1 l1 l2 xs ys) ⟨hl1,hl2,?_⟩;have z1:=psz (o:=itO "tuple_iterator" l1) (rfl:s.heap.objs.size=_);have z2:=psz (o:=itO "tuple_iterator" l2) z1;have z3:=psz (o:=tpO #[.ref s.heap.objs.size,.ref (s.heap.push (itO "tuple_iterator" l1)).objs.size]) z2;have z4:=psz (o:=tpO #[.none,.none]) z3;have up:=fun(h:Heap) (o:Obj) (c:Addr) (u:Obj) (e:h.get? c=some u)=>cs1 (h:=h) o e
 have g5:(mk2 s.heap l1 l2).get? (s.heap.objs.size+4)=some _:=pat z4 rfl;have g4:(mk2 s.heap l1 l2).get? (s.heap.objs.size+3)=some _:=cs1 _ (pat z3 rfl);have g3:(mk2 s.heap l1 l2).get? (s.heap.objs.size+2)=some _:=cs1 _ (cs1 _ (pat z2 rfl));have g2:(mk2 s.heap l1 l2).get? (s.heap.objs.size+1)=some _:=cs1 _ (cs1 _ (cs1 _ (pat z1 rfl)));have g1:(mk2 s.heap l1 l2).get? s.heap.objs.size=some _:=cs1 _ (cs1 _ (cs1 _ (cs1 _ (pat rfl rfl))));show _/\_;rw[z4];rw[z2,z3]at g5;rw[z1]at g3;exact⟨⟨_,g5,rfl⟩,h _ g5 g3 g4 ⟨_,g1,rfl,rfl⟩ ⟨_,g2,rfl,rfl⟩ fun c o x=>cs1 _ (cs1 _ (cs1 _ (cs1 _ (cs1 _ x))))⟩
theorem bI4{l1 l2 l3:Addr}{xs ys zs:Array Value}{Q:Value->Shared->Prop}(hl1:s.heap.IsList l1 xs)(hl2:s.heap.IsList l2 ys)(hl3:s.heap.IsList l3 zs)
  (h:∀h',IsZip h' (s.heap.objs.size+5) (s.heap.objs.size+3) (s.heap.objs.size+4) .none->A2 h' (s.heap.objs.size+3) #[.ref s.heap.objs.size,.ref (s.heap.objs.size+1),.ref (s.heap.objs.size+2)]->
   A2 h' (s.heap.objs.size+4) #[.none,.none,.none]->h'.IsListIter s.heap.objs.size l1 0->h'.IsListIter (s.heap.objs.size+1) l2 0->h'.IsListIter (s.heap.objs.size+2) l3 0->
   (∀b u,s.heap.get? b=some u->h'.get? b=some u)->Q (.ref (s.heap.objs.size+5)) {s with heap:=h'}):
  wpAny (model P w) A (call (.type "zip") [.ref l1,.ref l2,.ref l3]) Q E s:=by
 refine callType_new F.called_zip (by decide) (bW3 _ _ _) (cc0 _ _ _) (fun obj=>cf5 obj _ _ _) F.entry_zip_new (bS0 l1 l2 l3 xs ys zs) ⟨hl1,hl2,hl3,?_⟩;have z1:=psz (o:=itO "list_iterator" l1) (rfl:s.heap.objs.size=_);have z2:=psz (o:=itO "list_iterator" l2) z1;have z3:=psz (o:=itO "list_iterator" l3) z2;have z4:=psz (o:=tpO #[.ref s.heap.objs.size,.ref (s.heap.push (itO "list_iterator" l1)).objs.size,.ref ((s.heap.push (itO "list_iterator" l1)).push (itO "list_iterator" l2)).objs.size]) z3;have z5:=psz (o:=tpO #[.none,.none,.none]) z4;have g6:(mk3 s.heap l1 l2 l3).get? (s.heap.objs.size+5)=some _:=pat z5 rfl;have g5:(mk3 s.heap l1 l2 l3).get? (s.heap.objs.size+4)=some _:=cs1 _ (pat z4 rfl);have g4:(mk3 s.heap l1 l2 l3).get? (s.heap.objs.size+3)=some _:=cs1 _ (cs1 _ (pat z3 rfl));have g3:(mk3 s.heap l1 l2 l3).get? (s.heap.objs.size+2)=some _:=cs1 _ (cs1 _ (cs1 _ (pat z2 rfl)));have g2:(mk3 s.heap l1 l2 l3).get? (s.heap.objs.size+1)=some _:=cs1 _ (cs1 _ (cs1 _ (cs1 _ (pat z1 rfl))));have g1:(mk3 s.heap l1 l2 l3).get? s.heap.objs.size=some _:=cs1 _ (cs1 _ (cs1 _ (cs1 _ (cs1 _ (pat rfl rfl)))));show _/\_;rw[z5];rw[z3,z4]at g6;rw[z1,z2]at g4;exact⟨⟨_,g6,rfl⟩,h _ g6 g4 g5 ⟨_,g1,rfl,rfl⟩ ⟨_,g2,rfl,rfl⟩ ⟨_,g3,rfl,rfl⟩ fun c o x=>cs1 _ (cs1 _ (cs1 _ (cs1 _ (cs1 _ (cs1 _ x)))))⟩
end
noncomputable def bK0(K:W.Frag)(l1 l2:Addr):It:=
 ⟨fun i H=>∃xs1 xs2 x1 x2,SqT K H l1 xs1/\SqT K H l2 xs2/\xs1[i]?=some x1/\xs2[i]?=some x2,
 fun i H v H'=>∃x1 x2 p,(∀xs,SqT K H l1 xs->xs[i]?=some x1)/\(∀xs,SqT K H l2 xs->xs[i]?=some x2)/\H p=none/\H'=upd H p (.tup [x1,x2])/\v=.ref p,
 fun i H=>∃xs1 xs2,SqT K H l1 xs1/\SqT K H l2 xs2/\(xs1.length<=i\/xs2.length<=i)⟩
theorem bB1{P:Program}{w:World}{K:W.Frag}{es:List Expr}{k:Nat}{pos:Pos}{z TI TO i1 i2 l1 l2:Addr}(D:Ap2 z TI TO i1 i2 l1 l2):
  aw3 P w K (.Tuple es k pos) (bK0 K l1 l2) [z,TI,TO,i1,i2] z (fun i h=>IsZip h z TI TO .none/\A2 h TI #[.ref i1,.ref i2]/\(∃a1 a2,A2 h TO #[a1,a2])/\h.IsTupleIter i1 l1 i/\h.IsTupleIter i2 l2 i) where
 mem:=by simp
 obj:=fun i h st b hb=>by
  obtain⟨z1,z2,⟨_,_,z3⟩,⟨o1,y1,_,d1⟩,⟨o2,y2,_,d2⟩⟩:=st;simp at hb;rcases hb with rfl|rfl|rfl|rfl|rfl
  ·exact⟨_,z1,fun v z=>by cases z⟩
  ·exact⟨_,z2,fun v z=>by cases z⟩
  ·exact⟨_,z3,fun v z=>by cases z⟩
  ·exact⟨o1,y1,fun v z=>by rw[d1]at z;cases z⟩
  ·exact⟨o2,y2,fun v z=>by rw[d2]at z;cases z⟩
 keep:=fun i h h' st kk=>by
  obtain⟨z1,z2,⟨a1,a2,z3⟩,y1,y2⟩:=st;exact⟨kk z (by simp) _ z1,kk TI (by simp) _ z2,⟨a1,a2,kk TO (by simp) _ z3⟩,y1.at fun o e=>kk i1 (by simp) o e,y2.at fun o e=>kk i2 (by simp) o e⟩
 item:=by
  intro X hP hw hK hc i pins s σ H E I hf st hg;subst hP hw hK;obtain⟨xs1,xs2,x1,x2,hq1,hq2,hx1,hx2⟩:=hg;obtain⟨its1,rv1,p1,hz1⟩:=I.tuple hq1;obtain⟨u1,hu1,ru1⟩:=rv1.get hx1;obtain⟨its2,rv2,p2,hz2⟩:=I.tuple hq2;obtain⟨u2,hu2,ru2⟩:=rv2.get hx2;obtain⟨z1,z2,⟨a1,a2,z3⟩,y1,y2⟩:=st;refine bG6 D ax5 ax5 z1 z2 z3 y1 y2 (show s.heap.IsTuple l1 its1.toArray from p1) (show s.heap.IsTuple l2 its2.toArray from p2) (x1:=u1) (x2:=u2) (by simpa using hu1) (by simpa using hu2) fun h' b1 b2 c1 c2 b5 b6 b7=> ?_
  refine⟨_,rfl,wpAny_letOwnedTupleGo_zip (s:={s with heap:=h'}) b1 fun h2 e1 sb=> ?_⟩;have up:∀c o,c≠z->h'.get? c=some o->h2.get? c=some o:=fun c o hc e=>(sb.2 c hc).trans e
  have lt:∀{b u},s.heap.get? b=some u->s.heap.objs.size≠b:=fun e=>cx1 (cs5 e)
  have hT:h2.get? s.heap.objs.size=some {cls:=.type "tuple",data:=.seq #[u1,u2]}:=up _ _ (lt z1) b5;have I1:=I.turnedNew (t':=s.toks) (h':=h2) (ch:=[z,TI,TO,i1,i2]) (p:=s.heap.objs.size) (o:=.tup [x1,x2]) (fun c o hc e=>by
    simp at hc;exact up c o hc.1 (b7 c o hc.1 hc.2.2.1 hc.2.2.2.1 hc.2.2.2.2 e)) hf (cw8 _)
   ⟨by show 2<=sizeLine;decide,[u1,u2],.cons ru1 (.cons ru2 (.nil)),_,hT,rfl,_,rfl⟩
  refine⟨.ref s.heap.objs.size,_,I1,rfl,⟨x1,x2,_,fun xs' e=>by rw[I.tuple_inj e hq1];exact hx1,fun xs' e=>by rw[I.tuple_inj e hq2];exact hx2,I.hok.fresh (cw8 _),rfl,rfl⟩,
   ⟨e1,up _ _ D.TIz (b7 _ _ D.TIz D.TITO D.TIi1 D.TIi2 z2),⟨_,_,up _ _ D.TOz b2⟩,c1.at fun o e=>up _ o D.i1z e,c2.at fun o e=>up _ o D.i2z e⟩,fun c hcm=> ?_⟩
  have hc0:=(hf c hcm).1;rw[l7 ?_]
  ·exact hc0
  ·intro e;subst e;simp at hcm;obtain⟨o1,w1,_⟩:=y1;obtain⟨o2,w2,_⟩:=y2;rcases hcm with q|q|q|q|q
   ·exact lt z1 q
   ·exact lt z2 q
   ·exact lt z3 q
   ·exact lt w1 q
   ·exact lt w2 q
 done:=by
  intro X hP hw hK hc i pins s σ H E I hf st hg;subst hP hw hK;obtain⟨xs1,xs2,hq1,hq2,hend⟩:=hg;obtain⟨its1,rv1,p1,hz1⟩:=I.tuple hq1;have n1:=rv1.length;obtain⟨its2,rv2,p2,hz2⟩:=I.tuple hq2;have n2:=rv2.length;obtain⟨z1,z2,⟨a1,a2,z3⟩,y1,y2⟩:=st;refine bw2 (I.ok.hd hc) D ax5 ax5 z1 z2 z3 y1 y2 (show s.heap.IsTuple l1 its1.toArray from p1) (show s.heap.IsTuple l2 its2.toArray from p2) ?_ fun h' b7=>⟨rfl,?_⟩
  ·simp only[List.getElem?_toArray,List.getElem?_eq_none_iff];omega
  ·exact I.turnedL (t':=s.toks) (ch:=[z,TI,TO,i1,i2]) (fun c o hc e=>by
    simp at hc;exact b7 c o hc.1 hc.2.2.1 hc.2.2.2.1 hc.2.2.2.2 e) hf
 self:=fun _ _ _ _ _ st h=>wpAny_pyIter_zip st.1 h
noncomputable def cp0(K:W.Frag)(ta:TA):TI:=fun σ H R=>ta σ H fun vs H1=>∃l1 l2,vs=[.ref l1,.ref l2]/\(∃xs,SqT K H1 l1 xs)/\(∃xs,SqT K H1 l2 xs)/\R (bK0 K l1 l2) H1
section
variable {X:Cx}{es':List Expr}{k:Nat}{tp:Pos}
theorem bZ5{a b:Expr}{ta:TA}{p pos:Pos}(hg:Gl X "zip")(hm:X.mg "zip"=none)(ha:PA X [a,b] ta)(hs:starEach [a,b] X.env=[(false,eval a X.env),(false,eval b X.env)]:=by rfl)(hs2:starEach [b] X.env=[(false,eval b X.env)]:=by rfl):
  PI X (.Tuple es' k tp) (.Call (.Name "zip" p) [a,b] [] pos) (cp0 X.K ta):=by
 intro pins s σ H R I h;refine Call_ (ac4 I hg hm boot_zip (PyProof.Rows.callWith_type1 (thn (ha pos pins s σ H _ I h) fun us s1 ⟨vs,H1,I1,r1,q1⟩=> ?_) (by rw[hs,hs2]) (by rw[hs2];rfl)));obtain⟨l1,l2,e,⟨xs1,hq1⟩,⟨xs2,hq2⟩,q⟩:=q1;subst e;cases r1 with
 |cons m1 r1=>
  cases r1 with
  |cons m2 r1=>
   cases r1;cases m1;cases m2;obtain⟨its1,rv1,p1,hz1⟩:=I1.tuple hq1;have t1:s1.heap.IsTuple l1 its1.toArray:=p1;have lt1:l1<s1.heap.objs.size:=by obtain⟨o,e,_⟩:=t1;exact cs5 e
   obtain⟨its2,rv2,p2,hz2⟩:=I1.tuple hq2;have t2:s1.heap.IsTuple l2 its2.toArray:=p2;have lt2:l2<s1.heap.objs.size:=by obtain⟨o,e,_⟩:=t2;exact cs5 e
   refine bI5 t1 t2 fun h' g1 g2 g3 v1 v2 g7=> ?_
   refine wpAny_pyIter_zip (s:={s1 with heap:=h'}) g1 ?_;refine⟨s1.heap.objs.size+4,[s1.heap.objs.size+4,s1.heap.objs.size+2,s1.heap.objs.size+3,s1.heap.objs.size,s1.heap.objs.size+1],_,_,H1,rfl,I1.kept (t':=s1.toks) g7,bB1 (l1:=l1) (l2:=l2) ?_,⟨g1,g2,⟨_,_,g3⟩,v1,v2⟩,fun b hb=> ?_,q⟩
   ·have q1:=Nat.succ_le_of_lt lt1;have q2:=Nat.succ_le_of_lt lt2;constructor<;>(intro z;have z':(_:Nat)=_:=z;omega)
   ·have hb':s1.heap.objs.size<=b:=by
     simp at hb;rcases hb with rfl|rfl|rfl|rfl|rfl<;>first |exact cw8 _|exact Nat.le_add_right _ _
    exact I1.fpOk hb' (I1.hok.fresh hb')
end
noncomputable def bJ9(K:W.Frag)(l1 l2 l3:Addr):It:=
 ⟨fun i H=>∃xs1 xs2 xs3 x1 x2 x3,SqL K H l1 xs1/\SqL K H l2 xs2/\SqL K H l3 xs3/\xs1[i]?=some x1/\xs2[i]?=some x2/\xs3[i]?=some x3,
 fun i H v H'=>∃x1 x2 x3 p,(∀xs,SqL K H l1 xs->xs[i]?=some x1)/\(∀xs,SqL K H l2 xs->xs[i]?=some x2)/\(∀xs,SqL K H l3 xs->xs[i]?=some x3)/\H p=none/\H'=upd H p (.tup [x1,x2,x3])/\v=.ref p,
 fun i H=>∃xs1 xs2 xs3,SqL K H l1 xs1/\SqL K H l2 xs2/\SqL K H l3 xs3/\(xs1.length<=i\/xs2.length<=i\/xs3.length<=i)⟩
theorem bB0{P:Program}{w:World}{K:W.Frag}{es:List Expr}{k:Nat}{pos:Pos}{z TI TO i1 i2 i3 l1 l2 l3:Addr}(D:Ap3 z TI TO i1 i2 i3 l1 l2 l3):
  aw3 P w K (.Tuple es k pos) (bJ9 K l1 l2 l3) [z,TI,TO,i1,i2,i3] z (fun i h=>IsZip h z TI TO .none/\A2 h TI #[.ref i1,.ref i2,.ref i3]/\(∃a1 a2 a3,A2 h TO #[a1,a2,a3])/\h.IsListIter i1 l1 i/\h.IsListIter i2 l2 i/\h.IsListIter i3 l3 i) where
 mem:=by simp
 obj:=fun i h st b hb=>by
  obtain⟨z1,z2,⟨_,_,_,z3⟩,⟨o1,y1,_,d1⟩,⟨o2,y2,_,d2⟩,⟨o3,y3,_,d3⟩⟩:=st;simp at hb;rcases hb with rfl|rfl|rfl|rfl|rfl|rfl
  ·exact⟨_,z1,fun v z=>by cases z⟩
  ·exact⟨_,z2,fun v z=>by cases z⟩
  ·exact⟨_,z3,fun v z=>by cases z⟩
  ·exact⟨o1,y1,fun v z=>by rw[d1]at z;cases z⟩
  ·exact⟨o2,y2,fun v z=>by rw[d2]at z;cases z⟩
  ·exact⟨o3,y3,fun v z=>by rw[d3]at z;cases z⟩
 keep:=fun i h h' st kk=>by
  obtain⟨z1,z2,⟨a1,a2,a3,z3⟩,y1,y2,y3⟩:=st;exact⟨kk z (by simp) _ z1,kk TI (by simp) _ z2,⟨a1,a2,a3,kk TO (by simp) _ z3⟩,y1.at fun o e=>kk i1 (by simp) o e,y2.at fun o e=>kk i2 (by simp) o e,y3.at fun o e=>kk i3 (by simp) o e⟩
 item:=by
  intro X hP hw hK hc i pins s σ H E I hf st hg;subst hP hw hK;obtain⟨xs1,xs2,xs3,x1,x2,x3,hq1,hq2,hq3,hx1,hx2,hx3⟩:=hg;obtain⟨its1,rv1,p1,hz1⟩:=I.list hq1;obtain⟨u1,hu1,ru1⟩:=rv1.get hx1;obtain⟨its2,rv2,p2,hz2⟩:=I.list hq2;obtain⟨u2,hu2,ru2⟩:=rv2.get hx2;obtain⟨its3,rv3,p3,hz3⟩:=I.list hq3;obtain⟨u3,hu3,ru3⟩:=rv3.get hx3;obtain⟨z1,z2,⟨a1,a2,a3,z3⟩,y1,y2,y3⟩:=st;refine bG5 D ad5 ad5 ad5 z1 z2 z3 y1 y2 y3 p1.isList p2.isList p3.isList (x1:=u1) (x2:=u2) (x3:=u3) (by simpa using hu1) (by simpa using hu2) (by simpa using hu3) fun h' b1 b2 c1 c2 c3 b5 b6 b7=> ?_
  refine⟨_,rfl,wpAny_letOwnedTupleGo_zip (s:={s with heap:=h'}) b1 fun h2 e1 sb=> ?_⟩;have up:∀c o,c≠z->h'.get? c=some o->h2.get? c=some o:=fun c o hc e=>(sb.2 c hc).trans e
  have lt:∀{b u},s.heap.get? b=some u->s.heap.objs.size≠b:=fun e=>cx1 (cs5 e)
  have hT:h2.get? s.heap.objs.size=some {cls:=.type "tuple",data:=.seq #[u1,u2,u3]}:=up _ _ (lt z1) b5;have I1:=I.turnedNew (t':=s.toks) (h':=h2) (ch:=[z,TI,TO,i1,i2,i3]) (p:=s.heap.objs.size) (o:=.tup [x1,x2,x3]) (fun c o hc e=>by
    simp at hc;exact up c o hc.1 (b7 c o hc.1 hc.2.2.1 hc.2.2.2.1 hc.2.2.2.2.1 hc.2.2.2.2.2 e)) hf (cw8 _)
   ⟨by show 3<=sizeLine;decide,[u1,u2,u3],.cons ru1 (.cons ru2 (.cons ru3 (.nil))),_,hT,rfl,_,rfl⟩
  refine⟨.ref s.heap.objs.size,_,I1,rfl,⟨x1,x2,x3,_,fun xs' e=>by rw[I.list_inj e hq1];exact hx1,fun xs' e=>by rw[I.list_inj e hq2];exact hx2,fun xs' e=>by rw[I.list_inj e hq3];exact hx3,I.hok.fresh (cw8 _),rfl,rfl⟩,
   ⟨e1,up _ _ D.TIz (b7 _ _ D.TIz D.TITO D.TIi1 D.TIi2 D.TIi3 z2),⟨_,_,_,up _ _ D.TOz b2⟩,c1.at fun o e=>up _ o D.i1z e,c2.at fun o e=>up _ o D.i2z e,c3.at fun o e=>up _ o D.i3z e⟩,fun c hcm=> ?_⟩
  have hc0:=(hf c hcm).1;rw[l7 ?_]
  ·exact hc0
  ·intro e;subst e;simp at hcm;obtain⟨o1,w1,_⟩:=y1;obtain⟨o2,w2,_⟩:=y2;obtain⟨o3,w3,_⟩:=y3;rcases hcm with q|q|q|q|q|q
   ·exact lt z1 q
   ·exact lt z2 q
   ·exact lt z3 q
   ·exact lt w1 q
   ·exact lt w2 q
   ·exact lt w3 q
 done:=by
  intro X hP hw hK hc i pins s σ H E I hf st hg;subst hP hw hK;obtain⟨xs1,xs2,xs3,hq1,hq2,hq3,hend⟩:=hg;obtain⟨its1,rv1,p1,hz1⟩:=I.list hq1;have n1:=rv1.length;obtain⟨its2,rv2,p2,hz2⟩:=I.list hq2;have n2:=rv2.length;obtain⟨its3,rv3,p3,hz3⟩:=I.list hq3;have n3:=rv3.length;obtain⟨z1,z2,⟨a1,a2,a3,z3⟩,y1,y2,y3⟩:=st;refine bw1 (I.ok.hd hc) D ad5 ad5 ad5 z1 z2 z3 y1 y2 y3 p1.isList p2.isList p3.isList ?_ fun h' b7=>⟨rfl,?_⟩
  ·simp only[List.getElem?_toArray,List.getElem?_eq_none_iff];omega
  ·exact I.turnedL (t':=s.toks) (ch:=[z,TI,TO,i1,i2,i3]) (fun c o hc e=>by
    simp at hc;exact b7 c o hc.1 hc.2.2.1 hc.2.2.2.1 hc.2.2.2.2.1 hc.2.2.2.2.2 e) hf
 self:=fun _ _ _ _ _ st h=>wpAny_pyIter_zip st.1 h
noncomputable def co9(K:W.Frag)(ta:TA):TI:=fun σ H R=>ta σ H fun vs H1=>∃l1 l2 l3,vs=[.ref l1,.ref l2,.ref l3]/\(∃xs,SqL K H1 l1 xs)/\(∃xs,SqL K H1 l2 xs)/\(∃xs,SqL K H1 l3 xs)/\R (bJ9 K l1 l2 l3) H1
section
variable {X:Cx}{es':List Expr}{k:Nat}{tp:Pos}
theorem bZ4{a b c:Expr}{ta:TA}{p pos:Pos}(hg:Gl X "zip")(hm:X.mg "zip"=none)(ha:PA X [a,b,c] ta)(hs:starEach [a,b,c] X.env=[(false,eval a X.env),(false,eval b X.env),(false,eval c X.env)]:=by rfl)(hs2:starEach [b,c] X.env=[(false,eval b X.env),(false,eval c X.env)]:=by rfl):
  PI X (.Tuple es' k tp) (.Call (.Name "zip" p) [a,b,c] [] pos) (co9 X.K ta):=by
 intro pins s σ H R I h;refine Call_ (ac4 I hg hm boot_zip (PyProof.Rows.callWith_type1 (thn (ha pos pins s σ H _ I h) fun us s1 ⟨vs,H1,I1,r1,q1⟩=> ?_) (by rw[hs,hs2]) (by rw[hs2];rfl)));obtain⟨l1,l2,l3,e,⟨xs1,hq1⟩,⟨xs2,hq2⟩,⟨xs3,hq3⟩,q⟩:=q1;subst e;cases r1 with
 |cons m1 r1=>
  cases r1 with
  |cons m2 r1=>
   cases r1 with
   |cons m3 r1=>
    cases r1;cases m1;cases m2;cases m3;obtain⟨its1,rv1,p1,hz1⟩:=I1.list hq1;have t1:=p1.isList;have lt1:l1<s1.heap.objs.size:=by obtain⟨o,e,_⟩:=t1;exact cs5 e
    obtain⟨its2,rv2,p2,hz2⟩:=I1.list hq2;have t2:=p2.isList;have lt2:l2<s1.heap.objs.size:=by obtain⟨o,e,_⟩:=t2;exact cs5 e
    obtain⟨its3,rv3,p3,hz3⟩:=I1.list hq3;have t3:=p3.isList;have lt3:l3<s1.heap.objs.size:=by obtain⟨o,e,_⟩:=t3;exact cs5 e
    refine bI4 t1 t2 t3 fun h' g1 g2 g3 v1 v2 v3 g7=> ?_
    refine wpAny_pyIter_zip (s:={s1 with heap:=h'}) g1 ?_;refine⟨s1.heap.objs.size+5,[s1.heap.objs.size+5,s1.heap.objs.size+3,s1.heap.objs.size+4,s1.heap.objs.size,s1.heap.objs.size+1,s1.heap.objs.size+2],_,_,H1,rfl,I1.kept (t':=s1.toks) g7,bB0 (l1:=l1) (l2:=l2) (l3:=l3) ?_,⟨g1,g2,⟨_,_,_,g3⟩,v1,v2,v3⟩,fun b hb=> ?_,q⟩
    ·have q1:=Nat.succ_le_of_lt lt1;have q2:=Nat.succ_le_of_lt lt2;have q3:=Nat.succ_le_of_lt lt3;constructor<;>(intro z;have z':(_:Nat)=_:=z;omega)
    ·have hb':s1.heap.objs.size<=b:=by
      simp at hb;rcases hb with rfl|rfl|rfl|rfl|rfl|rfl<;>first |exact cw8 _|exact Nat.le_add_right _ _
     exact I1.fpOk hb' (I1.hok.fresh hb')
end
end L2
namespace L3
open PySem PySem.Spec PyProof.Rows L2
theorem bA8{K:W.Frag}{G:Hp}{p1 p2:Addr}{xs1 xs2:List V}{ts1 ts2:List T}(h1:SqT K G p1 xs1)(r1:j5 K G ts1 xs1)(h2:SqT K G p2 xs2)(r2:j5 K G ts2 xs2):aD7 K G (bK0 K p1 p2) (A5 ts1 ts2):=by
 intro i G1 H1 s1 s2;have hH1:SqT K H1 p1 xs1:=S8 s2.s (S8 s1 h1);have hH2:SqT K H1 p2 xs2:=S8 s2.s (S8 s1 h2);refine⟨fun t ht=> ?_,fun h1 h2=>⟨xs1,xs2,hH1,hH2,?_⟩⟩
 ·obtain⟨t1,t2,e1,e2,e0⟩:=aA7 ht;subst e0;obtain⟨x1,hx1,rx1⟩:=r1.get e1;obtain⟨x2,hx2,rx2⟩:=r2.get e2;refine⟨⟨xs1,xs2,x1,x2,hH1,hH2,hx1,hx2⟩,fun v H2 hv=> ?_⟩;obtain⟨x1',x2',q,m1,m2,k3,k4,k5⟩:=hv;have z1:=m1 xs1 hH1;rw[hx1]at z1;cases z1;have z2:=m2 xs2 hH2;rw[hx2]at z2;cases z2;subst k4 k5;refine⟨_,Ext.new s2 k3 _,?_⟩;have sn:=B4 (s2.free k3) (HO.tup [x1,x2]);simp only[Rep];exact⟨q,[x1,x2],rfl,SqT.of n6,j5.cons ((rx1.mono s1).mono sn) (j5.cons ((rx2.mono s1).mono sn) (j5.nil))⟩
 ·rw[am4]at h1;rw[r1.length,r2.length];omega
section
variable {X:Cx}{a b c:Expr}{pos:Pos}
theorem br9{p tp:Pos}{es':List Expr}{k:Nat}{g1 g2:L3.G}(hg:Gl X "zip")(hm:X.mg "zip"=none)(ha:Wd (PXA X [a,b] (gs [g1,g2])))(hs:starEach [a,b] X.env=[(false,eval a X.env),(false,eval b X.env)]:=by rfl)(hs2:starEach [b] X.env=[(false,eval b X.env)]:=by rfl):Wd (PXI X (.Tuple es' k tp) (.Call (.Name "zip" p) [a,b] [] pos) (bH3 g1 g2)):=⟨have ha:=ha.run;PI.imp (bZ5 hg hm ha hs hs2) fun σ H R zz=>by
 obtain⟨G,ρ,ts,sG,hρ,hg,q⟩:=zz;obtain⟨xs1,h1,hg⟩:=h9 hg;obtain⟨xs2,h2,hg⟩:=h9 hg;cases hg;obtain⟨tx1,k1,m1⟩:=h9 h1;cases tx1<;>first |(cases m1;done)|skip
 cases m1;obtain⟨tx2,k2,m2⟩:=h9 h2;cases tx2<;>first |(cases m2;done)|skip
 cases m2;refine⟨G,ρ,[.tup xs1,.tup xs2],sG,hρ,?_,fun vs G1 H1 e1 r1=> ?_⟩
 ·simp only[gs,k1,k2,cx3]
 ·obtain⟨x1,x2,e,rx1,rx2⟩:=ad3 r1;simp only[Rep]at rx1 rx2;obtain⟨p1,v1,y1,b1,c1⟩:=rx1;obtain⟨p2,v2,y2,b2,c2⟩:=rx2;subst y1 y2;exact⟨p1,p2,e,⟨v1,S8 e1.s.s b1⟩,⟨v2,S8 e1.s.s b2⟩,q _ G1 H1 e1 (bA8 b1 c1 b2 c2)⟩⟩
end
theorem aL8:∀{xs ys zs:List T}{i:Nat}{t:T},(M8 xs ys zs)[i]?=some t->∃x y z,xs[i]?=some x/\ys[i]?=some y/\zs[i]?=some z/\t=.tup [x,y,z]
 |[],_,_,_,_,h=>by simp[M8]at h
 |_::_,[],_,_,_,h=>by simp[M8]at h
 |_::_,_::_,[],_,_,h=>by simp[M8]at h
 |x::xs,y::ys,z::zs,0,t,h=>by simp[M8]at h;exact⟨x,y,z,by simp,by simp,by simp,h.symm⟩
 |x::xs,y::ys,z::zs,i+1,t,h=>by
  obtain⟨u,v,w,h1,h2,h3,h4⟩:=aL8 (xs:=xs) (ys:=ys) (zs:=zs) (i:=i) (t:=t) (by simpa[M8]using h);exact⟨u,v,w,by simpa using h1,by simpa using h2,by simpa using h3,h4⟩
theorem au2:∀(xs ys zs:List T),(M8 xs ys zs).length=min xs.length (min ys.length zs.length)
 |[],_,_=>by simp[M8]
 |_::_,[],_=>by simp[M8]
 |_::_,_::_,[]=>by simp[M8]
 |x::xs,y::ys,z::zs=>by simp only[M8,cu5,au2 xs ys zs];omega
theorem bp9{K:W.Frag}{G:Hp}{t u w:T}{xs:List V}(h:j5 K G [t,u,w] xs):∃x y z,xs=[x,y,z]/\Rep K G t x/\Rep K G u y/\Rep K G w z:=by
 simp only[j5]at h;obtain⟨x,r,e,h1,y,r',e',h2,z,r2,e2,h3,h4⟩:=h;subst h4 e2 e';exact⟨x,y,z,e,h1,h2,h3⟩
theorem bA7{K:W.Frag}{G:Hp}{p1 p2 p3:Addr}{xs1 xs2 xs3:List V}{ts1 ts2 ts3:List T}(h1:G p1=some (.lst xs1))(r1:j5 K G ts1 xs1)(h2:G p2=some (.lst xs2))(r2:j5 K G ts2 xs2)(h3:G p3=some (.lst xs3))(r3:j5 K G ts3 xs3):aD7 K G (bJ9 K p1 p2 p3) (M8 ts1 ts2 ts3):=by
 intro i G1 H1 s1 s2;have hH1:SqL K H1 p1 xs1:=SqL.of (s2 _ _ (s1 _ _ h1));have hH2:SqL K H1 p2 xs2:=SqL.of (s2 _ _ (s1 _ _ h2));have hH3:SqL K H1 p3 xs3:=SqL.of (s2 _ _ (s1 _ _ h3));refine⟨fun t ht=> ?_,fun h1 h2=>⟨xs1,xs2,xs3,hH1,hH2,hH3,?_⟩⟩
 ·obtain⟨t1,t2,t3,e1,e2,e3,e0⟩:=aL8 ht;subst e0;obtain⟨x1,hx1,rx1⟩:=r1.get e1;obtain⟨x2,hx2,rx2⟩:=r2.get e2;obtain⟨x3,hx3,rx3⟩:=r3.get e3;refine⟨⟨xs1,xs2,xs3,x1,x2,x3,hH1,hH2,hH3,hx1,hx2,hx3⟩,fun v H2 hv=> ?_⟩;obtain⟨x1',x2',x3',q,m1,m2,m3,k3,k4,k5⟩:=hv;have z1:=m1 xs1 hH1;rw[hx1]at z1;cases z1;have z2:=m2 xs2 hH2;rw[hx2]at z2;cases z2;have z3:=m3 xs3 hH3;rw[hx3]at z3;cases z3;subst k4 k5;refine⟨_,Ext.new s2 k3 _,?_⟩;have sn:=B4 (s2.free k3) (HO.tup [x1,x2,x3]);simp only[Rep];exact⟨q,[x1,x2,x3],rfl,SqT.of n6,j5.cons ((rx1.mono s1).mono sn) (j5.cons ((rx2.mono s1).mono sn) (j5.cons ((rx3.mono s1).mono sn) (j5.nil)))⟩
 ·rw[au2]at h1;rw[r1.length,r2.length,r3.length];omega
section
variable {X:Cx}{a b c:Expr}{pos:Pos}
theorem bs0{p tp:Pos}{es':List Expr}{k:Nat}{g1 g2 g3:L3.G}(hg:Gl X "zip")(hm:X.mg "zip"=none)(ha:Wd (PXA X [a,b,c] (gs [g1,g2,g3])))(hs:starEach [a,b,c] X.env=[(false,eval a X.env),(false,eval b X.env),(false,eval c X.env)]:=by rfl)(hs2:starEach [b,c] X.env=[(false,eval b X.env),(false,eval c X.env)]:=by rfl):Wd (PXI X (.Tuple es' k tp) (.Call (.Name "zip" p) [a,b,c] [] pos) (cd1 g1 g2 g3)):=⟨have ha:=ha.run;PI.imp (bZ4 hg hm ha hs hs2) fun σ H R zz=>by
 obtain⟨G,ρ,ts,sG,hρ,hg,q⟩:=zz;obtain⟨xs1,h1,hg⟩:=h9 hg;obtain⟨xs2,h2,hg⟩:=h9 hg;obtain⟨xs3,h3,hg⟩:=h9 hg;cases hg;obtain⟨tx1,k1,m1⟩:=h9 h1;cases tx1<;>first |(cases m1;done)|skip
 cases m1;obtain⟨tx2,k2,m2⟩:=h9 h2;cases tx2<;>first |(cases m2;done)|skip
 cases m2;obtain⟨tx3,k3,m3⟩:=h9 h3;cases tx3<;>first |(cases m3;done)|skip
 cases m3;refine⟨G,ρ,[.lst xs1,.lst xs2,.lst xs3],sG,hρ,?_,fun vs G1 H1 e1 r1=> ?_⟩
 ·simp only[gs,k1,k2,k3,cx3]
 ·obtain⟨x1,x2,x3,e,rx1,rx2,rx3⟩:=bp9 r1;simp only[Rep]at rx1 rx2 rx3;obtain⟨p1,v1,y1,b1,c1⟩:=rx1;obtain⟨p2,v2,y2,b2,c2⟩:=rx2;obtain⟨p3,v3,y3,b3,c3⟩:=rx3;subst y1 y2 y3;exact⟨p1,p2,p3,e,⟨v1,SqL.of (e1.s _ _ b1)⟩,⟨v2,SqL.of (e1.s _ _ b2)⟩,⟨v3,SqL.of (e1.s _ _ b3)⟩,q _ G1 H1 e1 (bA7 b1 c1 b2 c2 b3 c3)⟩⟩
end
noncomputable def Rws(K:W.Frag)(G H0 H:Hp):List T->List Addr->Prop
 |[],bs=>bs=[]
 |t::ts,bs=>∃b r us xs,bs=b::r/\t=.lst us/\H b=some (.lst xs)/\j5 K G us xs/\H0 b=none/\G b=none/\Rws K G H0 H ts r
section
variable {K:W.Frag}{G H0 H G1 H1:Hp}
theorem Rws.step(e:Ext G H G1 H1):∀{ts:List T}{bs:List Addr},Rws K G H0 H ts bs->Rws K G1 H0 H1 ts bs
 |[],_,h=>h
 |t::ts,_,h=>by
  obtain⟨b,r,us,xs,e1,e2,h1,h2,h3,h4,h5⟩:=h;exact⟨b,r,us,xs,e1,e2,e.h.lst h1,h2.mono e.g,h3,e.fr b (by rw[h1];simp) h4,h5.step e⟩
theorem Rws.mem:∀{ts:List T}{bs:List Addr},Rws K G H0 H ts bs->∀b∈bs,H0 b=none/\G b=none/\∃xs,H b=some (.lst xs)
 |[],_,h,b,hb=>by rw[show _=_ from h]at hb;cases hb
 |t::ts,_,h,b,hb=>by
  obtain⟨c,r,us,xs,e1,e2,h1,h2,h3,h4,h5⟩:=h;subst e1;rcases List.mem_cons.mp hb with z|z
  ·subst z;exact⟨h3,h4,_,h1⟩
  ·exact h5.mem b z
theorem Rws.length:∀{ts:List T}{bs:List Addr},Rws K G H0 H ts bs->bs.length=ts.length
 |[],_,h=>by rw[show _=_ from h];rfl
 |t::ts,_,h=>by
  obtain⟨c,r,us,xs,e1,e2,h1,h2,h3,h4,h5⟩:=h;subst e1;simp[h5.length]
theorem Rws.get:∀{ts:List T}{bs:List Addr}{n:Nat}{us:List T},Rws K G H0 H ts bs->ts[n]?=some (.lst us)->∃b xs,bs[n]?=some b/\H b=some (.lst xs)/\j5 K G us xs
 |[],_,n,us,h,e=>by simp at e
 |t::ts,_,0,us,h,e=>by
  obtain⟨c,r,us',xs,e1,e2,h1,h2,h3,h4,h5⟩:=h;subst e1 e2;simp at e;subst e;exact⟨c,xs,rfl,h1,h2⟩
 |t::ts,_,n+1,us,h,e=>by
  obtain⟨c,r,us',xs,e1,e2,h1,h2,h3,h4,h5⟩:=h;subst e1;obtain⟨b,ys,k1,k2,k3⟩:=h5.get (n:=n) (us:=us) (by simpa using e);exact⟨b,ys,by simpa using k1,k2,k3⟩
theorem Rws.append{t:T}{us:List T}{b:Addr}{xs:List V}(e2:t=.lst us)(h1:H b=some (.lst xs))(h2:j5 K G us xs)(h3:H0 b=none)(h4:G b=none):∀{ts:List T}{bs:List Addr},Rws K G H0 H ts bs->Rws K G H0 H (ts++[t]) (bs++[b])
 |[],_,h=>by
  rw[show _=_ from h];exact⟨b,[],us,xs,rfl,e2,h1,h2,h3,h4,rfl⟩
 |u::ts,_,h=>by
  obtain⟨c,r,us',ys,f1,f2,k1,k2,k3,k4,k5⟩:=h;subst f1;exact⟨c,r++[b],us',ys,rfl,f2,k1,k2,k3,k4,k5.append e2 h1 h2 h3 h4⟩
theorem Rws.base{Hb:Hp}(f:∀b,H0 b=none->Hb b=none):∀{ts:List T}{bs:List Addr},Rws K G H0 H ts bs->Rws K G Hb H ts bs
 |[],_,h=>h
 |t::ts,_,h=>by
  obtain⟨b,r,us,xs,e1,e2,h1,h2,h3,h4,h5⟩:=h;exact⟨b,r,us,xs,e1,e2,h1,h2,f b h3,h4,h5.base f⟩
theorem Rws.at:∀{ts:List T}{bs:List Addr},(∀b∈bs,H1 b=H b)->Rws K G H0 H ts bs->Rws K G H0 H1 ts bs
 |[],_,_,h=>h
 |t::ts,_,hH,h=>by
  obtain⟨b,r,us,xs,e1,e2,h1,h2,h3,h4,h5⟩:=h;subst e1;exact⟨b,r,us,xs,rfl,e2,by rw[hH b cv8];exact h1,h2,h3,h4,h5.at fun c hc=>hH c (cv7 _ hc)⟩
end
theorem bH0{K:W.Frag}{it:GL}{is:List Nat}{st:St1}{gc:GB}{ge:L3.G}{nT:Nat}{caps:List Nat}(his:is.all (fun i=>decide (i<nT))=true)(hge:∀ρ t,ge ρ=some t->∃us,t=.lst us){σ:L2.St}{H:Hp}{Q:VK}{G:Hp}{ρ:j9}{t:T}(sG:Sub G H)(hρ:B5 K G σ ρ)(hg:o0 it nT caps st gc ge ρ=some t)
  (q:∀ts a bs G' H',t=.lst ts->H a=none->G' a=none->a∉bs->bs.Nodup->Ext G H G' H'->H' a=some (.lst (bs.map V.ref))->Rws K G' H H' ts bs->Q (.ref a) H'):tLC (tI K it) (tGt K is st) (tXB K gc) (tXf K ge) nT caps σ H Q:=by
 obtain⟨ts,h1,hg⟩:=h9 hg;split at hg
 case isFalse=>cases hg
 case isTrue hlim=>
 obtain⟨rs,h2,hg⟩:=h9 hg;have et:t=.lst rs:=by cases hg;rfl
 refine⟨G,ρ,ts,sG,hρ,h1,fun J G' H' e1 wk a ha=> ?_⟩;have hGa:G' a=none:=e1.s.free ha;have hHa:H a=none:=e1.h.free ha;refine⟨fun i m ys H1=>m=ts.length-i/\i<=ts.length/\ys.length<=i/\∃G1 r1 r2 bs,ys=bs.map V.ref/\a∉bs/\bs.Nodup/\w9 G' G1/\Sub G1 H1/\I0 H' H1/\(∀b,H' b≠none->G' b=none->G1 b=none)/\G1 a=none/\H1 a=some (.lst ys)/\Rws K G1 H H1 r1 bs/\
   R9 (O2 nT caps ρ) st gc ge (ts.drop i)=some r2/\rs=r1++r2,⟨ts.length,by simp,Nat.zero_le _,cw8 _,G',[],rs,[],rfl,by simp,List.nodup_nil,w9.refl _,?_,ax7 (B4 ha _),fun _ _ z=>z,hGa,n6,rfl,by simpa using h2,by simp⟩,?_⟩
 ·exact⟨fun b o z=>by rw[l7 (t6 z hGa)];exact e1.s b o z,e1.s.t.new ha,e1.s.n⟩
 rintro i m ys H1 ⟨rfl,hi,hyl,G1,r1,r2,bs,hys,hab,hnd,s1,s2,s3,fr,g1a,h1a,rl,hgo,hrs⟩;have hρ1:B5 K G1 (M4 nT caps σ) (O2 nT caps ρ):=(hρ.cap nT caps).mono (e1.g.trans s1);by_cases hlt:i<ts.length
 ·right;have ht:ts[i]?=some ts[i]:=ct8 hlt;obtain⟨go,yl⟩:=(wk i G1 H1 s1 s2).1 _ ht;refine⟨go,fun x H2 hy=> ?_⟩;obtain⟨G2,e2,r2'⟩:=yl x H2 hy;rw[ct1 hlt]at hgo;obtain⟨ρ1,k1,hgo⟩:=h9 hgo;obtain⟨bq,k2,hgo⟩:=h9 hgo;refine⟨G2,O2 nT caps ρ,ts[i],ρ1,e2.s,hρ1.mono e2.g,r2',k1,fun σ2 hρ2 hl2 hk2=>⟨⟨hl2,fun j v ej=> ?_⟩,?_⟩⟩
  ·by_cases hj:j∈is
   ·exfalso;have hjn:j<nT:=by
     have :=List.all_eq_true.mp his j hj;simpa using this
    unfold M4 at ej;rw[ct4 (by simpa using hjn),cu1,cx8 hjn]at ej;cases ej
   ·rw[hk2 j hj];exact ej
  ·refine⟨G2,ρ1,bq,e2.s,hρ2,k2,fun G3 H3 e3=> ?_⟩;have E13:=e2.trans e3;cases bq with
   |true=>
    obtain⟨t1,k3,hgo⟩:=h9 hgo;obtain⟨r3,k4,hgo⟩:=h9 hgo;cases hgo;have hl1:∃us,t1=.lst us:=hge _ _ k3;obtain⟨us,rfl⟩:=hl1;refine aj6 ⟨G3,ρ1,us,e3.s,hρ2.mono e3.g,k3,fun b xs G4 H4 hb3 gb4 e4 h4b rv=> ?_⟩;have E14:=E13.trans e4;have h4a:H4 a=some (.lst ys):=E14.h.lst h1a;have g4a:G4 a=none:=E14.fr a (by rw[h1a];simp) g1a;have hb1:H1 b=none:=E13.h.free hb3;have hab':a≠b:=fun z=>by subst z;rw[hb1]at h1a;cases h1a
    have hbH:H b=none:=e1.h.free (s3.free hb1);have hbb:b∉bs:=fun z=>by obtain⟨_,_,xs',w⟩:=rl.mem b z;rw[hb1]at w;cases w
    refine⟨h4a,?_,ts.length-(i+1),by omega,rfl,hlt,by rw[cu4,List.length_singleton];omega,G4,r1++[.lst us],r3,bs++[b],by rw[hys];simp,?_,?_,s1.trans E14.g,?_,?_,?_,g4a,n6,?_,k4,by rw[hrs];simp⟩
    ·have :(lim:Nat)<sizeLine:=by decide
     omega
    ·intro z;rcases List.mem_append.mp z with z|z
     ·exact hab z
     ·exact hab' (by simpa using z)
    ·rw[List.nodup_append];refine⟨hnd,by simp,fun c hc d hd=> ?_⟩;rw[List.mem_singleton]at hd;subst hd;exact fun z=>hbb (by rw[<-z];exact hc)
    ·exact⟨fun b o z=>by rw[l7 (t6 z g4a)];exact E14.s b o z,E14.s.t.lst h4a,E14.s.n⟩
    ·exact(s3.trans E14.h).upd ha
    ·intro b hb hgb;have h5:H1 b≠none:=s3.ne hb;exact E14.fr b h5 (fr b hb hgb)
    ·refine Rws.at (fun c hc=>l7 fun z=> ?_) ((rl.step E14).append rfl h4b rv hbH gb4);subst z;rcases List.mem_append.mp hc with z|z
     ·exact hab z
     ·exact hab' (by simpa using z)
   |false=>
    refine aj7 ⟨ts.length-(i+1),by omega,rfl,hlt,by omega,G3,r1,r2,bs,hys,hab,hnd,s1.trans E13.g,e3.s,s3.trans E13.h,?_,E13.fr a (by rw[h1a];simp) g1a,E13.h.lst h1a,rl.step E13,hgo,hrs⟩;intro b hb hgb;have h5:H1 b≠none:=s3.ne hb;exact E13.fr b h5 (fr b hb hgb)
 ·left;have ei:i=ts.length:=by omega
  subst ei;refine⟨(wk _ G1 H1 s1 s2).2 (cw8 _) (cw8 _),?_⟩;rw[List.drop_length]at hgo;cases hgo;rw[cs9]at hrs;subst hrs;exact q rs a bs G1 H1 et hHa g1a hab hnd (e1.trans ⟨s1,s2,s3,fr⟩) (by rw[<-hys];exact h1a) rl
structure RN(K:W.Frag)(G0 H0:Hp)(i:Nat)(a:Addr)(bs:List Addr)(ts:List T)(G H:Hp)(σ:L2.St)(ρ:j9):Prop where
 x:Ext G0 H0 G H
 r:B5 K G σ (t9 [i] ρ)
 t:ρ[i]?=some (some (.lst ts))
 v:σ[i]?=some (some (.ref a))
 a0:H0 a=none
 ga:G a=none
 ha:H a=some (.lst (bs.map V.ref))
 na:a∉bs
 nd:bs.Nodup
 w:Rws K G H0 H ts bs
section
variable {K:W.Frag}{G0 H0 G H G1 H1:Hp}{i:Nat}{a:Addr}{bs:List Addr}{ts:List T}{σ:L2.St}{ρ:j9}
theorem RN.step(h:RN K G0 H0 i a bs ts G H σ ρ)(e:Ext G H G1 H1):RN K G0 H0 i a bs ts G1 H1 σ ρ:=
 ⟨h.x.trans e,h.r.mono e.g,h.t,h.v,h.a0,e.fr a (by rw[h.ha];simp) h.ga,e.h.lst h.ha,h.na,h.nd,h.w.step e⟩
theorem RN.set{j:Nat}{v:V}{t:T}(h:RN K G0 H0 i a bs ts G H σ ρ)(hj:j≠i)(r:Rep K G t v):RN K G0 H0 i a bs ts G H (σ.set j (some v)) (ρ.set j (some t)):=
 ⟨h.x,by rw[aj3 _ _ _ _ (by simpa using hj)];exact h.r.set r,by rw[cu2 hj];exact h.t,by rw[cu2 hj];exact h.v,h.a0,h.ga,h.ha,h.na,h.nd,h.w⟩
theorem RN.mem(h:RN K G0 H0 i a bs ts G H σ ρ){b:Addr}(hb:b∈a::bs):H0 b=none/\G b=none/\∃xs,H b=some (.lst xs):=by
 rcases List.mem_cons.mp hb with z|z
 ·subst z;exact⟨h.a0,h.ga,_,h.ha⟩
 ·exact h.w.mem b z
theorem Rws.rep{Gp:Hp}(sG:w9 G Gp):∀{ts:List T}{bs:List Addr},(∀b∈bs,∀xs,H b=some (.lst xs)->Gp b=some (.lst xs))->Rws K G H0 H ts bs->j5 K Gp ts (bs.map V.ref)
 |[],_,_,h=>by rw[show _=_ from h];simp[j5]
 |t::ts,_,hb,h=>by
  obtain⟨b,r,us,xs,e1,e2,h1,h2,h3,h4,h5⟩:=h;subst e1 e2;refine j5.cons ?_ (h5.rep sG fun c hc=>hb c (cv7 _ hc));simp only[Rep];exact⟨b,xs,rfl,hb b cv8 xs h1,h2.mono sG⟩
theorem RN.peek(h:RN K G0 H0 i a bs ts G H σ ρ):∃Gp,Sub Gp H/\B5 K Gp σ ρ/\∀G1 H1,Ext Gp H G1 H1->∃G2,w9 G G2/\RN K G0 H0 i a bs ts G2 H1 σ ρ/\∀t v,Z9 t=true->Rep K G1 t v->Rep K G2 t v:=by
 have sG:w9 G (fun b=>if b∈a::bs then H b else G b):=fun b o q=>by
  show(if b∈a::bs then H b else G b)=_;rw[cx7 fun z=>by obtain⟨_,z4,_⟩:=h.mem z;rw[q]at z4;cases z4];exact q
 have sP:w9 (fun b=>if b∈a::bs then H b else G b) H:=fun b o q=>by
  have q:(if b∈a::bs then H b else G b)=some o:=q;split at q
  ·exact q
  ·exact h.x.s b o q
 have nP:∀b ps,(fun b=>if b∈a::bs then H b else G b) b≠some (.tbl ps):=fun b ps q=>by
  have q:(if b∈a::bs then H b else G b)=some (.tbl ps):=q;split at q
  ·rename_i z;obtain⟨_,_,xs,z5⟩:=h.mem z;rw[z5]at q;cases q
  ·exact h.x.s.n b ps q
 refine⟨fun b=>if b∈a::bs then H b else G b,⟨sP,h.x.s.t,nP⟩,⟨by rw[h.r.1,ar2],fun j t q=> ?_⟩,fun G1 H1 e=> ?_⟩
 ·by_cases hj:j=i
  ·subst hj;rw[h.t]at q;cases q;refine⟨.ref a,h.v,?_⟩;simp only[Rep];refine⟨a,_,rfl,?_,h.w.rep sG fun b hb xs e=> ?_⟩
   ·rw[cx8 cv8];exact h.ha
   ·show(if b∈a::bs then H b else G b)=_;rw[cx8 (cv7 _ hb)];exact e
  ·obtain⟨v,k1,k2⟩:=h.r.2 j t (ar6 _ _ _ _ q (by simpa using hj));exact⟨v,k1,k2.mono sG⟩
 ·have g1:∀b∈a::bs,∃xs,G1 b=some xs/\an7 xs:=fun b hb=>by
   obtain⟨_,_,xs,h5⟩:=h.mem hb;exact⟨.lst xs,e.g b _ (by show(if b∈a::bs then H b else G b)=_;rw[cx8 hb];exact h5),True.intro⟩
  have s2:w9 G (fun b=>if b∈a::bs then none else G1 b):=fun b o q=>by
   show(if b∈a::bs then none else G1 b)=_;rw[cx7 fun z=>by obtain⟨_,z4,_⟩:=h.mem z;rw[q]at z4;cases z4];exact e.g b o (sG b o q)
  have n2:∀b ps,(fun b=>if b∈a::bs then none else G1 b) b≠some (.tbl ps):=fun b ps q=>by
   have q:(if b∈a::bs then none else G1 b)=some (.tbl ps):=q;split at q
   ·cases q
   ·exact e.s.n b ps q
  have x2:Ext G H (fun b=>if b∈a::bs then none else G1 b) H1:=by
   refine⟨s2,⟨fun b o q=> ?_,e.s.t,n2⟩,e.h,fun b hb hg=> ?_⟩
   ·have q:(if b∈a::bs then none else G1 b)=some o:=q;split at q
    ·cases q
    ·exact e.s b o q
   ·show(if b∈a::bs then none else G1 b)=none;split
    ·rfl
    ·rename_i z;refine e.fr b hb ?_;show(if b∈a::bs then H b else G b)=none;rw[cx7 z];exact hg
  exact⟨_,s2,h.step x2,fun t v hf r=>Rep.del g1 hf r⟩
theorem RN.done{n m:Nat}{b:Addr}{us:List T}{xs:List V}{t:T}{v:V}(h:RN K G0 H0 i a bs ts G H σ ρ)(h1:ts[n]?=some (.lst us))(h2:bs[n]?=some b)(h3:H b=some (.lst xs))(h4:j5 K G us xs)(rv:Rep K G t v):
  ∃G',w9 G G'/\RO K G0 H0 [] G' (upd H b (.lst (xs.set m v))) σ (ρ.set i (some (.lst (ts.set n (.lst (us.set m t)))))):=by
 have hb:b∈bs:=cv9 h2;have hba:a≠b:=fun z=>h.na (by rw[z];exact hb)
 have sG:w9 G (fun c=>if c∈a::bs then upd H b (.lst (xs.set m v)) c else G c):=fun c o q=>by
  show(if c∈a::bs then upd H b (.lst (xs.set m v)) c else G c)=_;rw[cx7 fun z=>by obtain⟨_,z4,_⟩:=h.mem z;rw[q]at z4;cases z4];exact q
 have rows:∀{ts:List T}{cs:List Addr}{n:Nat},(∀c∈cs,c∈bs)->cs.Nodup->Rws K G H0 H ts cs->cs[n]?=some b->j5 K (fun c=>if c∈a::bs then upd H b (.lst (xs.set m v)) c else G c) (ts.set n (.lst (us.set m t))) (cs.map V.ref):=by
  intro ts;induction ts with
  |nil=>intro cs n hc nd w e;rw[show _=_ from w]at e;simp at e
  |cons u ts ih=>
   intro cs n hc nd w e;obtain⟨c,r,us',xs',e1,e2,k1,k2,k3,k4,k5⟩:=w;subst e1 e2;have hcb:=hc c cv8;cases n with
   |zero=>
    simp at e;subst e;refine j5.cons ?_ (k5.rep sG fun d hd ys e=> ?_)
    ·simp only[Rep];refine⟨c,xs.set m v,rfl,?_,(h4.set rv m).mono sG⟩;rw[cx8 (cv7 _ hcb),n6]
    ·show(if d∈a::bs then upd H c (.lst (xs.set m v)) d else G d)=_;rw[cx8 (cv7 _ (hc d (cv7 _ hd))),l7 fun z=>by subst z;exact(List.nodup_cons.mp nd).1 hd];exact e
   |succ n=>
    refine j5.cons ?_ (ih (fun d hd=>hc d (cv7 _ hd)) (List.nodup_cons.mp nd).2 k5 (by simpa using e));have hcne:c≠b:=fun z=>by
     subst z;exact(List.nodup_cons.mp nd).1 (cv9 (by simpa using e))
    simp only[Rep];refine⟨c,xs',rfl,?_,k2.mono sG⟩;rw[cx8 (cv7 _ hcb),l7 hcne];exact k1
 have hi:i<ρ.length:=Y5 h.t;refine⟨_,sG,⟨⟨h.x.g.trans sG,⟨fun c o q=> ?_,h.x.s.t.lst h3,fun c ps q=> ?_⟩,?_,fun c hc hg=> ?_⟩,⟨?_,fun j u q=> ?_⟩,fun j hj=>absurd hj (by simp),fun j hj=>absurd hj (by simp)⟩⟩
 ·have q:(if c∈a::bs then upd H b (.lst (xs.set m v)) c else G c)=some o:=q;split at q
  ·exact q
  ·rename_i z;rw[l7 fun w=>z (by rw[w];exact cv7 _ hb)];exact h.x.s c o q
 ·have q:(if c∈a::bs then upd H b (.lst (xs.set m v)) c else G c)=some (.tbl ps):=q;split at q
  ·rename_i z;by_cases w:c=b
   ·subst w;rw[n6]at q;cases q
   ·rw[l7 w]at q;obtain⟨_,_,ys,k⟩:=h.mem z;rw[k]at q;cases q
  ·exact h.x.s.n c ps q
 ·exact h.x.h.upd (h.w.mem b hb).1
 ·show(if c∈a::bs then upd H b (.lst (xs.set m v)) c else G c)=none;rw[cx7 fun z=>hc (h.mem z).1];exact h.x.fr c hc hg
 ·show σ.length=(ρ.set i _).length;rw[cu9,h.r.1,ar2]
 ·have q:(ρ.set i (some (.lst (ts.set n (.lst (us.set m t))))))[j]?=some (some u):=q;by_cases hj:i=j
  ·subst hj;rw[cu3 hi]at q;cases q;refine⟨.ref a,h.v,?_⟩;simp only[Rep];refine⟨a,_,rfl,?_,rows (fun _ z=>z) h.nd h.w h2⟩;rw[cx8 cv8,l7 hba];exact h.ha
  ·rw[cu2 hj]at q;obtain⟨v',k1,k2⟩:=h.r.2 j u (ar6 _ _ _ _ q (by simpa using Ne.symm hj));exact⟨v',k1,k2.mono sG⟩
end
theorem bS2{i:Nat}{gk gl g:L3.G}:NB (al2 i gk gl g):=ar1 fun ρ o e=>by
 obtain⟨t,_,e⟩:=h9 e;obtain⟨k,_,e⟩:=h9 e;obtain⟨l,_,e⟩:=h9 e;split at e
 ·obtain⟨n,_,e⟩:=h9 e;obtain⟨x,_,e⟩:=h9 e;split at e
  ·obtain⟨m,_,e⟩:=h9 e;cases e;exact⟨_,rfl⟩
  ·cases e
 ·cases e
theorem bV9{t u:TS}{D:aa6}{σ:L2.St}{H:Hp}(h:t {D with nx:=u D} σ H):bW5 t u D σ H:=h
theorem bW0{te:TE}{g:TG}{D:aa6}{σ:L2.St}{H:Hp}(h:te σ H fun x H1=>g x σ H1 D.nx):bh5 te g D σ H:=h
theorem ce3{g:L3.G}:∀ρ t,gN as2 [g] ρ=some t->∃us,t=.lst us:=fun ρ t h=>by
 obtain⟨xs,_,h⟩:=h9 h;unfold as2 at h;split at h<;>first |(cases h;done)|exact⟨_,(Option.some.inj h).symm⟩
section
variable {X:Cx}
theorem bs3{elt target iter e2 e3 e4 ek el:Expr}{ifs:List Expr}{scope:Scope}{it:GL}{is:List Nat}{st:St1}{gc:GB}{ge g2 g3 g4 gk gl:L3.G}{g5:GS}{x y z:Str}{pos pos' spos ypos yp2 zpos zp2 xp tp1 tpos p4:Pos}{rest:List Stmt}{own2:List Nat}(i j k:Nat)(N':List Str)(nT:Nat)(caps:List Nat)(hN:X.N.Nodup)(hge:∀ρ t,ge ρ=some t->∃us,t=.lst us)(hcalm:X.calm=true)(chk:O5 X.env.scope X.N scope N' nT caps=true)(hi:Wd (PXI X target iter it))(his:is.all (fun i=>decide (i<nT))=true)(hg:∀cl C s₀ H₀ fp,Wd (PXG (u6 X scope cl C N' s₀ H₀ fp) target is st))(hc:∀cl C s₀ H₀ fp,Wd (at2 (u6 X scope cl C N' s₀ H₀ fp) ifs gc))(he:∀cl C s₀ H₀ fp,Wd (PXf (u6 X scope cl C N' s₀ H₀ fp) elt ge))(h2:Wd (PX X e2 g2))(h3:Wd (PX X e3 g3))(h4:Wd (PX X e4 g4))(hk:Wd (PX X ek gk))(hl:Wd (PX X el gl))(hrest:V7 X [] own2 rest g5)(hij:j≠i:=by decide)(hik:k≠i:=by decide)(hx:X.N[i]?=some x:=by rfl)(hlx:X.env.scope.names.lookup x=some .local:=by rfl)(hsw:swapsWith (.ListComp elt [⟨target,iter,ifs,0⟩] scope pos) (some (.Name x pos')) spos.line X.env=pure true:=by rfl)(hs:∀x,foldedSetIterable iter X.env x=pure x:=by intro _;rfl)(hy:X.N[j]?=some y:=by rfl)(hyl:Loc X.env.scope y:=by first |exact Or.inl rfl|exact Or.inr rfl)(hys:swapsWith e2 (some (.Name y ypos)) yp2.line X.env=pure false:=by rfl)(hyf:X.fn y=true\/X.env.scope.names.lookup y=some .local:=by first |exact .inl rfl|exact .inr rfl)(hz:X.N[k]?=some z:=by rfl)(hzl:Loc X.env.scope z:=by first |exact Or.inl rfl|exact Or.inr rfl)(hzs:swapsWith e3 (some (.Name z zpos)) zp2.line X.env=pure false:=by rfl)(hzf:X.fn z=true\/X.env.scope.names.lookup z=some .local:=by first |exact .inl rfl|exact .inr rfl)(hv:Vis X.env.scope x:=by first |exact Or.inl rfl|exact Or.inr (Or.inl rfl)|exact Or.inr (Or.inr rfl))(hd:(x==("__debug__":Str))=false:=by decide)(hcd:(x==("__classdict__":Str))=false:=by decide)(hpi:az5 ek:=by intro _ _;rfl)(ha:∀v,assign (.Subscript (.Subscript (.Name x xp) ek tp1) el tpos) X.env v=(do
   let ov<-holding [v] (eval (.Subscript (.Name x xp) ek tp1) X.env)
   let iv<-holding [v,ov] (eval el X.env)
   standAt tpos
   holding [v,ov,iv] (setItem ov iv v)
   release [v,ov,iv] []):=by intro _;rfl) (hs4:swapsWithSole [.Subscript (.Subscript (.Name x xp) ek tp1) el tpos] e4 p4.line X.env=pure false:=by rfl) (hw4:swappedStores [.Subscript (.Subscript (.Name x xp) ek tp1) el tpos] e4 X.env=pure none:=by rfl) (h14:(assignEach [.Subscript (.Subscript (.Name x xp) ek tp1) el tpos] X.env).map (·.2)=[assign (.Subscript (.Subscript (.Name x xp) ek tp1) el tpos) X.env]:=by rfl):V7 X [] own2 (.Assign [.Name x pos'] (.ListComp elt [⟨target,iter,ifs,0⟩] scope pos) spos::.Assign [.Name y ypos] e2 yp2::.Assign [.Name z zpos] e3 zp2::.Assign [.Subscript (.Subscript (.Name x xp) ek tp1) el tpos] e4 p4::rest)
   (j6 (k7 i (gM [] (o0 it nT caps st gc ge))) (j6 (k7 j (gM [i] g2)) (j6 (k7 k (gM [i] g3)) (j6 (al2 i (gM [i] gk) (gM [i] gl) (gF g4)) g5)))):=by
 have hi:=hi.run;have hg:=fun x0 x1 x2 x3 x4=>(hg x0 x1 x2 x3 x4).run;have hc:=fun x0 x1 x2 x3 x4=>(hc x0 x1 x2 x3 x4).run;have he:=fun x0 x1 x2 x3 x4=>(he x0 x1 x2 x3 x4).run;have h2:=h2.run;have h3:=h3.run;have h4:=h4.run;have hk:=hk.run;have hl:=hl.run
 refine⟨ap1 U9 (ap1 U9 (ap1 U9 (ap1 bS2 hrest.nb))),fun G0 H0 pins s σ H D I q=> ?_⟩;refine W8 (af6 (g:=tGt X.K is st) (tc:=tXB X.K gc) (te:=tXf X.K ge) (i:=i) N' nT caps hcalm chk hi hg hc he hN hx hlx hsw hs)
  (W8 (ac1 hN hy hyl h2 hys hyf) (W8 (ac1 hN hz hzl h3 hzs hzf) (W8 (bZ2 h4 (bZ8 (bL2 bf5 (ac2 hx hv hd hcd) hk hpi) hl aS4 ha) hs4 hw4 h14) (hrest.ps G0 H0)))) pins s σ H D I ?_
 obtain⟨G,ρ,o,R,hgo,q⟩:=q;obtain⟨o1,m1,hgo⟩:=h9 hgo;obtain⟨t1,k1,e⟩:=h9 m1;cases e;obtain⟨o2,m2,hgo⟩:=h9 hgo;obtain⟨t2,k2,e⟩:=h9 m2;cases e;obtain⟨o3,m3,hgo⟩:=h9 hgo;obtain⟨t3,k3,e⟩:=h9 m3;cases e;obtain⟨o4,m4,hgo⟩:=h9 hgo;obtain⟨t4,n4,e⟩:=h9 m4;obtain⟨tk,kk,e⟩:=h9 e;obtain⟨tl,kl,e⟩:=h9 e;obtain⟨t4',k4,n4⟩:=h9 n4;split at n4
 case isFalse=>cases n4
 case isTrue hfl=>
 cases n4;have hlen:i<σ.length:=by rw[I.len];exact Y5 hx
 have hlρ:i<ρ.length:=by rw[<-R.len];exact hlen
 refine bV9 (bW0 ?_);refine bH0 his hge R.x.s R.r k1 fun ts a bs G1 H1 et hHa g1a hab hnd e1 h1a rw1=> ?_
 subst et;have R1:RN X.K G0 H0 i a bs ts G1 H1 (σ.set i (some (.ref a))) (ρ.set i (some (.lst ts))):=by
  refine⟨R.x.trans e1,?_,cu3 hlρ,cu3 hlen,R.x.h.free hHa,g1a,h1a,hab,hnd,rw1.base fun b hb=>R.x.h.free hb⟩;rw[av4,List.set_set];exact(R.r.mono e1.g).setN
 refine⟨G1,_,t2,R1.x.s,R1.r,k2,fun v2 G2 H2 e2 r2=> ?_⟩;have R2:=(R1.step e2).set hij r2;refine⟨G2,_,t3,R2.x.s,R2.r,k3,fun v3 G3 H3 e3 r3=> ?_⟩;have R3:=(R2.step e3).set hik r3;obtain⟨Gp,sp,rp,un⟩:=R3.peek;refine⟨Gp,_,t4,sp,rp,k4,fun v4 G4 H4 e4 r4=> ?_⟩;obtain⟨G5,s5,R5,fl5⟩:=un G4 H4 e4;have rv:=fl5 _ _ hfl r4;rw[show((List.set (List.set (List.set ρ i (some (T.lst ts))) j (some t2)) k (some t3))[i]?).join=some (.lst ts) by rw[R5.t];rfl]at e
 match tk,tl,kk,kl,e with
 |.int ka,.int la,kk,kl,e=>
  obtain⟨n,hn,e⟩:=h9 e;obtain⟨u,hu,e⟩:=h9 e;cases u with
  |lst us=>
   obtain⟨m,hm,e⟩:=h9 e;cases e;refine⟨.ref a,R5.v,G5,_,.int ka,R5.x.s,R5.r,kk,fun u1 G6 H6 e6 r6=> ?_⟩;have R6:=R5.step e6;simp only[Rep]at r6;subst r6;obtain⟨b,xs,hb,_,_⟩:=R6.w.get hu;refine⟨a,bs.map V.ref,ka,.ref b,rfl,rfl,SqL.of R6.ha,?_,G6,_,.int la,R6.x.s,R6.r,kl,fun u2 G7 H7 e7 r7=> ?_⟩
   ·unfold atI;rw[cu6,R6.w.length,show ixN ts.length ka=some n from hn,cx3,cu0,hb];rfl
   ·have R7:=R6.step e7;simp only[Rep]at r7;subst r7;obtain⟨b',xs',hb',h7,r7⟩:=R7.w.get hu;rw[hb]at hb';cases hb';refine⟨b,xs',la,m,rfl,rfl,h7,by rw[r7.length];exact hm,?_⟩;obtain⟨G8,s8,R8⟩:=R7.done (m:=m) hu hb h7 r7 (rv.mono (e6.g.trans e7.g));exact⟨G8,_,o,R8,hgo,q.mono (e1.g.trans (e2.g.trans (e3.g.trans (s5.trans (e6.g.trans (e7.g.trans s8))))))⟩
  |_=>cases e
end
section
variable {P:Program}{w:World}{K:W.Frag}{mg:Str->Option Value}{base:Heap}
theorem cp7{x qual:Str}{st:Stmt}{f:Addr}{fd:FuncData}{c:Addr}{N ps:List Str}{k:Nat}{g:GS}{own:List Nat}(F:cg0 K x qual st f fd c)(S:l0 N ps (j4 st))(np:ps.length<=N.length)
  (hb:∀(A:Around) (outer:List Env) (s:Shared) (H:Hp) (E:XK),B7 k (A.deeper (envOfC qual (j4 st) s.heap.objs.size f (.ref c)))->V7 (w4 CX0 P w K mg base N qual (j4 st) f (.ref c) A outer s H E).nox [] own (A7 st) g):
  V9 P w K mg base CX0 (k+1) f fd ps (spT K ps.length (u9 ps.length N.length g)):=by
 obtain⟨oc,od,kV,doc,pm,an,ct,osl,rfl,lk,hcd⟩:=F.ex;refine bm5 lk hcd S (fun vs H Q E h=> ?_) fun A outer s H vs Q E hr h=> ?_
 ·obtain⟨G,ts,t,sG,r,hl,_⟩:=h;rw[r.length,hl]
 ·obtain⟨G,ts,t,sG,r,hl,hf,q⟩:=h;refine⟨_,((hb A outer s H E hr).ps G H).nox,?_⟩;unfold u9 at hf;rw[cx8 hl]at hf;have hρ:=aa7 (N:=N) r (by omega);cases hg:g (l9 N.length ts)with
  |none=>rw[hg]at hf;cases hf
  |some o=>
   rw[hg]at hf;refine⟨G,_,o,RO.start sG hρ,hg,?_⟩;cases o with
   |nx ρ=>cases hf;exact fun σ' G' H' _ R=>q .non G' H' R.x (by simp[Rep])
   |ret t'=>cases hf;exact fun v G' H' e' rv=>q v G' H' e' rv
   |bk ρ=>cases hf
   |ct ρ=>cases hf
end
theorem ah0{X:Cx}{e:Expr}{g:GB}(h:Wd (PXW X e g)):Wd (PXB X e g):=⟨PW.pt h.run⟩
end L3
namespace Sw
open PySem PySem.Spec PyProof.Rows L2 L3
noncomputable def top(i:Nat):Stmt:=PySem.Challenge.pw_sharedways_k40_whole_two_on_lines.main.body.getD i (.Pass ⟨0,0,0,0⟩)
structure Blt(mg:Str->Option Value):Prop where
 ValueError:mg "ValueError"=none
 abs:mg "abs"=none
 all:mg "all"=none
 any:mg "any"=none
 bool:mg "bool"=none
 enumerate:mg "enumerate"=none
 int:mg "int"=none
 isinstance:mg "isinstance"=none
 len:mg "len"=none
 list:mg "list"=none
 max:mg "max"=none
 min:mg "min"=none
 range:mg "range"=none
 sorted:mg "sorted"=none
 sum:mg "sum"=none
 tuple:mg "tuple"=none
 zip:mg "zip"=none
structure Cst(K:W.Frag)(mg:Str->Option Value):Prop where
 LEAST_PLACES:∃t,mg "LEAST_PLACES"=some (.int 2 t)
 LEAST_ROOM:∃t,mg "LEAST_ROOM"=some (.int 1 t)
 LEAST_WANTED:∃t,mg "LEAST_WANTED"=some (.int 0 t)
 MOST_LINES:∃t,mg "MOST_LINES"=some (.int 16 t)
 MOST_PLACES:∃t,mg "MOST_PLACES"=some (.int 8 t)
 MOST_ROOM:∃t,mg "MOST_ROOM"=some (.int 20 t)
 MOST_WANTED:∃t,mg "MOST_WANTED"=some (.int 200 t)
 NOUGHT:∃a,mg "NOUGHT"=some (.ref a)/\∀G,Rep K G aD6 (.ref a)
structure ch5(K:W.Frag)(mg:Str->Option Value):Prop where
 BadFloor:∃C,mg "BadFloor"=some (.ref C)/\W.excIn K C [.type "ValueError",.type "Exception",.type "BaseException",.type "object"] "ValueError.__new__"=true
section
variable {P:Program}{w:World}{K:W.Frag}{mg:Str->Option Value}{base:Heap}(B:Blt mg)(C:Cst K mg)(Z:ch5 K mg)
variable {f:Addr}{fd:FuncData}
structure FM(K:W.Frag)(mg:Str->Option Value)(x:Str)(i:Nat)(f:Addr)(fd:FuncData):Prop where
 F:Fun K x x (top i) f fd
 m:mg x=some (.ref f)
noncomputable abbrev BA(x:Str)(i:Nat)(ps:List Str):Prop:=∀(kV doc pm:Value) (an:Option Addr) (cdv ct:Value) (us:List Value),us.length=ps.length->bindArgs (W.fnOf x x (ab3 (top i)) (A7 (top i)) (j4 (top i)) .none kV doc pm an cdv ct) ⟨us,[]⟩=pure (ps.zip us)
noncomputable abbrev BR(i k:Nat)(x:Str)(f:Addr)(p:Value->Around->List Env->Shared->Hp->XK->Prop):Prop:=∀cdv A o s H E,B7 k (A.deeper (envOfC x (j4 (top i)) s.heap.objs.size f cdv))->p cdv A o s H E
theorem b1{p:List Value->Prop}(h:∀a,p [a]):∀us,us.length=1->p us
 |[a],_=>h a
theorem b2{p:List Value->Prop}(h:∀a b,p [a,b]):∀us,us.length=2->p us
 |[a,b],_=>h a b
theorem b3{p:List Value->Prop}(h:∀a b c,p [a,b,c]):∀us,us.length=3->p us
 |[a,b,c],_=>h a b c
theorem b4{p:List Value->Prop}(h:∀a b c d,p [a,b,c,d]):∀us,us.length=4->p us
 |[a,b,c,d],_=>h a b c d
section
variable {x:Str}{i k:Nat}{N ps:List Str}{g:GS}(F:FM K mg x i f fd)(S:l0 N ps (j4 (top i)))(bi:BA x i ps)
include F S bi
theorem mkT(b:BR i k x f fun cdv A o s H E=>ag5 (w4 CX0 P w K mg base N x (j4 (top i)) f cdv A o s H E).nox (A7 (top i)) g)(np:ps.length<=N.length:=by decide):Cal P w K mg base x (k+1) ps.length (u9 ps.length N.length g):=
 ⟨f,fd,ps,F.m,F.F.kp,F.F.binds bi,fnT F.F S np b⟩
theorem mkO(b:BR i k x f fun cdv A o s H E=>V7 (w4 CX0 P w K mg base N x (j4 (top i)) f cdv A o s H E).nox [] [] (A7 (top i)) g)(np:ps.length<=N.length:=by decide):Cal P w K mg base x (k+1) ps.length (u9 ps.length N.length g):=
 ⟨f,fd,ps,F.m,F.F.kp,F.F.binds bi,fnO F.F S np b⟩
theorem mkR{g:GR}(b:BR i k x f fun cdv A o s H E=>aw4 (w4 (CX1 P w) P w K mg base N x (j4 (top i)) f cdv A o s H E) E (A7 (top i)) g)(np:ps.length<=N.length:=by decide):Q1 P w K mg base x (k+1) ps.length (aq6 ps.length N.length g):=
 ⟨f,fd,ps,F.m,F.F.kp,F.F.binds bi,fnR F.F S np b⟩
theorem co4(b:BR i k x f fun cdv A o s H E=>PXZ (w4 CX0 P w K mg base N x (j4 (top i)) f cdv A o s H E).nox [] (A7 (top i)) g)(nn:Rt g)(np:ps.length<=N.length:=by decide):ba5 P w K mg base x (k+1) ps.length (u9 ps.length N.length g):=
 ⟨f,fd,ps,F.m,F.F.kp,F.F.binds bi,cp5 F.F S np b nn⟩
theorem co5(b:BR i k x f fun cdv A o s H E=>V7 (w4 CX0 P w K mg base N x (j4 (top i)) f cdv A o s H E).nox [1] [1] (A7 (top i)) g)(hm:ps.length=1+1:=by rfl)(np:ps.length<=N.length:=by decide):ba6 P w K mg base x (k+1) ps.length (u9 ps.length N.length g):=
 ⟨f,fd,ps,F.m,F.F.kp,F.F.binds bi,cp6 F.F S np hm b⟩
end
theorem ba8:l0 ["thing"] ["thing"] (j4 (top 7)):=by constructor<;>first |rfl|decide +kernel
include B in
theorem bb6(F:FM K mg "is_whole" 7 f fd):Cal P w K mg base "is_whole" 2 1 N1:=
 mkT (g:=at5) F ba8 (fun _ _ _ _ _ _=>b1 fun _=>rfl) (fun _ _ _ _ _ _ hr=>(Wd.run (k9 (m8 (A4 (V2 .int rfl B.isinstance rfl B.int boot_int (d7 0)) (N5 (bd7 (V2 .bool rfl B.isinstance rfl B.bool boot_bool (d7 0)))))))))
theorem Q2:l0 ["top","under","rest"] ["top","under"] (j4 (top 8)):=by constructor<;>first |rfl|decide +kernel
theorem aA0(F:FM K mg "common_divisor" 8 f fd):Cal P w K mg base "common_divisor" 2 2 F0:=
 mkT (g:=aa3) F Q2 (fun _ _ _ _ _ _=>b2 fun _ _=>rfl) (fun _ _ _ _ _ _ hr=>(Wd.run (v5 (aF9 ad1 PassesOwn.never (U7 hr (d7 1) d8) (v5 (D6 2 Q2.nd (B1 (d7 0) (d7 1))) (v5 (D6 0 Q2.nd (d7 1)) (k9 (D6 1 Q2.nd (d7 2)))))) (k9 (m8 (d7 0))))))
theorem aI8:l0 ["thing"] ["thing"] (j4 (top 9)):=by constructor<;>first |rfl|decide +kernel
include B in
theorem aJ9(c_is_whole:Cal P w K mg base "is_whole" 2 1 N1)(c_common_divisor:Cal P w K mg base "common_divisor" 2 2 F0)(F:FM K mg "is_fraction" 9 f fd):Cal P w K mg base "is_fraction" 3 1 B8:=
 mkT (g:=Z0) F aI8 (fun _ _ _ _ _ _=>b1 fun _=>rfl) (fun _ _ _ _ _ _ hr=>(Wd.run (k9 (m8 (A4 (V2 .tuple rfl B.isinstance rfl B.tuple boot_tuple (d7 0)) (A4 (Y3 hr (L5 rfl B.len (c9 (d7 0) d9)) d8) (A4 (k8 c_is_whole hr (by decide) rfl (c9 (g9 (d7 0) d8) d9)) (A4 (k8 c_is_whole hr (by decide) rfl (c9 (g9 (d7 0) d8) d9)) (A4 (bs1 (g9 (d7 0) d8) d8) (N5 (Y3 hr (k8 c_common_divisor hr (by decide) rfl (c9 (g9 (d7 0) d8) (c9 (g9 (d7 0) d8) d9))) d8)))))))))))
theorem aF6:l0 ["top","under","divisor"] ["top","under"] (j4 (top 10)):=by constructor<;>first |rfl|decide +kernel
theorem bk4(c_common_divisor:Cal P w K mg base "common_divisor" 2 2 F0)(F:FM K mg "reduced" 10 f fd):Cal P w K mg base "reduced" 3 2 K4:=
 mkT (g:=aw9) F aF6 (fun _ _ _ _ _ _=>b2 fun _ _=>rfl) (fun _ _ _ _ _ _ hr=>(Wd.run (v5 (D6 2 aF6.nd (k8 c_common_divisor hr (by decide) rfl (c9 (d7 0) (c9 (d7 1) d9)))) (k9 (m8 (m9 (c9 (B9 (d7 0) (d7 2)) (c9 (B9 (d7 1) (d7 2)) d9))))))))
theorem bO4:l0 ["one","other"] ["one","other"] (j4 (top 11)):=by constructor<;>first |rfl|decide +kernel
theorem bR4(c_reduced:Cal P w K mg base "reduced" 3 2 K4)(F:FM K mg "plus" 11 f fd):Cal P w K mg base "plus" 4 2 P1:=
 mkT (g:=aZ8) F bO4 (fun _ _ _ _ _ _=>b2 fun _ _=>rfl) (fun _ _ _ _ _ _ hr=>(Wd.run (k9 (m8 (k8 c_reduced hr (by decide) rfl (c9 (F5 (D4 (g9 (d7 0) d8) (g9 (d7 1) d8)) (D4 (g9 (d7 1) d8) (g9 (d7 0) d8))) (c9 (D4 (g9 (d7 0) d8) (g9 (d7 1) d8)) d9)))))))
theorem bB8:l0 ["one","other"] ["one","other"] (j4 (top 12)):=by constructor<;>first |rfl|decide +kernel
theorem bG1(c_plus:Cal P w K mg base "plus" 4 2 P1)(F:FM K mg "minus" 12 f fd):Cal P w K mg base "minus" 5 2 ab6:=
 mkT (g:=aL5) F bB8 (fun _ _ _ _ _ _=>b2 fun _ _=>rfl) (fun _ _ _ _ _ _ hr=>(Wd.run (k9 (m8 (k8 c_plus hr (by decide) rfl (c9 (by exact(d7 0)) (by exact(c9 (by exact(m9 (c9 (ah6 (g9 (d7 1) d8)) (c9 (g9 (d7 1) d8) d9)))) (by exact d9)))))))))
theorem bi2:l0 ["one","other"] ["one","other"] (j4 (top 13)):=by constructor<;>first |rfl|decide +kernel
theorem bk8(F:FM K mg "is_more" 13 f fd):Cal P w K mg base "is_more" 2 2 X5:=
 mkT (g:=ax2) F bi2 (fun _ _ _ _ _ _=>b2 fun _ _=>rfl) (fun _ _ _ _ _ _ hr=>(Wd.run (k9 (m8 (bs1 (D4 (g9 (d7 0) d8) (g9 (d7 1) d8)) (D4 (g9 (d7 1) d8) (g9 (d7 0) d8)))))))
theorem bi1:l0 ["thing"] ["thing"] (j4 (top 15)):=by constructor<;>first |rfl|decide +kernel
include B in
theorem bk7(F:FM K mg "is_pair" 15 f fd):Cal P w K mg base "is_pair" 2 1 K6:=
 mkT (g:=ax1) F bi1 (fun _ _ _ _ _ _=>b1 fun _=>rfl) (fun _ _ _ _ _ _ hr=>(Wd.run (k9 (m8 (A4 (V2 .tuple rfl B.isinstance rfl B.tuple boot_tuple (d7 0)) (N5 (Y3 hr (L5 rfl B.len (c9 (d7 0) d9)) d8)))))))
theorem aT0:l0 ["thing"] ["thing"] (j4 (top 16)):=by constructor<;>first |rfl|decide +kernel
include B in
theorem aV5(F:FM K mg "is_triple" 16 f fd):Cal P w K mg base "is_triple" 2 1 V4:=
 mkT (g:=an3) F aT0 (fun _ _ _ _ _ _=>b1 fun _=>rfl) (fun _ _ _ _ _ _ hr=>(Wd.run (k9 (m8 (A4 (V2 .tuple rfl B.isinstance rfl B.tuple boot_tuple (d7 0)) (N5 (Y3 hr (L5 rfl B.len (c9 (d7 0) d9)) d8)))))))
theorem aS9:l0 ["thing","least","most"] ["thing","least","most"] (j4 (top 17)):=by constructor<;>first |rfl|decide +kernel
theorem aV4(c_is_whole:Cal P w K mg base "is_whole" 2 1 N1)(F:FM K mg "is_within" 17 f fd):Cal P w K mg base "is_within" 3 3 B6:=
 mkT (g:=an2) F aS9 (fun _ _ _ _ _ _=>b3 fun _ _ _=>rfl) (fun _ _ _ _ _ _ hr=>(Wd.run (k9 (m8 (A4 (k8 c_is_whole hr (by decide) rfl (c9 (d7 0) d9)) (N5 (bE1 (d7 1) (d7 0) (d7 2))))))))
theorem bi0:l0 ["thing","places","least","most"] ["thing","places","least","most"] (j4 (top 18)):=by constructor<;>first |rfl|decide +kernel
theorem bk6(c_is_triple:Cal P w K mg base "is_triple" 2 1 V4)(c_is_within:Cal P w K mg base "is_within" 3 3 B6)(F:FM K mg "is_trip" 18 f fd):Cal P w K mg base "is_trip" 4 4 C4:=
 mkT (g:=am1) F bi0 (fun _ _ _ _ _ _=>b4 fun _ _ _ _=>rfl) (fun _ _ _ _ _ _ hr=>(Wd.run (k9 (m8 (A4 (k8 c_is_triple hr (by decide) rfl (c9 (d7 0) d9)) (A4 (k8 c_is_within hr (by decide) rfl (c9 (g9 (d7 0) d8) (c9 d8 (c9 (aa9 (d7 1) d8) d9)))) (A4 (k8 c_is_within hr (by decide) rfl (c9 (g9 (d7 0) d8) (c9 d8 (c9 (aa9 (d7 1) d8) d9)))) (A4 (bY3 hr (g9 (d7 0) d8) (g9 (d7 0) d8)) (N5 (k8 c_is_within hr (by decide) rfl (c9 (g9 (d7 0) d8) (c9 (d7 2) (c9 (d7 3) d9)))))))))))))
theorem aP3:l0 ["ways"] ["ways"] (j4 (top 19)):=by constructor<;>first |rfl|decide +kernel
include B in
theorem aP7(F:FM K mg "are_rising" 19 f fd):Cal P w K mg base "are_rising" 2 1 K0:=
 mkT (g:=ak7) F aP3 (fun _ _ _ _ _ _=>b1 fun _=>rfl) (fun _ _ _ _ _ _ hr=>(Wd.run (k9 (m8 (X9 rfl rfl B.all (c9 (M7 (is:=[0,1]) ["way","later"] 2 [] rfl rfl (W6 rfl B.zip (c9 (d7 0) (c9 (ao4 1 none (d7 0) (.inl ao7) aj0) d9))) rfl (fun _ _ _ _ _=>(K9 0 1 rfl (y0 (show(["way","later"]:List Str).Nodup by decide +kernel) (i:=0) rfl (by first |exact Or.inl rfl|exact Or.inr rfl)) (y0 (show(["way","later"]:List Str).Nodup by decide +kernel) (i:=1) rfl (by first |exact Or.inl rfl|exact Or.inr rfl)))) (fun _ _ _ _ _=>A6) (fun _ _ _ _ _=>(bP1 hr.units0 (ao4 0 (some 2) (d7 0) (.inr ⟨rfl,aj0⟩) ao7) (ao4 0 (some 2) (d7 1) (.inr ⟨rfl,aj0⟩) ao7)))) d9))))))
theorem ah5:l0 ["ways","row","place","found","way","amount"] ["ways","row","place"] (j4 (top 20)):=by constructor<;>first |rfl|decide +kernel
include B in
include C in
theorem bR5(c_plus:Cal P w K mg base "plus" 4 2 P1)(c_minus:Cal P w K mg base "minus" 5 2 ab6)(F:FM K mg "gain" 20 f fd):Cal P w K mg base "gain" 6 3 ak8:=
 mkT (g:=aZ9) F ah5 (fun _ _ _ _ _ _=>b3 fun _ _ _=>rfl) (fun _ _ _ _ _ _ hr=>(Wd.run (v5 (D6 3 ah5.nd (aT9 rfl C.NOUGHT)) (v5 (Z4 PassesOwn.never rfl (W6 rfl B.zip (c9 (d7 0) (c9 (d7 1) d9))) (K9 4 5 rfl (y0 ah5.nd (i:=4) rfl (by first |exact Or.inl rfl|exact Or.inr rfl)) (y0 ah5.nd (i:=5) rfl (by first |exact Or.inl rfl|exact Or.inr rfl))) (v5 (Q8 (U8 hr (g9 (d7 4) d8) (d7 2)) (k9 (D6 3 ah5.nd (k8 c_plus hr (by decide) rfl (c9 (d7 3) (c9 (d7 5) d9))))) O0) (k9 (Q8 (U8 hr (g9 (d7 4) d8) (d7 2)) (k9 (D6 3 ah5.nd (k8 c_minus hr (by decide) rfl (c9 (d7 3) (c9 (d7 5) d9))))) O0)))) (k9 (m8 (d7 3)))))))
theorem bi3:l0 ["thing","places"] ["thing","places"] (j4 (top 34)):=by constructor<;>first |rfl|decide +kernel
include C in
theorem bk9(c_is_trip:Cal P w K mg base "is_trip" 4 4 C4)(F:FM K mg "is_line" 34 f fd):Cal P w K mg base "is_line" 5 2 M3:=
 mkT (g:=am2) F bi3 (fun _ _ _ _ _ _=>b2 fun _ _=>rfl) (fun _ _ _ _ _ _ hr=>(Wd.run (k9 (m8 (A4 (k8 c_is_trip hr (by decide) rfl (c9 (d7 0) (c9 (d7 1) (c9 (Z5 rfl C.LEAST_ROOM) (c9 (Z5 rfl C.MOST_ROOM) d9))))) (N5 (ao2 (g9 (d7 0) d8) (g9 (d7 0) d8))))))))
theorem bh9:l0 ["floor","thing"] ["floor","thing"] (j4 (top 35)):=by constructor<;>first |rfl|decide +kernel
include C in
theorem bk5(c_is_trip:Cal P w K mg base "is_trip" 4 4 C4)(F:FM K mg "is_ware" 35 f fd):Cal P w K mg base "is_ware" 5 2 K5:=
 mkT (g:=ax0) F bh9 (fun _ _ _ _ _ _=>b2 fun _ _=>rfl) (fun _ _ _ _ _ _ hr=>(Wd.run (k9 (m8 (k8 c_is_trip hr (by decide) rfl (c9 (d7 1) (c9 (g9 (d7 0) d8) (c9 (Z5 rfl C.LEAST_WANTED) (c9 (Z5 rfl C.MOST_WANTED) d9)))))))))
theorem ba9:l0 ["floor"] ["floor"] (j4 (top 33)):=by constructor<;>first |rfl|decide +kernel
include B in
include C in
theorem bb7(c_is_pair:Cal P w K mg base "is_pair" 2 1 K6)(c_is_within:Cal P w K mg base "is_within" 3 3 B6)(c_is_line:Cal P w K mg base "is_line" 5 2 M3)(c_are_rising:Cal P w K mg base "are_rising" 2 1 K0)(F:FM K mg "is_floor" 33 f fd):Cal P w K mg base "is_floor" 6 1 J2:=
 mkT (g:=at6) F ba9 (fun _ _ _ _ _ _=>b1 fun _=>rfl) (fun _ _ _ _ _ _ hr=>(Wd.run (k9 (m8 (A4 (k8 c_is_pair hr (by decide) rfl (c9 (d7 0) d9)) (A4 (k8 c_is_within hr (by decide) rfl (c9 (g9 (d7 0) d8) (c9 (Z5 rfl C.LEAST_PLACES) (c9 (Z5 rfl C.MOST_PLACES) d9)))) (A4 (V2 .list rfl B.isinstance rfl B.list boot_list (g9 (d7 0) d8)) (A4 (bY4 (L5 rfl B.len (c9 (g9 (d7 0) d8) d9)) (Z5 rfl C.MOST_LINES)) (A4 (X9 rfl rfl B.all (c9 (M7 (is:=[0]) ["thing","floor"] 1 [0] rfl rfl (K3 (g9 (d7 0) d8)) rfl (fun _ _ _ _ _=>(w6 0 (show(["thing","floor"]:List Str).Nodup by decide +kernel))) (fun _ _ _ _ _=>A6) (fun _ _ _ _ _=>(k8 c_is_line hr (by decide) rfl (c9 (d7 0) (c9 (g9 (d7 1) d8) d9))))) d9)) (N5 (k8 c_are_rising hr (by decide) rfl (c9 (g9 (d7 0) d8) d9))))))))))))
theorem am5:l0 ["floor","one","other","left","ware"] ["floor","one","other"] (j4 (top 36)):=by constructor<;>first |rfl|decide +kernel
include B in
theorem bb4(F:FM K mg "supplies" 36 f fd):ba5 P w K mg base "supplies" 2 3 F6:=
 co4 (g:=at3) F am5 (fun _ _ _ _ _ _=>b3 fun _ _ _=>rfl) (fun _ _ _ _ _ _ hr=>(aM6 (bs5 3 (is:=[0]) ["place"] 1 [] am5.nd rfl rfl (T5 rfl B.range (c9 (g9 (d7 0) d8) d9)) rfl (fun _ _ _ _ _=>(w6 0 (show(["place"]:List Str).Nodup by decide +kernel))) (fun _ _ _ _ _=>A6) (fun _ _ _ _ _=>d8)) bv5 (aM6 (Z7 PassesOwn.never rfl (ai5 (m9 (c9 (d7 1) (c9 (d7 2) d9)))) (w6 4 am5.nd) (j8 (ai8 3 aL1 (g9 (d7 4) d8) (g9 (d7 4) d8)) (t7 (ai8 3 bg6 (g9 (d7 4) d8) (g9 (d7 4) d8))))) (bv7 (bv6 aG3 aG3)) (bE2 3)))) (br2 U9 bv5 (br2 (bw4 (ap1 aW0 aW0)) (bv7 (bv6 aG3 aG3)) bX3))
theorem Q6:l0 ["left","place","amount"] ["left"] (j4 (top 38)):=by constructor<;>first |rfl|decide +kernel
include B in
theorem ao9(F:FM K mg "first_above_nought" 38 f fd):Cal P w K mg base "first_above_nought" 2 1 u0:=
 mkT (g:=U3) F Q6 (fun _ _ _ _ _ _=>b1 fun _=>rfl) (fun _ _ _ _ _ _ hr=>(Wd.run (v5 (Z4 PassesOwn.never rfl (aM5 rfl B.enumerate (c9 (d7 0) d9)) (K9 1 2 rfl (y0 Q6.nd (i:=1) rfl (by first |exact Or.inl rfl|exact Or.inr rfl)) (y0 Q6.nd (i:=2) rfl (by first |exact Or.inl rfl|exact Or.inr rfl))) (k9 (Q8 (aU6 (d7 2) d8) (k9 (m8 (d7 1))) O0))) (k9 (m8 V1)))))
theorem bB7:l0 ["line","amount","place"] ["line","amount","place"] (j4 (top 40)):=by constructor<;>first |rfl|decide +kernel
theorem bG0(F:FM K mg "spare" 40 f fd):Cal P w K mg base "spare" 2 3 N8:=
 mkT (g:=aL4) F bB7 (fun _ _ _ _ _ _=>b3 fun _ _ _=>rfl) (fun _ _ _ _ _ _ hr=>(Wd.run (k9 (m8 (al5 (U8 hr (g9 (d7 0) d8) (d7 2)) (aa9 (g9 (d7 0) d8) (d7 1)) (F5 (g9 (d7 0) d8) (d7 1)))))))
theorem P3:l0 ["lines","flow","giver","steps","waiting","place","number","line","far"] ["lines","flow","giver"] (j4 (top 39)):=by constructor<;>first |rfl|decide +kernel
include B in
theorem bb8(c_spare:Cal P w K mg base "spare" 2 3 N8)(F:FM K mg "explored" 39 f fd):Cal P w K mg base "explored" 3 3 P2:=
 mkO (g:=at7) F P3 (fun _ _ _ _ _ _=>b3 fun _ _ _=>rfl) (fun _ _ _ _ _ _ hr=>(j8 (bs6 3 P3.nd (d7 2) V1) (j8 (au9 4 P3.nd (bd9 (c9 (d7 2) d9))) (j8 (aq8 au1 PassesOwn.never (be0 (d7 4)) (j8 (bs4 4 5 P3.nd) (t7 (Z7 PassesOwn.never rfl (aM5 rfl B.enumerate (c9 (d7 0) d9)) (K9 6 7 rfl (y0 P3.nd (i:=6) rfl (by first |exact Or.inl rfl|exact Or.inr rfl)) (y0 P3.nd (i:=7) rfl (by first |exact Or.inl rfl|exact Or.inr rfl))) (j8 (z0 8 P3.nd (al5 (U8 hr (g9 (d7 7) d8) (d7 5)) (g9 (d7 7) d8) (g9 (d7 7) d8))) (t7 (K2 (ah0 (ad7 (bY5 (d7 5) (ao4 0 (some 2) (d7 7) (.inr ⟨rfl,aj0⟩) ao7)) (ad7 (bj1 hr (d7 8) (d7 3)) (al6 (aU6 (k8 c_spare hr (by decide) rfl (c9 (d7 7) (c9 (g9 (d7 1) (d7 6)) (c9 (d7 5) d9)))) d8))))) (j8 (bs7 3 hr (m9 (c9 (d7 5) (c9 (d7 6) d9))) (d7 8)) (t7 (ad8 4 (d7 8)))) L6))))))) (t7 (C5 (d7 3)))))))
theorem ae4:l0 ["steps","goal","route","step"] ["steps","goal"] (j4 (top 41)):=by constructor<;>first |rfl|decide +kernel
theorem bb5(F:FM K mg "route_to" 41 f fd):Cal P w K mg base "route_to" 2 2 U5:=
 mkO (g:=at4) F ae4 (fun _ _ _ _ _ _=>b2 fun _ _=>rfl) (fun _ _ _ _ _ _ hr=>(j8 (aU7 2 ae4.nd) (j8 (z0 3 ae4.nd (aU0 hr (d7 0) (d7 1))) (j8 (aq8 au0 PassesOwn.never (aU4 (d7 3) V1) (j8 (ad8 2 (d7 3)) (t7 (z0 3 ae4.nd (aU0 hr (d7 0) (g9 (d7 3) d8)))))) (t7 (C5 (d7 2)))))))
theorem ax6:l0 ["lines","flow","route","amount","after","place","number"] ["lines","flow","route","amount"] (j4 (top 42)):=by constructor<;>first |rfl|decide +kernel
include B in
theorem bR3(F:FM K mg "sent" 42 f fd):Cal P w K mg base "sent" 2 4 ag2:=
 mkO (g:=aZ7) F ax6 (fun _ _ _ _ _ _=>b4 fun _ _ _ _=>rfl) (fun _ _ _ _ _ _ hr=>(j8 (au9 4 ax6.nd (aU3 boot_list rfl B.list (c9 (d7 1) d9))) (j8 (Z7 PassesOwn.never rfl (K3 (d7 2)) (K9 5 6 rfl (y0 ax6.nd (i:=5) rfl (by first |exact Or.inl rfl|exact Or.inr rfl)) (y0 ax6.nd (i:=6) rfl (by first |exact Or.inl rfl|exact Or.inr rfl))) (t7 (ai8 4 aL1 (d7 6) (al5 (U8 hr (g9 (g9 (d7 0) (d7 6)) d8) (d7 5)) (d7 3) (ah6 (d7 3)))))) (t7 (C5 (d7 4))))))
theorem F4:l0 ["floor","left","flow","giver","steps","takers","route","spares","amount"] ["floor","left"] (j4 (top 37)):=by constructor<;>first |rfl|decide +kernel
include B in
theorem aP4(c_first_above_nought:Cal P w K mg base "first_above_nought" 2 1 u0)(c_explored:Cal P w K mg base "explored" 3 3 P2)(c_route_to:Cal P w K mg base "route_to" 2 2 U5)(c_spare:Cal P w K mg base "spare" 2 3 N8)(c_sent:Cal P w K mg base "sent" 2 4 ag2)(F:FM K mg "whole_flow" 37 f fd):ba6 P w K mg base "whole_flow" 4 2 C0:=
 co5 (g:=ak4) F F4 (fun _ _ _ _ _ _=>b2 fun _ _=>rfl) (fun _ _ _ _ _ _ hr=>(j8 (z0 2 F4.nd (M7 (is:=[0]) ["line"] 1 [] rfl rfl (K3 (g9 (d7 0) d8)) rfl (fun _ _ _ _ _=>(w6 0 (show(["line"]:List Str).Nodup by decide +kernel))) (fun _ _ _ _ _=>A6) (fun _ _ _ _ _=>d8))) (j8 (au8 3 F4.nd (k8 c_first_above_nought hr (by decide) rfl (c9 (d7 1) d9))) (j8 (aq8 al8 PassesOwn.never (aU4 (d7 3) V1) (j8 (z0 4 F4.nd (k8 c_explored hr (by decide) rfl (c9 (g9 (d7 0) d8) (c9 (d7 2) (c9 (d7 3) d9))))) (j8 (bj2 5 (is:=[0]) ["place","left"] 1 [1] F4.nd rfl rfl (K3 (aG0 rfl rfl B.sorted (c9 (d7 4) d9))) rfl (fun _ _ _ _ _=>(w6 0 (show(["place","left"]:List Str).Nodup by decide +kernel))) (fun _ _ _ _ _=>(al4 (aU5 (g9 (d7 1) (d7 0)) d8))) (fun _ _ _ _ _=>(d7 0))) (j8 (K2 (V3 (be0 (d7 5))) (t7 (C5 (m9 (c9 N4 (c9 (aG0 rfl rfl B.sorted (c9 (d7 4) d9)) d9))))) L6) (j8 (z0 6 F4.nd (k8 c_route_to hr (by decide) rfl (c9 (d7 4) (c9 (g9 (d7 5) d8) d9)))) (j8 (bs2 7 (is:=[0,1]) ["place","number","flow","floor"] 2 [2,0] F4.nd rfl rfl (K3 (d7 6)) rfl (fun _ _ _ _ _=>(K9 0 1 rfl (y0 (show(["place","number","flow","floor"]:List Str).Nodup by decide +kernel) (i:=0) rfl (by first |exact Or.inl rfl|exact Or.inr rfl)) (y0 (show(["place","number","flow","floor"]:List Str).Nodup by decide +kernel) (i:=1) rfl (by first |exact Or.inl rfl|exact Or.inr rfl)))) (fun _ _ _ _ _=>A6) (fun _ _ _ _ _=>(k8 c_spare hr (by decide) rfl (c9 (g9 (g9 (d7 3) d8) (d7 1)) (c9 (g9 (d7 2) (d7 1)) (c9 (d7 0) d9)))))) (j8 (au8 8 F4.nd (bE0 rfl rfl B.min (c9 (F5 (t5 (c9 (g9 (d7 1) (d7 3)) (c9 (ah6 (g9 (d7 1) (g9 (d7 5) d8))) d9))) (d7 7)) d9))) (j8 (z0 2 F4.nd (k8 c_sent hr (by decide) rfl (c9 (g9 (d7 0) d8) (c9 (d7 2) (c9 (d7 6) (c9 (d7 8) d9)))))) (j8 (ai8 1 bg6 (d7 3) (d7 8)) (j8 (ai8 1 aL1 (g9 (d7 5) d8) (d7 8)) (t7 (au8 3 F4.nd (k8 c_first_above_nought hr (by decide) rfl (c9 (d7 1) d9)))))))))))))) (t7 (C5 (m9 (c9 N4 (c9 (d7 2) d9)))))))))
theorem aB7:l0 ["row","length"] ["row","length"] (j4 (top 44)):=by constructor<;>first |rfl|decide +kernel
include B in
theorem aC5(c_is_fraction:Cal P w K mg base "is_fraction" 3 1 B8)(F:FM K mg "are_fractions" 44 f fd):Cal P w K mg base "are_fractions" 4 2 A3:=
 mkT (g:=ad0) F aB7 (fun _ _ _ _ _ _=>b2 fun _ _=>rfl) (fun _ _ _ _ _ _ hr=>(Wd.run (k9 (m8 (A4 (V2 .list rfl B.isinstance rfl B.list boot_list (d7 0)) (A4 (Y3 hr (L5 rfl B.len (c9 (d7 0) d9)) (d7 1)) (N5 (X9 rfl rfl B.all (c9 (M7 (is:=[0]) ["thing"] 1 [] rfl rfl (K3 (d7 0)) rfl (fun _ _ _ _ _=>(w6 0 (show(["thing"]:List Str).Nodup by decide +kernel))) (fun _ _ _ _ _=>A6) (fun _ _ _ _ _=>(k8 c_is_fraction hr (by decide) rfl (c9 (d7 0) d9)))) d9)))))))))
theorem aT1:l0 ["floor","double"] ["floor","double"] (j4 (top 43)):=by constructor<;>first |rfl|decide +kernel
include B in
theorem aV6(c_is_pair:Cal P w K mg base "is_pair" 2 1 K6)(c_are_fractions:Cal P w K mg base "are_fractions" 4 2 A3)(F:FM K mg "is_double" 43 f fd):Cal P w K mg base "is_double" 5 2 D5:=
 mkT (g:=ae8) F aT1 (fun _ _ _ _ _ _=>b2 fun _ _=>rfl) (fun _ _ _ _ _ _ hr=>(Wd.run (k9 (m8 (A4 (k8 c_is_pair hr (by decide) rfl (c9 (d7 1) d9)) (N5 (X9 rfl rfl B.all (c9 (M7 (is:=[0]) ["row","floor"] 1 [0] rfl rfl (ai5 (d7 1)) rfl (fun _ _ _ _ _=>(w6 0 (show(["row","floor"]:List Str).Nodup by decide +kernel))) (fun _ _ _ _ _=>A6) (fun _ _ _ _ _=>(k8 c_are_fractions hr (by decide) rfl (c9 (d7 0) (c9 (L5 rfl B.len (c9 (g9 (d7 1) d8) d9)) d9))))) d9))))))))
theorem aI7:l0 ["ware","place"] ["ware","place"] (j4 (top 46)):=by constructor<;>first |rfl|decide +kernel
include C in
theorem aJ8(F:FM K mg "wanted_gain" 46 f fd):Cal P w K mg base "wanted_gain" 2 2 M5:=
 mkT (g:=ag7) F aI7 (fun _ _ _ _ _ _=>b2 fun _ _=>rfl) (fun _ _ _ _ _ _ hr=>(Wd.run (v5 (Q8 (U8 hr (d7 1) (g9 (d7 0) d8)) (k9 (m8 (m9 (c9 (ah6 (g9 (d7 0) d8)) (c9 d8 d9))))) O0) (k9 (m8 (al5 (U8 hr (d7 1) (g9 (d7 0) d8)) (m9 (c9 (g9 (d7 0) d8) (c9 d8 d9))) (aT9 rfl C.NOUGHT)))))))
theorem aB6:l0 ["floor","ware","row"] ["floor","ware","row"] (j4 (top 45)):=by constructor<;>first |rfl|decide +kernel
include B in
theorem aC4(c_gain:Cal P w K mg base "gain" 6 3 ak8)(c_wanted_gain:Cal P w K mg base "wanted_gain" 2 2 M5)(F:FM K mg "brings_wanted" 45 f fd):Cal P w K mg base "brings_wanted" 7 3 E5:=
 mkT (g:=ac9) F aB6 (fun _ _ _ _ _ _=>b3 fun _ _ _=>rfl) (fun _ _ _ _ _ _ hr=>(Wd.run (k9 (m8 (X9 rfl rfl B.all (c9 (M7 (is:=[0]) ["place","row","ware","floor"] 1 [2,1,0] rfl rfl (T5 rfl B.range (c9 (g9 (d7 0) d8) d9)) rfl (fun _ _ _ _ _=>(w6 0 (show(["place","row","ware","floor"]:List Str).Nodup by decide +kernel))) (fun _ _ _ _ _=>A6) (fun _ _ _ _ _=>(Y3 hr (k8 c_gain hr (by decide) rfl (c9 (g9 (d7 3) d8) (c9 (d7 1) (c9 (d7 0) d9)))) (k8 c_wanted_gain hr (by decide) rfl (c9 (d7 2) (c9 (d7 0) d9)))))) d9))))))
theorem aF4:l0 ["amount"] ["amount"] (j4 (top 48)):=by constructor<;>first |rfl|decide +kernel
include B in
theorem aG2(F:FM K mg "without_turn" 48 f fd):Cal P w K mg base "without_turn" 2 1 J4:=
 mkT (g:=ap7) F aF4 (fun _ _ _ _ _ _=>b1 fun _=>rfl) (fun _ _ _ _ _ _ hr=>(Wd.run (k9 (m8 (m9 (c9 (ay1 rfl B.abs (c9 (g9 (d7 0) d8) d9)) (c9 (g9 (d7 0) d8) d9)))))))
theorem ab9:l0 ["floor","double","loads"] ["floor","double"] (j4 (top 47)):=by constructor<;>first |rfl|decide +kernel
include B in
theorem ar0(c_plus:Cal P w K mg base "plus" 4 2 P1)(c_without_turn:Cal P w K mg base "without_turn" 2 1 J4)(c_is_more:Cal P w K mg base "is_more" 2 2 X5)(F:FM K mg "has_room_for_both" 47 f fd):Cal P w K mg base "has_room_for_both" 5 2 D7:=
 mkT (g:=V8) F ab9 (fun _ _ _ _ _ _=>b2 fun _ _=>rfl) (fun _ _ _ _ _ _ hr=>(Wd.run (v5 (aJ3 2 (is:=[0,1]) ["one","other"] 2 [] ab9.nd rfl rfl (W6 rfl B.zip (c9 (g9 (d7 1) d8) (c9 (g9 (d7 1) d8) d9))) rfl (fun _ _ _ _ _=>(K9 0 1 rfl (y0 (show(["one","other"]:List Str).Nodup by decide +kernel) (i:=0) rfl (by first |exact Or.inl rfl|exact Or.inr rfl)) (y0 (show(["one","other"]:List Str).Nodup by decide +kernel) (i:=1) rfl (by first |exact Or.inl rfl|exact Or.inr rfl)))) (fun _ _ _ _ _=>A6) (fun _ _ _ _ _=>(k8 c_plus hr (by decide) rfl (c9 (k8 c_without_turn hr (by decide) rfl (c9 (d7 0) d9)) (c9 (k8 c_without_turn hr (by decide) rfl (c9 (d7 1) d9)) d9))))) (k9 (m8 (bd7 (bd8 rfl rfl B.any (c9 (M7 (is:=[0,1]) ["load","line"] 2 [] rfl rfl (W6 rfl B.zip (c9 (d7 2) (c9 (g9 (d7 0) d8) d9))) rfl (fun _ _ _ _ _=>(K9 0 1 rfl (y0 (show(["load","line"]:List Str).Nodup by decide +kernel) (i:=0) rfl (by first |exact Or.inl rfl|exact Or.inr rfl)) (y0 (show(["load","line"]:List Str).Nodup by decide +kernel) (i:=1) rfl (by first |exact Or.inl rfl|exact Or.inr rfl)))) (fun _ _ _ _ _=>A6) (fun _ _ _ _ _=>(k8 c_is_more hr (by decide) rfl (c9 (by exact(d7 0)) (by exact(c9 (by exact(m9 (c9 (g9 (d7 1) d8) (c9 d8 d9)))) (by exact d9))))))) d9))))))))
theorem br0:l0 ["floor","cut"] ["floor","cut"] (j4 (top 49)):=by constructor<;>first |rfl|decide +kernel
include B in
theorem bv1(c_is_within:Cal P w K mg base "is_within" 3 3 B6)(F:FM K mg "is_cut" 49 f fd):Cal P w K mg base "is_cut" 4 2 J9:=
 mkT (g:=ak6) F br0 (fun _ _ _ _ _ _=>b2 fun _ _=>rfl) (fun _ _ _ _ _ _ hr=>(Wd.run (k9 (m8 (A4 (V2 .list rfl B.isinstance rfl B.list boot_list (d7 1)) (A4 (X9 rfl rfl B.all (c9 (M7 (is:=[0]) ["place","floor"] 1 [0] rfl rfl (K3 (d7 1)) rfl (fun _ _ _ _ _=>(w6 0 (show(["place","floor"]:List Str).Nodup by decide +kernel))) (fun _ _ _ _ _=>A6) (fun _ _ _ _ _=>(k8 c_is_within hr (by decide) rfl (c9 (d7 0) (c9 d8 (c9 (aa9 (g9 (d7 1) d8) d8) d9)))))) d9)) (N5 (X9 rfl rfl B.all (c9 (M7 (is:=[0,1]) ["place","later"] 2 [] rfl rfl (W6 rfl B.zip (c9 (d7 1) (c9 (ao4 1 none (d7 1) (.inl ao7) aj0) d9))) rfl (fun _ _ _ _ _=>(K9 0 1 rfl (y0 (show(["place","later"]:List Str).Nodup by decide +kernel) (i:=0) rfl (by first |exact Or.inl rfl|exact Or.inr rfl)) (y0 (show(["place","later"]:List Str).Nodup by decide +kernel) (i:=1) rfl (by first |exact Or.inl rfl|exact Or.inr rfl)))) (fun _ _ _ _ _=>A6) (fun _ _ _ _ _=>(ao2 (d7 0) (d7 1)))) d9)))))))))
theorem aP1:l0 ["trips","cut"] ["trips","cut"] (j4 (top 50)):=by constructor<;>first |rfl|decide +kernel
include B in
theorem aP5(F:FM K mg "parted_sum" 50 f fd):Cal P w K mg base "parted_sum" 2 2 J8:=
 mkT (g:=ak5) F aP1 (fun _ _ _ _ _ _=>b2 fun _ _=>rfl) (fun _ _ _ _ _ _ hr=>(Wd.run (k9 (m8 (aC1 rfl rfl B.sum (c9 (M7 (is:=[0]) ["trip","cut"] 1 [1] rfl rfl (K3 (d7 0)) rfl (fun _ _ _ _ _=>(w6 0 (show(["trip","cut"]:List Str).Nodup by decide +kernel))) (fun _ _ _ _ _=>(al4 (U7 hr (ao3 (g9 (d7 0) d8) (d7 1)) (ao3 (g9 (d7 0) d8) (d7 1))))) (fun _ _ _ _ _=>(g9 (d7 0) d8))) d9))))))
theorem aP2:l0 ["floor","one","other"] ["floor","one","other"] (j4 (top 32)):=by constructor<;>first |rfl|decide +kernel
include Z in
theorem aP6(c_is_floor:Cal P w K mg base "is_floor" 6 1 J2)(c_is_ware:Cal P w K mg base "is_ware" 5 2 K5)(F:FM K mg "need_floor" 32 f fd):Q1 P w K mg base "need_floor" 7 3 u7:=
 mkR (g:=S4) F aP2 (fun _ _ _ _ _ _=>b3 fun _ _ _=>rfl) (fun _ _ _ _ _ _ hr=>(an8 (bX1 (Wd.run (V3 (ah0 (ad7 (N6 (k8 c_is_floor hr (by decide) rfl (c9 (d7 0) d9))) (ad7 (N6 (k8 c_is_ware hr (by decide) rfl (c9 (d7 0) (c9 (d7 1) d9)))) (al6 (N6 (k8 c_is_ware hr (by decide) rfl (c9 (d7 0) (c9 (d7 2) d9)))))))))) (an8 (br1 Z.BadFloor PySem.F.excBase_ValueError rfl)) bO5)))
theorem ac0:l0 ["floor","one","other","along","against","half_sums","half_gaps"] ["floor","one","other"] (j4 (top 29)):=by constructor<;>first |rfl|decide +kernel
include B in
theorem bl0(c_need_floor:Q1 P w K mg base "need_floor" 7 3 u7)(c_whole_flow:ba6 P w K mg base "whole_flow" 4 2 C0)(c_supplies:ba5 P w K mg base "supplies" 2 3 F6)(c_reduced:Cal P w K mg base "reduced" 3 2 K4)(F:FM K mg "both_go" 29 f fd):Q1 P w K mg base "both_go" 8 3 C9:=
 mkR (g:=am3) F ac0 (fun _ _ _ _ _ _=>b3 fun _ _ _=>rfl) (fun _ _ _ _ _ _ hr=>(T4 (aB8 (an9 c_need_floor aJ6 hr (by decide) rfl (Wd.run (c9 (d7 0) (c9 (d7 1) (c9 (d7 2) d9)))))) (T4 (T0 (Wd.run (D6 3 ac0.nd (aU2 c_whole_flow hr (by decide) rfl (d7 0) (aU1 c_supplies hr (by decide) rfl (c9 (d7 0) (c9 (d7 1) (c9 (d7 2) d9)))))))) (T4 (T0 (Wd.run (Q8 (U8 hr (g9 (d7 3) d8) N4) (k9 (m8 (d7 3))) O0))) (T4 (T0 (Wd.run (D6 4 ac0.nd (aU2 c_whole_flow hr (by decide) rfl (d7 0) (aU1 c_supplies hr (by decide) rfl (c9 (by exact(d7 0)) (by exact(c9 (by exact(d7 1)) (by exact(c9 (by exact(m9 (c9 (g9 (d7 2) d8) (c9 (g9 (d7 2) d8) (c9 (g9 (d7 2) d8) d9))))) (by exact d9))))))))))) (T4 (T0 (Wd.run (Q8 (U8 hr (g9 (d7 4) d8) N4) (k9 (m8 (d7 4))) O0))) (T4 (T0 (Wd.run (aJ3 5 (is:=[0,1]) ["amount","back"] 2 [] ac0.nd rfl rfl (W6 rfl B.zip (c9 (g9 (d7 3) d8) (c9 (g9 (d7 4) d8) d9))) rfl (fun _ _ _ _ _=>(K9 0 1 rfl (y0 (show(["amount","back"]:List Str).Nodup by decide +kernel) (i:=0) rfl (by first |exact Or.inl rfl|exact Or.inr rfl)) (y0 (show(["amount","back"]:List Str).Nodup by decide +kernel) (i:=1) rfl (by first |exact Or.inl rfl|exact Or.inr rfl)))) (fun _ _ _ _ _=>A6) (fun _ _ _ _ _=>(k8 c_reduced hr (by decide) rfl (c9 (F5 (d7 0) (d7 1)) (c9 d8 d9))))))) (T4 (T0 (Wd.run (aJ3 6 (is:=[0,1]) ["amount","back"] 2 [] ac0.nd rfl rfl (W6 rfl B.zip (c9 (g9 (d7 3) d8) (c9 (g9 (d7 4) d8) d9))) rfl (fun _ _ _ _ _=>(K9 0 1 rfl (y0 (show(["amount","back"]:List Str).Nodup by decide +kernel) (i:=0) rfl (by first |exact Or.inl rfl|exact Or.inr rfl)) (y0 (show(["amount","back"]:List Str).Nodup by decide +kernel) (i:=1) rfl (by first |exact Or.inl rfl|exact Or.inr rfl)))) (fun _ _ _ _ _=>A6) (fun _ _ _ _ _=>(k8 c_reduced hr (by decide) rfl (c9 (aa9 (d7 0) (d7 1)) (c9 d8 d9))))))) (an8 (T0 (Wd.run (m8 (m9 (c9 (by exact N4) (by exact(c9 (by exact(m9 (c9 (d7 5) (c9 (d7 6) d9)))) (by exact d9)))))))))))))))))
theorem aI9:l0 ["floor","one","other","double"] ["floor","one","other","double"] (j4 (top 30)):=by constructor<;>first |rfl|decide +kernel
theorem aK0(c_need_floor:Q1 P w K mg base "need_floor" 7 3 u7)(c_is_double:Cal P w K mg base "is_double" 5 2 D5)(c_brings_wanted:Cal P w K mg base "brings_wanted" 7 3 E5)(c_has_room_for_both:Cal P w K mg base "has_room_for_both" 5 2 D7)(F:FM K mg "double_goes" 30 f fd):Q1 P w K mg base "double_goes" 8 4 t8:=
 mkR (g:=V0) F aI9 (fun _ _ _ _ _ _=>b4 fun _ _ _ _=>rfl) (fun _ _ _ _ _ _ hr=>(T4 (aB8 (an9 c_need_floor aJ6 hr (by decide) rfl (Wd.run (c9 (d7 0) (c9 (d7 1) (c9 (d7 2) d9)))))) (an8 (T0 (Wd.run (m8 (A4 (k8 c_is_double hr (by decide) rfl (c9 (d7 0) (c9 (d7 3) d9))) (A4 (k8 c_brings_wanted hr (by decide) rfl (c9 (d7 0) (c9 (d7 1) (c9 (g9 (d7 3) d8) d9)))) (A4 (k8 c_brings_wanted hr (by decide) rfl (c9 (d7 0) (c9 (d7 2) (c9 (g9 (d7 3) d8) d9)))) (N5 (k8 c_has_room_for_both hr (by decide) rfl (c9 (d7 0) (c9 (d7 3) d9)))))))))))))
theorem bb0:l0 ["floor","one","other","cut"] ["floor","one","other","cut"] (j4 (top 31)):=by constructor<;>first |rfl|decide +kernel
theorem bb9(c_need_floor:Q1 P w K mg base "need_floor" 7 3 u7)(c_is_cut:Cal P w K mg base "is_cut" 4 2 J9)(c_parted_sum:Cal P w K mg base "parted_sum" 2 2 J8)(F:FM K mg "cut_bars" 31 f fd):Q1 P w K mg base "cut_bars" 8 4 v9:=
 mkR (g:=ah4) F bb0 (fun _ _ _ _ _ _=>b4 fun _ _ _ _=>rfl) (fun _ _ _ _ _ _ hr=>(T4 (aB8 (an9 c_need_floor aJ6 hr (by decide) rfl (Wd.run (c9 (d7 0) (c9 (d7 1) (c9 (d7 2) d9)))))) (an8 (T0 (Wd.run (m8 (A4 (k8 c_is_cut hr (by decide) rfl (c9 (d7 0) (c9 (d7 3) d9))) (N5 (ao2 (k8 c_parted_sum hr (by decide) rfl (c9 (g9 (d7 0) d8) (c9 (d7 3) d9))) (k8 c_parted_sum hr (by decide) rfl (c9 (by exact(t5 (c9 (d7 1) (c9 (d7 2) d9)))) (by exact(c9 (by exact(d7 3)) (by exact d9))))))))))))))
theorem bq9:l0 ["_law_script","_law_k"] ["_law_script","_law_k"] (j4 (top 52)):=by constructor<;>first |rfl|decide +kernel
include B in
theorem bu9(F:FM K mg "_law_cell" 52 f fd):Cal P w K mg base "_law_cell" 2 2 aa5:=
 mkT (g:=aE6) F bq9 (fun _ _ _ _ _ _=>b2 fun _ _=>rfl) (fun _ _ _ _ _ _ hr=>(Wd.run (v5 (Q8 (U8 hr (d7 0) (t5 d9)) (k9 (m8 (D4 (d7 1) d8))) O0) (k9 (m8 (F5 (g9 (d7 0) (B1 (d7 1) (L5 rfl B.len (c9 (d7 0) d9)))) (D4 (B9 (d7 1) (L5 rfl B.len (c9 (d7 0) d9))) d8)))))))
theorem aF5:l0 ["_law_cell_here","_law_k","_law_more"] ["_law_cell_here","_law_k"] (j4 (top 53)):=by constructor<;>first |rfl|decide +kernel
theorem bk3(F:FM K mg "_law_drawn" 53 f fd):Cal P w K mg base "_law_drawn" 2 2 E8:=
 mkT (g:=aw8) F aF5 (fun _ _ _ _ _ _=>b2 fun _ _=>rfl) (fun _ _ _ _ _ _ hr=>(Wd.run (v5 (D6 2 aF5.nd (B1 (F5 (D4 (d7 0) d8) (D4 (F5 (d7 1) d8) d8)) d8)) (k9 (m8 (B1 (D4 (d7 2) (d7 2)) d8))))))
theorem au6:l0 ["_law_top","_law_under_here","_law_one","_law_other"] ["_law_top","_law_under_here"] (j4 (top 56)):=by constructor<;>first |rfl|decide +kernel
include B in
theorem bu5(F:FM K mg "_law_made" 56 f fd):Cal P w K mg base "_law_made" 2 2 X3:=
 mkT (g:=aE2) F au6 (fun _ _ _ _ _ _=>b2 fun _ _=>rfl) (fun _ _ _ _ _ _ hr=>(Wd.run (v5 (aT8 2 3 rfl au6.nd (c9 (ay1 rfl B.abs (c9 (d7 0) d9)) (c9 (d7 1) d9))) (v5 (aF9 aA2 PassesOwn.never (aU6 (d7 3) d8) (k9 (aT8 2 3 rfl au6.nd (c9 (d7 3) (c9 (B1 (d7 2) (d7 3)) d9))))) (k9 (m8 (m9 (c9 (B9 (d7 0) (d7 2)) (c9 (B9 (d7 1) (d7 2)) d9)))))))))
theorem bq8:l0 ["_law_one","_law_other"] ["_law_one","_law_other"] (j4 (top 57)):=by constructor<;>first |rfl|decide +kernel
theorem bu4(c_w_made:Cal P w K mg base "_law_made" 2 2 X3)(F:FM K mg "_law_plus" 57 f fd):Cal P w K mg base "_law_plus" 3 2 C8:=
 mkT (g:=aE1) F bq8 (fun _ _ _ _ _ _=>b2 fun _ _=>rfl) (fun _ _ _ _ _ _ hr=>(Wd.run (k9 (m8 (k8 c_w_made hr (by decide) rfl (c9 (F5 (D4 (g9 (d7 0) d8) (g9 (d7 1) d8)) (D4 (g9 (d7 1) d8) (g9 (d7 0) d8))) (c9 (D4 (g9 (d7 0) d8) (g9 (d7 1) d8)) d9)))))))
theorem bh8:l0 ["_law_one","_law_other"] ["_law_one","_law_other"] (j4 (top 58)):=by constructor<;>first |rfl|decide +kernel
theorem bk1(c_w_made:Cal P w K mg base "_law_made" 2 2 X3)(F:FM K mg "_law_times" 58 f fd):Cal P w K mg base "_law_times" 3 2 N3:=
 mkT (g:=aw6) F bh8 (fun _ _ _ _ _ _=>b2 fun _ _=>rfl) (fun _ _ _ _ _ _ hr=>(Wd.run (k9 (m8 (k8 c_w_made hr (by decide) rfl (c9 (D4 (g9 (d7 0) d8) (g9 (d7 1) d8)) (c9 (D4 (g9 (d7 0) d8) (g9 (d7 1) d8)) d9)))))))
theorem bh7:l0 ["_law_one","_law_other"] ["_law_one","_law_other"] (j4 (top 60)):=by constructor<;>first |rfl|decide +kernel
theorem bk0(F:FM K mg "_law_under" 60 f fd):Cal P w K mg base "_law_under" 2 2 S6:=
 mkT (g:=aw5) F bh7 (fun _ _ _ _ _ _=>b2 fun _ _=>rfl) (fun _ _ _ _ _ _ hr=>(Wd.run (k9 (m8 (ao2 (D4 (g9 (d7 0) d8) (g9 (d7 1) d8)) (D4 (g9 (d7 1) d8) (g9 (d7 0) d8)))))))
theorem X8:l0 ["_law_more","_law_places","_law_lines","_law_one","_law_other","_law_here"] ["_law_more"] (j4 (top 62)):=by constructor<;>first |rfl|decide +kernel
include B in
theorem bk2(c_w_drawn:Cal P w K mg base "_law_drawn" 2 2 E8)(F:FM K mg "_law_floor" 62 f fd):Cal P w K mg base "_law_floor" 3 1 X4:=
 mkO (g:=aw7) F X8 (fun _ _ _ _ _ _=>b1 fun _=>rfl) (fun _ _ _ _ _ _ hr=>(j8 (z0 1 X8.nd (F5 d8 (B1 (d7 0) d8))) (j8 (aU7 2 X8.nd) (j8 (Z7 PassesOwn.never rfl (T5 rfl B.range (c9 (d7 1) d9)) (w6 3 X8.nd) (t7 (Z7 PassesOwn.never rfl (bb3 rfl B.range (c9 (F5 (d7 3) d8) (c9 (d7 1) d9))) (w6 4 X8.nd) (j8 (z0 5 X8.nd (k8 c_w_drawn hr (by decide) rfl (c9 (d7 0) (c9 (F5 (D4 d8 (d7 3)) (d7 4)) d9)))) (t7 (K2 (ah0 (ad7 (aU5 (B1 (d7 5) d8) (F5 d8 (B1 (B9 (d7 0) d8) d8))) (al6 (aU5 (L5 rfl B.len (c9 (d7 2) d9)) d8)))) (t7 (ad8 2 (m9 (c9 (by exact(d7 3)) (by exact(c9 (by exact(d7 4)) (by exact(c9 (by exact(F5 d8 (B1 (B9 (d7 5) d8) (g9 (t5 (c9 d8 (c9 d8 d9))) (B1 (B9 (d7 0) d8) d8))))) (by exact d9))))))))) L6)))))) (t7 (C5 (m9 (c9 (d7 1) (c9 (d7 2) d9)))))))))
theorem aM2:l0 ["_law_more","_law_places","_law_first"] ["_law_more","_law_places"] (j4 (top 63)):=by constructor<;>first |rfl|decide +kernel
theorem bu3(F:FM K mg "_law_ware" 63 f fd):Cal P w K mg base "_law_ware" 2 2 U4:=
 mkT (g:=aE0) F aM2 (fun _ _ _ _ _ _=>b2 fun _ _=>rfl) (fun _ _ _ _ _ _ hr=>(Wd.run (v5 (D6 2 aM2.nd (B1 (d7 0) (d7 1))) (k9 (m8 (m9 (c9 (by exact(d7 2)) (by exact(c9 (by exact(B1 (F5 (F5 (d7 2) d8) (B1 (B9 (d7 0) d8) (aa9 (d7 1) d8))) (d7 1))) (by exact(c9 (by exact(B1 (B9 (d7 0) d8) (g9 (t5 (c9 d8 (c9 d8 (c9 d8 d9)))) (B1 (B9 (d7 0) d8) d8)))) (by exact d9))))))))))))
theorem af2:l0 ["_law_floor_here","_law_row","_law_place","_law_found","_law_much","_law_line"] ["_law_floor_here","_law_row","_law_place"] (j4 (top 64)):=by constructor<;>first |rfl|decide +kernel
include B in
theorem bu6(c_w_plus:Cal P w K mg base "_law_plus" 3 2 C8)(c_w_times:Cal P w K mg base "_law_times" 3 2 N3)(F:FM K mg "_law_left" 64 f fd):Cal P w K mg base "_law_left" 4 3 aa4:=
 mkT (g:=aE3) F af2 (fun _ _ _ _ _ _=>b3 fun _ _ _=>rfl) (fun _ _ _ _ _ _ hr=>(Wd.run (v5 (D6 3 af2.nd (m9 (c9 d8 (c9 d8 d9)))) (v5 (Z4 PassesOwn.never rfl (W6 rfl B.zip (c9 (d7 1) (c9 (g9 (d7 0) d8) d9))) (K9 4 5 rfl (y0 af2.nd (i:=4) rfl (by first |exact Or.inl rfl|exact Or.inr rfl)) (y0 af2.nd (i:=5) rfl (by first |exact Or.inl rfl|exact Or.inr rfl))) (k9 (D6 3 af2.nd (k8 c_w_plus hr (by decide) rfl (c9 (by exact(d7 3)) (by exact(c9 (by exact(k8 c_w_times hr (by decide) rfl (c9 (by exact(d7 4)) (by exact(c9 (by exact(m9 (c9 (aa9 (af3 rfl B.int (c9 (Y3 hr (g9 (d7 5) d8) (d7 2)) d9)) (af3 rfl B.int (c9 (Y3 hr (g9 (d7 5) d8) (d7 2)) d9))) (c9 d8 d9)))) (by exact d9)))))) (by exact d9)))))))) (k9 (m8 (d7 3)))))))
theorem S5:l0 ["_law_floor_here","_law_one","_law_other","_law_double","_law_ware_here","_law_row","_law_place","_law_due","_law_line","_law_a","_law_b"] ["_law_floor_here","_law_one","_law_other","_law_double"] (j4 (top 65)):=by constructor<;>first |rfl|decide +kernel
include B in
theorem bu7(c_w_left:Cal P w K mg base "_law_left" 4 3 aa4)(c_w_under:Cal P w K mg base "_law_under" 2 2 S6)(c_w_plus:Cal P w K mg base "_law_plus" 3 2 C8)(F:FM K mg "_law_goes" 65 f fd):Cal P w K mg base "_law_goes" 5 4 J7:=
 mkT (g:=aE4) F S5 (fun _ _ _ _ _ _=>b4 fun _ _ _ _=>rfl) (fun _ _ _ _ _ _ hr=>(Wd.run (v5 (Z4 PassesOwn.never rfl (br9 rfl B.zip (c9 (m9 (c9 (d7 1) (c9 (d7 2) d9))) (c9 (d7 3) d9))) (K9 4 5 rfl (y0 S5.nd (i:=4) rfl (by first |exact Or.inl rfl|exact Or.inr rfl)) (y0 S5.nd (i:=5) rfl (by first |exact Or.inl rfl|exact Or.inr rfl))) (v5 (Q8 (U7 hr (L5 rfl B.len (c9 (d7 5) d9)) (L5 rfl B.len (c9 (g9 (d7 0) d8) d9))) (k9 (m8 M1)) O0) (k9 (Z4 PassesOwn.never rfl (T5 rfl B.range (c9 (g9 (d7 0) d8) d9)) (w6 6 S5.nd) (v5 (D6 7 S5.nd (D4 (g9 (d7 4) d8) (aa9 (af3 rfl B.int (c9 (Y3 hr (d7 6) (g9 (d7 4) d8)) d9)) (af3 rfl B.int (c9 (Y3 hr (d7 6) (g9 (d7 4) d8)) d9))))) (k9 (Q8 (U7 hr (k8 c_w_left hr (by decide) rfl (c9 (d7 0) (c9 (d7 5) (c9 (d7 6) d9)))) (m9 (c9 (d7 7) (c9 d8 d9)))) (k9 (m8 M1)) O0))))))) (v5 (Z4 PassesOwn.never rfl (bs0 rfl B.zip (c9 (g9 (d7 0) d8) (c9 (g9 (d7 3) d8) (c9 (g9 (d7 3) d8) d9)))) (bi9 8 9 10 rfl (y0 S5.nd (i:=8) rfl (by first |exact Or.inl rfl|exact Or.inr rfl)) (y0 S5.nd (i:=9) rfl (by first |exact Or.inl rfl|exact Or.inr rfl)) (y0 S5.nd (i:=10) rfl (by first |exact Or.inl rfl|exact Or.inr rfl))) (k9 (Q8 (N6 (k8 c_w_under hr (by decide) rfl (c9 (by exact(m9 (c9 (g9 (d7 8) d8) (c9 d8 d9)))) (by exact(c9 (by exact(k8 c_w_plus hr (by decide) rfl (c9 (by exact(m9 (c9 (ay1 rfl B.abs (c9 (g9 (d7 9) d8) d9)) (c9 (g9 (d7 9) d8) d9)))) (by exact(c9 (by exact(m9 (c9 (ay1 rfl B.abs (c9 (g9 (d7 10) d8) d9)) (c9 (g9 (d7 10) d8) d9)))) (by exact d9)))))) (by exact d9)))))) (k9 (m8 M1)) O0))) (k9 (m8 M1))))))
theorem aM3:l0 ["_law_floor_here","_law_one","_law_other","_law_cut","_law_room"] ["_law_floor_here","_law_one","_law_other","_law_cut"] (j4 (top 66)):=by constructor<;>first |rfl|decide +kernel
include B in
theorem bv0(F:FM K mg "_law_bars" 66 f fd):Cal P w K mg base "_law_bars" 2 4 E9:=
 mkT (g:=aE7) F aM3 (fun _ _ _ _ _ _=>b4 fun _ _ _ _=>rfl) (fun _ _ _ _ _ _ hr=>(Wd.run (v5 (D6 4 aM3.nd (aC1 rfl rfl B.sum (c9 (M7 (is:=[0]) ["_law_line","_law_cut"] 1 [3] rfl rfl (K3 (g9 (d7 0) d8)) rfl (fun _ _ _ _ _=>(w6 0 (show(["_law_line","_law_cut"]:List Str).Nodup by decide +kernel))) (fun _ _ _ _ _=>(al4 (U7 hr (ao3 (g9 (d7 0) d8) (d7 1)) (ao3 (g9 (d7 0) d8) (d7 1))))) (fun _ _ _ _ _=>(g9 (d7 0) d8))) d9))) (k9 (m8 (ao2 (d7 4) (aC1 rfl rfl B.sum (c9 (M7 (is:=[0]) ["_law_ware_here","_law_cut"] 1 [3] rfl rfl (ai5 (m9 (c9 (d7 1) (c9 (d7 2) d9)))) rfl (fun _ _ _ _ _=>(w6 0 (show(["_law_ware_here","_law_cut"]:List Str).Nodup by decide +kernel))) (fun _ _ _ _ _=>(al4 (U7 hr (ao3 (g9 (d7 0) d8) (d7 1)) (ao3 (g9 (d7 0) d8) (d7 1))))) (fun _ _ _ _ _=>(g9 (d7 0) d8))) d9))))))))
theorem al1:l0 ["_law_places","_law_found","_law_place"] ["_law_places"] (j4 (top 67)):=by constructor<;>first |rfl|decide +kernel
include B in
theorem bu8(F:FM K mg "_law_cuts" 67 f fd):Cal P w K mg base "_law_cuts" 2 1 M6:=
 mkT (g:=aE5) F al1 (fun _ _ _ _ _ _=>b1 fun _=>rfl) (fun _ _ _ _ _ _ hr=>(Wd.run (v5 (D6 1 al1.nd (t5 (c9 (by exact(t5 d9)) (by exact d9)))) (v5 (Z4 PassesOwn.never rfl (T5 rfl B.range (c9 (d7 0) d9)) (w6 2 al1.nd) (k9 (D6 1 al1.nd (F5 (d7 1) (M7 (is:=[0]) ["_law_cut","_law_place"] 1 [2] rfl rfl (K3 (d7 1)) rfl (fun _ _ _ _ _=>(w6 0 (show(["_law_cut","_law_place"]:List Str).Nodup by decide +kernel))) (fun _ _ _ _ _=>A6) (fun _ _ _ _ _=>(F5 (d7 0) (t5 (c9 (d7 1) d9))))))))) (k9 (m8 (d7 1)))))))
theorem A9:l0 ["_law_floor_here","_law_one","_law_other","_law_more","_law_told_here","_law_cuts_here","_law_j","_law_here","_law_cut","_law_found","_law_rows","_law_at","_law_change","_law_bent","_law_odd"] ["_law_floor_here","_law_one","_law_other","_law_more"] (j4 (top 68)):=by constructor<;>first |rfl|decide +kernel
include B in
theorem az9(c_both_go:Q1 P w K mg base "both_go" 8 3 C9)(c_w_cuts:Cal P w K mg base "_law_cuts" 2 1 M6)(c_w_drawn:Cal P w K mg base "_law_drawn" 2 2 E8)(c_cut_bars:Q1 P w K mg base "cut_bars" 8 4 v9)(c_w_bars:Cal P w K mg base "_law_bars" 2 4 E9)(c_w_plus:Cal P w K mg base "_law_plus" 3 2 C8)(c_double_goes:Q1 P w K mg base "double_goes" 8 4 t8)(c_w_goes:Cal P w K mg base "_law_goes" 5 4 J7)(F:FM K mg "_law_looked_right" 68 f fd):Cal P w K mg base "_law_looked_right" 9 4 E7:=
 mkO (g:=U2) F A9 (fun _ _ _ _ _ _=>b4 fun _ _ _ _=>rfl) (fun _ _ _ _ _ _ hr=>(j8 (z0 4 A9.nd (Z6 c_both_go hr (by decide) rfl (c9 (d7 0) (c9 (d7 1) (c9 (d7 2) d9))))) (j8 (z0 5 A9.nd (k8 c_w_cuts hr (by decide) rfl (c9 (g9 (d7 0) d8) d9))) (j8 (Z7 PassesOwn.never rfl (T5 rfl B.range (c9 d8 d9)) (w6 6 A9.nd) (j8 (z0 7 A9.nd (k8 c_w_drawn hr (by decide) rfl (c9 (d7 3) (c9 (F5 d8 (d7 6)) d9)))) (j8 (z0 8 A9.nd (g9 (d7 5) (B1 (d7 7) (L5 rfl B.len (c9 (d7 5) d9))))) (j8 (z0 9 A9.nd (Z6 c_cut_bars hr (by decide) rfl (c9 (d7 0) (c9 (d7 1) (c9 (d7 2) (c9 (d7 8) d9)))))) (j8 (K2 (ah0 (ah7 (V3 (N6 (V2 .bool rfl B.isinstance rfl B.bool boot_bool (d7 9)))) (ai7 (U7 hr (d7 9) (k8 c_w_bars hr (by decide) rfl (c9 (d7 0) (c9 (d7 1) (c9 (d7 2) (c9 (d7 8) d9))))))))) (t7 (C5 M1)) L6) (t7 (K2 (ah0 (ad7 (U8 hr (g9 (d7 4) d8) N4) (al6 (U7 hr (g9 (d7 0) d8) (t5 d9))))) (bs3 10 11 12 (is:=[0]) ["_law_row"] 1 [] A9.nd ce3 rfl rfl (ai5 (g9 (d7 4) d8)) rfl (fun _ _ _ _ _=>(w6 0 (show(["_law_row"]:List Str).Nodup by decide +kernel))) (fun _ _ _ _ _=>A6) (fun _ _ _ _ _=>(aU3 boot_list rfl B.list (c9 (d7 0) d9))) (B1 (B9 (d7 7) d8) (L5 rfl B.len (c9 (g9 (d7 0) d8) d9))) (g9 (t5 (c9 (by exact(m9 (c9 d8 (c9 d8 d9)))) (by exact(c9 (by exact(m9 (c9 (ah6 d8) (c9 d8 d9)))) (by exact(c9 (by exact(m9 (c9 d8 (c9 d8 d9)))) (by exact(c9 (by exact(m9 (c9 d8 (c9 d8 d9)))) (by exact d9))))))))) (B1 (B9 (d7 7) d8) d8)) (k8 c_w_plus hr (by decide) rfl (c9 (g9 (g9 (d7 10) (B1 (d7 7) d8)) (d7 11)) (c9 (d7 12) d9))) (B1 (d7 7) d8) (d7 11) (j8 (z0 13 A9.nd (g9 (t5 (c9 (by exact(m9 (c9 (g9 (d7 10) d8) (c9 (g9 (d7 10) d8) d9)))) (by exact(c9 (by exact(m9 (c9 (g9 (d7 10) d8) (c9 (g9 (d7 10) d8) d9)))) (by exact d9))))) (B1 (B9 (d7 7) (ao1 d8 d8)) d8))) (t7 (K2 (U7 hr (Z6 c_double_goes hr (by decide) rfl (c9 (d7 0) (c9 (d7 1) (c9 (d7 2) (c9 (d7 13) d9))))) (k8 c_w_goes hr (by decide) rfl (c9 (d7 0) (c9 (d7 1) (c9 (d7 2) (c9 (d7 13) d9)))))) (t7 (C5 M1)) L6)))) L6))))))) (j8 (z0 14 A9.nd (t5 (c9 (by exact V1) (by exact(c9 (by exact(m9 (c9 (by exact(t5 d9)) (by exact(c9 (by exact(t5 d9)) (by exact(c9 (by exact(t5 d9)) (by exact d9)))))))) (by exact(c9 (by exact(m9 (c9 (by exact(t5 (c9 V1 d9))) (by exact(c9 (by exact(t5 (c9 V1 d9))) (by exact d9)))))) (by exact(c9 (by exact(m9 (c9 (by exact(D4 (t5 (c9 (by exact(m9 (c9 d8 (c9 d8 d9)))) (by exact d9))) d8)) (by exact(c9 (by exact(t5 d9)) (by exact d9)))))) (by exact(c9 (by exact(t5 (c9 (by exact(t5 d9)) (by exact(c9 (by exact(t5 d9)) (by exact d9)))))) (by exact d9)))))))))))) (j8 (K2 (aC2 (Z6 c_double_goes hr (by decide) rfl (c9 (d7 0) (c9 (d7 1) (c9 (d7 2) (c9 (g9 (d7 14) (B1 (d7 3) d8)) d9)))))) (t7 (C5 M1)) L6) (t7 (C5 (bP3 (Z6 c_cut_bars hr (by decide) rfl (c9 (by exact(d7 0)) (by exact(c9 (by exact(d7 1)) (by exact(c9 (by exact(d7 2)) (by exact(c9 (by exact(g9 (t5 (c9 (by exact V1) (by exact(c9 (by exact(t5 (c9 d8 d9))) (by exact(c9 (by exact(t5 (c9 d8 (c9 d8 d9)))) (by exact(c9 (by exact(t5 (c9 d8 (c9 d8 d9)))) (by exact(c9 (by exact(m9 (c9 d8 d9))) (by exact(c9 (by exact(t5 (c9 M1 d9))) (by exact d9))))))))))))) (B1 (B9 (d7 3) d8) d8))) (by exact d9))))))))))))))))))
theorem Q5:l0 ["_law_script","_law_k","_law_more","_law_floor_here","_law_one","_law_other","_law_told_here","_law_barred","_law_bad","_law_none","_law_odd","_law_some"] ["_law_script"] (j4 (top 69)):=by constructor<;>first |rfl|decide +kernel
include B in
theorem cf3{f:Addr}{c:Addr}{A:Around}{outer:List Env}{s:Shared}{H:Hp}{E:XK}{wd:Addr->Str->Prop}(Te:aI2 P w K mg base "_law_told" wd)(hcdI:W.codeHdIn K c 400=true)(c_w_drawn:Cal P w K mg base "_law_drawn" 2 2 E8)(c_w_cell:Cal P w K mg base "_law_cell" 2 2 aa5)(c_w_floor:Cal P w K mg base "_law_floor" 3 1 X4)(c_w_ware:Cal P w K mg base "_law_ware" 2 2 U4)(c_both_go:Q1 P w K mg base "both_go" 8 3 C9)(c_w_cuts:Cal P w K mg base "_law_cuts" 2 1 M6)(c_w_bars:Cal P w K mg base "_law_bars" 2 4 E9)(c_cut_bars:Q1 P w K mg base "cut_bars" 8 4 v9)(c_w_goes:Cal P w K mg base "_law_goes" 5 4 J7)(c_double_goes:Q1 P w K mg base "double_goes" 8 4 t8)(c_w_looked_right:Cal P w K mg base "_law_looked_right" 9 4 E7)(hr:B7 11 (A.deeper (envOfC "law" (j4 (top 69)) s.heap.objs.size f (.ref c)))):V7 ((w4 CX0 P w K mg base ["_law_script","_law_k","_law_more","_law_floor_here","_law_one","_law_other","_law_told_here","_law_barred","_law_bad","_law_none","_law_odd","_law_some"] "law" (j4 (top 69)) f (.ref c) A outer s H E).nox) [] [] (A7 (top 69)) aQ9:=by
 have hp:((400:Addr),("law.<locals>.<lambda>":Str))∈Z2:=by decide +kernel
 have hq:(("law":Str)++".<locals>.")++"<lambda>"="law.<locals>.<lambda>":=by decide +kernel
 exact(j8 (Z7 PassesOwn.never rfl (T5 rfl B.range (c9 (bP0 rfl rfl B.max (c9 d8 (c9 (bO9 rfl rfl B.min (c9 d8 (c9 (L5 rfl B.len (c9 (d7 0) d9)) d9))) d9))) d9)) (w6 1 Q5.nd) (bs8 11 (j8 (z0 2 Q5.nd (k8 c_w_drawn hr (by decide) rfl (c9 (k8 c_w_cell hr (by decide) rfl (c9 (d7 0) (c9 (d7 1) d9))) (c9 (d7 1) d9)))) (j8 (z0 3 Q5.nd (k8 c_w_floor hr (by decide) rfl (c9 (d7 2) d9))) (j8 (z0 4 Q5.nd (k8 c_w_ware hr (by decide) rfl (c9 (B9 (d7 2) d8) (c9 (g9 (d7 3) d8) d9)))) (j8 (z0 5 Q5.nd (k8 c_w_ware hr (by decide) rfl (c9 (B9 (d7 2) (ao1 d8 d8)) (c9 (g9 (d7 3) d8) d9)))) (j8 (z0 6 Q5.nd (ai6 ["_law_floor_here","_law_one","_law_other"] [3,4,5] Te hr (by decide) rfl hp hq rfl hcdI rfl rfl (fun _ _ _ _ _=>rfl) c_both_go rfl (fun _ _ _ _ _ _ _=>(c9 (d7 0) (c9 (d7 1) (c9 (d7 2) d9)))))) (j8 (K2 (ah0 (ah7 (V3 (N6 (V2 .tuple rfl B.isinstance rfl B.tuple boot_tuple (d7 6)))) (ai7 (U7 hr (L5 rfl B.len (c9 (d7 6) d9)) d8)))) (t7 (C5 M1)) L6) (j8 (z0 7 Q5.nd (bd8 rfl rfl B.any (c9 (M7 (is:=[0]) ["_law_cut","_law_floor_here","_law_one","_law_other"] 1 [3,4,5] rfl rfl (K3 (k8 c_w_cuts hr (by decide) rfl (c9 (g9 (d7 3) d8) d9))) rfl (fun _ _ _ _ _=>(w6 0 (show(["_law_cut","_law_floor_here","_law_one","_law_other"]:List Str).Nodup by decide +kernel))) (fun _ _ _ _ _=>A6) (fun _ _ _ _ _=>(k8 c_w_bars hr (by decide) rfl (c9 (d7 1) (c9 (d7 2) (c9 (d7 3) (c9 (d7 0) d9))))))) d9))) (j8 (K2 (U8 hr (g9 (d7 6) d8) N4) (j8 (K2 (ah0 (ah7 (V3 (N6 (d7 7))) (ai7 (V3 (N6 (k8 c_w_bars hr (by decide) rfl (c9 (d7 3) (c9 (d7 4) (c9 (d7 5) (c9 (g9 (d7 6) d8) d9)))))))))) (t7 (C5 M1)) L6) (t7 (K2 (aC2 (Z6 c_cut_bars hr (by decide) rfl (c9 (d7 3) (c9 (d7 4) (c9 (d7 5) (c9 (g9 (d7 6) d8) d9)))))) (t7 (C5 M1)) L6))) (t7 (K2 (ah0 (ah7 (U7 hr (g9 (d7 6) d8) N4) (ah7 (N6 (d7 7)) (ai7 (V3 (N6 (k8 c_w_goes hr (by decide) rfl (c9 (d7 3) (c9 (d7 4) (c9 (d7 5) (c9 (g9 (d7 6) d8) d9))))))))))) (t7 (C5 M1)) (t7 (K2 (V3 (N6 (X9 rfl rfl B.all (c9 (M7 (is:=[0]) ["_law_row"] 1 [] rfl rfl (ai5 (g9 (d7 6) d8)) rfl (fun _ _ _ _ _=>(w6 0 (show(["_law_row"]:List Str).Nodup by decide +kernel))) (fun _ _ _ _ _=>A6) (fun _ _ _ _ _=>(X9 rfl rfl B.all (c9 (M7 (is:=[0]) ["_law_much"] 1 [] rfl rfl (K3 (d7 0)) rfl (fun _ _ _ _ _=>(w6 0 (show(["_law_much"]:List Str).Nodup by decide +kernel))) (fun _ _ _ _ _=>A6) (fun _ _ _ _ _=>(ao2 (g9 (d7 0) d8) d8))) d9)))) d9)))) (t7 (C5 M1)) (t7 (K2 (aC2 (Z6 c_double_goes hr (by decide) rfl (c9 (d7 3) (c9 (d7 4) (c9 (d7 5) (c9 (g9 (d7 6) d8) d9)))))) (t7 (C5 M1)) L6))))))) (j8 (K2 (V3 (N6 (k8 c_w_looked_right hr (by decide) rfl (c9 (d7 3) (c9 (d7 4) (c9 (d7 5) (c9 (B9 (d7 2) (ao1 d8 d8)) d9))))))) (t7 (C5 M1)) L6) (j8 (z0 8 Q5.nd (t5 (c9 (by exact(m9 (c9 (by exact d8) (by exact(c9 (by exact(t5 d9)) (by exact d9)))))) (by exact(c9 (by exact(m9 (c9 (by exact d8) (by exact(c9 (by exact(t5 d9)) (by exact d9)))))) (by exact(c9 (by exact(m9 (c9 (by exact d8) (by exact(c9 (by exact(t5 (c9 (by exact(m9 (c9 d8 (c9 d8 (c9 d8 d9))))) (by exact d9)))) (by exact d9)))))) (by exact(c9 (by exact(m9 (c9 (by exact d8) (by exact(c9 (by exact(t5 (c9 (by exact(m9 (c9 d8 (c9 d8 (c9 d8 d9))))) (by exact d9)))) (by exact d9)))))) (by exact d9)))))))))) (j8 (z0 8 Q5.nd (F5 (d7 8) (t5 (c9 (by exact(m9 (c9 (by exact d8) (by exact(c9 (by exact(t5 (c9 (by exact(m9 (c9 d8 (c9 d8 (c9 d8 d9))))) (by exact(c9 (by exact(m9 (c9 d8 (c9 d8 (c9 d8 d9))))) (by exact d9)))))) (by exact d9)))))) (by exact(c9 (by exact(m9 (c9 (by exact d8) (by exact(c9 (by exact(t5 (c9 (by exact(t5 (c9 d8 (c9 d8 (c9 d8 d9))))) (by exact d9)))) (by exact d9)))))) (by exact(c9 (by exact(m9 (c9 (by exact d8) (by exact(c9 (by exact(t5 (c9 (by exact(m9 (c9 d8 (c9 d8 (c9 d8 d9))))) (by exact d9)))) (by exact d9)))))) (by exact d9))))))))) (j8 (z0 9 Q5.nd (g9 (d7 8) (B1 (B9 (d7 2) (ao1 d8 d8)) d8))) (j8 (z0 10 Q5.nd (g9 (t5 (c9 (by exact(m9 (c9 d8 (c9 d8 (c9 d8 d9))))) (by exact(c9 (by exact(m9 (c9 d8 (c9 d8 (c9 (ah6 d8) d9))))) (by exact(c9 (by exact(m9 (c9 d8 (c9 d8 (c9 d8 d9))))) (by exact(c9 (by exact(m9 (c9 d8 (c9 d8 (c9 d8 d9))))) (by exact(c9 (by exact(m9 (c9 d8 (c9 d8 d9)))) (by exact(c9 (by exact(t5 (c9 d8 (c9 d8 (c9 d8 d9))))) (by exact d9))))))))))))) (B1 (B9 (d7 2) (ao1 d8 d8)) d8))) (j8 (au9 11 Q5.nd (bd9 (c9 (by exact(ai6 ["_law_none"] [9] Te hr (by decide) rfl hp hq rfl hcdI rfl rfl (fun _ _ _ _ _=>rfl) c_both_go rfl (fun _ _ _ _ _ _ _=>(c9 (by exact(d7 0)) (by exact(c9 (by exact(m9 (c9 d8 (c9 d8 (c9 d8 d9))))) (by exact(c9 (by exact(m9 (c9 d8 (c9 d8 (c9 d8 d9))))) (by exact d9))))))))) (by exact d9)))) (j8 (ad8 11 (ai6 ["_law_floor_here","_law_odd","_law_other"] [3,10,5] Te hr (by decide) rfl hp hq rfl hcdI rfl rfl (fun _ _ _ _ _=>rfl) c_both_go rfl (fun _ _ _ _ _ _ _=>(c9 (d7 0) (c9 (d7 1) (c9 (d7 2) d9)))))) (j8 (ad8 11 (ai6 ["_law_floor_here","_law_one","_law_odd"] [3,4,10] Te hr (by decide) rfl hp hq rfl hcdI rfl rfl (fun _ _ _ _ _=>rfl) c_double_goes rfl (fun _ _ _ _ _ _ _=>(c9 (d7 0) (c9 (d7 1) (c9 (d7 2) (c9 V1 d9))))))) (j8 (ad8 11 (ai6 ["_law_floor_here","_law_odd","_law_one"] [3,10,4] Te hr (by decide) rfl hp hq rfl hcdI rfl rfl (fun _ _ _ _ _=>rfl) c_cut_bars rfl (fun _ _ _ _ _ _ _=>(c9 (d7 0) (c9 (d7 1) (c9 (d7 2) (c9 V1 d9))))))) (t7 (K2 (U7 hr (d7 11) (D4 (t5 (c9 N4 d9)) d8)) (t7 (C5 M1)) L6))))))))))))))))))))) (t7 (C5 M1)))
end
structure bo4(K:W.Frag)(mg:Str->Option Value)(D:Addr)(b1 b2 b3 bv:Bool):Prop where
 look:az8 K D
 net:∃C,mg "BadNet"=some (.ref C)/\W.kitOne K (.ref D) (.ref C)=some b1
 flow:∃C,mg "BadFlow"=some (.ref C)/\W.kitOne K (.ref D) (.ref C)=some b2
 floor:∃C,mg "BadFloor"=some (.ref C)/\W.kitOne K (.ref D) (.ref C)=some b3
 val:W.kitOne K (.ref D) (.type "ValueError")=some bv
noncomputable def bm2(x:Nat)(b1 b2 b3 bv:Bool):GS:=
 j6 (k7 1 (o6 [aK5 x b1 (d0 0),aK5 x b2 (d0 0),aK5 x b3 (d0 0)]))
  (j6 (sIf (bOr (bOf (g2 bm7 (gN aH5 [o0 (itL (d0 1)) 1 [] (stN 0) B3 (gN ae2 [d0 0])]) (gC (.int 1)))) (J3 (bOf (aK5 x bv (d0 0))))) (m6 (gC (.str "other"))) o7)
   (m6 (g2 e9 (o6 [gC (.str "BadNet"),gC (.str "BadFlow"),gC (.str "BadFloor")]) (g1 aK6 (d0 1)))))
theorem aI0:bootBuiltins "ValueError"=some (.type "ValueError"):=by with_unfolding_all rfl
theorem bd0:l0 ["_law_e","_law_flags"] ["_law_e"] (j4 (top 54)):=⟨rfl,rfl,rfl,by decide +kernel,rfl,by decide +kernel,by decide +kernel⟩
section
variable {P:Program}{w:World}{K:W.Frag}{mg:Str->Option Value}{base:Heap}(B:Blt mg)
include B in
theorem bV2{CX:CXT}{f:Addr}{cdv:Value}{A:Around}{outer:List Env}{s:Shared}{H:Hp}{E:XK}{x D:Addr}{o:Obj}{b1 b2 b3 bv:Bool}(hx:HX x {w4 CX P w K mg base ["_law_e","_law_flags"] "_law_word" (j4 (top 54)) f cdv A outer s H E with calm:=false})
  (ho:s.heap.get? x=some o) (hc:o.cls=.ref D) (hd:o.dict=none) (hn:W.notCls o=true) (Y:bo4 K mg D b1 b2 b3 bv):
  ag5 {w4 CX P w K mg base ["_law_e","_law_flags"] "_law_word" (j4 (top 54)) f cdv A outer s H E with calm:=false} (A7 (top 54)) (bm2 x b1 b2 b3 bv):=by
 obtain⟨L,⟨C1,m1,k1⟩,⟨C2,m2,k2⟩,⟨C3,m3,k3⟩,kv⟩:=Y;exact Wd.run (v5 (D6 1 bd0.nd (t5 (c9 (ay0 hx ho hc hd L hn rfl B.isinstance (ao8 (v:=.ref C1) rfl m1 rfl) (fun _ h=>h) k1 (d7 0))
   (c9 (ay0 hx ho hc hd L hn rfl B.isinstance (ao8 (v:=.ref C2) rfl m2 rfl) (fun _ h=>h) k2 (d7 0))
   (c9 (ay0 hx ho hc hd L hn rfl B.isinstance (ao8 (v:=.ref C3) rfl m3 rfl) (fun _ h=>h) k3 (d7 0)) d9))) (show 3<=lim by decide)))
  (v5 (Q8 (ah0 (ah7 (bP4 (bD9 hx rfl B.sum (c9 (bP2 (is:=[0]) hx ["_law_flag"] 1 [] rfl (bt0 (Wd.run (d7 1))) rfl (fun _ _ _ _ _=>w6 0 (show(["_law_flag"]:List Str).Nodup by decide +kernel)) (fun _ _ _ _ _=>A6) (fun _ _ _ _ _=>af3 rfl B.int (c9 (d7 0) d9))) d9)) d8)
    (ai7 (V3 (N6 (ay0 hx ho hc hd L hn rfl B.isinstance (be4 (v:=.ty "ValueError") rfl B.ValueError aI0 rfl) (fun _ h=>h) kv (d7 0))))))) (k9 (m8 N4)) O0)
  (k9 (m8 (g9 (t5 (c9 N4 (c9 N4 (c9 N4 d9)))) (bj0 (d7 1)))))))
theorem bg9(x:Nat):av3 (bm2 x false false true true (l9 2 [.ref x]))=some (.str "BadFloor"):=by
 simp[bm2,j6,k7,o6,gs,aK5,d0,L3.l9,av3,sIf,bOr,bOf,g2,gN,o0,itL,toL,R9,O2,L3.stN,B3,ae2,aH5,W0,bm7,toB,J3,o7,m6,gC,g1,aK6,ag0,e9,ixT,lim];rfl
end
noncomputable def wdK(K:PySem.W.Frag)(mg:Str->Option Value)(W:Addr)(D:Addr)(c:Str):Prop:=
 (c="BadFloor"/\bo4 K mg D false false true true)/\PySem.W.exmOne K (.ref D) (.ref W)=some true
section
variable {P:Program}{w:World}{K:W.Frag}{mg:Str->Option Value}{base:Heap}(B:Blt mg)
include B in
theorem bN6{fwd W:Addr}{fdW:FuncData}(F:Fun K "_law_word" "_law_word" (top 54) fwd fdW):bJ5 P w K mg base fwd (wdK K mg W):=by
 intro A outer s H G ea D c o Q E hh hdp e0 ho hc hd hn L hun hnf sG ⟨hw,_⟩ q;have bT:Z1 K fdW ["_law_e"] []:=F.binds fun _ _ _ _ _ _ us hl=>match us,hl with |[_],_=>rfl
 have KX:K.In s.heap:=e0.mod.kin.keeps fun b o e=>(e0.bs b o e).1
 have rr:j5 K G [.ref ea] [.ref ea]:=j5.cons (by simp[Rep]) j5.nil;obtain⟨rfl,Y⟩:=hw;exact ce2 (b:=false) (us:=[.ref ea]) (vs:=[.ref ea]) F bd0 (fun z=>by cases z) hdp e0 (bT s [.ref ea] KX rfl) (.cons rfl .nil) (by decide) (fun cdv=>bV2 B (HX.start hh L hun hnf) ho hc hd hn Y) sG rr rfl (bg9 ea) q
theorem bO3:l0 ["_law_deed","_law_e"] ["_law_deed"] (j4 (top 55)):=⟨rfl,rfl,rfl,by decide +kernel,rfl,by decide +kernel,by decide +kernel⟩
include B in
theorem bq0{ft fwd W:Addr}{fdT fdW:FuncData}(FT:Fun K "_law_told" "_law_told" (top 55) ft fdT)(mT:mg "_law_told"=some (.ref ft))(FW:Fun K "_law_word" "_law_word" (top 54) fwd fdW)(mF:mg "_law_word"=some (.ref fwd))(mW:mg "WareError"=some (.ref W))
  (hc:∀c∈as4,∃D,mg c=some (.ref D)/\wdK K mg W D c) (bm:BM mg base):aI2 P w K mg base "_law_told" (wdK K mg W) where
 ex:=⟨top 55,ft,W,fwd,fdT,"_law_deed","_law_e","WareError","_law_word",_,_,_,_,_,_,_,_,_,_,FT,mT,bO3,FT.binds fun _ _ _ _ _ _ us hl=>match us,hl with |[_],_=>rfl,rfl,rfl,rfl,rfl,rfl,mW,mF,FW.kp,bN6 B FW,fun D c h=>h.2,by decide +kernel,by decide +kernel,by decide +kernel,by decide +kernel,by decide +kernel,by decide +kernel⟩
 cls:=hc
 bm:=bm
end
end Sw
namespace L3
open PySem
theorem n8(k n:Nat)(b:GS)(ts:List T)(h:ts.length=k):u9 k n b ts=av3 (b (l9 n ts)):=by unfold u9;rw[cx8 h]
@[simp] theorem jn{α:Type}(x:α):(some (some x):Option (Option α)).join=some x:=rfl
@[simp] theorem gVar_ap(i:Nat)(ρ:j9):d0 i ρ=(ρ[i]?).join:=rfl
@[simp] theorem gC_ap(t:T)(ρ:j9):gC t ρ=some t:=rfl
@[simp] theorem g1_ap(f:T->Option T)(a:G)(ρ:j9):g1 f a ρ=(a ρ).bind f:=rfl
@[simp] theorem g2_ap(f:T->T->Option T)(a b:G)(ρ:j9):g2 f a b ρ=(a ρ).bind fun x=>(b ρ).bind fun y=>f x y:=rfl
@[simp] theorem gs_nil(ρ:j9):gs [] ρ=some []:=rfl
@[simp] theorem gs_cons(a:G)(r:List G)(ρ:j9):gs (a::r) ρ=(a ρ).bind fun x=>(gs r ρ).bind fun xs=>some (x::xs):=rfl
@[simp] theorem gN_ap(f:List T->Option T)(as:List G)(ρ:j9):gN f as ρ=(gs as ρ).bind f:=rfl
@[simp] theorem gTup_ap(as:List G)(ρ:j9):m7 as ρ=(gs as ρ).bind fun xs=>some (.tup xs):=rfl
@[simp] theorem gLst_ap(as:List G)(ρ:j9):o6 as ρ=(gs as ρ).bind fun xs=>some (.lst xs):=rfl
@[simp] theorem bOf_ap(a:G)(ρ:j9):bOf a ρ=(a ρ).bind toB:=rfl
@[simp] theorem gAnd_ap(a b:G)(ρ:j9):J5 a b ρ=(bOf a ρ).bind fun c=>if c then b ρ else some (.bl false):=rfl
@[simp] theorem gOr_ap(a b:G)(ρ:j9):gOr a b ρ=(bOf a ρ).bind fun c=>if c then some (.bl true)else b ρ:=rfl
@[simp] theorem gNot_ap(a:G)(ρ:j9):bm3 a ρ=(bOf a ρ).bind fun c=>some (.bl !c):=rfl
@[simp] theorem bAnd_ap(a b:GB)(ρ:j9):V6 a b ρ=(a ρ).bind fun c=>if c then b ρ else some false:=rfl
@[simp] theorem bOr_ap(a b:GB)(ρ:j9):bOr a b ρ=(a ρ).bind fun c=>if c then some true else b ρ:=rfl
@[simp] theorem bNot_ap(a:GB)(ρ:j9):J3 a ρ=(a ρ).bind fun c=>some !c:=rfl
@[simp] theorem bYes_ap(ρ:j9):B3 ρ=some true:=rfl
@[simp] theorem gChain_ap(f f':T->T->Option T)(a b c:G)(ρ:j9):av8 f f' a b c ρ=(a ρ).bind fun x=>(b ρ).bind fun y=>((f x y).bind toB).bind fun k=>if k then(c ρ).bind fun z=>f' y z else some (.bl false):=rfl
@[simp] theorem toB_bl(b:Bool):toB (.bl b)=some b:=rfl
@[simp] theorem toL_lst(b:List T):toL (.lst b)=some b:=rfl
@[simp] theorem toI_int(b:Int):toI (.int b)=some b:=rfl
@[simp] theorem sNext_ap(ρ:j9):o7 ρ=some (.nx ρ):=rfl
@[simp] theorem sSet_ap(i:Nat)(g:G)(ρ:j9):k7 i g ρ=(g ρ).bind fun t=>some (.nx (ρ.set i (some t))):=rfl
@[simp] theorem sRet_ap(g:G)(ρ:j9):m6 g ρ=(g ρ).bind fun t=>some (.ret t):=rfl
@[simp] theorem sPar_ap(i j:Nat)(a b:G)(ρ:j9):aT2 i j a b ρ=(a ρ).bind fun x=>(b ρ).bind fun y=>some (.nx ((ρ.set i (some x)).set j (some y))):=rfl
@[simp] theorem sIf_ap(c:GB)(a b:GS)(ρ:j9):sIf c a b ρ=(c ρ).bind fun k=>if k then a ρ else b ρ:=rfl
theorem aJ0(a b:GS)(ρ:j9):j6 a b ρ=(a ρ).bind fun o=>match o with |.nx ρ'=>b ρ'|o=>some o:=rfl
theorem l8{a b:GS}{ρ ρ':j9}(h:a ρ=some (.nx ρ')):j6 a b ρ=b ρ':=by rw[aJ0,h];rfl
theorem W4{a b:GS}{ρ:j9}{t:T}(h:a ρ=some (.ret t)):j6 a b ρ=some (.ret t):=by rw[aJ0,h];rfl
@[simp] theorem sFor_ap(it:GL)(st:St1)(b:GS)(ρ:j9):N0 it st b ρ=(it ρ).bind fun xs=>u5 st b xs ρ:=rfl
@[simp] theorem itL_ap(g:G)(ρ:j9):itL g ρ=(g ρ).bind toL:=rfl
@[simp] theorem itZ_ap(a b:G)(ρ:j9):itZ a b ρ=(itL a ρ).bind fun xs=>(itL b ρ).bind fun ys=>some (A5 xs ys):=rfl
@[simp] theorem itE_ap(a:G)(ρ:j9):itE a ρ=(itL a ρ).bind fun xs=>some (P0 0 xs):=rfl
@[simp] theorem itR_ap(a:G)(ρ:j9):itR a ρ=((a ρ).bind toI).bind fun n=>if -lim<=n/\n<=lim then some (u8 0 n.toNat)else none:=rfl
@[simp] theorem stN_ap(i:Nat)(t:T)(ρ:j9):stN i t ρ=some (ρ.set i (some t)):=rfl
@[simp] theorem st2_ap(i j:Nat)(x y:T)(ρ:j9):st2 i j (.tup [x,y]) ρ=some ((ρ.set i (some x)).set j (some y)):=rfl
@[simp] theorem outT_ret(t:T):av3 (some (.ret t))=some t:=rfl
@[simp] theorem outT_nx(ρ:j9):av3 (some (.nx ρ))=some .non:=rfl
@[simp] theorem fAdd_int(i j:Int):D3 (.int i) (.int j)=some (.int (i+j)):=rfl
@[simp] theorem fSub_int(i j:Int):aa0 (.int i) (.int j)=some (.int (i-j)):=rfl
@[simp] theorem fNeg_int(i:Int):aa1 (.int i)=some (.int (-i)):=rfl
@[simp] theorem fLt_int(i j:Int):fLt (.int i) (.int j)=some (.bl (decide (i<j))):=rfl
@[simp] theorem fLe_int(i j:Int):fLe (.int i) (.int j)=some (.bl (decide (i<=j))):=rfl
@[simp] theorem fGt_int(i j:Int):fGt (.int i) (.int j)=some (.bl (decide (j<i))):=rfl
@[simp] theorem fGe_int(i j:Int):fGe (.int i) (.int j)=some (.bl (decide (j<=i))):=rfl
@[simp] theorem fEq_int(i j:Int):fEq (.int i) (.int j)=some (.bl (i==j)):=rfl
@[simp] theorem fNe_int(i j:Int):fNe (.int i) (.int j)=some (.bl !(i==j)):=rfl
@[simp] theorem fLen_tup(xs:List T):D0 [.tup xs]=some (.int xs.length):=rfl
@[simp] theorem fLen_lst(xs:List T):D0 [.lst xs]=some (.int xs.length):=rfl
@[simp] theorem fAbs_int(i:Int):as3 [.int i]=some (.int (if i<0 then -i else i)):=rfl
theorem T8{i j:Int}(h1:big i=true)(h2:big j=true):C6 (.int i) (.int j)=some (.int (i*j)):=by simp[C6,h1,h2]
theorem ai1{i j:Int}(h:sm j=true):C6 (.int i) (.int j)=some (.int (i*j)):=by simp[C6,h]
theorem as1{i j:Int}(h:sm i=true):C6 (.int i) (.int j)=some (.int (i*j)):=by simp[C6,h]
theorem aj8{i j:Int}(h1:0<j)(h2:big j=true):A8 (.int i) (.int j)=some (.int (i/j)):=by simp[A8,h1,h2]
theorem A0{i j:Int}(h1:0<j):v8 (.int i) (.int j)=some (.int (i%j)):=by simp[v8,h1]
@[simp] theorem fIsK_eq(k:Kd)(x:T):P7 k x=(isK k x).bind fun b=>some (.bl b):=rfl
theorem ae0{n i:Nat}(h:i<n):ixT n (i:Int)=some i:=by
 unfold ixT;rw[cx8 (by omega),cx8 (by omega)];simp
theorem aD0{xs:List T}{i:Nat}{t:T}(h:xs[i]?=some t):e9 (.tup xs) (.int (i:Int))=some t:=by
 have hl:i<xs.length:=by
  rcases Nat.lt_or_ge i xs.length with q|q
  ·exact q
  ·rw[ct9 q]at h;cases h
 show(ixT xs.length i).bind _=_;rw[ae0 hl];exact h
theorem ae1{xs:List T}{i:Nat}{t:T}(h:xs[i]?=some t):e9 (.lst xs) (.int (i:Int))=some t:=by
 have hl:i<xs.length:=by
  rcases Nat.lt_or_ge i xs.length with q|q
  ·exact q
  ·rw[ct9 q]at h;cases h
 show(ixT xs.length i).bind _=_;rw[ae0 hl];exact h
@[simp] theorem ix0(x:T)(r:List T):e9 (.tup (x::r)) (.int 0)=some x:=aD0 (i:=0) (by simp)
@[simp] theorem ix1(x y:T)(r:List T):e9 (.tup (x::y::r)) (.int 1)=some y:=aD0 (i:=1) (by simp)
@[simp] theorem ix2(x y z:T)(r:List T):e9 (.tup (x::y::z::r)) (.int 2)=some z:=aD0 (i:=2) (by simp)
theorem aD3(a b:Int):Int.gcd b (a%b)=Int.gcd a b:=by
 have e:a=b*(a/b)+a%b:=(Int.mul_ediv_add_emod a b).symm;apply Nat.dvd_antisymm
 ·have h1:((Int.gcd b (a%b):Nat):Int)∣b:=Int.gcd_dvd_left ..;have h2:((Int.gcd b (a%b):Nat):Int)∣a%b:=Int.gcd_dvd_right ..;have h3:((Int.gcd b (a%b):Nat):Int)∣a:=by
   have :=Int.dvd_add (Int.dvd_mul_of_dvd_left (c:=a/b) h1) h2;rwa[Int.mul_ediv_add_emod]at this
  exact Int.natCast_dvd_natCast.mp (Int.dvd_coe_gcd h3 h1)
 ·have h1:((Int.gcd a b:Nat):Int)∣a:=Int.gcd_dvd_left ..;have h2:((Int.gcd a b:Nat):Int)∣b:=Int.gcd_dvd_right ..;have h3:((Int.gcd a b:Nat):Int)∣a%b:=by
   rw[Int.emod_def];exact Int.dvd_sub h1 (Int.dvd_mul_of_dvd_left h2)
  exact Int.natCast_dvd_natCast.mp (Int.dvd_coe_gcd h2 h3)
noncomputable abbrev fr(n d:Int):T:=.tup [.int n,.int d]
noncomputable def nrm(n d:Int):T:=fr (n/Int.gcd n d) (d/Int.gcd n d)
theorem bM7:∀(k:Nat) (a b:Int) (z:Option T),0<=b->(b=0->0<=a)->b.natAbs<k->∃z',v6 (bOf (g2 fNe (d0 1) (gC (.int 0)))) (j6 (k7 2 (g2 v8 (d0 0) (d0 1))) (j6 (k7 0 (d0 1)) (k7 1 (d0 2)))) k [some (.int a),some (.int b),z]=some (.nx [some (.int (Int.gcd a b)),some (.int 0),z'])
 |0,a,b,z,_,_,h=>by omega
 |k+1,a,b,z,hb,ha,h=>by
  by_cases hz:b=0
  ·subst hz;refine⟨z,?_⟩;have :((Int.gcd a 0:Nat):Int)=a:=by rw[Int.gcd_zero_right];exact Int.natAbs_of_nonneg (ha rfl)
   rw[this];simp[v6]
  ·have hp:0<b:=by omega
   have hm1:=Int.emod_nonneg a (show b≠0 by omega);have hm2:=Int.emod_lt_of_pos a hp;obtain⟨z',ih⟩:=bM7 k b (a%b) (some (.int (a%b))) hm1 (fun _=>hb) (by omega);refine⟨z',?_⟩;have e:Int.gcd b (a%b)=Int.gcd a b:=by
    exact aD3 a b
   rw[e]at ih;rw[v6];simp only[bOf_ap,g2_ap,gVar_ap,gC_ap,ct6,ct7,jn,cx3,fNe_int,toB_bl];have :(!(b==0))=true:=by simpa using hz
   simp only[this,if_true];simp only[aJ0,sSet_ap,g2_ap,gVar_ap,ct6,ct7,jn,cx3,A0 hp,cw4,cw3];exact ih
theorem ch1{a b:Int}(hb:0<b):F0 [.int a,.int b]=some (.int (Int.gcd a b)):=by
 obtain⟨z',h⟩:=bM7 (b.natAbs+2) a b none (by omega) (by omega) (by omega);rw[F0,n8 2 _ _ _ rfl,aa3];rw[l8 (ρ':=[some (.int (Int.gcd a b)),some (.int 0),z'])]
 ·simp
 ·exact h
theorem S0{x:Int}{k:Nat}(h:x.natAbs<2^k)(hk:k<=4000):big x=true:=by
 unfold big;exact cx5 (cx0 h (Nat.pow_le_pow_right (by decide) hk))
theorem aK4{n d:Int}(hd:0<d):0<Int.gcd n d:=Int.gcd_pos_of_ne_zero_right n (by omega)
theorem bx4{n d:Int}(hd:0<d):(Int.gcd n d)<=d.natAbs:=Int.gcd_le_natAbs_right n (by omega)
theorem bv4{n d:Int}(hd:0<d):0<d/(Int.gcd n d:Int)/\Int.gcd (n/(Int.gcd n d:Int)) (d/(Int.gcd n d:Int))=1/\(n/(Int.gcd n d:Int)).natAbs<=n.natAbs/\(d/(Int.gcd n d:Int)).natAbs<=d.natAbs:=by
 have hg:=aK4 (n:=n) hd;have hg':(0:Int)<(Int.gcd n d:Int):=by omega
 refine⟨Int.ediv_pos_of_pos_of_dvd hd (by omega) (Int.gcd_dvd_right ..),?_,?_,?_⟩
 ·exact Int.gcd_ediv_gcd_ediv_gcd hg
 ·exact Int.natAbs_ediv_le_natAbs ..
 ·exact Int.natAbs_ediv_le_natAbs ..
noncomputable def Fz(k:Nat)(t:T):Prop:=∃n d:Int,t=fr n d/\0<d/\Int.gcd n d=1/\n.natAbs<2^k/\d.natAbs<2^k
theorem cf8{k:Nat}{n d:Int}(hd:0<d)(h1:n.natAbs<2^k)(h2:d.natAbs<2^k):Fz k (nrm n d):=by
 obtain⟨p1,p2,p3,p4⟩:=bv4 (n:=n) hd;exact⟨_,_,rfl,p1,p2,by omega,by omega⟩
theorem aV8{n d:Int}(h:Int.gcd n d=1):nrm n d=fr n d:=by
 unfold nrm;rw[h];simp
theorem bN3{n d:Int}{k:Nat}(hd:0<d)(h:d.natAbs<2^k)(hk:k<=4000):K4 [.int n,.int d]=some (nrm n d):=by
 rw[K4,n8 2 _ _ _ rfl,aw9];have hg:=aK4 (n:=n) hd;have hb:big ((Int.gcd n d:Nat):Int)=true:=S0 (k:=k) (by have :=bx4 (n:=n) hd;simp;omega) hk;have h0:(0:Int)<(Int.gcd n d:Int):=by omega
 rw[l8 (ρ':=[some (.int n),some (.int d),some (.int (Int.gcd n d))])]
 ·simp only[sRet_ap,gTup_ap,gs_cons,gs_nil,g2_ap,gVar_ap,ct6,ct7,jn,cx3,aj8 h0 hb,outT_ret];rfl
 ·simp only[sSet_ap,gN_ap,gs_cons,gs_nil,gVar_ap,l9,cv2,cv4,cu5,cu7,ct0,cw0,ct6,ct7,jn,cx3,ch1 hd];rfl
theorem ah1{x y k l:Nat}(h1:x<2^k)(h2:y<2^l):x*y<2^(k+l):=by
 rw[Nat.pow_add];exact Nat.mul_lt_mul'' h1 h2
noncomputable def av0:T->T->T
 |.tup [.int a,.int b],.tup [.int c,.int d]=>nrm (a*d+c*b) (b*d)
 |t,_=>t
theorem cg5{k l:Nat}{t u:T}(ht:Fz k t)(hu:Fz l u)(hkl:k+l+1<=4000):P1 [t,u]=some (av0 t u)/\Fz (k+l+1) (av0 t u):=by
 obtain⟨a,b,rfl,hb,_,ha',hb'⟩:=ht;obtain⟨c,d,rfl,hd,_,hc',hd'⟩:=hu;have B:∀{x:Int},x.natAbs<2^k->big x=true:=fun h=>S0 h (by omega)
 have C:∀{x:Int},x.natAbs<2^l->big x=true:=fun h=>S0 h (by omega)
 have p0:0<b*d:=Int.mul_pos hb hd;have e1:(a*d).natAbs<2^(k+l):=by rw[Int.natAbs_mul];exact ah1 ha' hd'
 have e2:(c*b).natAbs<2^(k+l):=by rw[Int.natAbs_mul,Nat.mul_comm];exact ah1 hb' hc'
 have e3:(b*d).natAbs<2^(k+l):=by rw[Int.natAbs_mul];exact ah1 hb' hd'
 have e4:(a*d+c*b).natAbs<2^(k+l+1):=by
  have :=Int.natAbs_add_le (a*d) (c*b);rw[Nat.pow_succ];omega
 have e5:(b*d).natAbs<2^(k+l+1):=by rw[Nat.pow_succ];omega
 refine⟨?_,cf8 p0 e4 e5⟩;rw[P1,n8 2 _ _ _ rfl,aZ8];simp only[sRet_ap,gN_ap,gs_cons,gs_nil,g2_ap,gC_ap,gVar_ap,l9,fr,cv2,cv4,cu5,cu7,ct0,cw0,ct6,ct7,jn,cx3,ix0,ix1,T8 (B ha') (C hd'),T8 (C hc') (B hb'),T8 (B hb') (C hd'),fAdd_int,bN3 p0 e5 hkl,outT_ret];rfl
theorem cf9{k:Nat}{n d:Int}(h:Fz k (fr n d)):Fz k (fr (-n) d):=by
 obtain⟨n',d',e,h1,h2,h3,h4⟩:=h;cases e;exact⟨_,_,rfl,h1,by simpa[Int.gcd]using h2,by omega,h4⟩
noncomputable def aU8:T->T
 |.tup [.int a,.int b]=>fr (-a) b
 |t=>t
theorem cr0{k l:Nat}{t u:T}(ht:Fz k t)(hu:Fz l u)(hkl:k+l+1<=4000):ab6 [t,u]=some (av0 t (aU8 u))/\Fz (k+l+1) (av0 t (aU8 u)):=by
 obtain⟨c,d,rfl,hd,hg,hc',hd'⟩:=id hu;have hn:=cf9 hu;obtain⟨h1,h2⟩:=cg5 ht hn hkl;refine⟨?_,h2⟩;rw[ab6,n8 2 _ _ _ rfl,aL5];simp only[sRet_ap,gN_ap,gs_cons,gs_nil,g2_ap,g1_ap,gTup_ap,gC_ap,gVar_ap,l9,fr,cv2,cv4,cu5,cu7,ct0,cw0,ct6,ct7,jn,cx3,ix0,ix1,fNeg_int,outT_ret];rw[show P1 [t,T.tup [T.int (-c),T.int d]]=_ from h1];rfl
theorem bM0:∀(k:Nat) (a b:Int) (x y:Option T),0<=b->0<=a->b.natAbs<k->v6 (bOf (g2 fGt (d0 3) (gC (.int 0)))) (aT2 2 3 (d0 3) (g2 v8 (d0 2) (d0 3))) k [x,y,some (.int a),some (.int b)]=some (.nx [x,y,some (.int (Int.gcd a b)),some (.int 0)])
 |0,a,b,x,y,_,_,h=>by omega
 |k+1,a,b,x,y,hb,ha,h=>by
  rw[v6];simp only[bOf_ap,g2_ap,gVar_ap,gC_ap,ct6,ct7,jn,cx3,fGt_int,toB_bl];by_cases hz:b=0
  ·subst hz;have :((Int.gcd a 0:Nat):Int)=a:=by rw[Int.gcd_zero_right];exact Int.natAbs_of_nonneg ha
   rw[this];simp
  ·have hp:0<b:=by omega
   have hm1:=Int.emod_nonneg a (show b≠0 by omega);have hm2:=Int.emod_lt_of_pos a hp;have ih:=bM0 k b (a%b) x y hm1 hb (by omega);rw[aD3]at ih;simp only[cx5 hp,if_true,sPar_ap,g2_ap,gVar_ap,ct6,ct7,jn,cx3,A0 hp,cw4,cw3];exact ih
theorem cg6{n d:Int}{k:Nat}(hd:0<d)(h:d.natAbs<2^k)(hk:k<=4000):X3 [.int n,.int d]=some (nrm n d):=by
 have hg:=aK4 (n:=n) hd;have hb:big ((Int.gcd n d:Nat):Int)=true:=S0 (k:=k) (by have :=bx4 (n:=n) hd;simp;omega) hk;have h0:(0:Int)<(Int.gcd n d:Int):=by omega
 have ea:Int.gcd (if n<0 then -n else n) d=Int.gcd n d:=by
  split
  ·simp[Int.gcd]
  ·rfl
 rw[X3,n8 2 _ _ _ rfl,aE2];rw[l8 (ρ':=[some (.int n),some (.int d),some (.int (if n<0 then -n else n)),some (.int d)])]
 ·rw[l8 (ρ':=[some (.int n),some (.int d),some (.int (Int.gcd n d)),some (.int 0)])]
  ·simp only[sRet_ap,gTup_ap,gs_cons,gs_nil,g2_ap,gVar_ap,ct6,ct7,jn,cx3,aj8 h0 hb,outT_ret];rfl
  ·have :=bM0 (d.natAbs+2) (if n<0 then -n else n) d (some (.int n)) (some (.int d)) (by omega) (by split<;>omega) (by omega);rw[ea]at this;exact this
 ·simp only[sPar_ap,gN_ap,gs_cons,gs_nil,gVar_ap,l9,cv2,cv4,cu5,cu7,ct0,cw0,ct6,ct7,jn,cx3,fAbs_int];rfl
theorem cm4{k l:Nat}{t u:T}(ht:Fz k t)(hu:Fz l u)(hkl:k+l+1<=4000):C8 [t,u]=some (av0 t u):=by
 obtain⟨a,b,rfl,hb,_,ha',hb'⟩:=ht;obtain⟨c,d,rfl,hd,_,hc',hd'⟩:=hu;have B:∀{x:Int},x.natAbs<2^k->big x=true:=fun h=>S0 h (by omega)
 have C:∀{x:Int},x.natAbs<2^l->big x=true:=fun h=>S0 h (by omega)
 have p0:0<b*d:=Int.mul_pos hb hd;have e3:(b*d).natAbs<2^(k+l):=by rw[Int.natAbs_mul];exact ah1 hb' hd'
 have e5:(b*d).natAbs<2^(k+l+1):=by rw[Nat.pow_succ];omega
 rw[C8,n8 2 _ _ _ rfl,aE1];simp only[sRet_ap,gN_ap,gs_cons,gs_nil,g2_ap,gC_ap,gVar_ap,l9,fr,cv2,cv4,cu5,cu7,ct0,cw0,ct6,ct7,jn,cx3,ix0,ix1,T8 (B ha') (C hd'),T8 (C hc') (B hb'),T8 (B hb') (C hd'),fAdd_int,cg6 p0 e5 hkl,outT_ret];rfl
theorem cm3{k:Nat}{t:T}(ht:Fz k t)(hk:k<=3000)(z:Int)(hz:z=0\/z=1\/z= -1):N3 [t,fr z 1]=some (if z=0 then fr 0 1 else if z=1 then t else aU8 t):=by
 obtain⟨a,b,rfl,hb,hg,ha',hb'⟩:=ht;have B:∀{x:Int},x.natAbs<2^k->big x=true:=fun h=>S0 h (by omega)
 have b1:big 1=true:=S0 (k:=1) (by decide) (by decide);have bz:big z=true:=by rcases hz with rfl|rfl|rfl<;>exact S0 (k:=1) (by decide) (by decide)
 rw[N3,n8 2 _ _ _ rfl,aw6];simp only[sRet_ap,gN_ap,gs_cons,gs_nil,g2_ap,gC_ap,gVar_ap,l9,fr,cv2,cv4,cu5,cu7,ct0,cw0,ct6,ct7,jn,cx3,ix0,ix1,T8 (B ha') bz,T8 (B hb') b1,Int.mul_one,cg6 hb hb' (by omega:k<=4000),outT_ret];rcases hz with rfl|rfl|rfl
 ·simp only[Int.mul_zero,if_true,nrm,Int.gcd_zero_left];have :((b.natAbs:Nat):Int)=b:=Int.natAbs_of_nonneg (by omega);rw[this,Int.ediv_self (by omega)];simp
 ·simp only[Int.mul_one,aV8 hg];rfl
 ·have e:Int.gcd (a* -1) b=1:=by simpa[Int.gcd]using hg
  rw[aV8 e];simp[aU8]
noncomputable abbrev trip(u v r:Int):T:=.tup [.int u,.int v,.int r]
noncomputable def e8(w:Int×Int×Int):T:=trip w.1 w.2.1 w.2.2
noncomputable def hf(n:Int):T:=if n%2=0 then fr (n/2) 1 else fr n 2
theorem bf8(n:Int):Int.gcd n 2=if n%2=0 then 2 else 1:=by
 have h:=aD3 n 2;have h0:0<=n%2:=Int.emod_nonneg n (by decide);have h1:n%2<2:=Int.emod_lt_of_pos n (by decide);have :n%2=0\/n%2=1:=by omega
 rcases this with e|e
 ·rw[cx8 e,<-h,e];rfl
 ·rw[cx7 (by omega),<-h,e];rfl
theorem aX3(n:Int):nrm n 2=hf n:=by
 unfold nrm hf;rw[bf8];split
 ·rfl
 ·simp
theorem av7(z:Int):hf (2*z)=fr z 1:=by
 unfold hf;rw[cx8 (by omega)];congr 3;omega
theorem cd6{a b:Int}(h:hf a=hf b):a=b:=by
 unfold hf at h;split at h<;>split at h
 ·simp only[fr,T.tup.injEq,List.cons.injEq,T.int.injEq]at h;omega
 ·simp only[fr,T.tup.injEq,List.cons.injEq,T.int.injEq]at h;omega
 ·simp only[fr,T.tup.injEq,List.cons.injEq,T.int.injEq]at h;omega
 ·simp only[fr,T.tup.injEq,List.cons.injEq,T.int.injEq]at h;omega
theorem P6(n:Int):∃a d:Int,hf n=fr a d/\(d=1\/d=2)/\2*a=n*d/\Int.gcd a d=1:=by
 unfold hf;split
 ·exact⟨n/2,1,rfl,.inl rfl,by omega,Int.gcd_one_right _⟩
 ·exact⟨n,2,rfl,.inr rfl,by omega,by rw[bf8,cx7 (by assumption)]⟩
theorem cm2{n:Int}{k:Nat}(h:n.natAbs<2^k)(hk:2<=k):Fz k (hf n):=by
 have h4:2^2<=2^k:=Nat.pow_le_pow_right (by decide) hk;obtain⟨a,d,e,hd,h2,hg⟩:=P6 n;refine⟨a,d,e,by omega,hg,?_,by omega⟩;rcases hd with rfl|rfl<;>omega
theorem ay2(a b:Int):av0 (hf a) (hf b)=hf (a+b):=by
 unfold hf;by_cases ha:a%2=0<;>by_cases hb:b%2=0
 ·rw[cx8 ha,cx8 hb,cx8 (by omega)];show nrm (a/2*1+b/2*1) (1*1)=_;rw[Int.one_mul,aV8 (Int.gcd_one_right _)];congr 3;omega
 ·rw[cx8 ha,cx7 hb,cx7 (by omega)];show nrm (a/2*2+b*1) (1*2)=_;have e:a/2*2+b*1=a+b:=by omega
  rw[e,Int.one_mul,aX3];unfold hf;rw[cx7 (by omega)]
 ·rw[cx7 ha,cx8 hb,cx7 (by omega)];show nrm (a*1+b/2*2) (2*1)=_;have e:a*1+b/2*2=a+b:=by omega
  rw[e,Int.mul_one,aX3];unfold hf;rw[cx7 (by omega)]
 ·rw[cx7 ha,cx7 hb,cx8 (by omega)];show nrm (a*2+b*2) (2*2)=_;have e:a*2+b*2=4*((a+b)/2):=by omega
  rw[e];unfold nrm;have g:Int.gcd (4*((a+b)/2)) (2*2)=4:=by
   have :=Int.gcd_mul_left 4 ((a+b)/2) 1;rw[Int.gcd_one_right]at this;simpa using this
  rw[g];have e1:4*((a+b)/2)/((4:Nat):Int)=(a+b)/2:=Int.mul_ediv_cancel_left _ (by decide);have e2:(2*2:Int)/((4:Nat):Int)=1:=by decide
  rw[e1,e2]
theorem be1(a:Int):aU8 (hf a)=hf (-a):=by
 unfold hf;by_cases ha:a%2=0
 ·rw[cx8 ha,cx8 (by omega)];show fr (-(a/2)) 1=_;congr 3;omega
 ·rw[cx7 ha,cx7 (by omega)];rfl
noncomputable abbrev sz(n:Int):Prop:=n.natAbs<2^100
theorem hz{n:Int}(h:sz n):Fz 100 (hf n):=cm2 h (by decide)
theorem bM2{a b:Int}(ha:sz a)(hb:sz b):P1 [hf a,hf b]=some (hf (a+b)):=by
 rw[(cg5 (hz ha) (hz hb) (by decide)).1,ay2]
theorem ck9{a b:Int}(ha:sz a)(hb:sz b):ab6 [hf a,hf b]=some (hf (a-b)):=by
 rw[(cr0 (hz ha) (hz hb) (by decide)).1,be1,ay2,Int.sub_eq_add_neg]
theorem aH3{a b:Int}(ha:sz a)(hb:sz b):C8 [hf a,hf b]=some (hf (a+b)):=by
 rw[cm4 (hz ha) (hz hb) (by decide),ay2]
theorem cd4{a z:Int}(ha:sz a)(h:z=0\/z=1\/z= -1):N3 [hf a,fr z 1]=some (hf (a*z)):=by
 rw[cm3 (hz ha) (by decide) z h];rcases h with rfl|rfl|rfl
 ·rw[Int.mul_zero,cx8 rfl,<-av7];rfl
 ·rw[cx7 (by decide),cx8 rfl,Int.mul_one]
 ·rw[cx7 (by decide),cx7 (by decide),be1];congr 2;omega
theorem aB3{n:Int}(h:0<=n)(h':n<=1000000):sm n=true:=by
 unfold sm;rw[cr8,cx6,cx6];constructor<;>omega
theorem bT4{a r:Int}(ha:sz a)(hr:0<=r)(hr':r<=1000000):X5 [hf a,fr r 1]=some (.bl (decide (2*r<a))):=by
 obtain⟨n,d,e,hd,h2,hg⟩:=P6 a;have hs:=aB3 hr hr';rw[e,X5,n8 2 _ _ _ rfl,ax2];have s1:sm 1=true:=by decide
 have k1:C6 (.int n) (.int 1)=some (.int (n*1)):=ai1 s1;have k2:C6 (.int r) (.int d)=some (.int (r*d)):=as1 hs;have q:decide (r*d<n*1)=decide (2*r<a):=by
  rw[decide_eq_decide];rcases hd with rfl|rfl<;>omega
 simp only[sRet_ap,g2_ap,gC_ap,gVar_ap,l9,fr,cv2,cv4,cu5,cu7,ct0,cw0,ct6,ct7,jn,cx3,ix0,ix1,k1,k2,fGt_int,fLt_int,outT_ret,q]
theorem bH5{a r:Int}(ha:sz a)(hr:0<=r)(hr':r<=1000000):S6 [fr r 1,hf a]=some (.bl (decide (2*r<a))):=by
 obtain⟨n,d,e,hd,h2,hg⟩:=P6 a;have hs:=aB3 hr hr';rw[e,S6,n8 2 _ _ _ rfl,aw5];have s1:sm 1=true:=by decide
 have k1:C6 (.int n) (.int 1)=some (.int (n*1)):=ai1 s1;have k2:C6 (.int r) (.int d)=some (.int (r*d)):=as1 hs;have q:decide (r*d<n*1)=decide (2*r<a):=by
  rw[decide_eq_decide];rcases hd with rfl|rfl<;>omega
 simp only[sRet_ap,g2_ap,gC_ap,gVar_ap,l9,fr,cv2,cv4,cu5,cu7,ct0,cw0,ct6,ct7,jn,cx3,ix0,ix1,k1,k2,fGt_int,fLt_int,outT_ret,q]
theorem cd5{n:Int}:K4 [.int n,.int 2]=some (hf n):=by
 rw[bN3 (k:=2) (by decide) (by decide) (by decide),aX3]
theorem cd7(n:Int):J4 [hf n]=some (hf n.natAbs):=by
 unfold hf;by_cases h:n%2=0
 ·rw[cx8 h,cx8 (by omega)];show some (T.tup [.int (if n/2<0 then -(n/2)else n/2),.int 1])=_;congr 3
  ·congr 1;split<;>omega
 ·rw[cx7 h,cx7 (by omega)];show some (T.tup [.int (if n<0 then -n else n),.int 2])=_;congr 3;congr 1;split<;>omega
theorem ap4(n:Int):∃a d:Int,hf n=fr a d/\hf n.natAbs=fr (if a<0 then -a else a) d/\d<3/\0<d:=by
 unfold hf;by_cases h:n%2=0
 ·refine⟨n/2,1,cx8 h,?_,by decide,by decide⟩;rw[cx8 (by omega)];congr 3;split<;>omega
 ·refine⟨n,2,cx7 h,?_,by decide,by decide⟩;rw[cx7 (by omega)];congr 3;split<;>omega
theorem cl6(a b c d:Int):fEq (fr a b) (fr c d)=some (.bl (a==c&&b==d)):=by
 show((ae7 (eqD 7) _ _).bind _).bind _=_;simp only[ae7,eqD,cx3,cu5,cu7];simp
theorem ck4(a b c d:Int):fNe (fr a b) (fr c d)=some (.bl !(a==c&&b==d)):=by
 show((ae7 (eqD 7) _ _).bind _).bind _=_;simp only[ae7,eqD,cx3,cu5,cu7];simp
theorem ce1{a b c d:Int}:(a==c&&b==d)=true ↔fr a b=fr c d:=by
 simp[fr]
theorem bz8{a b n d m c:Int}(e:hf a=fr n d)(e':hf b=fr m c):(n==m&&d==c)=decide (a=b):=by
 rw[Bool.eq_iff_iff,ce1,cx6,<-e,<-e'];exact⟨cd6,fun h=>by rw[h]⟩
theorem cl5(a b:Int):fEq (hf a) (hf b)=some (.bl (decide (a=b))):=by
 obtain⟨n,d,e,-⟩:=P6 a;obtain⟨m,c,e',-⟩:=P6 b;rw[<-bz8 e e',e,e',cl6]
theorem ck3(a b:Int):fNe (hf a) (hf b)=some (.bl !(decide (a=b))):=by
 obtain⟨n,d,e,-⟩:=P6 a;obtain⟨m,c,e',-⟩:=P6 b;rw[<-bz8 e e',e,e',ck4]
theorem as6{ρ:j9}{st:St1}{e:G}{f:T->T}:∀(xs:List T),(∀x∈xs,∃ρ1,st x ρ=some ρ1/\e ρ1=some (f x))->R9 ρ st B3 e xs=some (xs.map f)
 |[],_=>rfl
 |x::xs,h=>by
  obtain⟨ρ1,h1,h2⟩:=h x cv8;have ih:=as6 xs fun y hy=>h y (cv7 _ hy)
  simp only[R9,h1,cx3,bYes_ap,if_true,h2,ih,cv2]
theorem aw2(f:T->Bool):∀xs:List T,ag0 (xs.map fun x=>.bl (f x))=some (xs.map f)
 |[]=>rfl
 |x::xs=>by simp only[cv2,ag0,aw2 f xs,cx3]
theorem all_map(f:T->Bool)(xs:List T):P8 [.lst (xs.map fun x=>.bl (f x))]=some (.bl (xs.all f)):=by
 simp only[P8,aw2,cx3];congr 2;induction xs with
 |nil=>rfl
 |cons x xs ih=>simp only[cv2,cs7,id,ih]
theorem any_map(f:T->Bool)(xs:List T):am8 [.lst (xs.map fun x=>.bl (f x))]=some (.bl (xs.any f)):=by
 simp only[am8,aw2,cx3];congr 2;induction xs with
 |nil=>rfl
 |cons x xs ih=>simp only[cv2,cs8,id,ih]
theorem U0{ρ:j9}{it:GL}{nT:Nat}{caps:List Nat}{st:St1}{e:G}{xs:List T}(f:T->Bool)(h1:it ρ=some xs)(hl:xs.length<=lim)(h:∀x∈xs,∃ρ1,st x (O2 nT caps ρ)=some ρ1/\e ρ1=some (.bl (f x))):
  gN P8 [o0 it nT caps st B3 e] ρ=some (.bl (xs.all f)):=by
 simp only[gN_ap,gs_cons,gs_nil,o0,h1,cx3,cx8 hl,as6 (f:=fun x=>.bl (f x)) xs h,all_map]
theorem aZ4{ρ:j9}{it:GL}{nT:Nat}{caps:List Nat}{st:St1}{e:G}{xs:List T}(f:T->Bool)(h1:it ρ=some xs)(hl:xs.length<=lim)(h:∀x∈xs,∃ρ1,st x (O2 nT caps ρ)=some ρ1/\e ρ1=some (.bl (f x))):
  gN am8 [o0 it nT caps st B3 e] ρ=some (.bl (xs.any f)):=by
 simp only[gN_ap,gs_cons,gs_nil,o0,h1,cx3,cx8 hl,as6 (f:=fun x=>.bl (f x)) xs h,any_map]
noncomputable def plain:T->Bool
 |.ref _=>false
 |.scr _=>false
 |.dct _ _=>false
 |_=>true
noncomputable def O7:T->Bool
 |.int _=>true
 |_=>false
theorem bK1{t:T}(h:plain t=true):N1 [t]=some (.bl (O7 t)):=by
 rw[N1,n8 1 _ _ _ rfl,at5];cases t<;>first |(cases h;done)|rfl
theorem bN2{t:T}(h:plain t=true):V4 [t]=some (.bl (match t with |.tup xs=>xs.length==3|_=>false)):=by
 rw[V4,n8 1 _ _ _ rfl,an3];cases t<;>first |(cases h;done)|skip
 case tup xs=>
  simp only[sRet_ap,gAnd_ap,bOf_ap,g1_ap,g2_ap,gN_ap,gs_cons,gs_nil,gVar_ap,gC_ap,l9,cv2,cv4,cu5,cu7,ct0,cw0,ct7,jn,cx3,fIsK_eq,isK,toB_bl,if_true,fLen_tup,fEq_int,outT_ret];have e:(((xs.length:Nat):Int)==3)=(xs.length==3):=by
   by_cases e:xs.length=3
   ·rw[e];rfl
   ·have e':¬(((xs.length:Nat):Int)=3):=by omega
    rw[beq_eq_false_iff_ne.mpr e,beq_eq_false_iff_ne.mpr e']
  rw[e]
 all_goals rfl
theorem az6{t:T}{lo hi:Int}(h:plain t=true):B6 [t,.int lo,.int hi]=some (.bl (match t with |.int i=>decide (lo<=i)&&decide (i<=hi)|_=>false)):=by
 rw[B6,n8 3 _ _ _ rfl,an2];simp only[sRet_ap,gAnd_ap,bOf_ap,gN_ap,gs_cons,gs_nil,gVar_ap,l9,cv2,cv4,cu5,cu7,ct0,cw0,ct7,ct6,jn,cx3,bK1 h,toB_bl];cases t<;>first |rfl|skip
 case int i=>
  simp only[O7,if_true,gChain_ap,gVar_ap,ct7,ct6,jn,cx3,fLe_int,toB_bl];cases decide (lo<=i)<;>rfl
noncomputable def ab7(p lo hi u v r:Int):Bool:=decide (0<=u)&&(decide (u<=p-1)&&(decide (0<=v)&&(decide (v<=p-1)&&(!(u==v)&&(decide (lo<=r)&&decide (r<=hi))))))
theorem az7{p lo hi u v r:Int}:C4 [trip u v r,.int p,.int lo,.int hi]=some (.bl (ab7 p lo hi u v r)):=by
 rw[C4,n8 4 _ _ _ rfl,am1];simp only[sRet_ap,gAnd_ap,bOf_ap,gN_ap,gs_cons,gs_nil,g2_ap,gC_ap,gVar_ap,l9,trip,cv2,cv4,cu5,cu7,ct0,cw0,ct7,ct6,jn,cx3,bN2 (t:=.tup [.int u,.int v,.int r]) rfl,toB_bl,ix0,ix1,ix2,fSub_int,
  az6 (t:=.int u) rfl,az6 (t:=.int v) rfl,az6 (t:=.int r) rfl,fNe_int]
 unfold ab7;cases decide (0<=u)<;>cases decide (u<=p-1)<;>cases decide (0<=v)<;>cases decide (v<=p-1)<;>cases(u==v)<;>rfl
theorem aE9{t:T}{p lo hi:Int}(h:plain t=true)(h3:(match t with |.tup xs=>xs.length==3|_=>false)=false):C4 [t,.int p,.int lo,.int hi]=some (.bl false):=by
 rw[C4,n8 4 _ _ _ rfl,am1];simp only[sRet_ap,gAnd_ap,bOf_ap,gN_ap,gs_cons,gs_nil,g2_ap,gC_ap,gVar_ap,l9,cv2,cv4,cu5,cu7,ct0,cw0,ct7,ct6,jn,cx3,bN2 h,toB_bl];rw[h3];rfl
theorem ad9{ρ:j9}{it:GL}{nT:Nat}{caps:List Nat}{st:St1}{e:G}{xs:List T}(f:T->T)(h1:it ρ=some xs)(hl:xs.length<=lim)(h:∀x∈xs,∃ρ1,st x (O2 nT caps ρ)=some ρ1/\e ρ1=some (f x)):
  o0 it nT caps st B3 e ρ=some (.lst (xs.map f)):=by
 simp only[o0,h1,cx3,cx8 hl,as6 (f:=f) xs h]
theorem aA5{ρ:j9}{st:St1}{c:GB}{e:G}{p:T->Bool}{f:T->T}:∀(xs:List T),(∀x∈xs,∃ρ1,st x ρ=some ρ1/\c ρ1=some (p x)/\(p x=true->e ρ1=some (f x)))->R9 ρ st c e xs=some ((xs.filter p).map f)
 |[],_=>rfl
 |x::xs,h=>by
  obtain⟨ρ1,h1,h2,h3⟩:=h x cv8;have ih:=aA5 xs fun y hy=>h y (cv7 _ hy)
  simp only[R9,h1,cx3,h2];cases hp:p x with
  |true=>simp only[if_true,h3 hp,cx3,ih,List.filter_cons,hp,cv2]
  |false=>simp only[cr9,if_false,ih,List.filter_cons,hp]
theorem aO0{ρ:j9}{it:GL}{nT:Nat}{caps:List Nat}{st:St1}{c:GB}{e:G}{xs:List T}(p:T->Bool)(f:T->T)(h1:it ρ=some xs)(hl:xs.length<=lim)(h:∀x∈xs,∃ρ1,st x (O2 nT caps ρ)=some ρ1/\c ρ1=some (p x)/\(p x=true->e ρ1=some (f x))):
  o0 it nT caps st c e ρ=some (.lst ((xs.filter p).map f)):=by
 simp only[o0,h1,cx3,cx8 hl,aA5 (p:=p) (f:=f) xs h]
@[simp] theorem ints_map:∀xs:List Int,W0 (xs.map T.int)=some xs
 |[]=>rfl
 |x::xs=>by simp only[cv2,W0,ints_map xs,cx3]
@[simp] theorem fIn_lst(i:Int)(xs:List Int):fIn (.int i) (.lst (xs.map T.int))=some (.bl (xs.contains i)):=by
 simp only[fIn,ints_map,cx3]
theorem ba1{t:T}(h:plain t=true):K6 [t]=some (.bl (match t with |.tup xs=>xs.length==2|_=>false)):=by
 rw[K6,n8 1 _ _ _ rfl,ax1];cases t<;>first |(cases h;done)|skip
 case tup xs=>
  have e:(((xs.length:Nat):Int)==2)=(xs.length==2):=by
   by_cases e:xs.length=2
   ·rw[e];rfl
   ·have e':¬(((xs.length:Nat):Int)=2):=by omega
    rw[beq_eq_false_iff_ne.mpr e,beq_eq_false_iff_ne.mpr e']
  show some (T.bl (((xs.length:Nat):Int)==2))=_;rw[e]
 all_goals rfl
noncomputable abbrev Ln:=Int×Int×Int
noncomputable def Q9(S:List Int)(l:Ln):Bool:=S.contains l.1 !=S.contains l.2.1
noncomputable def B2(S:List Int)(ls:List Ln):Int:=((ls.filter (Q9 S)).map fun l=>l.2.2).sum
theorem aX8(a b:Bool):fNe (.bl a) (.bl b)=some (.bl (a !=b)):=rfl
theorem bH8{q:Ln->Bool}{ls:List Ln}{p:T->Bool}(h:∀l,p (e8 l)=q l):(ls.map e8).filter p=(ls.filter q).map e8:=by
 rw[List.filter_map];congr 1;exact List.filter_congr fun l _=>h l
noncomputable def aQ1:T->T
 |.tup [_,_,r]=>r
 |t=>t
noncomputable def bj8(S:List Int):T->Bool
 |.tup [.int u,.int v,_]=>S.contains u !=S.contains v
 |_=>false
theorem bq3(S:List Int)(ls:List Ln):W0 (((ls.map e8).filter (bj8 S)).map aQ1)=some ((ls.filter (Q9 S)).map fun l=>l.2.2):=by
 rw[bH8 (q:=Q9 S) fun l=>rfl,cv3,show(aQ1∘e8)=(T.int∘fun l:Ln=>l.2.2)from rfl,<-cv3,ints_map]
noncomputable def Y7(ls:List Ln):Prop:=ls.length<=1000/\∀l∈ls,0<=l.2.2/\l.2.2<=1000
theorem Y7.lim{ls:List Ln}(h:Y7 ls):ls.length<=lim:=cw9 h.1 (by decide)
theorem Y7.sum{ls:List Ln}(h:Y7 ls)(S:List Int):((((ls.filter (Q9 S)).map fun l=>l.2.2).all fun n=>decide (0<=n)&&decide (n<=1000))&&decide (((ls.filter (Q9 S)).map fun l=>l.2.2).length<=1000))=true:=by
 rw[cr8,cx6,cu6,List.all_eq_true];refine⟨fun n hn=> ?_,cw9 (List.length_filter_le _ _) h.1⟩;obtain⟨l,hl,rfl⟩:=List.mem_map.mp hn;have :=h.2 l (List.mem_filter.mp hl).1;simpa using this
theorem av2{ρ:j9}{it:GL}{c:Nat}{S:List Int}{ls:List Ln}(hit:it ρ=some (ls.map e8))(hk:Y7 ls)(hc:(ρ[c]?).join=some (.lst (S.map T.int))):
  gN ar9 [o0 it 1 [c] (stN 0) (bOf (g2 fNe (g2 fIn (g2 e9 (d0 0) (gC (.int 0))) (d0 1)) (g2 fIn (g2 e9 (d0 0) (gC (.int 1))) (d0 1)))) (g2 e9 (d0 0) (gC (.int 2)))] ρ=some (.int (B2 S ls)):=by
 have :=aO0 (nT:=1) (caps:=[c]) (st:=stN 0) (c:=bOf (g2 fNe (g2 fIn (g2 e9 (d0 0) (gC (.int 0))) (d0 1)) (g2 fIn (g2 e9 (d0 0) (gC (.int 1))) (d0 1)))) (e:=g2 e9 (d0 0) (gC (.int 2))) (bj8 S) aQ1 hit (by simpa using hk.lim) (fun x hx=>by
  obtain⟨⟨u,v,r⟩,hm,rfl⟩:=List.mem_map.mp hx;refine⟨_,rfl,?_,fun _=> ?_⟩
  ·simp only[bOf_ap,g2_ap,gVar_ap,gC_ap,O2,hc,cv2,cv4,List.replicate,ct0,cw0,cw4,ct7,ct6,jn,cx3,e8,trip,ix0,ix1,fIn_lst,aX8,toB_bl,bj8]
  ·simp only[g2_ap,gVar_ap,gC_ap,O2,cv2,cv4,List.replicate,ct0,cw0,cw4,ct7,jn,cx3,e8,trip,ix2,aQ1])
 simp only[gN_ap,gs_cons,gs_nil,this,cx3,ar9,bq3];rw[cx8 (hk.sum S)];rfl
theorem cg4{S:List Int}{ls:List Ln}(hl:Y7 ls):J8 [.lst (ls.map e8),.lst (S.map T.int)]=some (.int (B2 S ls)):=by
 rw[J8,n8 2 _ _ _ rfl,ak5,sRet_ap,av2 (S:=S) (ls:=ls) rfl hl rfl];rfl
noncomputable abbrev j0(p:Int)(ls:List Ln):T:=.tup [.int p,.lst (ls.map e8)]
theorem ba3{S:List Int}{ls:List Ln}{p:Int}{a b:Ln}(hl:Y7 ls)(hab:Y7 [a,b]):E9 [j0 p ls,e8 a,e8 b,.lst (S.map T.int)]=some (.bl (decide (B2 S ls<B2 S [a,b]))):=by
 rw[E9,n8 4 _ _ _ rfl,aE7];rw[l8 (ρ':=[some (j0 p ls),some (e8 a),some (e8 b),some (.lst (S.map T.int)),some (.int (B2 S ls))])]
 ·rw[sRet_ap,g2_ap,av2 (S:=S) (ls:=[a,b]) rfl hab rfl];rfl
 ·rw[sSet_ap,av2 (S:=S) (ls:=ls) rfl hl rfl];rfl
theorem ad2:∀xs ys:List T,(A5 xs ys).length<=xs.length
 |[],_=>by simp[A5]
 |_::_,[]=>by simp[A5]
 |x::xs,y::ys=>by simp only[A5,cu5];have :=ad2 xs ys;omega
theorem aC8{t:T}:∀{xs ys:List T},t∈A5 xs ys->∃x∈xs,∃y∈ys,t=.tup [x,y]
 |[],_,h=>by simp[A5]at h
 |_::_,[],h=>by simp[A5]at h
 |x::xs,y::ys,h=>by
  rcases List.mem_cons.mp h with h|h
  ·exact⟨x,cv8,y,cv8,h⟩
  ·obtain⟨a,ha,b,hb,e⟩:=aC8 h;exact⟨a,cv7 _ ha,b,cv7 _ hb,e⟩
noncomputable def bu0:T->Bool
 |.tup [.tup (.int a::.int b::_),.tup (.int c::.int d::_)]=>ag4 [a,b] [c,d]
 |_=>false
noncomputable def W5:List (Int×Int×Int)->Bool
 |a::b::r=>ag4 [a.1,a.2.1] [b.1,b.2.1]&&W5 (b::r)
 |_=>true
theorem aM4:∀ws:List (Int×Int×Int),(A5 (ws.map e8) ((ws.map e8).drop 1)).all bu0=W5 ws
 |[]=>rfl
 |[_]=>rfl
 |a::b::r=>by
  have ih:=aM4 (b::r);simp only[cv2,List.drop_succ_cons,List.drop_zero]at ih⊢;rw[A5,cs7,ih];rfl
theorem ch4{ws:List (Int×Int×Int)}(hl:ws.length<=lim):K0 [.lst (ws.map e8)]=some (.bl (W5 ws)):=by
 rw[K0,n8 1 _ _ _ rfl,ak7,sRet_ap];rw[U0 (xs:=A5 (ws.map e8) ((ws.map e8).drop 1)) bu0 rfl (cw9 (ad2 _ _) (by simpa using hl))]
 ·rw[aM4];rfl
 ·intro x hx;obtain⟨a,ha,b,hb,rfl⟩:=aC8 hx;obtain⟨wa,_,rfl⟩:=List.mem_map.mp ha;obtain⟨wb,_,rfl⟩:=List.mem_map.mp (List.mem_of_mem_drop hb);exact⟨_,rfl,rfl⟩
noncomputable def aG6(p:Int)(l:Ln):Bool:=ab7 p 1 20 l.1 l.2.1 l.2.2&&decide (l.1<l.2.1)
theorem cg7{p:Int}{l:Ln}:M3 [e8 l,.int p]=some (.bl (aG6 p l)):=by
 rw[M3,n8 2 _ _ _ rfl,am2,sRet_ap,gAnd_ap];have e:gN C4 [(d0 0),(d0 1),(gC (.int 1)),(gC (.int 20))] (l9 2 [e8 l,.int p])=some (.bl (ab7 p 1 20 l.1 l.2.1 l.2.2)):=az7;rw[bOf_ap,e];unfold aG6;cases ab7 p 1 20 l.1 l.2.1 l.2.2<;>rfl
theorem bV4{p:Int}{t:T}(h:C4 [t,.int p,.int 1,.int 20]=some (.bl false)):M3 [t,.int p]=some (.bl false):=by
 rw[M3,n8 2 _ _ _ rfl,am2,sRet_ap,gAnd_ap];have e:gN C4 [(d0 0),(d0 1),(gC (.int 1)),(gC (.int 20))] (l9 2 [t,.int p])=some (.bl false):=h;rw[bOf_ap,e];rfl
theorem aE8{p:Int}{q:T}{t:T}{b:Bool}(h:C4 [t,.int p,.int 0,.int 200]=some (.bl b)):K5 [.tup [.int p,q],t]=some (.bl b):=by
 rw[K5,n8 2 _ _ _ rfl,ax0,sRet_ap];have e:gN C4 [(d0 1),(g2 e9 (d0 0) (gC (.int 0))),(gC (.int 0)),(gC (.int 200))] (l9 2 [.tup [.int p,q],t])=some (.bl b):=h;rw[e];rfl
theorem bK2{p:Int}{ts:List T}(f:T->Bool)(h:∀t∈ts,M3 [t,.int p]=some (.bl (f t)))(hl:ts.length<=lim)(r:Bool)(hr:ts.all f=true->K0 [.lst ts]=some (.bl r)):
  J2 [.tup [.int p,.lst ts]]=some (.bl (decide (2<=p)&&decide (p<=8)&&(decide (ts.length<=16)&&(ts.all f&&r)))):=by
 have k:=U0 (ρ:=[some (.tup [.int p,.lst ts])]) (it:=itL (g2 e9 (d0 0) (gC (.int 1)))) (nT:=1) (caps:=[0]) (st:=stN 0) (e:=gN M3 [(d0 0),(g2 e9 (d0 1) (gC (.int 0)))]) f rfl hl (fun x hx=>⟨[some x,some (.tup [.int p,.lst ts])],rfl,h x hx⟩);rw[J2,n8 1 _ _ _ rfl,at6,sRet_ap];have s:l9 1 [.tup [.int p,.lst ts]]=[some (.tup [.int p,.lst ts])]:=rfl;have e1:gN K6 [d0 0] [some (.tup [.int p,.lst ts])]=some (.bl true):=ba1 (t:=.tup [.int p,.lst ts]) rfl;have e2:gN B6 [(g2 e9 (d0 0) (gC (.int 0))),(gC (.int 2)),(gC (.int 8))] [some (.tup [.int p,.lst ts])]=some (.bl (decide (2<=p)&&decide (p<=8))):=az6 (t:=.int p) rfl;have e3:g1 (P7 .list) (g2 e9 (d0 0) (gC (.int 1))) [some (.tup [.int p,.lst ts])]=some (.bl true):=rfl;have e4:g2 fLe (gN D0 [(g2 e9 (d0 0) (gC (.int 1)))]) (gC (.int 16)) [some (.tup [.int p,.lst ts])]=some (.bl (decide (ts.length<=16))):=by
  show some (T.bl (decide (((ts.length:Nat):Int)<=16)))=_;congr 2;rw[decide_eq_decide];omega
 have e5:gN K0 [(g2 e9 (d0 0) (gC (.int 1)))] [some (.tup [.int p,.lst ts])]=K0 [.lst ts]:=rfl;rw[s];simp only[gAnd_ap,bOf_ap,k,e1,e2,e3,e4,e5,cx3,toB_bl,if_true];cases(decide (2<=p)&&decide (p<=8))with
 |false=>rfl
 |true=>
  cases decide (ts.length<=16)with
  |false=>rfl
  |true=>
   cases ha:ts.all f with
   |false=>rfl
   |true=>
    simp only[if_true,hr ha];rfl
structure v0(p:Nat)(ls:List Ln):Prop where
 lo:2<=p
 hi:p<=8
 len:ls.length<=16
 ok:∀l∈ls,0<=l.1/\l.1<l.2.1/\l.2.1<(p:Int)/\1<=l.2.2/\l.2.2<=20
 ris:W5 ls=true
structure n9(p:Nat)(a:Ln):Prop where
 ok:0<=a.1/\a.1<(p:Int)/\0<=a.2.1/\a.2.1<(p:Int)/\a.1≠a.2.1/\0<=a.2.2/\a.2.2<=200
theorem v0.rok{p:Nat}{ls:List Ln}(F:v0 p ls):Y7 ls:=⟨cw9 F.len (by decide),fun l hl=>by have :=F.ok l hl;omega⟩
theorem ak9{p:Nat}{a b:Ln}(A:n9 p a)(B:n9 p b):Y7 [a,b]:=⟨by show 2<=1000;decide,fun l hl=>by
 have h1:=A.ok;have h2:=B.ok;simp at hl;rcases hl with rfl|rfl<;>omega⟩
theorem v0.lim{p:Nat}{ls:List Ln}(F:v0 p ls):ls.length<=lim:=cw9 F.len (by decide)
theorem aI3{p:Nat}{ls:List Ln}(F:v0 p ls):J2 [j0 p ls]=some (.bl true):=by
 have h:∀t∈ls.map e8,M3 [t,.int p]=some (.bl ((fun _=>true) t)):=fun t ht=>by
  obtain⟨l,hl,rfl⟩:=List.mem_map.mp ht;rw[cg7];have :=F.ok l hl;congr 2;unfold aG6 ab7;simp only[cr8,cx6,Bool.not_eq_true',beq_eq_false_iff_ne];omega
 have q:=bK2 (p:=p) (ts:=ls.map e8) (fun _=>true) h (by simpa using F.lim) true (fun _=>by rw[ch4 F.lim,F.ris]);rw[q];have h1:=F.lo;have h2:=F.hi;have h3:=F.len;simp;omega
theorem ba0{p:Nat}{q:T}{a:Ln}(W:n9 p a):K5 [.tup [.int p,q],e8 a]=some (.bl true):=by
 refine aE8 ?_;show C4 [trip a.1 a.2.1 a.2.2,_,_,_]=_;rw[az7];have :=W.ok;congr 2;unfold ab7;simp only[cr8,cx6,Bool.not_eq_true',beq_eq_false_iff_ne];omega
theorem N9(k n:Nat)(g:GR)(ts:List T)(h:ts.length=k):aq6 k n g ts=ca5 (g (l9 n ts)):=by unfold aq6;rw[cx8 h]
theorem aQ2{p:Nat}{ls:List Ln}{a b:Ln}(F:v0 p ls)(A:n9 p a)(B:n9 p b):u7 [j0 p ls,e8 a,e8 b]=some (.val .non):=by
 rw[u7,N9 3 _ _ _ rfl,S4];simp only[rIf,l9,bNot_ap,bAnd_ap,bOf_ap,gN_ap,gs_cons,gs_nil,gVar_ap,cv2,cv4,ct0,cw0,ct7,ct6,jn,cx3,aI3 F,ba0 A,ba0 B,toB_bl,if_true];rfl
theorem bG4{t a b:T}(h:J2 [t]=some (.bl false)):u7 [t,a,b]=some (.exc "BadFloor"):=by
 rw[u7,N9 3 _ _ _ rfl,S4];simp only[rIf,l9,bNot_ap,bAnd_ap,bOf_ap,gN_ap,gs_cons,gs_nil,gVar_ap,cv2,cv4,ct0,cw0,ct7,ct6,jn,cx3,h,toB_bl,if_true];rfl
theorem bw0{t a b:T}(h0:J2 [t]=some (.bl true))(h:K5 [t,a]=some (.bl false)):u7 [t,a,b]=some (.exc "BadFloor"):=by
 rw[u7,N9 3 _ _ _ rfl,S4];simp only[rIf,l9,bNot_ap,bAnd_ap,bOf_ap,gN_ap,gs_cons,gs_nil,gVar_ap,cv2,cv4,ct0,cw0,ct7,ct6,jn,cx3,h0,h,toB_bl,if_true];rfl
theorem cb6{t a b:T}(h0:J2 [t]=some (.bl true))(h1:K5 [t,a]=some (.bl true))(h:K5 [t,b]=some (.bl false)):u7 [t,a,b]=some (.exc "BadFloor"):=by
 rw[u7,N9 3 _ _ _ rfl,S4];simp only[rIf,l9,bNot_ap,bAnd_ap,bOf_ap,gN_ap,gs_cons,gs_nil,gVar_ap,cv2,cv4,ct0,cw0,ct7,ct6,jn,cx3,h0,h1,h,toB_bl,if_true];rfl
noncomputable def upB:List Int->Bool
 |a::b::r=>decide (a<b)&&upB (b::r)
 |_=>true
noncomputable def ltP:T->Bool
 |.tup [.int a,.int b]=>decide (a<b)
 |_=>false
theorem bp5:∀S:List Int,(A5 (S.map T.int) ((S.map T.int).drop 1)).all ltP=upB S
 |[]=>rfl
 |[_]=>rfl
 |a::b::r=>by
  have ih:=bp5 (b::r);simp only[cv2,List.drop_succ_cons,List.drop_zero]at ih⊢;rw[A5,cs7,ih];rfl
noncomputable def inB(p:Int):T->Bool
 |.int i=>decide (0<=i)&&decide (i<=p-1)
 |_=>false
theorem aR1{p:Int}{q:T}{S:List Int}(hl:S.length<=lim):J9 [.tup [.int p,q],.lst (S.map T.int)]=some (.bl ((S.all fun i=>decide (0<=i)&&decide (i<=p-1))&&upB S)):=by
 have k1:=U0 (ρ:=[some (.tup [.int p,q]),some (.lst (S.map T.int))]) (it:=itL (d0 1)) (nT:=1) (caps:=[0]) (st:=stN 0) (e:=gN B6 [(d0 0),(gC (.int 0)),(g2 aa0 (g2 e9 (d0 1) (gC (.int 0))) (gC (.int 1)))]) (inB p) rfl (by simpa using hl) (fun x hx=>by
  obtain⟨i,_,rfl⟩:=List.mem_map.mp hx;exact⟨_,rfl,az6 (t:=.int i) (lo:=0) (hi:=p-1) rfl⟩)
 have k2:=U0 (ρ:=[some (.tup [.int p,q]),some (.lst (S.map T.int))]) (it:=itZ (d0 1) (g1 (aj9 1 none) (d0 1))) (nT:=2) (caps:=[]) (st:=st2 0 1) (e:=g2 fLt (d0 0) (d0 1)) (xs:=A5 (S.map T.int) ((S.map T.int).drop 1)) ltP rfl (cw9 (ad2 _ _) (by simpa using hl)) (fun x hx=>by
  obtain⟨a,ha,b,hb,rfl⟩:=aC8 hx;obtain⟨i,_,rfl⟩:=List.mem_map.mp ha;obtain⟨j,_,rfl⟩:=List.mem_map.mp (List.mem_of_mem_drop hb);exact⟨_,rfl,rfl⟩)
 rw[J9,n8 2 _ _ _ rfl,ak6,sRet_ap];have s:l9 2 [.tup [.int p,q],.lst (S.map T.int)]=[some (.tup [.int p,q]),some (.lst (S.map T.int))]:=rfl;have e3:g1 (P7 .list) (d0 1) [some (.tup [.int p,q]),some (.lst (S.map T.int))]=some (.bl true):=rfl;rw[s];simp only[gAnd_ap,bOf_ap,k1,k2,e3,cx3,toB_bl,if_true,bp5];rw[List.all_map,show(inB p∘T.int)=(fun i:Int=>decide (0<=i)&&decide (i<=p-1))from rfl];cases(S.all fun i=>decide (0<=i)&&decide (i<=p-1))<;>rfl
theorem ba2{q:T}{t:T}(h:isK .list t=some false):J9 [q,t]=some (.bl false):=by
 rw[J9,n8 2 _ _ _ rfl,ak6,sRet_ap];have s:l9 2 [q,t]=[some q,some t]:=rfl;have e3:g1 (P7 .list) (d0 1) [some q,some t]=some (.bl false):=by
  show(isK .list t).bind _=_;rw[h];rfl
 rw[s];simp only[gAnd_ap,bOf_ap,e3,cx3,toB_bl];rfl
structure N2(p:Nat)(S:List Int):Prop where
 ok:∀i∈S,0<=i/\i<(p:Int)
 up:upB S=true
theorem ap9:∀{a:Int}{S:List Int},upB (a::S)=true->(∀b∈S,a<b)/\upB S=true
 |a,[],_=>⟨by simp,rfl⟩
 |a,b::r,h=>by
  simp only[upB,cr8,cx6]at h;obtain⟨h1,h2⟩:=ap9 h.2;exact⟨fun c hc=>by rcases List.mem_cons.mp hc with e|e;exact e▸h.1;exact Int.lt_trans h.1 (h1 c e),h.2⟩
theorem bl5{a:Int}{S:List Int}(h:∀b∈S,a<b)(h2:upB S=true):upB (a::S)=true:=by
 cases S with
 |nil=>rfl
 |cons b r=>simp only[upB,cr8,cx6];exact⟨h b cv8,h2⟩
theorem bp6:∀{S:List Int}{lo hi:Int},upB S=true->(∀i∈S,lo<=i/\i<hi)->lo<=hi->(S.length:Int)<=hi-lo
 |[],lo,hi,_,_,h=>by simp;omega
 |a::S,lo,hi,h,hm,h0=>by
  obtain⟨h1,h2⟩:=ap9 h;have ha:=hm a cv8;have :=bp6 (lo:=a+1) (hi:=hi) h2 (fun i hi'=>⟨by have :=h1 i hi';omega,(hm i (cv7 _ hi')).2⟩) (by omega);simp only[cu5];omega
theorem N2.len{p:Nat}{S:List Int}(C:N2 p S):S.length<=p:=by
 have :=bp6 (lo:=0) (hi:=p) C.up (fun i hi=>C.ok i hi) (by omega);omega
theorem bV6{p:Nat}{q:T}{S:List Int}(C:N2 p S)(hp:p<=8):J9 [.tup [.int p,q],.lst (S.map T.int)]=some (.bl true):=by
 have hl:=C.len;rw[aR1 (cw9 hl (cw9 hp (by decide))),C.up,Bool.and_true];congr 2;rw[List.all_eq_true];intro i hi;have :=C.ok i hi;simp only[cx6,cr8];omega
theorem aq7{F:List T->Option Res}{l:List G}{b:GR}{ρ:j9}{xs:List T}{t:T}(h:gs l ρ=some xs)(h2:F xs=some (.val t)):Q7 (al3 F l) b ρ=b ρ:=by
 simp only[Q7,al3,h,cx3,h2]
theorem aC0{F:List T->Option Res}{l:List G}{b:GR}{ρ:j9}{xs:List T}{c:Str}(h:gs l ρ=some xs)(h2:F xs=some (.exc c)):Q7 (al3 F l) b ρ=some (.exc c):=by
 simp only[Q7,al3,h,cx3,h2]
theorem ch2{p:Nat}{ls:List Ln}{a b:Ln}{t:T}{k r:Bool}(F:v0 p ls)(A:n9 p a)(B:n9 p b)(hc:J9 [j0 p ls,t]=some (.bl k))(hr:k=true->∃S:List Int,t=.lst (S.map T.int)/\r=decide (B2 S ls<B2 S [a,b]))(hf:k=false->r=false):
  v9 [j0 p ls,e8 a,e8 b,t]=some (.val (.bl r)):=by
 rw[v9,N9 4 _ _ _ rfl,ah4,aq7 (xs:=[j0 p ls,e8 a,e8 b]) rfl (aQ2 F A B)];have e1:gN J9 [(d0 0),(d0 3)] (l9 4 [j0 p ls,e8 a,e8 b,t])=some (.bl k):=hc;simp only[L9,sRet_ap,gAnd_ap,bOf_ap,e1,cx3,toB_bl];cases k with
 |false=>rw[hf rfl];rfl
 |true=>
  obtain⟨S,rfl,rfl⟩:=hr rfl;have e2:gN J8 [(g2 e9 (d0 0) (gC (.int 1))),(d0 3)] (l9 4 [j0 p ls,e8 a,e8 b,.lst (S.map T.int)])=some (.int (B2 S ls)):=cg4 F.rok;have e3:gN J8 [(o6 [(d0 1),(d0 2)]),(d0 3)] (l9 4 [j0 p ls,e8 a,e8 b,.lst (S.map T.int)])=some (.int (B2 S [a,b])):=cg4 (ls:=[a,b]) (ak9 A B);simp only[if_true,g2_ap,e2,e3,cx3,fLt_int];rfl
noncomputable def spr(l:Ln)(a x:Int):Int:=if l.1=x then l.2.2-a else l.2.2+a
noncomputable def far(l:Ln)(x:Int):Int:=if l.1=x then l.2.1 else l.1
theorem cg3(l:Ln)(a x:Int):N8 [e8 l,.int a,.int x]=some (.int (spr l a x)):=by
 rw[N8,n8 3 _ _ _ rfl,aL4];have s:l9 3 [e8 l,.int a,.int x]=[some (e8 l),some (.int a),some (.int x)]:=rfl;rw[s];simp only[sRet_ap,gIf,bOf_ap,g2_ap,gC_ap,gVar_ap,ct7,ct6,jn,cx3,e8,trip,ix0,ix2,fEq_int,toB_bl,fSub_int,fAdd_int];unfold spr;by_cases h:l.1=x
 ·rw[cx8 h];simp[h]
 ·rw[cx7 h];simp[h]
structure Bs where
 ks:List Int
 vs:List (Int×Nat)
 wt:List Int
noncomputable def v7(v:Int×Nat):T:=.tup [.int v.1,.int v.2]
noncomputable abbrev w8(ks:List Int)(vs:List (Int×Nat)):T:=.dct ks (.non::vs.map v7)
noncomputable abbrev g8(xs:List Int):T:=.lst (xs.map T.int)
noncomputable def hit(x:Int)(l:Ln)(a:Int)(ks:List Int):Bool:=(x==l.1||x==l.2.1)&&(!(ks.contains (far l x))&&decide (0<spr l a x))
noncomputable def M9(x:Int)(i:Nat)(l:Ln)(a:Int)(s:Bs):Bs:=if hit x l a s.ks then⟨s.ks++[far l x],s.vs++[(x,i)],s.wt++[far l x]⟩else s
noncomputable def W3(x:Int)(f:List Int):Nat->List Ln->Bs->Bs
 |_,[],s=>s
 |i,l::ls,s=>W3 x f (i+1) ls (M9 x i l (f.getD i 0) s)
noncomputable def bfs(ls:List Ln)(f:List Int):Nat->Bs->Option Bs
 |0,_=>none
 |n+1,s=>match s.wt with
  |[]=>some s
  |x::wt=>bfs ls f n (W3 x f 0 ls ⟨s.ks,s.vs,wt⟩)
theorem ar3{f:List Int}{i:Nat}(h:i<f.length):e9 (g8 f) (.int (i:Int))=some (.int (f.getD i 0)):=by
 refine ae1 ?_;simp[h]
noncomputable def aQ7:GS:=(j6 (k7 8 (gM [4,3] (gIf (bOf (g2 fEq (g2 e9 (d0 7) (gC (.int 0))) (d0 5))) (g2 e9 (d0 7) (gC (.int 1))) (g2 e9 (d0 7) (gC (.int 0))))))
  (sIf (V6 (bOf (g2 fIn (d0 5) (g1 (aj9 0 (some 2)) (d0 7)))) (V6 (bOf (g2 az2 (d0 8) (d0 3))) (bOf (g2 fGt (gN N8 [(d0 7),(g2 e9 (d0 1) (d0 6)),(d0 5)]) (gC (.int 0)))))) (j6 (aq5 3 (gM [4,3] (d0 8)) (gM [4,3] (m7 [(d0 5),(d0 6)])))
  (S9 4 (gM [4,3] (d0 8)))) o7))
theorem bV0{L g c:Option T}{f:List Int}{x:Int}{i:Nat}{l:Ln}{s:Bs}(hi:i<f.length)(hk:s.ks.length=s.vs.length+1)(h1:s.ks.length<lim)(h2:s.wt.length<lim):
  aQ7 [L,some (g8 f),g,some (w8 s.ks s.vs),some (g8 s.wt),some (.int x),some (.int i),some (e8 l),c]=
   some (.nx [L,some (g8 f),g,some (w8 (M9 x i l (f.getD i 0) s).ks (M9 x i l (f.getD i 0) s).vs),some (g8 (M9 x i l (f.getD i 0) s).wt),some (.int x),some (.int i),some (e8 l),some (.int (far l x))]):=by
 unfold aQ7;rw[l8 (ρ':=[L,some (g8 f),g,some (w8 s.ks s.vs),some (g8 s.wt),some (.int x),some (.int i),some (e8 l),some (.int (far l x))])]
 ·have e0:g2 fIn (d0 5) (g1 (aj9 0 (some 2)) (d0 7)) [L,some (g8 f),g,some (w8 s.ks s.vs),some (g8 s.wt),some (.int x),some (.int i),some (e8 l),some (.int (far l x))]=some (.bl (x==l.1||x==l.2.1)):=by
   show some (T.bl (([l.1,l.2.1]:List Int).contains x))=_;congr 2;simp only[List.contains_cons,List.contains_nil,Bool.or_false]
  have e1:g2 az2 (d0 8) (d0 3) [L,some (g8 f),g,some (w8 s.ks s.vs),some (g8 s.wt),some (.int x),some (.int i),some (e8 l),some (.int (far l x))]=some (.bl !(s.ks.contains (far l x))):=rfl;have e2:g2 fGt (gN N8 [(d0 7),(g2 e9 (d0 1) (d0 6)),(d0 5)]) (gC (.int 0)) [L,some (g8 f),g,some (w8 s.ks s.vs),some (g8 s.wt),some (.int x),some (.int i),some (e8 l),some (.int (far l x))]=some (.bl (decide (0<spr l (f.getD i 0) x))):=by
   simp only[g2_ap,gN_ap,gs_cons,gs_nil,gC_ap,gVar_ap,ct7,ct6,jn,cx3,ar3 hi,cg3,fGt_int]
  rw[sIf_ap];simp only[bAnd_ap,bOf_ap,e0,e1,e2,cx3,toB_bl];have hh:(if(x==l.1||x==l.2.1)=true then(if(!s.ks.contains (far l x))=true then some (decide (0<spr l (f.getD i 0) x))else some false)else some false)=some (hit x l (f.getD i 0) s.ks):=by
   unfold hit;cases(x==l.1||x==l.2.1)<;>cases(!s.ks.contains (far l x))<;>rfl
  rw[hh];unfold M9;cases ht:hit x l (f.getD i 0) s.ks with
  |false=>rfl
  |true=>
   have hc:s.ks.contains (far l x)=false:=by
    unfold hit at ht;simp only[cr8,Bool.not_eq_true']at ht;exact ht.2.1
   simp only[cx3,if_true];rw[l8 (ρ':=[L,some (g8 f),g,some (w8 (s.ks++[far l x]) (s.vs++[(x,i)])),some (g8 s.wt),some (.int x),some (.int i),some (e8 l),some (.int (far l x))])]
   ·simp only[S9,gM,t9,ct2,ct3,gVar_ap,cw4,cw3,ct7,ct6,jn,cx3,cu6,cx8 h2,g8,cv1,cv2,cv4]
   ·simp only[aq5,gM,t9,ct2,ct3,gVar_ap,gTup_ap,gs_cons,gs_nil,cw4,cw3,ct7,ct6,jn,cx3];rw[cx8 ⟨h1,hc,by simp[hk]⟩];simp only[w8,cv1,cv2,cv4,ct0,v7]
 ·simp only[sSet_ap,gM,t9,ct2,ct3,gIf,bOf_ap,g2_ap,gC_ap,gVar_ap,cw4,cw3,ct7,ct6,jn,cx3,e8,trip,ix0,ix1,fEq_int,toB_bl];unfold far;by_cases h:l.1=x
  ·simp[h]
  ·simp[h]
theorem bq7{x:Int}{i:Nat}{l:Ln}{a:Int}{s:Bs}(hk:s.ks.length=s.vs.length+1):(M9 x i l a s).ks.length=(M9 x i l a s).vs.length+1/\(M9 x i l a s).ks.length<=s.ks.length+1/\(M9 x i l a s).wt.length<=s.wt.length+1:=by
 unfold M9;split
 ·simp[hk]
 ·exact⟨hk,by omega,by omega⟩
theorem bc9{L g:Option T}{f:List Int}{x:Int}:∀(ls:List Ln) (i:Nat) (s:Bs) (a b c:Option T),i+ls.length<=f.length->s.ks.length=s.vs.length+1->s.ks.length+ls.length<lim->s.wt.length+ls.length<lim->
  ∃a' b' c',u5 (st2 6 7) aQ7 (P0 i (ls.map e8)) [L,some (g8 f),g,some (w8 s.ks s.vs),some (g8 s.wt),some (.int x),a,b,c]=
   some (.nx [L,some (g8 f),g,some (w8 (W3 x f i ls s).ks (W3 x f i ls s).vs),some (g8 (W3 x f i ls s).wt),some (.int x),a',b',c'])
 |[],i,s,a,b,c,_,_,_,_=>⟨a,b,c,rfl⟩
 |l::ls,i,s,a,b,c,hi,hk,h1,h2=>by
  simp only[cu5]at hi h1 h2;obtain⟨k1,k2,k3⟩:=bq7 (x:=x) (i:=i) (l:=l) (a:=f.getD i 0) hk;obtain⟨a',b',c',ih⟩:=bc9 (L:=L) (g:=g) (f:=f) (x:=x) ls (i+1) (M9 x i l (f.getD i 0) s) (some (.int i)) (some (e8 l)) (some (.int (far l x))) (by omega) k1 (by omega) (by omega);refine⟨a',b',c',?_⟩;rw[cv2,P0,u5];simp only[st2_ap,cx3,cw4,cw3];rw[bV0 (by omega) hk (by omega) (by omega)];exact ih
structure ak3(p:Nat)(ls:List Ln)(f:List Int)(g:Int)(s:Bs):Prop where
 len:s.ks.length=s.vs.length+1
 hd:s.ks[0]?=some g
 nd:s.ks.Nodup
 rg:∀k∈s.ks,0<=k/\k<(p:Int)
 st:∀(j:Nat) (pl:Int) (n:Nat),s.vs[j]?=some (pl,n)->∃(k:Int) (l:Ln) (m:Nat),s.ks[j+1]?=some k/\s.ks[m]?=some pl/\m<=j/\ls[n]?=some l/\(l.1=pl/\l.2.1=k\/l.2.1=pl/\l.1=k)/\0<spr l (f.getD n 0) pl
 wt:∀x∈s.wt,x∈s.ks
noncomputable def ae3(ls:List Ln)(f:List Int)(ks:List Int)(x:Int):Prop:=∀(i:Nat) (l:Ln),ls[i]?=some l->(x=l.1\/x=l.2.1)->far l x∈ks\/spr l (f.getD i 0) x<=0
theorem ae3.mono{ls:List Ln}{f:List Int}{ks ks':List Int}{x:Int}(h:ae3 ls f ks x)(hs:∀k∈ks,k∈ks'):ae3 ls f ks' x:=fun i l hl hx=>(h i l hl hx).imp (hs _) id
theorem cl1{p:Nat}{ls:List Ln}{f:List Int}{g x:Int}{i:Nat}{l:Ln}{s:Bs}(ok:∀l∈ls,0<=l.1/\l.1<l.2.1/\l.2.1<(p:Int)/\1<=l.2.2/\l.2.2<=20)(G:ak3 p ls f g s)(hx:x∈s.ks)(hl:ls[i]?=some l):
  ak3 p ls f g (M9 x i l (f.getD i 0) s):=by
 unfold M9;split
 case isFalse=>exact G
 case isTrue ht=>
 unfold hit at ht;simp only[cr8,Bool.not_eq_true',Bool.or_eq_true,beq_iff_eq,cx6]at ht;obtain⟨hx2,hc,hs⟩:=ht;have hfar:far l x∉s.ks:=fun z=>by
  have :=List.contains_iff_mem.mpr z;rw[hc]at this;cases this
 have hlo:=ok l (cv9 hl);have hconn:l.1=x/\l.2.1=far l x\/l.2.1=x/\l.1=far l x:=by
  unfold far;rcases hx2 with e|e
  ·left;rw[cx8 e.symm];exact⟨e.symm,rfl⟩
  ·right;rw[cx7 (by omega)];exact⟨e.symm,rfl⟩
 have hl1:=G.len;refine⟨by simp[G.len],?_,?_,?_,?_,?_⟩
 ·show(s.ks++[far l x])[0]?=_;rw[ct4 (by omega)];exact G.hd
 ·show(s.ks++[far l x]).Nodup;rw[List.nodup_append];exact⟨G.nd,by simp,fun a ha b hb e=>by simp at hb;exact hfar (by rw[<-hb,<-e];exact ha)⟩
 ·intro k hk;rcases List.mem_append.mp hk with h|h
  ·exact G.rg k h
  ·simp at h;subst h;rcases hconn with⟨_,e⟩|⟨_,e⟩<;>rw[<-e]<;>omega
 ·intro j pl n hj;have hj:(s.vs++[(x,i)])[j]?=some (pl,n):=hj;show∃(k:Int) (l':Ln) (m:Nat),(s.ks++[far l x])[j+1]?=some k/\(s.ks++[far l x])[m]?=some pl/\_;by_cases hlt:j<s.vs.length
  ·rw[ct4 hlt]at hj;obtain⟨k,l',m,h1,h2,h3⟩:=G.st j pl n hj;exact⟨k,l',m,by rw[ct4 (by omega)];exact h1,by rw[ct4 (by omega)];exact h2,h3⟩
  ·rw[ct5 (by omega)]at hj;have :j-s.vs.length=0:=by
    rcases Nat.eq_zero_or_pos (j-s.vs.length)with e|e
    ·exact e
    ·rw[ct9 (by simp;omega)]at hj;cases hj
   rw[this]at hj;simp at hj;obtain⟨rfl,rfl⟩:=hj;obtain⟨m,hm,e⟩:=List.getElem_of_mem hx;refine⟨far l x,l,m,?_,?_,by omega,hl,hconn,hs⟩
   ·rw[ct5 (by omega)];have :j+1-s.ks.length=0:=by omega
    rw[this];rfl
   ·rw[ct4 hm,ct8 hm,e]
 ·intro y hy;rcases List.mem_append.mp hy with h|h
  ·exact cv5 _ (G.wt y h)
  ·exact cv6 _ h
theorem bh6{x:Int}{i:Nat}{l:Ln}{a:Int}{s:Bs}:∃new:List Int,(M9 x i l a s).ks=s.ks++new/\(M9 x i l a s).wt=s.wt++new:=by
 unfold M9;split
 ·exact⟨[far l x],rfl,rfl⟩
 ·exact⟨[],by simp,by simp⟩
theorem aS8{x:Int}{i:Nat}{l:Ln}{a:Int}{s:Bs}(h:x=l.1\/x=l.2.1):far l x∈(M9 x i l a s).ks\/spr l a x<=0:=by
 unfold M9;split
 ·exact .inl (cv6 _ (by simp))
 ·rename_i ht;unfold hit at ht;have h1:(x==l.1||x==l.2.1)=true:=by simpa using h
  rw[h1,Bool.true_and]at ht;by_cases hc:s.ks.contains (far l x)=true
  ·exact .inl (List.contains_iff_mem.mp hc)
  ·right;have :s.ks.contains (far l x)=false:=by simpa using hc
   rw[this]at ht;simpa using ht
theorem aI6{p:Nat}{ls0:List Ln}{f:List Int}{g x:Int}(ok:∀l∈ls0,0<=l.1/\l.1<l.2.1/\l.2.1<(p:Int)/\1<=l.2.2/\l.2.2<=20):∀(ls:List Ln) (i:Nat) (s:Bs),ak3 p ls0 f g s->x∈s.ks->(∀j,ls[j]?=ls0[i+j]?)->
  ak3 p ls0 f g (W3 x f i ls s)/\(∃new,(W3 x f i ls s).ks=s.ks++new/\(W3 x f i ls s).wt=s.wt++new)/\∀j l,ls[j]?=some l->(x=l.1\/x=l.2.1)->far l x∈(W3 x f i ls s).ks\/spr l (f.getD (i+j) 0) x<=0
 |[],i,s,G,_,_=>⟨G,⟨[],by simp[W3]⟩,fun j l h=>by simp at h⟩
 |l::ls,i,s,G,hx,he=>by
  have hl:ls0[i]?=some l:=by have :=he 0;simpa using this.symm
  have G1:=cl1 (x:=x) ok G hx hl;obtain⟨n1,e1,e2⟩:=bh6 (x:=x) (i:=i) (l:=l) (a:=f.getD i 0) (s:=s);have hx1:x∈(M9 x i l (f.getD i 0) s).ks:=by rw[e1];exact cv5 _ hx
  obtain⟨G2,⟨n2,e3,e4⟩,c2⟩:=aI6 (x:=x) ok ls (i+1) _ G1 hx1 (fun j=>by have :=he (j+1);rw[ct6]at this;rw[this];congr 1;omega);refine⟨G2,⟨n1++n2,?_,?_⟩,fun j l' hj hc=> ?_⟩
  ·show(W3 x f (i+1) ls _).ks=_;rw[e3,e1,List.append_assoc]
  ·show(W3 x f (i+1) ls _).wt=_;rw[e4,e2,List.append_assoc]
  ·cases j with
   |zero=>
    simp at hj;subst hj;rcases aS8 (i:=i) (a:=f.getD i 0) (s:=s) hc with q|q
    ·left;show far l x∈(W3 x f (i+1) ls _).ks;rw[e3];exact cv5 _ q
    ·exact .inr q
   |succ j=>
    rw[ct6]at hj;have :=c2 j l' hj hc;rw[show i+1+j=i+(j+1) by omega]at this;exact this
theorem aD1{x y:Int}:∀{xs:List Int},y∈ac5 x xs ↔y=x\/y∈xs
 |[]=>by simp[ac5]
 |z::xs=>by
  unfold ac5;split
  ·simp
  ·rw[List.mem_cons,aD1,List.mem_cons];constructor
   ·rintro(h|h|h)
    ·exact .inr (.inl h)
    ·exact .inl h
    ·exact .inr (.inr h)
   ·rintro(h|h|h)
    ·exact .inr (.inl h)
    ·exact .inl h
    ·exact .inr (.inr h)
theorem aW9{x:Int}:∀{xs:List Int},(ac5 x xs).length=xs.length+1
 |[]=>rfl
 |z::xs=>by
  unfold ac5;split
  ·rfl
  ·simp[aW9]
theorem bf7{x:Int}:∀{xs:List Int},upB xs=true->x∉xs->upB (ac5 x xs)=true
 |[],_,_=>rfl
 |z::xs,h,hx=>by
  obtain⟨h1,h2⟩:=ap9 h;have hne:x≠z:=fun e=>hx (by rw[e];exact cv8)
  unfold ac5;split
  ·refine bl5 (fun b hb=> ?_) h;rcases List.mem_cons.mp hb with e|e
   ·omega
   ·have :=h1 b e;omega
  ·refine bl5 (fun b hb=> ?_) (bf7 h2 fun z=>hx (cv7 _ z));rcases aD1.mp hb with e|e
   ·omega
   ·exact h1 b e
theorem aa8{y:Int}:∀{xs:List Int},y∈A1 xs ↔y∈xs
 |[]=>by simp[A1]
 |x::xs=>by rw[A1,aD1,aa8,List.mem_cons]
theorem au5:∀{xs:List Int},(A1 xs).length=xs.length
 |[]=>rfl
 |x::xs=>by rw[A1,aW9,au5];rfl
theorem aB2:∀{xs:List Int},xs.Nodup->upB (A1 xs)=true
 |[],_=>rfl
 |x::xs,h=>by
  rw[List.nodup_cons]at h;exact bf7 (aB2 h.2) fun z=>h.1 (aa8.mp z)
theorem ab0{p:Nat}{xs:List Int}(h:xs.Nodup)(hr:∀k∈xs,0<=k/\k<(p:Int)):xs.length<=p:=by
 have :=N2.len (p:=p) ⟨fun i hi=>hr i (aa8.mp hi),aB2 h⟩;rwa[au5]at this
theorem bz6{p:Nat}{ls:List Ln}{f:List Int}{g:Int}(ok:∀l∈ls,0<=l.1/\l.1<l.2.1/\l.2.1<(p:Int)/\1<=l.2.2/\l.2.2<=20):∀(n:Nat) (s:Bs),ak3 p ls f g s->(∀x∈s.ks,x∉s.wt->ae3 ls f s.ks x)->s.wt.length+p<n+s.ks.length->
  ∃s',bfs ls f n s=some s'/\ak3 p ls f g s'/\∀x∈s'.ks,ae3 ls f s'.ks x
 |0,s,G,hc,hn=>by
  have :=ab0 G.nd G.rg;omega
 |n+1,s,G,hc,hn=>by
  unfold bfs;cases hw:s.wt with
  |nil=>exact⟨s,rfl,G,fun x hx=>hc x hx (by rw[hw];simp)⟩
  |cons x wt=>
   have hx:x∈s.ks:=G.wt x (by rw[hw];exact cv8);have G0:ak3 p ls f g ⟨s.ks,s.vs,wt⟩:=⟨G.len,G.hd,G.nd,G.rg,G.st,fun y hy=>G.wt y (by rw[hw];exact cv7 _ hy)⟩
   obtain⟨G1,⟨new,e1,e2⟩,c1⟩:=aI6 (x:=x) ok ls 0 ⟨s.ks,s.vs,wt⟩ G0 hx (fun j=>by simp);refine bz6 ok n _ G1 (fun y hy hny=> ?_) ?_
   ·rw[e2]at hny;rw[e1]at hy;have hny1:y∉wt:=fun z=>hny (cv5 _ z)
    have hny2:y∉new:=fun z=>hny (cv6 _ z)
    have hys:y∈s.ks:=(List.mem_append.mp hy).resolve_right hny2;by_cases hyx:y=x
    ·subst hyx;intro i l hl hyl;have :=c1 i l hl hyl;rwa[Nat.zero_add]at this
    ·refine(hc y hys fun z=> ?_).mono fun k hk=>by rw[e1];exact cv5 _ hk
     rw[hw]at z;rcases List.mem_cons.mp z with q|q
     ·exact hyx q
     ·exact hny1 q
   ·rw[e1,e2];simp only[cu4];rw[hw]at hn;simp only[cu5]at hn;omega
noncomputable def bn2:GB:=aL0 (d0 4)
noncomputable def bh4:GS:=(j6 (ax8 4 5) (N0 (gLM [4,3] (itE (d0 0))) (st2 6 7) aQ7))
theorem bz7{g:Option T}{ls:List Ln}{f:List Int}{p:Nat}{gv:Int}(hf:f.length=ls.length)(hl:ls.length<=16)(hp:p<=8)(ok:∀l∈ls,0<=l.1/\l.1<l.2.1/\l.2.1<(p:Int)/\1<=l.2.2/\l.2.2<=20):∀(n:Nat) (s s':Bs) (a b c d:Option T),ak3 p ls f gv s->s.wt.length<=8+16*(12-n)->bfs ls f n s=some s'->n<=12->
  ∃a' b' c' d',v6 bn2 bh4 n [some (.lst (ls.map e8)),some (g8 f),g,some (w8 s.ks s.vs),some (g8 s.wt),a,b,c,d]=
   some (.nx [some (.lst (ls.map e8)),some (g8 f),g,some (w8 s'.ks s'.vs),some (g8 s'.wt),a',b',c',d'])
 |0,s,s',a,b,c,d,_,_,h,_=>by cases h
 |n+1,s,s',a,b,c,d,G,hwl,h,hn=>by
  unfold bfs at h;cases hw:s.wt with
  |nil=>
   rw[hw]at h;cases h;exact⟨a,b,c,d,by rw[v6];simp[bn2,aL0,hw]⟩
  |cons x wt=>
   rw[hw]at h;have hx:x∈s.ks:=G.wt x (by rw[hw];exact cv8);have G0:ak3 p ls f gv ⟨s.ks,s.vs,wt⟩:=⟨G.len,G.hd,G.nd,G.rg,G.st,fun y hy=>G.wt y (by rw[hw];exact cv7 _ hy)⟩
   obtain⟨G1,⟨new,e1,e2⟩,c1⟩:=aI6 (x:=x) ok ls 0 ⟨s.ks,s.vs,wt⟩ G0 hx (fun j=>by simp);have l1:=ab0 G.nd G.rg;have l2:=ab0 G1.nd G1.rg;rw[hw,cu5]at hwl;have hlim:lim=1000000:=rfl;obtain⟨a',b',c',hs⟩:=bc9 (L:=some (.lst (ls.map e8))) (g:=g) (f:=f) (x:=x) ls 0 ⟨s.ks,s.vs,wt⟩ b c d (by omega) G.len (by rw[hlim];dsimp only;omega) (by rw[hlim];dsimp only;omega);have hwl2:(W3 x f 0 ls ⟨s.ks,s.vs,wt⟩).wt.length<=8+16*(12-n):=by
    rw[e2];rw[e1]at l2;simp only[cu4]at l2⊢;omega
   obtain⟨a2,b2,c2,d2,ih⟩:=bz7 (g:=g) hf hl hp ok n _ s' (some (.int x)) a' b' c' G1 hwl2 h (by omega);refine⟨a2,b2,c2,d2,?_⟩;rw[v6];have hc:bn2 [some (.lst (ls.map e8)),some (g8 f),g,some (w8 s.ks s.vs),some (g8 (x::wt)),a,b,c,d]=some true:=rfl;have ht:bh4 [some (.lst (ls.map e8)),some (g8 f),g,some (w8 s.ks s.vs),some (g8 (x::wt)),a,b,c,d]=some (.nx [some (.lst (ls.map e8)),some (g8 f),g,some (w8 (W3 x f 0 ls ⟨s.ks,s.vs,wt⟩).ks (W3 x f 0 ls ⟨s.ks,s.vs,wt⟩).vs),some (g8 (W3 x f 0 ls ⟨s.ks,s.vs,wt⟩).wt),some (.int x),a',b',c']):=by
    unfold bh4;rw[l8 (ρ':=[some (.lst (ls.map e8)),some (g8 f),g,some (w8 s.ks s.vs),some (g8 wt),some (.int x),b,c,d]) rfl];exact hs
   rw[hc];simp only[cx3,if_true];rw[ht];exact ih
structure aQ8(p:Nat)(ls:List Ln)(f:List Int)(g:Int)(ks:List Int)(vs:List (Int×Nat)):Prop where
 good:ak3 p ls f g ⟨ks,vs,[]⟩
 closed:∀x∈ks,ae3 ls f ks x
theorem cm6{p:Nat}{ls:List Ln}{f:List Int}{g:Int}(F:v0 p ls)(hf:f.length=ls.length)(hg:0<=g/\g<(p:Int)):∃ks vs,P2 [.lst (ls.map e8),g8 f,.int g]=some (w8 ks vs)/\aQ8 p ls f g ks vs:=by
 have G0:ak3 p ls f g ⟨[g],[],[g]⟩:=⟨rfl,rfl,by simp,fun k hk=>by simp at hk;rw[hk];exact hg,fun j pl n h=>by simp at h,fun x hx=>hx⟩
 have hp:=F.hi;obtain⟨s',hb,G,hc⟩:=bz6 F.ok 12 _ G0 (fun x hx hn=>absurd hx hn) (by simp;omega);obtain⟨a,b,c,d,hw⟩:=bz7 (g:=some (.int g)) hf F.len F.hi F.ok 12 _ s' none none none none G0 (by simp) hb (cw8 _);refine⟨s'.ks,s'.vs,?_,⟨G.len,G.hd,G.nd,G.rg,G.st,fun x hx=>by cases hx⟩,hc⟩;rw[P2,n8 3 _ _ _ rfl,at7];rw[l8 (ρ':=[some (.lst (ls.map e8)),some (g8 f),some (.int g),some (w8 [g] []),none,none,none,none,none]) rfl];rw[l8 (ρ':=[some (.lst (ls.map e8)),some (g8 f),some (.int g),some (w8 [g] []),some (g8 [g]),none,none,none,none]) rfl];rw[l8 (ρ':=[some (.lst (ls.map e8)),some (g8 f),some (.int g),some (w8 s'.ks s'.vs),some (g8 s'.wt),a,b,c,d])]
 ·rfl
 ·exact hw
theorem aK7{k:Int}:∀{ks:List Int}{ts:List T}{j:Nat}{t:T},ks.Nodup->ks[j]?=some k->ts[j]?=some t->aa2 k ks ts=some t
 |[],_,_,_,_,hh,_=>by simp at hh
 |_::_,[],_,_,_,_,hh=>by simp at hh
 |a::ks,u::ts,0,t,nd,h,h2=>by
  simp at h h2;subst h h2;simp[aa2]
 |a::ks,u::ts,j+1,t,nd,h,h2=>by
  rw[List.nodup_cons]at nd;simp only[ct6]at h h2;have :¬a=k:=fun e=>nd.1 (by rw[e];exact cv9 h)
  simp only[aa2,cx7 this];exact aK7 nd.2 h h2
noncomputable def ag1(ls:List Ln)(f:List Int)(g:Int):Int->List (Int×Nat)->Prop
 |k,[]=>k=g
 |k,(pl,n)::r=>(∃l,ls[n]?=some l/\(l.1=pl/\l.2.1=k\/l.2.1=pl/\l.1=k)/\0<spr l (f.getD n 0) pl)/\ag1 ls f g pl r
noncomputable def bn1:GB:=bOf (g2 (fun x y=>match y with |.non=>as0 x|_=>none) (d0 3) (gC .non))
noncomputable def bh3:GS:=(j6 (S9 2 (gM [2] (d0 3))) (k7 3 (gM [2] (g2 aH7 (d0 0) (g2 e9 (d0 3) (gC (.int 0)))))))
theorem bw3{ks:List Int}{i j:Nat}{k:Int}(nd:ks.Nodup)(h1:ks[i]?=some k)(h2:ks[j]?=some k):i=j:=by
 have l1:i<ks.length:=by
  rcases Nat.lt_or_ge i ks.length with q|q
  ·exact q
  ·rw[ct9 q]at h1;cases h1
 exact(List.getElem?_inj l1 nd).mp (h1.trans h2.symm)
theorem bB9{p:Nat}{ls:List Ln}{f:List Int}{g goal:Int}{ks:List Int}{vs:List (Int×Nat)}(ok:∀l∈ls,0<=l.1/\l.1<l.2.1/\l.2.1<(p:Int)/\1<=l.2.2/\l.2.2<=20)(R:aQ8 p ls f g ks vs):∀(j:Nat) (k:Int) (acc:List (Int×Nat)) (n:Nat),ks[j]?=some k->j<n->acc.length+j<lim->
  ∃rt:List (Int×Nat),(∀t:T,(.non::vs.map v7)[j]?=some t->∃e:Option T,v6 bn1 bh3 n [some (w8 ks vs),some (.int goal),some (.lst (acc.map v7)),some t]=some (.nx [some (w8 ks vs),some (.int goal),some (.lst ((acc++rt).map v7)),e]))/\
   ag1 ls f g k rt/\(∀s∈rt,∀l,ls[s.2]?=some l->∃i i',i<=j/\i'<=j/\ks[i]?=some l.1/\ks[i']?=some l.2.1)/\(rt.map (·.2)).Nodup:=by
 intro j;induction j using Nat.strongRecOn with
 |ind j ih=>
  intro k acc n hk hn hl;cases n with
  |zero=>omega
  |succ n=>
  cases j with
  |zero=>
   have :=R.good.hd;refine⟨[],fun t ht=> ?_,?_,by simp,by simp⟩
   ·simp at ht;subst ht;exact⟨_,by rw[v6];simp[bn1,as0,aQ3];rfl⟩
   ·have e:some g=some k:=this.symm.trans hk;cases e;rfl
  |succ j=>
   have hlt:j<vs.length:=by
    have h1:j+1<ks.length:=by
     rcases Nat.lt_or_ge (j+1) ks.length with q|q
     ·exact q
     ·rw[ct9 q]at hk;cases hk
    have :=R.good.len;simp only at this;omega
   obtain⟨pl,m,hv'⟩:∃pl m,vs[j]?=some (pl,m):=⟨vs[j].1,vs[j].2,by rw[ct8 hlt]⟩
   obtain⟨k',l,i,h1,h2,h3,h4,h5,h6⟩:=R.good.st j pl m hv';have ek:k'=k:=by
    have :some k'=some k:=h1.symm.trans hk;cases this;rfl
   subst ek;obtain⟨rt,a1,a2,a3,a4⟩:=ih i (by omega) pl (acc++[(pl,m)]) n h2 (by omega) (by simp;omega);refine⟨(pl,m)::rt,fun t ht=> ?_,⟨⟨l,h4,h5,h6⟩,a2⟩,?_,?_⟩
   ·have et:t=v7 (pl,m):=by
     rw[ct6,cu0,hv']at ht;cases ht;rfl
    subst et;have hli:i<(T.non::vs.map v7).length:=by simp;omega
    obtain⟨e,b1⟩:=a1 _ (ct8 hli);refine⟨e,?_⟩;rw[v6];have hc:bn1 [some (w8 ks vs),some (.int goal),some (.lst (acc.map v7)),some (v7 (pl,m))]=some true:=rfl;have ht2:bh3 [some (w8 ks vs),some (.int goal),some (.lst (acc.map v7)),some (v7 (pl,m))]=some (.nx [some (w8 ks vs),some (.int goal),some (.lst ((acc++[(pl,m)]).map v7)),some ((T.non::vs.map v7)[i])]):=by
     unfold bh3;rw[l8 (ρ':=[some (w8 ks vs),some (.int goal),some (.lst ((acc++[(pl,m)]).map v7)),some (v7 (pl,m))])]
     ·have hd:aa2 pl ks (.non::vs.map v7)=some ((T.non::vs.map v7)[i]):=aK7 R.good.nd h2 (ct8 hli);simp only[sSet_ap,gM,t9,ct2,ct3,g2_ap,gC_ap,gVar_ap,cw4,cw3,ct7,ct6,jn,cx3,v7,ix0,aH7];have hd':aa2 pl ks (T.non::vs.map v7)=some ((T.non::vs.map v7)[i]):=hd;show Option.bind (aa2 pl ks (T.non::vs.map v7)) _=_;rw[hd'];rfl
     ·have :acc.length<lim:=by omega
      simp only[S9,gM,t9,ct2,ct3,gVar_ap,cw4,cw3,ct7,ct6,jn,cx3,cu6,cx8 this,cv1,cv2,cv4]
    rw[hc];simp only[cx3,if_true];rw[ht2];rw[show acc++(pl,m)::rt=acc++[(pl,m)]++rt by simp];exact b1
   ·intro s hs l' hl';rcases List.mem_cons.mp hs with e|e
    ·subst e;rw[h4]at hl';cases hl';rcases h5 with⟨q1,q2⟩|⟨q1,q2⟩
     ·exact⟨i,j+1,by omega,by omega,by rw[q1];exact h2,by rw[q2];exact hk⟩
     ·exact⟨j+1,i,by omega,by omega,by rw[q2];exact hk,by rw[q1];exact h2⟩
    ·obtain⟨x,y,b1,b2,b3⟩:=a3 s e l' hl';exact⟨x,y,by omega,by omega,b3⟩
   ·rw[cv2,List.nodup_cons];refine⟨fun z=> ?_,a4⟩;obtain⟨s,hs,e⟩:=List.mem_map.mp z;obtain⟨x,y,b1,b2,b3,b4⟩:=a3 s hs l (by rw[e];exact h4);rcases h5 with⟨q1,q2⟩|⟨q1,q2⟩
    ·rw[q2]at b4;have :=bw3 R.good.nd b4 hk;omega
    ·rw[q2]at b3;have :=bw3 R.good.nd b3 hk;omega
theorem cq9{p:Nat}{ls:List Ln}{f:List Int}{g goal:Int}{ks:List Int}{vs:List (Int×Nat)}(hp:p<=8)(ok:∀l∈ls,0<=l.1/\l.1<l.2.1/\l.2.1<(p:Int)/\1<=l.2.2/\l.2.2<=20)(R:aQ8 p ls f g ks vs)(hg:goal∈ks):
  ∃rt:List (Int×Nat),U5 [w8 ks vs,.int goal]=some (.lst (rt.map v7))/\ag1 ls f g goal rt/\(rt.map (·.2)).Nodup/\rt.length<=ls.length:=by
 obtain⟨j,hj,e⟩:=List.getElem_of_mem hg;have hl:=ab0 R.good.nd R.good.rg;simp only at hl;obtain⟨rt,h1,h2,h3,h4⟩:=bB9 (goal:=goal) ok R j goal [] 12 (by rw[ct8 hj,e]) (by omega) (by show 0+j<1000000;omega);have hlen:=R.good.len;simp only at hlen;have hj2:j<(T.non::vs.map v7).length:=by simp;omega
 obtain⟨e',hw⟩:=h1 _ (ct8 hj2);have hpath:∀(rt:List (Int×Nat)) (k:Int),ag1 ls f g k rt->∀s∈rt,s.2<ls.length:=by
  intro rt;induction rt with
  |nil=>intro k _ s hs;cases hs
  |cons a rt ih=>
   rintro k ⟨⟨l,q,_⟩,q2⟩ s hs;rcases List.mem_cons.mp hs with e|e
   ·subst e;rcases Nat.lt_or_ge s.2 ls.length with z|z
    ·exact z
    ·rw[ct9 z]at q;cases q
   ·exact ih _ q2 s e
 refine⟨rt,?_,h2,h4,?_⟩
 ·rw[U5,n8 2 _ _ _ rfl,at4];rw[l8 (ρ':=[some (w8 ks vs),some (.int goal),some (.lst []),none]) rfl];rw[l8 (ρ':=[some (w8 ks vs),some (.int goal),some (.lst []),some ((T.non::vs.map v7)[j])])]
  ·rw[l8 (ρ':=[some (w8 ks vs),some (.int goal),some (.lst (rt.map v7)),e'])]
   ·rfl
   ·rw[cw0]at hw;exact hw
  ·have hd:aa2 goal ks (.non::vs.map v7)=some ((T.non::vs.map v7)[j]):=aK7 R.good.nd (by rw[ct8 hj,e]) (ct8 hj2);show Option.bind (aa2 goal ks (T.non::vs.map v7)) _=_;rw[hd];rfl
 ·have :=ab0 (p:=ls.length) (xs:=(rt.map (·.2)).map fun n:Nat=>(n:Int)) ?_ ?_
  ·simpa using this
  ·rw[List.Nodup,List.pairwise_map];exact h4.imp fun h=>by omega
  ·intro k hk;obtain⟨n,hn,rfl⟩:=List.mem_map.mp hk;obtain⟨s,hs,rfl⟩:=List.mem_map.mp hn;have :=hpath rt goal h2 s hs;omega
noncomputable def ct(l:Ln)(a x:Int):Int:=(if l.1=x then a else 0)-(if l.2.1=x then a else 0)
noncomputable def B0:List Ln->List Int->Int->Int
 |l::ls,a::f,x=>ct l a x+B0 ls f x
 |_,_,_=>0
theorem by6(l:Ln)(a b x:Int):ct l (a+b) x=ct l a x+ct l b x:=by
 unfold ct;split<;>split<;>omega
theorem be7{d x:Int}:∀{ls:List Ln}{f:List Int}{n:Nat}{l:Ln},ls[n]?=some l->n<f.length->B0 ls (f.set n (f.getD n 0+d)) x=B0 ls f x+ct l d x
 |[],_,_,_,h,_=>by simp at h
 |_::_,[],_,_,_,hh=>by simp at hh
 |l'::ls,a::f,0,l,h,_=>by
  simp at h;subst h;simp only[cw4,B0,List.getD_cons_zero,by6];omega
 |l'::ls,a::f,n+1,l,h,hn=>by
  simp only[ct6]at h;simp only[cu5]at hn;have ih:=be7 (d:=d) (x:=x) h (show n<f.length by omega);simp only[cw3,B0,List.getD_cons_succ,ih];omega
noncomputable def sgn(ls:List Ln)(pl:Int)(n:Nat)(am:Int):Int:=if(ls.getD n (0,0,0)).1=pl then am else -am
noncomputable def ad6(ls:List Ln)(am:Int):List (Int×Nat)->List Int->List Int
 |[],f=>f
 |(pl,n)::r,f=>ad6 ls am r (f.set n (f.getD n 0+sgn ls pl n am))
theorem aS6{ls:List Ln}{am:Int}:∀{rt:List (Int×Nat)}{f:List Int},(ad6 ls am rt f).length=f.length
 |[],_=>rfl
 |(pl,n)::r,f=>by rw[ad6,aS6,cu9]
theorem ai0{ls:List Ln}{n:Nat}{l:Ln}(h:ls[n]?=some l):ls.getD n (0,0,0)=l:=by simp[List.getD,h]
theorem af8{α:Type}{xs:List α}{n:Nat}{x:α}(h:xs[n]?=some x):n<xs.length:=by
 rcases Nat.lt_or_ge n xs.length with q|q
 ·exact q
 ·rw[ct9 q]at h;cases h
noncomputable def ind(b:Bool)(a:Int):Int:=if b then a else 0
theorem aH2(x k a:Int):ind (x==k) a=if k=x then a else 0:=by
 unfold ind;by_cases h:k=x
 ·rw[cx8 h,cx8 (by rw[h];simp)]
 ·rw[cx7 h,cx7 (by simpa using fun e=>h (Eq.symm e))]
theorem aS5{ls:List Ln}{f0:List Int}{g am x:Int}(ok:∀l∈ls,l.1<l.2.1):∀{rt:List (Int×Nat)}{k:Int}{f:List Int},ag1 ls f0 g k rt->ls.length=f.length->
  B0 ls (ad6 ls am rt f) x=B0 ls f x+(ind (x==g) am-ind (x==k) am)
 |[],k,f,h,_=>by
  have h:k=g:=h;subst h;simp[ad6]
 |(pl,n)::r,k,f,⟨⟨l,h1,h2,h3⟩,h4⟩,hl=>by
  have hn:=af8 h1;rw[ad6,aS5 ok h4 (by rw[cu9];exact hl),be7 h1 (by omega)];have hlt:=ok l (cv9 h1);have e:ct l (sgn ls pl n am) x=ind (x==pl) am-ind (x==k) am:=by
   rw[aH2,aH2];unfold sgn ct;rw[ai0 h1];rcases h2 with⟨q1,q2⟩|⟨q1,q2⟩
   ·rw[cx8 q1,q1,q2]
   ·rw[cx7 (show¬l.1=pl by omega),q1,q2];split<;>split<;>omega
  rw[e];omega
noncomputable def Bnd(ls:List Ln)(f:List Int):Prop:=∀(n:Nat) (l:Ln),ls[n]?=some l-> -l.2.2<=f.getD n 0/\f.getD n 0<=l.2.2
theorem W9{f:List Int}{n m:Nat}{v:Int}(hn:n<f.length):(f.set n v).getD m 0=if n=m then v else f.getD m 0:=by
 by_cases h:n=m
 ·subst h;rw[cx8 rfl];simp[List.getD,hn]
 ·rw[cx7 h];simp[List.getD,cu2 h]
theorem aS7{ls:List Ln}{f0:List Int}{g am:Int}(ok:∀l∈ls,l.1<l.2.1)(ha:0<am):∀{rt:List (Int×Nat)}{k:Int}{f:List Int},ag1 ls f0 g k rt->ls.length=f.length->(rt.map (·.2)).Nodup->(∀s∈rt,∀l,ls[s.2]?=some l->am<=spr l (f.getD s.2 0) s.1)->Bnd ls f->Bnd ls (ad6 ls am rt f)
 |[],_,f,_,_,_,_,hb=>hb
 |(pl,n)::r,k,f,⟨⟨l,h1,h2,h3⟩,h4⟩,hl,nd,hs,hb=>by
  rw[cv2,List.nodup_cons]at nd;have hn:=af8 h1;have hnf:n<f.length:=by omega
  rw[ad6];have hlt:=ok l (cv9 h1);refine aS7 ok ha h4 (by rw[cu9];exact hl) nd.2 (fun s hs' l' hl'=> ?_) (fun m l' hl'=> ?_)
  ·have :n≠s.2:=fun e=>nd.1 (by rw[show(pl,n).2=s.2 from e];exact List.mem_map_of_mem hs')
   rw[W9 hnf,cx7 this];exact hs s (cv7 _ hs') l' hl'
  ·rw[W9 hnf];split
   ·rename_i e;subst e;rw[h1]at hl';cases hl';have b1:=hb n l h1;have b2:=hs (pl,n) cv8 l h1;unfold spr at b2;unfold sgn;rw[ai0 h1];rcases h2 with⟨q1,q2⟩|⟨q1,q2⟩
    ·rw[cx8 q1]at b2⊢;dsimp only at b2;omega
    ·rw[cx7 (by dsimp only;omega)]at b2;rw[cx7 (by omega)];dsimp only at b2;omega
   ·exact hb m l' hl'
noncomputable def bn6:GS:=(V5 4 am0 (gM [4] (d0 6)) (gM [4] (gIf (bOf (g2 fEq (g2 e9 (g2 e9 (d0 0) (d0 6)) (gC (.int 0))) (d0 5))) (d0 3) (g1 aa1 (d0 3)))))
theorem aX1{ls:List Ln}{n:Nat}{l:Ln}(h:ls[n]?=some l):e9 (.lst (ls.map e8)) (.int (n:Int))=some (e8 l):=by
 refine ae1 ?_;simp[h]
theorem aB5(f:List Int)(n:Nat)(v:Int):(f.map T.int).set n (.int v)=(f.set n v).map T.int:=by rw[List.map_set]
theorem bc8{ls:List Ln}{am:Int}{F R:Option T}:∀(rt:List (Int×Nat)) (f:List Int) (a b:Option T),(∀s∈rt,s.2<ls.length)->ls.length=f.length->
  ∃a' b',u5 (st2 5 6) bn6 (rt.map v7) [some (.lst (ls.map e8)),F,R,some (.int am),some (g8 f),a,b]=some (.nx [some (.lst (ls.map e8)),F,R,some (.int am),some (g8 (ad6 ls am rt f)),a',b'])
 |[],f,a,b,_,_=>⟨a,b,rfl⟩
 |(pl,n)::r,f,a,b,hr,hl=>by
  have hn:n<ls.length:=hr (pl,n) cv8;have h1:ls[n]?=some ls[n]:=ct8 hn;obtain⟨a',b',ih⟩:=bc8 (ls:=ls) (am:=am) (F:=F) (R:=R) r (f.set n (f.getD n 0+sgn ls pl n am)) (some (.int pl)) (some (.int n)) (fun s hs=>hr s (cv7 _ hs)) (by rw[cu9];exact hl);refine⟨a',b',?_⟩;rw[cv2,u5];simp only[v7,st2_ap,cx3,cw4,cw3];have e:bn6 [some (.lst (ls.map e8)),F,R,some (.int am),some (g8 f),some (.int pl),some (.int n)]=some (.nx [some (.lst (ls.map e8)),F,R,some (.int am),some (g8 (f.set n (f.getD n 0+sgn ls pl n am))),some (.int pl),some (.int n)]):=by
   have hv:gIf (bOf (g2 fEq (g2 e9 (g2 e9 (d0 0) (d0 6)) (gC (.int 0))) (d0 5))) (d0 3) (g1 aa1 (d0 3)) [some (.lst (ls.map e8)),F,R,some (.int am),none,some (.int pl),some (.int n)]=some (.int (sgn ls pl n am)):=by
    simp only[gIf,bOf_ap,g2_ap,g1_ap,gC_ap,gVar_ap,ct7,ct6,jn,cx3,aX1 h1,e8,trip,ix0,fEq_int,toB_bl,fNeg_int];unfold sgn;rw[ai0 h1];by_cases q:ls[n].1=pl
    ·simp[q]
    ·simp[q]
   unfold bn6 V5;have hm:t9 [4] [some (.lst (ls.map e8)),F,R,some (.int am),some (g8 f),some (.int pl),some (.int n)]=[some (.lst (ls.map e8)),F,R,some (.int am),none,some (.int pl),some (.int n)]:=rfl;have hnf:n<f.length:=by omega
   have hi:ixT (f.map T.int).length (n:Int)=some n:=ae0 (by simpa using hnf);have hg:(f.map T.int)[n]?=some (.int (f.getD n 0)):=by simp[List.getD,hnf]
   simp only[gM,hm,hv,gVar_ap,ct7,ct6,jn,cx3,cx8 (show(0:Int)<=(n:Int) by omega),hi,hg,am0,cw4,cw3,g8,aB5]
  rw[e];exact ih
theorem be5{ls:List Ln}{f:List Int}{g:Int}:∀{rt:List (Int×Nat)}{k:Int},ag1 ls f g k rt->∀s∈rt,s.2<ls.length
 |[],_,_,s,hs=>by cases hs
 |(pl,n)::rt,k,⟨⟨l,q,_⟩,q2⟩,s,hs=>by
  rcases List.mem_cons.mp hs with e|e
  ·subst e;exact af8 q
  ·exact be5 q2 s e
theorem cq8{ls:List Ln}{am:Int}{rt:List (Int×Nat)}{f:List Int}(hr:∀s∈rt,s.2<ls.length)(hl:ls.length=f.length):
  ag2 [.lst (ls.map e8),g8 f,.lst (rt.map v7),.int am]=some (g8 (ad6 ls am rt f)):=by
 obtain⟨a,b,h⟩:=bc8 (ls:=ls) (am:=am) (F:=some (g8 f)) (R:=some (.lst (rt.map v7))) rt f none none hr hl;rw[ag2,n8 4 _ _ _ rfl,aZ7];rw[l8 (ρ':=[some (.lst (ls.map e8)),some (g8 f),some (.lst (rt.map v7)),some (.int am),some (g8 f),none,none]) rfl];rw[l8 (ρ':=[some (.lst (ls.map e8)),some (g8 f),some (.lst (rt.map v7)),some (.int am),some (g8 (ad6 ls am rt f)),a,b])]
 ·rfl
 ·exact h
theorem bM5{L:Option T}:∀(left:List Int) (i:Nat) (a b:Option T),(∃(j:Nat) (v:Int),left[j]?=some v/\0<v/\u5 (st2 1 2) (sIf (bOf (g2 fGt (d0 2) (gC (.int 0)))) (m6 (d0 1)) o7) (P0 i (left.map T.int)) [L,a,b]=some (.ret (.int (i+j:Nat))))\/
  ((∀v∈left,v<=0)/\∃a' b',u5 (st2 1 2) (sIf (bOf (g2 fGt (d0 2) (gC (.int 0)))) (m6 (d0 1)) o7) (P0 i (left.map T.int)) [L,a,b]=some (.nx [L,a',b']))
 |[],i,a,b=>.inr ⟨by simp,a,b,rfl⟩
 |v::left,i,a,b=>by
  have e:(sIf (bOf (g2 fGt (d0 2) (gC (.int 0)))) (m6 (d0 1)) o7) [L,some (.int i),some (.int v)]=if 0<v then some (.ret (.int i))else some (.nx [L,some (.int i),some (.int v)]):=by
   simp only[sIf_ap,bOf_ap,g2_ap,gC_ap,gVar_ap,ct7,ct6,jn,cx3,fGt_int,toB_bl];by_cases h:0<v
   ·simp[h]
   ·simp[h]
  have step:u5 (st2 1 2) (sIf (bOf (g2 fGt (d0 2) (gC (.int 0)))) (m6 (d0 1)) o7) (P0 i ((v::left).map T.int)) [L,a,b]=if 0<v then some (.ret (.int i))else u5 (st2 1 2) (sIf (bOf (g2 fGt (d0 2) (gC (.int 0)))) (m6 (d0 1)) o7) (P0 (i+1) (left.map T.int)) [L,some (.int i),some (.int v)]:=by
   rw[cv2,P0,u5];simp only[st2_ap,cx3,cw4,cw3];rw[e];split<;>rfl
  by_cases h:0<v
  ·refine .inl ⟨0,v,rfl,h,?_⟩;rw[step,cx8 h];rfl
  ·rw[step,cx7 h];rcases bM5 left (i+1) (some (.int i)) (some (.int v))with⟨j,w,h1,h2,h3⟩|⟨h1,h2⟩
   ·refine .inl ⟨j+1,w,h1,h2,?_⟩;rw[h3,show i+1+j=i+(j+1) by omega]
   ·exact .inr ⟨fun x hx=>by rcases List.mem_cons.mp hx with q|q;exact q▸(by omega);exact h1 x q,h2⟩
theorem bK3(left:List Int):(∃(j:Nat) (v:Int),left[j]?=some v/\0<v/\u0 [g8 left]=some (.int (j:Nat)))\/((∀v∈left,v<=0)/\u0 [g8 left]=some .non):=by
 rw[u0,n8 1 _ _ _ rfl,U3];rcases bM5 (L:=some (g8 left)) left 0 none none with⟨j,v,h1,h2,h3⟩|⟨h1,a,b,h3⟩
 ·refine .inl ⟨j,v,h1,h2,?_⟩;rw[W4 (t:=.int ((0+j:Nat):Int))]
  ·rw[Nat.zero_add];rfl
  ·exact h3
 ·refine .inr ⟨h1,?_⟩;rw[l8 (ρ':=[some (g8 left),a,b])]
  ·rfl
  ·exact h3
theorem bf0:∀{xs:List Int},xs≠[]->∃m,ac3 xs=some m/\m∈xs/\∀x∈xs,m<=x
 |[],h=>absurd rfl h
 |[x],_=>⟨x,rfl,by simp,by simp⟩
 |x::y::xs,_=>by
  obtain⟨m,h1,h2,h3⟩:=bf0 (xs:=y::xs) (by simp);by_cases h:m<x
  ·refine⟨m,by rw[ac3,h1];simp[h],cv7 _ h2,fun z hz=> ?_⟩;rcases List.mem_cons.mp hz with e|e
   ·omega
   ·exact h3 z e
  ·refine⟨x,by rw[ac3,h1];simp[h],cv8,fun z hz=> ?_⟩;rcases List.mem_cons.mp hz with e|e
   ·omega
   ·have :=h3 z e;omega
noncomputable def G9(S:List Int)(h:Int->Int):Int:=(S.map h).sum
theorem O8(x:Int)(S:List Int)(h:Int->Int):G9 (x::S) h=h x+G9 S h:=by simp[G9]
theorem aB1(S:List Int)(h k:Int->Int):G9 S (fun x=>h x+k x)=G9 S h+G9 S k:=by
 induction S with
 |nil=>rfl
 |cons x S ih=>rw[O8,O8,O8,ih];omega
theorem ag9{S:List Int}{h k:Int->Int}(e:∀x∈S,h x=k x):G9 S h=G9 S k:=by
 unfold G9;rw[List.map_congr_left e]
theorem aM0(S:List Int):G9 S (fun _=>0)=0:=by
 induction S with
 |nil=>rfl
 |cons x S ih=>rw[O8,ih];rfl
theorem an6{u a:Int}:∀{S:List Int},S.Nodup->G9 S (fun x=>if u=x then a else 0)=ind (S.contains u) a
 |[],_=>rfl
 |y::S,h=>by
  rw[List.nodup_cons]at h;rw[O8,an6 h.2,List.contains_cons];by_cases e:u=y
  ·subst e;have :S.contains u=false:=by
    cases q:S.contains u with
    |false=>rfl
    |true=>exact absurd (List.contains_iff_mem.mp q) h.1
   simp[ind,h.1]
  ·have e1:(u==y)=false:=by simpa using e
   rw[cx7 e,e1,Bool.false_or,Int.zero_add]
theorem aS0(S:List Int)(h k:Int->Int):G9 S (fun x=>h x-k x)=G9 S h-G9 S k:=by
 induction S with
 |nil=>rfl
 |cons x S ih=>rw[O8,O8,O8,ih];omega
noncomputable def Y6(S:List Int):List Ln->List Int->Int
 |l::ls,a::f=>(ind (S.contains l.1) a-ind (S.contains l.2.1) a)+Y6 S ls f
 |_,_=>0
theorem ax3{S:List Int}(nd:S.Nodup):∀(ls:List Ln) (f:List Int),G9 S (B0 ls f)=Y6 S ls f
 |[],f=>aM0 S
 |_::_,[]=>aM0 S
 |l::ls,a::f=>by
  show G9 S (fun x=>ct l a x+B0 ls f x)=_;rw[aB1,ax3 nd ls f];show G9 S (fun x=>(if l.1=x then a else 0)-(if l.2.1=x then a else 0))+_=_;rw[aS0,an6 nd,an6 nd];rfl
theorem af5(S:List Int)(l:Ln)(ls:List Ln):B2 S (l::ls)=ind (Q9 S l) l.2.2+B2 S ls:=by
 unfold B2 ind;rw[List.filter_cons];split
 ·simp
 ·simp
theorem Bnd.tail{l:Ln}{ls:List Ln}{a:Int}{f:List Int}(h:Bnd (l::ls) (a::f)):(-l.2.2<=a/\a<=l.2.2)/\Bnd ls f:=
 ⟨h 0 l rfl,fun n l' hl=>by have :=h (n+1) l' hl;simpa using this⟩
theorem aD5{S:List Int}:∀{ls:List Ln}{f:List Int},(∀l∈ls,0<=l.2.2)->Bnd ls f->Y6 S ls f<=B2 S ls/\ -Y6 S ls f<=B2 S ls
 |[],f,_,_=>⟨Int.le_refl _,Int.le_refl _⟩
 |l::ls,[],hr,_=>by
  have h0:∀ls:List Ln,(∀l∈ls,0<=l.2.2)->0<=B2 S ls:=by
   intro ls;induction ls with
   |nil=>intro _;exact Int.le_refl _
   |cons l ls ih=>
    intro h;rw[af5];have h1:=h l cv8;have h2:=ih fun x hx=>h x (cv7 _ hx)
    unfold ind;split<;>omega
  have :=h0 (l::ls) hr;exact⟨this,this⟩
 |l::ls,a::f,hr,hb=>by
  obtain⟨h1,h2⟩:=hb.tail;obtain⟨i1,i2⟩:=aD5 (S:=S) (fun x hx=>hr x (cv7 _ hx)) h2;rw[af5,Y6];unfold ind Q9;cases S.contains l.1<;>cases S.contains l.2.1<;>simp<;>omega
theorem aH8{S:List Int}:∀{ls:List Ln}{f:List Int},ls.length=f.length->(∀n l,ls[n]?=some l->(S.contains l.1=true->S.contains l.2.1=false->f.getD n 0=l.2.2)/\(S.contains l.2.1=true->S.contains l.1=false->f.getD n 0= -l.2.2))->Y6 S ls f=B2 S ls
 |[],[],_,_=>rfl
 |l::ls,a::f,hl,h=>by
  rw[af5,Y6,aH8 (by simpa using hl) fun n l' hl'=>by have :=h (n+1) l' hl';simpa using this];have :=h 0 l rfl;simp only[List.getD_cons_zero]at this;congr 1;unfold ind Q9;cases h1:S.contains l.1<;>cases h2:S.contains l.2.1<;>simp
  ·have :=this.2 h2 h1;omega
  ·exact this.1 h1 h2
noncomputable def Z8:List Int->Nat
 |[]=>0
 |v::r=>v.toNat+Z8 r
theorem ai9{v:Int}:∀{xs:List Int}{n:Nat},n<xs.length->Z8 (xs.set n v)+(xs.getD n 0).toNat=Z8 xs+v.toNat
 |[],_,h=>by simp at h
 |x::xs,0,_=>by simp[Z8];omega
 |x::xs,n+1,h=>by
  have :=ai9 (v:=v) (xs:=xs) (n:=n) (by simpa using h);simp only[cw3,Z8,List.getD_cons_succ];omega
theorem an5{v:Int}:∀{xs:List Int}{n:Nat},n<xs.length->(xs.set n v).sum=xs.sum-xs.getD n 0+v
 |[],_,h=>by simp at h
 |x::xs,0,_=>by simp;omega
 |x::xs,n+1,h=>by
  have :=an5 (v:=v) (xs:=xs) (n:=n) (by simpa using h);simp only[cw3,List.sum_cons,List.getD_cons_succ,this];omega
theorem aG4:∀{xs:List Int},(∀v∈xs,v<=0)->xs.sum<=0
 |[],_=>by simp
 |x::xs,h=>by
  have h1:=h x cv8;have :=aG4 fun v hv=>h v (cv7 _ hv)
  simp only[List.sum_cons];omega
theorem aZ5:∀{xs:List Int},(∀v∈xs,v<=0)->xs.sum=0->∀v∈xs,v=0
 |[],_,_,v,hv=>by cases hv
 |x::xs,h,hs,v,hv=>by
  have h1:=h x cv8;have h2:=aG4 fun v hv=>h v (cv7 _ hv)
  simp only[List.sum_cons]at hs;rcases List.mem_cons.mp hv with e|e
  ·omega
  ·exact aZ5 (fun v hv=>h v (cv7 _ hv)) (by omega) v e
structure WI(p:Nat)(ls:List Ln)(left0 f left:List Int):Prop where
 len:left.length=p
 fl:f.length=ls.length
 bnd:Bnd ls f
 bal:∀x:Nat,x<p->left.getD x 0+B0 ls f x=left0.getD x 0
 sum:left.sum=0
structure L7(p:Nat)(ls:List Ln)(left0 f:List Int):Prop where
 len:f.length=ls.length
 bnd:Bnd ls f
 bal:∀x:Nat,x<p->B0 ls f x=left0.getD x 0
noncomputable def az3:GB:=(bOf (g2 (fun x y=>match y with |.non=>as0 x|_=>none) (d0 3) (gC .non)))
noncomputable def al0:GS:=(j6 (k7 4 (gM [1] (gN P2 [(g2 e9 (d0 0) (gC (.int 1))),(d0 2),(d0 3)])))
  (j6 (k7 5 (gFL (o0 (itL (gN Y0 [(d0 4)])) 1 [1] (stN 0) (bOf (g2 fLt (g2 e9 (d0 1) (d0 0)) (gC (.int 0)))) (d0 0))))
  (j6 (sIf (J3 (aL0 (d0 5))) (m6 (m7 [(gC (.str "cut")),(gN Y0 [(d0 4)])])) o7)
  (j6 (k7 6 (gM [1] (gN U5 [(d0 4),(g2 e9 (d0 5) (gC (.int 0)))])))
  (j6 (k7 7 (gM [1] (o0 (itL (d0 6)) 2 [2,0] (st2 0 1) B3 (gN N8 [(g2 e9 (g2 e9 (d0 3) (gC (.int 1))) (d0 1)),(g2 e9 (d0 2) (d0 1)),(d0 0)]))))
  (j6 (k7 8 (gF (gN ay9 [(g2 D3 (o6 [(g2 e9 (d0 1) (d0 3)),(g1 aa1 (g2 e9 (d0 1) (g2 e9 (d0 5) (gC (.int 0)))))]) (d0 7))])))
  (j6 (k7 2 (gM [1] (gN ag2 [(g2 e9 (d0 0) (gC (.int 1))),(d0 2),(d0 6),(d0 8)])))
  (j6 (V5 1 aH6 (gM [1] (d0 3)) (gM [1] (d0 8)))
  (j6 (V5 1 am0 (gM [1] (g2 e9 (d0 5) (gC (.int 0)))) (gM [1] (d0 8)))
  (k7 3 (gF (gN u0 [(d0 1)]))))))))))))
noncomputable def ae6(left:List Int)(x:Int):Bool:=decide (left.getD x.toNat 0<0)
noncomputable def cb7(left:List Int):T->Bool
 |.int x=>ae6 left x
 |_=>false
theorem aH4:∀xs:List Int,al9 (xs.map T.int)=true
 |[]=>rfl
 |x::xs=>by simp[al9,Z9,aH4 xs]
theorem aX2{left:List Int}{x:Int}(h0:0<=x)(h1:x<(left.length:Int)):e9 (g8 left) (.int x)=some (.int (left.getD x.toNat 0)):=by
 have :=ar3 (f:=left) (i:=x.toNat) (by omega);rwa[show((x.toNat:Nat):Int)=x by omega]at this
theorem bx5{a0 a1 a2 a3 a5 a6 a7 a8:Option T}{ks:List Int}{vs:List (Int×Nat)}(h:ks.length<64):gN Y0 [(d0 4)] [a0,a1,a2,a3,some (w8 ks vs),a5,a6,a7,a8]=some (g8 (A1 ks)):=by
 show(if ks.length<64 then some (T.lst ((A1 ks).map T.int))else none)=_;rw[cx8 h]
theorem bq1{a0 c d:Option T}{left ks:List Int}{vs:List (Int×Nat)}{a5 a6 a7 a8:Option T}(hr:∀k∈ks,0<=k/\k<(left.length:Int))(hlt:ks.length<64):
  gFL (o0 (itL (gN Y0 [(d0 4)])) 1 [1] (stN 0) (bOf (g2 fLt (g2 e9 (d0 1) (d0 0)) (gC (.int 0)))) (d0 0)) [a0,some (g8 left),c,d,some (w8 ks vs),a5,a6,a7,a8]=some (g8 ((A1 ks).filter (ae6 left))):=by
 have :=aO0 (ρ:=[a0,some (g8 left),c,d,some (w8 ks vs),a5,a6,a7,a8]) (it:=itL (gN Y0 [(d0 4)])) (nT:=1) (caps:=[1]) (st:=stN 0) (c:=bOf (g2 fLt (g2 e9 (d0 1) (d0 0)) (gC (.int 0)))) (e:=d0 0) (xs:=(A1 ks).map T.int) (cb7 left) id (by rw[itL_ap,bx5 hlt];rfl) (by simpa[au5]using(cw9 (Nat.le_of_lt hlt) (by decide):ks.length<=lim)) (fun t ht=>by
  obtain⟨x,hx,rfl⟩:=List.mem_map.mp ht;have hxr:=hr x (aa8.mp hx);refine⟨[some (.int x),some (g8 left)],rfl,?_,fun _=>rfl⟩;simp only[bOf_ap,g2_ap,gC_ap,gVar_ap,ct7,ct6,jn,cx3,aX2 hxr.1 hxr.2,fLt_int,toB_bl];rfl)
 rw[gFL,this];have e:List.map id (List.filter (cb7 left) ((A1 ks).map T.int))=((A1 ks).filter (ae6 left)).map T.int:=by
  rw[List.map_id,List.filter_map];rfl
 rw[e];simp only[cx3,aX7,aH4,if_true]
theorem bq5{p:T}{left c3 c4 c5 c7 c8:Option T}{ls:List Ln}{f:List Int}{rt:List (Int×Nat)}(hr:∀s∈rt,s.2<ls.length)(hl:ls.length=f.length)(hlim:rt.length<=lim):
  (gM [1] (o0 (itL (d0 6)) 2 [2,0] (st2 0 1) B3 (gN N8 [(g2 e9 (g2 e9 (d0 3) (gC (.int 1))) (d0 1)),(g2 e9 (d0 2) (d0 1)),(d0 0)]))) [some (.tup [p,.lst (ls.map e8)]),left,some (g8 f),c3,c4,c5,some (.lst (rt.map v7)),c7,c8]=
   some (g8 (rt.map fun s=>spr (ls.getD s.2 (0,0,0)) (f.getD s.2 0) s.1)):=by
 have :=ad9 (ρ:=[some (.tup [p,.lst (ls.map e8)]),none,some (g8 f),c3,c4,c5,some (.lst (rt.map v7)),c7,c8]) (it:=itL (d0 6)) (nT:=2) (caps:=[2,0]) (st:=st2 0 1) (e:=gN N8 [(g2 e9 (g2 e9 (d0 3) (gC (.int 1))) (d0 1)),(g2 e9 (d0 2) (d0 1)),(d0 0)]) (xs:=rt.map v7)
  (fun t=>match t with |.tup [.int x,.int n]=>.int (spr (ls.getD n.toNat (0,0,0)) (f.getD n.toNat 0) x)|t=>t) rfl (by simpa using hlim) (fun t ht=>by
   obtain⟨s,hs,rfl⟩:=List.mem_map.mp ht;have hn:=hr s hs;refine⟨[some (.int s.1),some (.int s.2),some (g8 f),some (.tup [p,.lst (ls.map e8)])],rfl,?_⟩;have h1:ls[s.2]?=some ls[s.2]:=ct8 hn;simp only[gN_ap,gs_cons,gs_nil,g2_ap,gC_ap,gVar_ap,ct7,ct6,jn,cx3,ix1,aX1 h1,ar3 (show s.2<f.length by omega),cg3,v7,cs6,ai0 h1])
 show o0 _ _ _ _ _ _ _=_;rw[show t9 [1] [some (.tup [p,.lst (ls.map e8)]),left,some (g8 f),c3,c4,c5,some (.lst (rt.map v7)),c7,c8]=[some (.tup [p,.lst (ls.map e8)]),none,some (g8 f),c3,c4,c5,some (.lst (rt.map v7)),c7,c8]from rfl,this];congr 2;rw[cv3,cv3];rfl
theorem bT8{α:Type}{q:α->Bool}{xs ys:List α}{y:α}(h:xs.filter q=y::ys):y∈xs/\q y=true:=
 List.mem_filter.mp (by rw[h];exact cv8)
theorem ak2{S:List Int}{x:Int}:S.contains x=true ↔x∈S:=List.contains_iff_mem
theorem cf0{p:Nat}{ls:List Ln}{left0 f left:List Int}{g:Int}{ks:List Int}{vs:List (Int×Nat)}(F:v0 p ls)(W:WI p ls left0 f left)(R:aQ8 p ls f g ks vs)(hg:0<left.getD g.toNat 0)(ht:(A1 ks).filter (ae6 left)=[]):
  N2 p (A1 ks)/\B2 (A1 ks) ls<G9 (A1 ks) (fun x=>left0.getD x.toNat 0):=by
 have mem:∀x,x∈A1 ks ↔x∈ks:=fun x=>aa8
 have C:N2 p (A1 ks):=⟨fun i hi=>R.good.rg i ((mem i).mp hi),aB2 R.good.nd⟩
 have nd:(A1 ks).Nodup:=by
  have :∀{S:List Int},upB S=true->S.Nodup:=by
   intro S;induction S with
   |nil=>intro _;simp
   |cons a S ih=>
    intro h;obtain⟨h1,h2⟩:=ap9 h;rw[List.nodup_cons];exact⟨fun z=>by have :=h1 a z;omega,ih h2⟩
  exact this C.up
 refine⟨C,?_⟩;have e1:G9 (A1 ks) (fun x=>left0.getD x.toNat 0)=G9 (A1 ks) (fun x=>left.getD x.toNat 0+B0 ls f x):=by
  refine ag9 fun x hx=> ?_
  have h:=C.ok x hx;have :=W.bal x.toNat (by omega);rw[show((x.toNat:Nat):Int)=x by omega]at this;exact this.symm
 rw[e1,aB1,ax3 nd];have e2:Y6 (A1 ks) ls f=B2 (A1 ks) ls:=by
  refine aH8 W.fl.symm fun n l hl=> ?_
  have hlo:=F.ok l (cv9 hl);have hb:=W.bnd n l hl;have nc:∀{y:Int},(A1 ks).contains y=false->y∉ks:=fun{y} h z=>by
   have :=ak2.mpr ((mem y).mpr z);rw[h]at this;cases this
  constructor
  ·intro h1 h2;have hx:=(mem _).mp (ak2.mp h1);rcases R.closed _ hx n l hl (.inl rfl)with q|q
   ·unfold far at q;rw[cx8 rfl]at q;exact absurd q (nc h2)
   ·unfold spr at q;rw[cx8 rfl]at q;omega
  ·intro h1 h2;have hx:=(mem _).mp (ak2.mp h1);have hne:¬l.1=l.2.1:=by omega
   rcases R.closed _ hx n l hl (.inr rfl)with q|q
   ·unfold far at q;rw[cx7 hne]at q;exact absurd q (nc h2)
   ·unfold spr at q;rw[cx7 hne]at q;omega
 rw[e2];have e3:0<G9 (A1 ks) (fun x=>left.getD x.toNat 0):=by
  have nn:∀x∈A1 ks,0<=left.getD x.toNat 0:=fun x hx=>by
   have :ae6 left x=false:=by
    cases q:ae6 left x with
    |false=>rfl
    |true=>
     have :=List.mem_filter.mpr ⟨hx,q⟩;rw[ht]at this;cases this
   unfold ae6 at this;simpa using this
  have hgm:g∈A1 ks:=(mem g).mpr (cv9 R.good.hd);have :∀{S:List Int},(∀x∈S,0<=left.getD x.toNat 0)->0<=G9 S (fun x=>left.getD x.toNat 0)/\(g∈S->0<G9 S (fun x=>left.getD x.toNat 0)):=by
   intro S;induction S with
   |nil=>intro _;exact⟨Int.le_refl _,fun z=>by cases z⟩
   |cons y S ih=>
    intro h;obtain⟨i1,i2⟩:=ih fun x hx=>h x (cv7 _ hx)
    have hy:=h y cv8;rw[O8];refine⟨by omega,fun z=> ?_⟩;rcases List.mem_cons.mp z with e|e
    ·subst e;omega
    ·have :=i2 e;omega
  exact(this nn).2 hgm
 omega
theorem aV2{ls:List Ln}{f:List Int}{g:Int}:∀{rt:List (Int×Nat)}{k:Int},ag1 ls f g k rt->∀s∈rt,0<spr (ls.getD s.2 (0,0,0)) (f.getD s.2 0) s.1
 |[],_,_,s,hs=>by cases hs
 |(pl,n)::rt,k,⟨⟨l,q,_,q3⟩,q2⟩,s,hs=>by
  rcases List.mem_cons.mp hs with e|e
  ·subst e;rw[ai0 q];exact q3
  ·exact aV2 q2 s e
theorem bA0{left:List Int}{op:T->T->Option T}{gi g:G}{k y z:Int}{n:Nat}{a0:Option T}{r:j9}(hk:gi (t9 [1] (a0::some (g8 left)::r))=some (.int k))(hy:g (t9 [1] (a0::some (g8 left)::r))=some (.int y))(hn:n<left.length)(e:k=(n:Int))(ho:op (.int (left.getD n 0)) (.int y)=some (.int z)):
  V5 1 op (gM [1] gi) (gM [1] g) (a0::some (g8 left)::r)=some (.nx (a0::some (g8 (left.set n z))::r)):=by
 subst e;have hi:ixT (left.map T.int).length (n:Int)=some n:=ae0 (by simpa using hn);have hg:(left.map T.int)[n]?=some (.int (left.getD n 0)):=by simp[List.getD,hn]
 unfold V5;simp only[gM,hk,hy,ct7,ct6,jn,cx3,cx8 (show(0:Int)<=(n:Int) by omega),hi,hg,ho,cw4,cw3,g8,aB5]
@[simp] theorem il0(x:T)(r:List T):e9 (.lst (x::r)) (.int 0)=some x:=ae1 (i:=0) (by simp)
theorem bN7{p:Nat}{ls:List Ln}{left0 f left:List Int}{g:Nat}{v:Int}(F:v0 p ls)(W:WI p ls left0 f left)(hv:left[g]?=some v)(hp:0<v)(a4 a5 a6 a7 a8:Option T):
  (∃S,al0 [some (j0 p ls),some (g8 left),some (g8 f),some (.int g),a4,a5,a6,a7,a8]=some (.ret (.tup [.str "cut",g8 S]))/\N2 p S/\B2 S ls<G9 S (fun x=>left0.getD x.toNat 0))\/
  (∃f' left' gv b4 b5 b6 b7 b8,al0 [some (j0 p ls),some (g8 left),some (g8 f),some (.int g),a4,a5,a6,a7,a8]=some (.nx [some (j0 p ls),some (g8 left'),some (g8 f'),some gv,b4,b5,b6,b7,b8])/\WI p ls left0 f' left'/\Z8 left'<Z8 left/\u0 [g8 left']=some gv):=by
 have hgl:g<left.length:=af8 hv;have hgp:g<p:=by rw[<-W.len];exact hgl
 have hgv:left.getD g 0=v:=by simp[List.getD,hv]
 obtain⟨ks,vs,he,R⟩:=cm6 (g:=(g:Int)) F W.fl (by omega);have hkl:=ab0 R.good.nd R.good.rg;simp only at hkl;have hp8:=F.hi;have hlim:lim=1000000:=rfl;have htk:=bq1 (a0:=some (j0 p ls)) (c:=some (g8 f)) (d:=some (.int g)) (vs:=vs) (a5:=a5) (a6:=a6) (a7:=a7) (a8:=a8) (left:=left) (ks:=ks) (fun k hk=>by rw[W.len];exact R.good.rg k hk) (by omega);unfold al0;rw[l8 (ρ':=[some (j0 p ls),some (g8 left),some (g8 f),some (.int g),some (w8 ks vs),a5,a6,a7,a8])]
 rotate_left
 ·show Option.bind (P2 [.lst (ls.map e8),g8 f,.int g]) _=_;rw[he];rfl
 rw[l8 (ρ':=[some (j0 p ls),some (g8 left),some (g8 f),some (.int g),some (w8 ks vs),some (g8 ((A1 ks).filter (ae6 left))),a6,a7,a8])]
 rotate_left
 ·rw[sSet_ap,htk];rfl
 cases hts:(A1 ks).filter (ae6 left)with
 |nil=>
  refine .inl ⟨A1 ks,?_,cf0 F W R (by rw[cs6,hgv];exact hp) hts⟩;rw[W4 (t:=.tup [.str "cut",g8 (A1 ks)])];have g1:=bx5 (a0:=some (j0 p ls)) (a1:=some (g8 left)) (a2:=some (g8 f)) (a3:=some (.int g)) (a5:=some (g8 [])) (a6:=a6) (a7:=a7) (a8:=a8) (ks:=ks) (vs:=vs) (by omega);rw[sIf_ap];show Option.bind (some true) _=_;simp only[cx3,if_true,sRet_ap,gTup_ap,gs_cons,gs_nil,gC_ap,g1]
 |cons tk tr=>
  right;obtain⟨hm,hneg⟩:=bT8 hts;have hmk:tk∈ks:=aa8.mp hm;have hr:=R.good.rg tk hmk;have htl:tk.toNat<left.length:=by rw[W.len];omega
  have hneg:left.getD tk.toNat 0<0:=by simpa[ae6]using hneg
  have hgt:g≠tk.toNat:=fun e=>by rw[<-e,hgv]at hneg;omega
  obtain⟨rt,r1,r2,r3,r4⟩:=cq9 F.hi F.ok R hmk;have hrl:=be5 r2;have hll:ls.length=f.length:=W.fl.symm;have h16:=F.len;have hsp:=bq5 (p:=.int p) (left:=some (g8 left)) (c3:=some (.int g)) (c4:=some (w8 ks vs)) (c5:=some (g8 (tk::tr))) (c7:=a7) (c8:=a8) hrl hll (by omega);obtain⟨am,m1,m2,m3⟩:=bf0 (xs:=v:: -(left.getD tk.toNat 0)::rt.map fun s=>spr (ls.getD s.2 (0,0,0)) (f.getD s.2 0) s.1) (by simp);have ham:0<am:=by
   rcases List.mem_cons.mp m2 with e|e
   ·omega
   ·rcases List.mem_cons.mp e with e|e
    ·omega
    ·obtain⟨s,hs,e⟩:=List.mem_map.mp e;have :=aV2 r2 s hs;omega
  have ha1:am<=v:=m3 v (by simp);have ha2:am<= -(left.getD tk.toNat 0):=m3 _ (by simp);have ha3:∀s∈rt,∀l,ls[s.2]?=some l->am<=spr l (f.getD s.2 0) s.1:=fun s hs l hl=>by
   have :=m3 (spr (ls.getD s.2 (0,0,0)) (f.getD s.2 0) s.1) (by
    refine cv7 _ (cv7 _ (List.mem_map.mpr ⟨s,hs,rfl⟩)))
   rwa[ai0 hl]at this
  have i3:e9 (g8 (tk::tr)) (.int 0)=some (.int tk):=il0 _ _;have okl:∀l∈ls,l.1<l.2.1:=fun l hl=>(F.ok l hl).2.1
  rw[l8 (ρ':=[some (j0 p ls),some (g8 left),some (g8 f),some (.int g),some (w8 ks vs),some (g8 (tk::tr)),a6,a7,a8]) rfl];rw[l8 (ρ':=[some (j0 p ls),some (g8 left),some (g8 f),some (.int g),some (w8 ks vs),some (g8 (tk::tr)),some (.lst (rt.map v7)),a7,a8])]
  rotate_left
  ·rw[sSet_ap,gM,show t9 [1] [some (j0 p ls),some (g8 left),some (g8 f),some (.int g),some (w8 ks vs),some (g8 (tk::tr)),a6,a7,a8]=[some (j0 p ls),none,some (g8 f),some (.int g),some (w8 ks vs),some (g8 (tk::tr)),a6,a7,a8]from rfl];simp only[gN_ap,gs_cons,gs_nil,g2_ap,gC_ap,gVar_ap,ct7,ct6,jn,cx3,i3,r1,cw4,cw3]
  rw[l8 (ρ':=[some (j0 p ls),some (g8 left),some (g8 f),some (.int g),some (w8 ks vs),some (g8 (tk::tr)),some (.lst (rt.map v7)),some (g8 (rt.map fun s=>spr (ls.getD s.2 (0,0,0)) (f.getD s.2 0) s.1)),a8])]
  rotate_left
  ·rw[sSet_ap,hsp];rfl
  rw[l8 (ρ':=[some (j0 p ls),some (g8 left),some (g8 f),some (.int g),some (w8 ks vs),some (g8 (tk::tr)),some (.lst (rt.map v7)),some (g8 (rt.map fun s=>spr (ls.getD s.2 (0,0,0)) (f.getD s.2 0) s.1)),some (.int am)])]
  rotate_left
  ·have i1:e9 (g8 left) (.int (g:Int))=some (.int v):=by rw[ar3 hgl,hgv]
   have i2:e9 (g8 left) (.int tk)=some (.int (left.getD tk.toNat 0)):=aX2 hr.1 (by rw[W.len];exact hr.2);have i4:D3 (.lst [.int v,.int (-(left.getD tk.toNat 0))]) (g8 (rt.map fun s=>spr (ls.getD s.2 (0,0,0)) (f.getD s.2 0) s.1))=some (g8 (v:: -(left.getD tk.toNat 0)::rt.map fun s=>spr (ls.getD s.2 (0,0,0)) (f.getD s.2 0) s.1)):=by
    show(if _ then _ else _)=_;rw[cx8 (by simp;omega)];rfl
   have i5:ay9 [g8 (v:: -(left.getD tk.toNat 0)::rt.map fun s=>spr (ls.getD s.2 (0,0,0)) (f.getD s.2 0) s.1)]=some (.int am):=by
    simp only[ay9,ints_map,cx3,m1]
   simp only[sSet_ap,gF,gN_ap,gs_cons,gs_nil,g2_ap,g1_ap,gC_ap,gVar_ap,gLst_ap,ct7,ct6,jn,cx3,i1,i2,i3,fNeg_int,i4,i5,Z9,if_true,cw4,cw3]
  rw[l8 (ρ':=[some (j0 p ls),some (g8 left),some (g8 (ad6 ls am rt f)),some (.int g),some (w8 ks vs),some (g8 (tk::tr)),some (.lst (rt.map v7)),some (g8 (rt.map fun s=>spr (ls.getD s.2 (0,0,0)) (f.getD s.2 0) s.1)),some (.int am)])]
  rotate_left
  ·show Option.bind (ag2 [.lst (ls.map e8),g8 f,.lst (rt.map v7),.int am]) _=_;rw[cq8 hrl hll];rfl
  rw[l8 (bA0 (k:=(g:Int)) (y:=am) (z:=v-am) (n:=g) rfl rfl hgl rfl (by rw[hgv];rfl))];have hl1:(left.set g (v-am)).length=p:=by rw[cu9,W.len]
  have hg1:(left.set g (v-am)).getD tk.toNat 0=left.getD tk.toNat 0:=by rw[W9 hgl,cx7 hgt]
  rw[l8 (bA0 (k:=tk) (y:=am) (z:=left.getD tk.toNat 0+am) (n:=tk.toNat) (by exact i3) rfl (by rw[hl1];omega) (by omega) (by rw[hg1];rfl))];have hex:∃gv,u0 [g8 ((left.set g (v-am)).set tk.toNat (left.getD tk.toNat 0+am))]=some gv/\Z9 gv=true:=by
   rcases bK3 ((left.set g (v-am)).set tk.toNat (left.getD tk.toNat 0+am))with⟨j,w,_,_,q⟩|⟨_,q⟩
   ·exact⟨_,q,rfl⟩
   ·exact⟨_,q,rfl⟩
  obtain⟨gv,hgv2,hfl⟩:=hex;refine⟨ad6 ls am rt f,(left.set g (v-am)).set tk.toNat (left.getD tk.toNat 0+am),gv,some (w8 ks vs),some (g8 (tk::tr)),some (.lst (rt.map v7)),some (g8 (rt.map fun s=>spr (ls.getD s.2 (0,0,0)) (f.getD s.2 0) s.1)),some (.int am),?_,?_,?_,hgv2⟩
  ·simp only[sSet_ap,gF,gN_ap,gs_cons,gs_nil,gVar_ap,ct7,ct6,jn,cx3,hgv2,hfl,if_true,cw4,cw3]
  ·refine⟨by rw[cu9,hl1],by rw[aS6,W.fl],aS7 okl ham r2 hll r3 ha3 W.bnd,fun x hx=> ?_,?_⟩
   ·rw[aS5 okl r2 hll,W9 (by rw[hl1];omega),W9 hgl];have hb:=W.bal x hx;rw[aH2,aH2];by_cases e1:tk.toNat=x
    ·have e2:¬(g:Int)=(x:Int):=by omega
     have e3:tk=(x:Int):=by omega
     rw[cx8 e1,cx7 e2,cx8 e3];rw[<-e1]at hb⊢;omega
    ·have e3:¬tk=(x:Int):=by omega
     rw[cx7 e1,cx7 e3];by_cases e4:g=x
     ·have e5:(g:Int)=(x:Int):=by omega
      rw[cx8 e4,cx8 e5];rw[<-e4]at hb⊢;rw[hgv]at hb;omega
     ·have e5:¬(g:Int)=(x:Int):=by omega
      rw[cx7 e4,cx7 e5];omega
   ·rw[an5 (by rw[hl1];omega),an5 hgl,hg1,W.sum,hgv];omega
  ·have q1:=ai9 (v:=left.getD tk.toNat 0+am) (xs:=left.set g (v-am)) (n:=tk.toNat) (by rw[hl1];omega);have q2:=ai9 (v:=v-am) (xs:=left) (n:=g) hgl;rw[hg1]at q1;rw[hgv]at q2;omega
theorem bK6{p:Nat}{ls:List Ln}{left0:List Int}(F:v0 p ls):∀(n:Nat) (f left:List Int) (gv:T) (a4 a5 a6 a7 a8:Option T),WI p ls left0 f left->u0 [g8 left]=some gv->Z8 left<n->
  (∃S,v6 az3 al0 n [some (j0 p ls),some (g8 left),some (g8 f),some gv,a4,a5,a6,a7,a8]=some (.ret (.tup [.str "cut",g8 S]))/\N2 p S/\B2 S ls<G9 S (fun x=>left0.getD x.toNat 0))\/
  (∃f' left' b3 b4 b5 b6 b7 b8,v6 az3 al0 n [some (j0 p ls),some (g8 left),some (g8 f),some gv,a4,a5,a6,a7,a8]=some (.nx [some (j0 p ls),some (g8 left'),some (g8 f'),b3,b4,b5,b6,b7,b8])/\L7 p ls left0 f')
 |0,_,_,_,_,_,_,_,_,_,_,h=>by omega
 |n+1,f,left,gv,a4,a5,a6,a7,a8,W,hgv,hn=>by
  rcases bK3 left with⟨j,v,h1,h2,h3⟩|⟨h1,h3⟩
  ·rw[h3]at hgv;cases hgv;have hc:az3 [some (j0 p ls),some (g8 left),some (g8 f),some (.int j),a4,a5,a6,a7,a8]=some true:=rfl;rcases bN7 F W h1 h2 a4 a5 a6 a7 a8 with⟨S,t1,t2⟩|⟨f',left',gv',b4,b5,b6,b7,b8,t1,t2,t3,t4⟩
   ·refine .inl ⟨S,?_,t2⟩;rw[v6,hc];simp only[cx3,if_true];rw[t1];rfl
   ·have ih:=bK6 F n f' left' gv' b4 b5 b6 b7 b8 t2 t4 (by omega);have e:v6 az3 al0 (n+1) [some (j0 p ls),some (g8 left),some (g8 f),some (.int j),a4,a5,a6,a7,a8]=v6 az3 al0 n [some (j0 p ls),some (g8 left'),some (g8 f'),some gv',b4,b5,b6,b7,b8]:=by
     rw[v6,hc];simp only[cx3,if_true];rw[t1];rfl
    rw[e];exact ih
  ·rw[h3]at hgv;cases hgv;refine .inr ⟨f,left,some .non,a4,a5,a6,a7,a8,?_,W.fl,W.bnd,fun x hx=> ?_⟩
   ·rw[v6];rfl
   ·have z:=aZ5 h1 W.sum (left.getD x 0) (by
     have :x<left.length:=by rw[W.len];exact hx
     simp[List.getD,this])
    have :=W.bal x hx;omega
theorem bF6(ls:List Ln)(x:Int):∀{f:List Int},(∀a∈f,a=0)->B0 ls f x=0:=by
 induction ls with
 |nil=>intro f _;rfl
 |cons l ls ih=>
  intro f h;cases f with
  |nil=>rfl
  |cons a f=>
   have :=h a cv8;subst this;show ct l 0 x+B0 ls f x=0;rw[ih fun b hb=>h b (cv7 _ hb)];unfold ct;split<;>split<;>rfl
theorem cg1{p:Nat}{ls:List Ln}{left0:List Int}(F:v0 p ls)(h0:left0.length=p)(hs:left0.sum=0)(hp:Z8 left0<1000):
  (∃S,C0 [j0 p ls,g8 left0]=some (.tup [.str "cut",g8 S])/\N2 p S/\B2 S ls<G9 S (fun x=>left0.getD x.toNat 0))\/
  (∃f,C0 [j0 p ls,g8 left0]=some (.tup [.str "flow",g8 f])/\L7 p ls left0 f):=by
 have hz:∀a∈(ls.map fun _=>(0:Int)),a=0:=fun a ha=>by
  obtain⟨l,_,e⟩:=List.mem_map.mp ha;exact e.symm
 have W:WI p ls left0 (ls.map fun _=>0) left0:=⟨h0,by simp,fun n l hl=>by
  have h1:=F.ok l (cv9 hl);have :(ls.map fun _=>(0:Int)).getD n 0=0:=by simp[List.getD,hl]
  rw[this];omega,fun x hx=>by rw[bF6 _ _ hz];omega,hs⟩
 obtain⟨gv,hgv,hfl⟩:∃gv,u0 [g8 left0]=some gv/\Z9 gv=true:=by
  rcases bK3 left0 with⟨j,w,_,_,q⟩|⟨_,q⟩
  ·exact⟨_,q,rfl⟩
  ·exact⟨_,q,rfl⟩
 have hst:C0 [j0 p ls,g8 left0]=av3 (j6 (v6 az3 al0 1000) (m6 (m7 [(gC (.str "flow")),(d0 2)])) [some (j0 p ls),some (g8 left0),some (g8 (ls.map fun _=>0)),some gv,none,none,none,none,none]):=by
  rw[C0,n8 2 _ _ _ rfl,ak4];rw[l8 (ρ':=[some (j0 p ls),some (g8 left0),some (g8 (ls.map fun _=>0)),none,none,none,none,none,none])]
  ·rw[l8 (ρ':=[some (j0 p ls),some (g8 left0),some (g8 (ls.map fun _=>0)),some gv,none,none,none,none,none])]
   ·rfl
   ·simp only[sSet_ap,gF,gN_ap,gs_cons,gs_nil,gVar_ap,ct7,ct6,jn,cx3,hgv,hfl,if_true,cw4,cw3]
  ·have :=ad9 (ρ:=[some (j0 p ls),none,none,none,none,none,none,none,none]) (it:=itL (g2 e9 (d0 0) (gC (.int 1)))) (nT:=1) (caps:=[]) (st:=stN 0) (e:=gC (.int 0)) (xs:=ls.map e8) (fun _=>.int 0) rfl (by simpa using F.lim) (fun t _=>⟨_,rfl,rfl⟩);rw[sSet_ap];show Option.bind (o0 _ _ _ _ _ _ _) _=_;rw[show t9 [1] (l9 9 [j0 p ls,g8 left0])=[some (j0 p ls),none,none,none,none,none,none,none,none]from rfl,this];simp only[cx3,g8,cv3];rfl
 rw[hst];rcases bK6 F 1000 _ left0 gv none none none none none W hgv hp with⟨S,t1,t2⟩|⟨f',left',b3,b4,b5,b6,b7,b8,t1,t2⟩
 ·refine .inl ⟨S,?_,t2⟩;rw[W4 t1];rfl
 ·refine .inr ⟨f',?_,t2⟩;rw[l8 t1];rfl
theorem bg7{i:Nat}{ρ:j9}{left:List Int}{op:T->T->Option T}{gi g:G}{k y z:Int}{n:Nat}(hs:ρ[i]?=some (some (g8 left)))(hk:gi (t9 [i] ρ)=some (.int k))(hy:g (t9 [i] ρ)=some (.int y))(hn:n<left.length)(e:k=(n:Int))(ho:op (.int (left.getD n 0)) (.int y)=some (.int z)):
  V5 i op (gM [i] gi) (gM [i] g) ρ=some (.nx (ρ.set i (some (g8 (left.set n z))))):=by
 subst e;have hi:ixT (left.map T.int).length (n:Int)=some n:=ae0 (by simpa using hn);have hg:(left.map T.int)[n]?=some (.int (left.getD n 0)):=by simp[List.getD,hn]
 unfold V5;simp only[gM,hk,hy,hs,jn,cx3,cx8 (show(0:Int)<=(n:Int) by omega),hi,hg,ho,g8,aB5]
noncomputable def ag3(left:List Int)(a:Ln):List Int:=(left.set a.1.toNat (left.getD a.1.toNat 0+a.2.2)).set a.2.1.toNat ((left.set a.1.toNat (left.getD a.1.toNat 0+a.2.2)).getD a.2.1.toNat 0-a.2.2)
theorem ad4{left:List Int}{a:Ln}:(ag3 left a).length=left.length:=by unfold ag3;rw[cu9,cu9]
theorem aR9{p:Nat}{left:List Int}{a:Ln}(hl:left.length=p)(A:n9 p a){x:Nat}(hx:x<p):(ag3 left a).getD x 0=left.getD x 0+ct a a.2.2 x:=by
 have :=A.ok;unfold ag3 ct;have h1:a.1.toNat<left.length:=by omega
 rw[W9 (by rw[cu9];omega),W9 h1,W9 h1];have hne:¬a.1.toNat=a.2.1.toNat:=by omega
 rw[cx7 hne];by_cases e1:a.2.1.toNat=x
 ·rw[cx8 e1,cx7 (show¬a.1=(x:Int) by omega),cx8 (show a.2.1=(x:Int) by omega),e1];omega
 ·rw[cx7 e1,cx7 (show¬a.2.1=(x:Int) by omega)];by_cases e2:a.1.toNat=x
  ·rw[cx8 e2,cx8 (show a.1=(x:Int) by omega),e2];omega
  ·rw[cx7 e2,cx7 (show¬a.1=(x:Int) by omega)];omega
theorem aR7{p:Nat}{left:List Int}{a:Ln}(hl:left.length=p)(A:n9 p a):(ag3 left a).sum=left.sum:=by
 have :=A.ok;unfold ag3;rw[an5 (by rw[cu9];omega),an5 (by omega)];omega
theorem aR8{p:Nat}{left:List Int}{a:Ln}(hl:left.length=p)(A:n9 p a):Z8 (ag3 left a)<=Z8 left+200:=by
 have :=A.ok;unfold ag3;have q1:=ai9 (v:=left.getD a.1.toNat 0+a.2.2) (xs:=left) (n:=a.1.toNat) (by omega);have q2:=ai9 (v:=(left.set a.1.toNat (left.getD a.1.toNat 0+a.2.2)).getD a.2.1.toNat 0-a.2.2) (xs:=left.set a.1.toNat (left.getD a.1.toNat 0+a.2.2)) (n:=a.2.1.toNat) (by rw[cu9];omega);omega
noncomputable def bn5:GS:=(j6 (V5 3 am0 (gM [3] (g2 e9 (d0 4) (gC (.int 0)))) (gM [3] (g2 e9 (d0 4) (gC (.int 2)))))
  (V5 3 aH6 (gM [3] (g2 e9 (d0 4) (gC (.int 1)))) (gM [3] (g2 e9 (d0 4) (gC (.int 2))))))
theorem aZ2{p:Nat}{left:List Int}{a:Ln}{x y z:Option T}(hl:left.length=p)(A:n9 p a):bn5 [x,y,z,some (g8 left),some (e8 a)]=some (.nx [x,y,z,some (g8 (ag3 left a)),some (e8 a)]):=by
 have :=A.ok;unfold bn5;rw[l8 (bg7 (left:=left) (k:=a.1) (y:=a.2.2) (z:=left.getD a.1.toNat 0+a.2.2) (n:=a.1.toNat) rfl rfl rfl (by omega) (by omega) rfl)];rw[bg7 (left:=left.set a.1.toNat (left.getD a.1.toNat 0+a.2.2)) (k:=a.2.1) (y:=a.2.2) (z:=(left.set a.1.toNat (left.getD a.1.toNat 0+a.2.2)).getD a.2.1.toNat 0-a.2.2) (n:=a.2.1.toNat) rfl rfl rfl (by rw[cu9];omega) (by omega) rfl];rfl
noncomputable def Y9(p:Nat):List Int:=(List.range p).map fun _=>0
noncomputable def sup(p:Nat)(a b:Ln):List Int:=ag3 (ag3 (Y9 p) a) b
theorem bp1(p x:Nat):(Y9 p).getD x 0=0:=by
 unfold Y9;by_cases h:x<p
 ·simp[List.getD,h]
 ·simp[List.getD,h]
theorem bo9(p:Nat):(Y9 p).sum=0:=by
 have :∀xs:List Nat,(xs.map fun _=>(0:Int)).sum=0:=by
  intro xs;induction xs with
  |nil=>rfl
  |cons x xs ih=>simp[ih]
 exact this _
theorem bp0(p:Nat):Z8 (Y9 p)=0:=by
 have :∀xs:List Nat,Z8 (xs.map fun _=>(0:Int))=0:=by
  intro xs;induction xs with
  |nil=>rfl
  |cons x xs ih=>simp[Z8,ih]
 exact this _
theorem O6(p:Nat):(Y9 p).length=p:=by simp[Y9]
theorem cg2{p:Nat}{ls:List Ln}{a b:Ln}(hp:p<=8)(A:n9 p a)(B:n9 p b):F6 [j0 p ls,e8 a,e8 b]=some (g8 (sup p a b)):=by
 rw[F6,n8 3 _ _ _ rfl,at3];have hlim:lim=1000000:=rfl;have hr:itR (g2 e9 (d0 0) (gC (.int 0))) [some (j0 p ls),some (e8 a),some (e8 b),none,none]=some (u8 0 p):=by
  simp only[itR_ap,g2_ap,gC_ap,gVar_ap,ct7,jn,cx3,ix0,toI_int];rw[cx8 (by rw[hlim];omega),cs6]
 have :=ad9 (ρ:=[some (j0 p ls),some (e8 a),some (e8 b),none,none]) (it:=itR (g2 e9 (d0 0) (gC (.int 0)))) (nT:=1) (caps:=[]) (st:=stN 0) (e:=gC (.int 0)) (xs:=u8 0 p) (fun _=>.int 0) hr (by simp[u8];omega) (fun t _=>⟨_,rfl,rfl⟩);rw[l8 (ρ':=[some (j0 p ls),some (e8 a),some (e8 b),some (g8 (Y9 p)),none])]
 ·rw[l8 (ρ':=[some (j0 p ls),some (e8 a),some (e8 b),some (g8 (sup p a b)),some (e8 b)])]
  ·rfl
  ·show u5 (stN 4) bn5 [e8 a,e8 b] [some (j0 p ls),some (e8 a),some (e8 b),some (g8 (Y9 p)),none]=_;simp only[u5,stN_ap,cx3,cw4,cw3];rw[aZ2 (O6 p) A];simp only[cx3,cw4,cw3];rw[aZ2 (by rw[ad4,O6]) B];rfl
 ·rw[sSet_ap];show Option.bind (Option.bind (o0 _ _ _ _ _ _ _) _) _=_;rw[show t9 [] (l9 5 [j0 p ls,e8 a,e8 b])=[some (j0 p ls),some (e8 a),some (e8 b),none,none]from rfl,this];simp only[cx3,u8,cv3];have e:List.map ((fun _=>T.int 0)∘fun i:Nat=>T.int (0+(i:Int))) (List.range p)=(Y9 p).map T.int:=by
   unfold Y9;rw[cv3];rfl
  rw[e];rfl
theorem bc7{p:Nat}{a b:Ln}:(sup p a b).length=p:=by unfold sup;rw[ad4,ad4,O6]
theorem aI4{p:Nat}{a b:Ln}(A:n9 p a)(B:n9 p b){x:Nat}(hx:x<p):(sup p a b).getD x 0=ct a a.2.2 x+ct b b.2.2 x:=by
 unfold sup;rw[aR9 (by rw[ad4,O6]) B hx,aR9 (O6 p) A hx,bp1];omega
theorem bc5{p:Nat}{a b:Ln}(A:n9 p a)(B:n9 p b):(sup p a b).sum=0:=by
 unfold sup;rw[aR7 (by rw[ad4,O6]) B,aR7 (O6 p) A,bo9]
theorem bc6{p:Nat}{a b:Ln}(A:n9 p a)(B:n9 p b):Z8 (sup p a b)<1000:=by
 have h1:=aR8 (left:=ag3 (Y9 p) a) (by rw[ad4,O6]) B;have h2:=aR8 (O6 p) A;rw[bp0]at h2;unfold sup;omega
theorem aB0:∀{S:List Int},upB S=true->S.Nodup
 |[],_=>by simp
 |a::S,h=>by
  obtain⟨h1,h2⟩:=ap9 h;rw[List.nodup_cons];exact⟨fun z=>by have :=h1 a z;omega,aB0 h2⟩
theorem bq4{S:List Int}(nd:S.Nodup)(a:Ln)(w:Int):G9 S (fun x=>ct a w x)=ind (S.contains a.1) w-ind (S.contains a.2.1) w:=by
 show G9 S (fun x=>(if a.1=x then w else 0)-(if a.2.1=x then w else 0))=_;rw[aS0,an6 nd,an6 nd]
theorem aI5{p:Nat}{a b:Ln}{S:List Int}(A:n9 p a)(B:n9 p b)(C:N2 p S):G9 S (fun x=>(sup p a b).getD x.toNat 0)=(ind (S.contains a.1) a.2.2-ind (S.contains a.2.1) a.2.2)+(ind (S.contains b.1) b.2.2-ind (S.contains b.2.1) b.2.2):=by
 have nd:=aB0 C.up;have :G9 S (fun x=>(sup p a b).getD x.toNat 0)=G9 S (fun x=>ct a a.2.2 x+ct b b.2.2 x):=ag9 fun x hx=>by
  have h:=C.ok x hx;rw[aI4 A B (x:=x.toNat) (by omega),show((x.toNat:Nat):Int)=x by omega]
 rw[this,aB1,bq4 nd,bq4 nd]
theorem aq9(S:List Int)(a b:Ln):B2 S [a,b]=ind (Q9 S a) a.2.2+ind (Q9 S b) b.2.2:=by
 rw[af5,af5];show _+(_+0)=_;omega
theorem bp3{S:List Int}{a b:Ln}(ha:0<=a.2.2)(hb:0<=b.2.2):(ind (S.contains a.1) a.2.2-ind (S.contains a.2.1) a.2.2)+(ind (S.contains b.1) b.2.2-ind (S.contains b.2.1) b.2.2)<=B2 S [a,b]:=by
 rw[aq9];unfold ind Q9;cases S.contains a.1<;>cases S.contains a.2.1<;>cases S.contains b.1<;>cases S.contains b.2.1<;>simp<;>omega
noncomputable def U6(b:Ln):Ln:=(b.2.1,b.1,b.2.2)
theorem n9.turn{p:Nat}{b:Ln}(B:n9 p b):n9 p (U6 b):=⟨by have :=B.ok;unfold U6;dsimp only;omega⟩
theorem bt2(S:List Int)(a b:Ln):B2 S [a,U6 b]=B2 S [a,b]:=by
 rw[aq9,aq9];congr 1;unfold Q9 U6;dsimp only;cases S.contains b.1<;>cases S.contains b.2.1<;>rfl
theorem aA3{p:Nat}{ls:List Ln}{a b:Ln}{S:List Int}(A:n9 p a)(B:n9 p b)(C:N2 p S)(h:B2 S ls<G9 S (fun x=>(sup p a b).getD x.toNat 0)):B2 S ls<B2 S [a,b]:=by
 rw[aI5 A B C]at h;have :=bp3 (S:=S) A.ok.2.2.2.2.2.1 B.ok.2.2.2.2.2.1;omega
theorem bv8{p:Nat}{ls:List Ln}{a b:Ln}{f g:List Int}{S:List Int}(F:v0 p ls)(A:n9 p a)(B:n9 p b)(C:N2 p S)(hf:L7 p ls (sup p a b) f)(hg:L7 p ls (sup p a (U6 b)) g):B2 S [a,b]<=B2 S ls:=by
 have nd:=aB0 C.up;have hr:∀l∈ls,0<=l.2.2:=fun l hl=>by have :=F.ok l hl;omega
 have ef:Y6 S ls f=(ind (S.contains a.1) a.2.2-ind (S.contains a.2.1) a.2.2)+(ind (S.contains b.1) b.2.2-ind (S.contains b.2.1) b.2.2):=by
  rw[<-ax3 nd,<-aI5 A B C];refine ag9 fun x hx=> ?_
  have h:=C.ok x hx;have :=hf.bal x.toNat (by omega);rwa[show((x.toNat:Nat):Int)=x by omega]at this
 have eg:Y6 S ls g=(ind (S.contains a.1) a.2.2-ind (S.contains a.2.1) a.2.2)+(ind (S.contains b.2.1) b.2.2-ind (S.contains b.1) b.2.2):=by
  rw[<-ax3 nd];refine Eq.trans ?_ (aI5 A B.turn C);refine ag9 fun x hx=> ?_
  have h:=C.ok x hx;have :=hg.bal x.toNat (by omega);rwa[show((x.toNat:Nat):Int)=x by omega]at this
 have c1:=aD5 (S:=S) hr hf.bnd;have c2:=aD5 (S:=S) hr hg.bnd;rw[ef]at c1;rw[eg]at c2;have wa:=A.ok;have wb:=B.ok;rw[aq9];unfold ind Q9 at *;revert c1 c2;cases S.contains a.1<;>cases S.contains a.2.1<;>cases S.contains b.1<;>cases S.contains b.2.1<;>simp<;>omega
noncomputable def frB:T->Bool
 |.tup [.int n,.int d]=>decide (0<d)&&(Int.gcd n d==1)
 |_=>false
theorem cg8(n d:Int):B8 [fr n d]=some (.bl (frB (fr n d))):=by
 rw[B8,n8 1 _ _ _ rfl,Z0,sRet_ap];simp only[gAnd_ap,bOf_ap,gN_ap,gs_cons,gs_nil,g1_ap,g2_ap,gC_ap,gVar_ap,l9,fr,cv2,cv4,cu5,cu7,ct0,cw0,ct7,ct6,jn,cx3,fIsK_eq,isK,toB_bl,if_true,fLen_tup,fEq_int,ix0,ix1,bK1 (t:=.int n) rfl,bK1 (t:=.int d) rfl,O7,fGt_int];by_cases h:0<d
 ·simp only[cx5 h,if_true,ch1 h,cx3,fEq_int,frB,Bool.true_and];have e:((((Int.gcd n d:Nat):Int))==1)=(Int.gcd n d==1):=by
   by_cases q:Int.gcd n d=1
   ·rw[q];rfl
   ·rw[beq_eq_false_iff_ne.mpr q,beq_eq_false_iff_ne.mpr (by omega)]
  rw[e];rfl
 ·simp only[cx4 h,frB,Bool.false_and];rfl
theorem bA3{t:T}(h:plain t=true)(h2:∀a b,t≠.tup [a,b]):B8 [t]=some (.bl false):=by
 rw[B8,n8 1 _ _ _ rfl,Z0,sRet_ap]
 match t,h,h2 with
 |.non,_,_=>rfl
 |.bl _,_,_=>rfl
 |.int _,_,_=>rfl
 |.str _,_,_=>rfl
 |.lst _,_,_=>rfl
 |.tup [],_,_=>rfl
 |.tup [_],_,_=>rfl
 |.tup [a,b],_,h2=>exact absurd rfl (h2 a b)
 |.tup (a::b::c::r),_,_=>
  simp only[gAnd_ap,bOf_ap,gN_ap,gs_cons,gs_nil,g1_ap,g2_ap,gC_ap,gVar_ap,l9,cv2,cv4,cu5,cu7,ct0,cw0,ct7,jn,cx3,fIsK_eq,isK,toB_bl,if_true,fLen_tup,fEq_int];have :(((r.length+1+1+1:Nat):Int)==2)=false:=beq_eq_false_iff_ne.mpr (by omega);rw[this];rfl
theorem bM4(n:Int):B8 [hf n]=some (.bl true):=by
 obtain⟨a,d,e,hd,_,hg⟩:=P6 n;rw[e,cg8];congr 2;unfold frB;simp only[cr8,cx6,beq_iff_eq];omega
noncomputable abbrev j7(N:List Int):T:=.lst (N.map hf)
noncomputable def Sm(N:List Int):Prop:=∀n∈N,n.natAbs<=1000
theorem Sm.tail{a:Int}{N:List Int}(h:Sm (a::N)):a.natAbs<=1000/\Sm N:=⟨h a cv8,fun n hn=>h n (cv7 _ hn)⟩
theorem S7{n:Int}(h:n.natAbs<=2000000):sz n:=Nat.lt_of_le_of_lt h (by decide)
theorem bM6{l:Ln}{a x:Int}(h:l.1≠l.2.1):(ct l a x).natAbs<=a.natAbs:=by
 unfold ct;split<;>split<;>omega
noncomputable def zOf(l:Ln)(x:Int):Int:=(if(l.1==x)=true then(1:Int)else 0)-(if(l.2.1==x)=true then 1 else 0)
theorem bp2{l:Ln}{x:Int}(h:l.1≠l.2.1):zOf l x=0\/zOf l x=1\/zOf l x= -1:=by
 unfold zOf;by_cases h1:l.1=x<;>by_cases h2:l.2.1=x<;>simp[h1,h2]<;>omega
theorem bS6{l:Ln}{a x:Int}:a*zOf l x=ct l a x:=by
 unfold zOf ct;by_cases h1:l.1=x<;>by_cases h2:l.2.1=x<;>simp[h1,h2]
@[simp] theorem fInt_bl(k:Bool):ae2 [.bl k]=some (.int (if k then 1 else 0)):=rfl
noncomputable def bn7:GS:=(k7 3 (gN C8 [(d0 3),(gN N3 [(d0 4),(m7 [(g2 aa0 (gN ae2 [(g2 fEq (g2 e9 (d0 5) (gC (.int 0))) (d0 2))]) (gN ae2 [(g2 fEq (g2 e9 (d0 5) (gC (.int 1))) (d0 2))])),(gC (.int 1))])])]))
theorem bf3{fl row:Option T}{x:Int}:∀(ls:List Ln) (N:List Int) (c:Int) (a b:Option T),(∀l∈ls,l.1≠l.2.1)->Sm N->c.natAbs+1000*ls.length<=1000000->
  ∃a' b',u5 (st2 4 5) bn7 (A5 (N.map hf) (ls.map e8)) [fl,row,some (.int x),some (hf c),a,b]=some (.nx [fl,row,some (.int x),some (hf (c+B0 ls N x)),a',b'])
 |[],N,c,a,b,_,_,_=>⟨a,b,by cases N<;>simp[A5,u5,B0]⟩
 |l::ls,[],c,a,b,_,_,_=>⟨a,b,by simp[A5,u5,B0]⟩
 |l::ls,n::N,c,a,b,hw,hN,hc=>by
  obtain⟨h1,h2⟩:=hN.tail;have hl:=hw l cv8;have hle:=bM6 (l:=l) (a:=n) (x:=x) hl;simp only[cu5]at hc;obtain⟨a',b',ih⟩:=bf3 (fl:=fl) (row:=row) (x:=x) ls N (c+ct l n x) (some (hf n)) (some (e8 l)) (fun k hk=>hw k (cv7 _ hk)) h2 (by omega);refine⟨a',b',?_⟩;rw[cv2,cv2,A5,u5];simp only[st2_ap,cx3,cw4,cw3];have t1:N3 [hf n,fr (zOf l x) 1]=some (hf (ct l n x)):=by rw[cd4 (S7 (by omega)) (bp2 hl),bS6]
  have t2:C8 [hf c,hf (ct l n x)]=some (hf (c+ct l n x)):=aH3 (S7 (by omega)) (S7 (by omega));have e:bn7 [fl,row,some (.int x),some (hf c),some (hf n),some (e8 l)]=some (.nx [fl,row,some (.int x),some (hf (c+ct l n x)),some (hf n),some (e8 l)]):=by
   unfold bn7;have t1':N3 [hf n,.tup [.int ((if(l.1==x)=true then(1:Int)else 0)-(if(l.2.1==x)=true then 1 else 0)),.int 1]]=some (hf (ct l n x)):=t1;simp only[sSet_ap,gN_ap,gs_cons,gs_nil,g2_ap,gTup_ap,gC_ap,gVar_ap,ct7,ct6,jn,cx3,e8,trip,ix0,ix1,fEq_int,fInt_bl,fSub_int,t1',t2,cw4,cw3]
  rw[e];rw[show c+B0 (l::ls) (n::N) x=c+ct l n x+B0 ls N x by show c+(ct l n x+B0 ls N x)=_;omega];exact ih
theorem cr2{p:T}{ls:List Ln}{N:List Int}{x:Int}(hw:∀l∈ls,l.1≠l.2.1)(hl:ls.length<=16)(hN:Sm N):aa4 [.tup [p,.lst (ls.map e8)],j7 N,.int x]=some (hf (B0 ls N x)):=by
 obtain⟨a,b,h⟩:=bf3 (fl:=some (.tup [p,.lst (ls.map e8)])) (row:=some (j7 N)) (x:=x) ls N 0 none none hw hN (by simp;omega);rw[aa4,n8 3 _ _ _ rfl,aE3];rw[l8 (ρ':=[some (.tup [p,.lst (ls.map e8)]),some (j7 N),some (.int x),some (hf 0),none,none]) rfl];rw[Int.zero_add]at h;rw[l8 (ρ':=[some (.tup [p,.lst (ls.map e8)]),some (j7 N),some (.int x),some (hf (B0 ls N x)),a,b])]
 ·rfl
 ·exact h
noncomputable def bn8:GS:=(j6 (sIf (bOf (g2 fEq (g2 e9 (d0 4) (gC (.int 1))) (d0 2))) (k7 3 (gN P1 [(d0 3),(d0 5)])) o7)
  (sIf (bOf (g2 fEq (g2 e9 (d0 4) (gC (.int 0))) (d0 2))) (k7 3 (gN ab6 [(d0 3),(d0 5)])) o7))
theorem bf9{L R:Option T}{x:Int}:∀(ls:List Ln) (N:List Int) (c:Int) (a b:Option T),(∀l∈ls,l.1≠l.2.1)->Sm N->c.natAbs+1000*ls.length<=1000000->
  ∃a' b',u5 (st2 4 5) bn8 (A5 (ls.map e8) (N.map hf)) [L,R,some (.int x),some (hf c),a,b]=some (.nx [L,R,some (.int x),some (hf (c-B0 ls N x)),a',b'])
 |[],N,c,a,b,_,_,_=>⟨a,b,by simp[A5,u5,B0]⟩
 |l::ls,[],c,a,b,_,_,_=>⟨a,b,by simp[A5,u5,B0]⟩
 |l::ls,n::N,c,a,b,hw,hN,hc=>by
  obtain⟨h1,h2⟩:=hN.tail;have hl:=hw l cv8;have hle:=bM6 (l:=l) (a:=n) (x:=x) hl;simp only[cu5]at hc;obtain⟨a',b',ih⟩:=bf9 (L:=L) (R:=R) (x:=x) ls N (c-ct l n x) (some (e8 l)) (some (hf n)) (fun k hk=>hw k (cv7 _ hk)) h2 (by omega);refine⟨a',b',?_⟩;rw[cv2,cv2,A5,u5];simp only[st2_ap,cx3,cw4,cw3];have sc:sz c:=S7 (by omega);have sn:sz n:=S7 (by omega);have e:bn8 [L,R,some (.int x),some (hf c),some (e8 l),some (hf n)]=some (.nx [L,R,some (.int x),some (hf (c-ct l n x)),some (e8 l),some (hf n)]):=by
   unfold bn8;by_cases q1:l.2.1=x
   ·have q2:¬l.1=x:=fun z=>hl (z.trans q1.symm)
    have b1:(l.2.1==x)=true:=by simpa using q1
    have b2:(l.1==x)=false:=by simpa using q2
    rw[l8 (ρ':=[L,R,some (.int x),some (hf (c+n)),some (e8 l),some (hf n)])]
    ·simp only[sIf_ap,bOf_ap,g2_ap,gC_ap,gVar_ap,ct7,ct6,jn,cx3,e8,trip,ix0,fEq_int,toB_bl,b2,cr9,if_false,sNext_ap];rw[show c-ct l n x=c+n by unfold ct;rw[cx7 q2,cx8 q1];omega]
    ·simp only[sIf_ap,bOf_ap,g2_ap,gC_ap,gN_ap,gs_cons,gs_nil,sSet_ap,gVar_ap,ct7,ct6,jn,cx3,e8,trip,ix1,fEq_int,toB_bl,b1,if_true,bM2 sc sn,cw4,cw3]
   ·have b1:(l.2.1==x)=false:=by simpa using q1
    rw[l8 (ρ':=[L,R,some (.int x),some (hf c),some (e8 l),some (hf n)])]
    ·by_cases q2:l.1=x
     ·have b2:(l.1==x)=true:=by simpa using q2
      simp only[sIf_ap,bOf_ap,g2_ap,gC_ap,gN_ap,gs_cons,gs_nil,sSet_ap,gVar_ap,ct7,ct6,jn,cx3,e8,trip,ix0,fEq_int,toB_bl,b2,if_true,ck9 sc sn,cw4,cw3];rw[show c-ct l n x=c-n by unfold ct;rw[cx8 q2,cx7 q1];omega]
     ·have b2:(l.1==x)=false:=by simpa using q2
      simp only[sIf_ap,bOf_ap,g2_ap,gC_ap,gVar_ap,ct7,ct6,jn,cx3,e8,trip,ix0,fEq_int,toB_bl,b2,cr9,if_false,sNext_ap];rw[show c-ct l n x=c by unfold ct;rw[cx7 q2,cx7 q1];omega]
    ·simp only[sIf_ap,bOf_ap,g2_ap,gC_ap,gVar_ap,ct7,ct6,jn,cx3,e8,trip,ix1,fEq_int,toB_bl,b1,cr9,if_false,sNext_ap]
  rw[e];rw[show c-B0 (l::ls) (n::N) x=c-ct l n x-B0 ls N x by show c-(ct l n x+B0 ls N x)=_;omega];exact ih
theorem cr4{ls:List Ln}{N:List Int}{x:Int}(hw:∀l∈ls,l.1≠l.2.1)(hl:ls.length<=16)(hN:Sm N):ak8 [.lst (ls.map e8),j7 N,.int x]=some (hf (-B0 ls N x)):=by
 obtain⟨a,b,h⟩:=bf9 (L:=some (.lst (ls.map e8))) (R:=some (j7 N)) (x:=x) ls N 0 none none hw hN (by simp;omega);rw[ak8,n8 3 _ _ _ rfl,aZ9];rw[l8 (ρ':=[some (.lst (ls.map e8)),some (j7 N),some (.int x),some (hf 0),none,none]) rfl];rw[Int.zero_sub]at h;rw[l8 (ρ':=[some (.lst (ls.map e8)),some (j7 N),some (.int x),some (hf (-B0 ls N x)),a,b])]
 ·rfl
 ·exact h
theorem cq7{a:Ln}{x:Int}(h:a.1≠a.2.1):M5 [e8 a,.int x]=some (hf (-(2*ct a a.2.2 x))):=by
 rw[M5,n8 2 _ _ _ rfl,ag7];have s:l9 2 [e8 a,.int x]=[some (e8 a),some (.int x)]:=rfl;rw[s];by_cases q1:a.1=x
 ·have q2:¬a.2.1=x:=fun z=>h (q1.trans z.symm)
  have b1:(x==a.1)=true:=by simpa using q1.symm
  rw[W4 (t:=hf (-(2*ct a a.2.2 x)))]
  ·rfl
  ·simp only[sIf_ap,bOf_ap,g2_ap,g1_ap,gC_ap,gTup_ap,gs_cons,gs_nil,sRet_ap,gVar_ap,ct7,ct6,jn,cx3,e8,trip,ix0,ix2,fEq_int,toB_bl,b1,if_true,fNeg_int];rw[show -(2*ct a a.2.2 x)=2*(-a.2.2) by unfold ct;rw[cx8 q1,cx7 q2];omega,av7]
 ·have b1:(x==a.1)=false:=by simpa using fun z:x=a.1=>q1 z.symm
  rw[l8 (ρ':=[some (e8 a),some (.int x)])]
  ·by_cases q2:a.2.1=x
   ·have b2:(x==a.2.1)=true:=by simpa using q2.symm
    simp only[sRet_ap,gIf,bOf_ap,g2_ap,gC_ap,gTup_ap,gs_cons,gs_nil,gVar_ap,ct7,ct6,jn,cx3,e8,trip,ix1,ix2,fEq_int,toB_bl,b2,if_true,outT_ret];rw[show -(2*ct a a.2.2 x)=2*a.2.2 by unfold ct;rw[cx7 q1,cx8 q2];omega,av7]
   ·have b2:(x==a.2.1)=false:=by simpa using fun z:x=a.2.1=>q2 z.symm
    simp only[sRet_ap,gIf,bOf_ap,g2_ap,gC_ap,gTup_ap,gs_cons,gs_nil,gVar_ap,ct7,ct6,jn,cx3,e8,trip,ix1,ix2,fEq_int,toB_bl,b2,cr9,if_false,outT_ret];rw[show -(2*ct a a.2.2 x)=2*0 by unfold ct;rw[cx7 q1,cx7 q2];omega,av7];rfl
  ·simp only[sIf_ap,bOf_ap,g2_ap,gC_ap,gVar_ap,ct7,ct6,jn,cx3,e8,trip,ix0,fEq_int,toB_bl,b1,cr9,if_false,sNext_ap]
noncomputable def Z3(p:Nat)(ls:List Ln)(a:Ln)(N:List Int):Bool:=(List.range p).all fun x=>decide (B0 ls N x=2*ct a a.2.2 x)
theorem mem_range{t:T}{p:Nat}(h:t∈u8 0 p):∃x:Nat,x<p/\t=.int x:=by
 unfold u8 at h;obtain⟨x,hx,rfl⟩:=List.mem_map.mp h;exact⟨x,List.mem_range.mp hx,by rw[Int.zero_add]⟩
noncomputable def aC6(ls:List Ln)(a:Ln)(N:List Int):T->Bool
 |.int x=>decide (B0 ls N x=2*ct a a.2.2 x)
 |_=>false
theorem aF8{p:Nat}{ls:List Ln}{a:Ln}{N:List Int}:(u8 0 p).all (aC6 ls a N)=Z3 p ls a N:=by
 unfold u8 Z3;rw[List.all_map];congr 1
 funext x
 show aC6 ls a N (.int (0+(x:Int)))=_;rw[Int.zero_add];rfl
theorem ch3{p:Nat}{ls:List Ln}{a:Ln}{N:List Int}(F:v0 p ls)(A:n9 p a)(hN:Sm N):E5 [j0 p ls,e8 a,j7 N]=some (.bl (Z3 p ls a N)):=by
 have hw:∀l∈ls,l.1≠l.2.1:=fun l hl=>by have :=F.ok l hl;omega
 have hlim:lim=1000000:=rfl;have hp:=F.hi;have hr:itR (g2 e9 (d0 0) (gC (.int 0))) [some (j0 p ls),some (e8 a),some (j7 N)]=some (u8 0 p):=by
  simp only[itR_ap,g2_ap,gC_ap,gVar_ap,ct7,jn,cx3,ix0,toI_int];rw[cx8 (by rw[hlim];omega),cs6]
 rw[E5,n8 3 _ _ _ rfl,ac9,sRet_ap];have :=U0 (ρ:=[some (j0 p ls),some (e8 a),some (j7 N)]) (nT:=1) (caps:=[2,1,0]) (st:=stN 0) (e:=g2 fEq (gN ak8 [(g2 e9 (d0 3) (gC (.int 1))),(d0 1),(d0 0)]) (gN M5 [(d0 2),(d0 0)])) (aC6 ls a N) hr (by simp[u8];omega) (fun t ht=>by
  obtain⟨x,hx,rfl⟩:=mem_range ht;refine⟨[some (.int x),some (j7 N),some (e8 a),some (j0 p ls)],rfl,?_⟩;simp only[g2_ap,gN_ap,gs_cons,gs_nil,gC_ap,gVar_ap,ct7,ct6,jn,cx3,ix1,cr4 hw F.len hN,cq7 A.ok.2.2.2.2.1,cl5];congr 2;show _=decide _;rw[decide_eq_decide];omega)
 rw[show l9 3 [j0 p ls,e8 a,j7 N]=[some (j0 p ls),some (e8 a),some (j7 N)]from rfl,this,aF8];rfl
noncomputable def L8:List Ln->List Int->List Int->Bool
 |l::ls,a::f,b::g=> !(decide (2*l.2.2<(a.natAbs:Int)+b.natAbs))&&L8 ls f g
 |_,_,_=>true
noncomputable def bJ4:T->T
 |.tup [.tup [.int a,.int d],.tup [.int b,.int e]]=>av0 (fr (if a<0 then -a else a) d) (fr (if b<0 then -b else b) e)
 |t=>t
theorem bg8(n m:Int):bJ4 (.tup [hf n,hf m])=hf ((n.natAbs:Int)+m.natAbs):=by
 obtain⟨a,d,e1,e2,_⟩:=ap4 n;obtain⟨b,c,e3,e4,_⟩:=ap4 m;rw[e1,e3];show av0 (fr (if a<0 then -a else a) d) (fr (if b<0 then -b else b) c)=_;rw[<-e2,<-e4,ay2]
noncomputable def loads(f g:List Int):List Int:=List.zipWith (fun a b=>(a.natAbs:Int)+b.natAbs) f g
theorem aR5:∀(f g:List Int),A5 (f.map hf) (g.map hf)=(f.zip g).map fun p=>T.tup [hf p.1,hf p.2]
 |[],_=>rfl
 |_::_,[]=>rfl
 |a::f,b::g=>by
  simp only[cv2,A5,cw7,aR5 f g]
theorem aA6:∀(f:List Int) (ls:List Ln),A5 (f.map hf) (ls.map e8)=(f.zip ls).map fun p=>T.tup [hf p.1,e8 p.2]
 |[],_=>rfl
 |_::_,[]=>rfl
 |a::f,b::g=>by
  simp only[cv2,A5,cw7,aA6 f g]
theorem aW2:∀(f g:List Int),(f.zip g).map (fun p=>hf ((p.1.natAbs:Int)+p.2.natAbs))=(loads f g).map hf
 |[],_=>rfl
 |_::_,[]=>rfl
 |a::f,b::g=>by
  have :=aW2 f g;simp only[loads,cw7,cv2,cw6]at this⊢;rw[this]
theorem aW1:∀{f g:List Int},Sm f->Sm g->∀n∈loads f g,n.natAbs<=2000
 |[],_,_,_,n,hn=>by simp[loads]at hn
 |_::_,[],_,_,n,hn=>by simp[loads]at hn
 |a::f,b::g,h1,h2,n,hn=>by
  obtain⟨q1,q2⟩:=h1.tail;obtain⟨q3,q4⟩:=h2.tail;simp only[loads,cw6]at hn;rcases List.mem_cons.mp hn with e|e
  ·omega
  ·exact aW1 q2 q4 n e
noncomputable def bL4:T->Bool
 |.tup [.tup [.int a,.int d],.tup [_,_,.int r]]=>decide (r*d<a)
 |_=>false
theorem aV3(n:Int)(l:Ln):bL4 (.tup [hf n,e8 l])=decide (2*l.2.2<n):=by
 obtain⟨a,d,e,hd,h2,_⟩:=P6 n;rw[e];show decide (l.2.2*d<a)=_;rw[decide_eq_decide];rcases hd with rfl|rfl<;>omega
theorem aT4:∀(ls:List Ln) (f g:List Int),(!((loads f g).zip ls).any fun p=>decide (2*p.2.2.2<p.1))=L8 ls f g
 |[],f,g=>by simp[L8]
 |l::ls,[],g=>by simp[L8,loads]
 |l::ls,a::f,[]=>by simp[L8,loads]
 |l::ls,a::f,b::g=>by
  have :=aT4 ls f g;simp only[loads,cw6,cw7,cs8,L8,Bool.not_or]at this⊢;rw[this]
theorem cr3{p:Nat}{ls:List Ln}{f g:List Int}(F:v0 p ls)(hf1:Sm f)(hg1:Sm g)(hl:f.length<=16):D7 [j0 p ls,.tup [j7 f,j7 g]]=some (.bl (L8 ls f g)):=by
 rw[D7,n8 2 _ _ _ rfl,V8];have hlim:lim=1000000:=rfl;have k1:=ad9 (ρ:=[some (j0 p ls),some (.tup [j7 f,j7 g]),none]) (it:=itZ (g2 e9 (d0 1) (gC (.int 0))) (g2 e9 (d0 1) (gC (.int 1)))) (nT:=2) (caps:=[]) (st:=st2 0 1) (e:=gN P1 [(gN J4 [(d0 0)]),(gN J4 [(d0 1)])]) (xs:=A5 (f.map hf) (g.map hf)) bJ4 rfl (cw9 (ad2 _ _) (by simp;omega)) (fun t ht=>by
  rw[aR5]at ht;obtain⟨⟨n,m⟩,hm,rfl⟩:=List.mem_map.mp ht;have hn:=hf1 n (cw1 hm).1;have hm':=hg1 m (cw1 hm).2;refine⟨[some (hf n),some (hf m)],rfl,?_⟩;simp only[gN_ap,gs_cons,gs_nil,gVar_ap,ct7,ct6,jn,cx3,cd7,bg8];exact bM2 (S7 (by omega)) (S7 (by omega)))
 rw[l8 (ρ':=[some (j0 p ls),some (.tup [j7 f,j7 g]),some (j7 (loads f g))])]
 ·have hll:(loads f g).length<=16:=by unfold loads;rw[List.length_zipWith];omega
  have k2:=aZ4 (ρ:=[some (j0 p ls),some (.tup [j7 f,j7 g]),some (j7 (loads f g))]) (it:=itZ (d0 2) (g2 e9 (d0 0) (gC (.int 1)))) (nT:=2) (caps:=[]) (st:=st2 0 1) (e:=gN X5 [(d0 0),(m7 [(g2 e9 (d0 1) (gC (.int 2))),(gC (.int 1))])]) (xs:=A5 ((loads f g).map hf) (ls.map e8)) bL4 rfl (cw9 (ad2 _ _) (by simp;omega)) (fun t ht=>by
   rw[aA6]at ht;obtain⟨⟨n,l⟩,hm,rfl⟩:=List.mem_map.mp ht;have hlk:=F.ok l (cw1 hm).2;have hn:n.natAbs<=2000:=by
    exact aW1 hf1 hg1 n (cw1 hm).1
   refine⟨[some (hf n),some (e8 l)],rfl,?_⟩;simp only[gN_ap,gs_cons,gs_nil,gTup_ap,g2_ap,gC_ap,gVar_ap,ct7,ct6,jn,cx3,e8,trip,ix2];rw[show T.tup [hf n,T.tup [.int l.1,.int l.2.1,.int l.2.2]]=.tup [hf n,e8 l]from rfl,aV3];exact bT4 (S7 (by omega)) (by omega) (by omega))
  rw[sRet_ap,gNot_ap,bOf_ap,k2];simp only[cx3,toB_bl,outT_ret];rw[aA6,List.any_map];rw[<-aT4];congr 3;congr 1
  funext q
  exact aV3 q.1 q.2
 ·rw[sSet_ap,show l9 3 [j0 p ls,.tup [j7 f,j7 g]]=[some (j0 p ls),some (.tup [j7 f,j7 g]),none]from rfl,k1];have e:List.map bJ4 (A5 (f.map hf) (g.map hf))=(loads f g).map hf:=by
   rw[aR5,cv3,<-aW2];exact List.map_congr_left fun q _=>bg8 q.1 q.2
  rw[e];rfl
theorem aN5{st:St1}{b:GS}(Inv:j9->Prop)(okB:T->Bool):∀(xs:List T),(∀x∈xs,∀ρ,Inv ρ->∃ρ1,st x ρ=some ρ1/\(okB x=true->∃ρ2,b ρ1=some (.nx ρ2)/\Inv ρ2)/\(okB x=false->b ρ1=some (.ret (.bl false))))->∀ρ,Inv ρ->
  (xs.all okB=true->∃ρ',u5 st b xs ρ=some (.nx ρ')/\Inv ρ')/\(xs.all okB=false->u5 st b xs ρ=some (.ret (.bl false)))
 |[],_,ρ,hi=>⟨fun _=>⟨ρ,rfl,hi⟩,fun h=>by simp at h⟩
 |x::xs,h,ρ,hi=>by
  obtain⟨ρ1,h1,h2,h3⟩:=h x cv8 ρ hi;rw[cs7];cases hx:okB x with
  |false=>
   refine⟨fun z=>by simp at z,fun _=> ?_⟩;rw[u5,h1,cx3,h3 hx];rfl
  |true=>
   obtain⟨ρ2,h4,h5⟩:=h2 hx;obtain⟨i1,i2⟩:=aN5 Inv okB xs (fun y hy=>h y (cv7 _ hy)) ρ2 h5;have e:u5 st b (x::xs) ρ=u5 st b xs ρ2:=by
    rw[u5,h1,cx3,h4];rfl
   rw[e,Bool.true_and];exact⟨i1,i2⟩
noncomputable def at1:GS:=(j6 (k7 7 (g2 C6 (g2 e9 (d0 4) (gC (.int 2))) (g2 aa0 (gN ae2 [(g2 fEq (d0 6) (g2 e9 (d0 4) (gC (.int 0))))]) (gN ae2 [(g2 fEq (d0 6) (g2 e9 (d0 4) (gC (.int 1))))]))))
  (sIf (bOf (g2 fNe (gN aa4 [(d0 0),(d0 5),(d0 6)]) (m7 [(d0 7),(gC (.int 1))]))) (m6 (gC (.bl false))) o7))
noncomputable def ac8:GS:=(j6 (sIf (bOf (g2 fNe (gN D0 [(d0 5)]) (gN D0 [(g2 e9 (d0 0) (gC (.int 1)))]))) (m6 (gC (.bl false))) o7)
  (N0 (itR (g2 e9 (d0 0) (gC (.int 0)))) (stN 6) at1))
noncomputable def cq4(fl t1 t2 d w r:T)(ρ:j9):Prop:=∃a b c e f,ρ=[some fl,some t1,some t2,some d,some w,some r,a,b,c,e,f]
noncomputable def cq5(fl t1 t2 d:T)(ρ:j9):Prop:=∃w r a b c e f,ρ=[some fl,some t1,some t2,some d,w,r,a,b,c,e,f]
theorem ce8{a:Ln}{x:Int}:a.2.2*((if(x==a.1)=true then(1:Int)else 0)-(if(x==a.2.1)=true then 1 else 0))=ct a a.2.2 x:=by
 unfold ct;by_cases h1:a.1=x<;>by_cases h2:a.2.1=x
 ·rw[cx8 h1,cx8 h2,cx8 (by simpa using h1.symm),cx8 (by simpa using h2.symm)];omega
 ·rw[cx8 h1,cx7 h2,cx8 (by simpa using h1.symm),cx7 (by simpa using fun z:x=a.2.1=>h2 z.symm)];omega
 ·rw[cx7 h1,cx8 h2,cx7 (by simpa using fun z:x=a.1=>h1 z.symm),cx8 (by simpa using h2.symm)];omega
 ·rw[cx7 h1,cx7 h2,cx7 (by simpa using fun z:x=a.1=>h1 z.symm),cx7 (by simpa using fun z:x=a.2.1=>h2 z.symm)];omega
theorem bI8{p:Nat}{ls:List Ln}{a:Ln}{N:List Int}{t1 t2 d:T}{x:Nat}{b c e f:Option T}(F:v0 p ls)(A:n9 p a)(hN:Sm N):
  (aC6 ls a N (.int x)=true->at1 [some (j0 p ls),some t1,some t2,some d,some (e8 a),some (j7 N),some (.int x),b,c,e,f]=some (.nx [some (j0 p ls),some t1,some t2,some d,some (e8 a),some (j7 N),some (.int x),some (.int (ct a a.2.2 x)),c,e,f]))/\
  (aC6 ls a N (.int x)=false->at1 [some (j0 p ls),some t1,some t2,some d,some (e8 a),some (j7 N),some (.int x),b,c,e,f]=some (.ret (.bl false))):=by
 have hw:∀l∈ls,l.1≠l.2.1:=fun l hl=>by have :=F.ok l hl;omega
 have hs:sm a.2.2=true:=aB3 A.ok.2.2.2.2.2.1 (by have :=A.ok;omega);have e1:at1 [some (j0 p ls),some t1,some t2,some d,some (e8 a),some (j7 N),some (.int x),b,c,e,f]=(if aC6 ls a N (.int x)=true then some (.nx [some (j0 p ls),some t1,some t2,some d,some (e8 a),some (j7 N),some (.int x),some (.int (ct a a.2.2 x)),c,e,f])else some (.ret (.bl false))):=by
  unfold at1;rw[l8 (ρ':=[some (j0 p ls),some t1,some t2,some d,some (e8 a),some (j7 N),some (.int x),some (.int (ct a a.2.2 x)),c,e,f])]
  ·have h2:fr (ct a a.2.2 x) 1=hf (2*ct a a.2.2 x):=(av7 _).symm;have h3:fNe (hf (B0 ls N x)) (.tup [.int (ct a a.2.2 x),.int 1])=some (.bl !(decide (B0 ls N x=2*ct a a.2.2 x))):=by
    show fNe _ (fr _ 1)=_;rw[h2,ck3]
   simp only[sIf_ap,bOf_ap,g2_ap,gN_ap,gs_cons,gs_nil,gTup_ap,gC_ap,sRet_ap,gVar_ap,ct7,ct6,jn,cx3,cr2 hw F.len hN,h3,toB_bl,sNext_ap];show(if(!decide (B0 ls N x=2*ct a a.2.2 x))=true then _ else _)=if decide (B0 ls N x=2*ct a a.2.2 x)=true then _ else _
   cases decide (B0 ls N x=2*ct a a.2.2 x)<;>rfl
  ·simp only[sSet_ap,g2_ap,gN_ap,gs_cons,gs_nil,gC_ap,gVar_ap,ct7,ct6,jn,cx3,e8,trip,ix0,ix1,ix2,fEq_int,fInt_bl,fSub_int,as1 hs,ce8,cw4,cw3]
 rw[e1];exact⟨fun h=>cx8 h,fun h=>cx7 (by rw[h];simp)⟩
theorem aZ1{p:Nat}{ls:List Ln}{a:Ln}{N:List Int}{t1 t2 d:T}{b1 b c e f:Option T}(F:v0 p ls)(A:n9 p a)(hN:Sm N)(hl:N.length=ls.length):
  (Z3 p ls a N=true->∃ρ',ac8 [some (j0 p ls),some t1,some t2,some d,some (e8 a),some (j7 N),b1,b,c,e,f]=some (.nx ρ')/\cq5 (j0 p ls) t1 t2 d ρ')/\
  (Z3 p ls a N=false->ac8 [some (j0 p ls),some t1,some t2,some d,some (e8 a),some (j7 N),b1,b,c,e,f]=some (.ret (.bl false))):=by
 have hlim:lim=1000000:=rfl;have hp:=F.hi;have q:=aN5 (st:=stN 6) (b:=at1) (cq4 (j0 p ls) t1 t2 d (e8 a) (j7 N)) (aC6 ls a N) (u8 0 p) (fun t ht ρ hi=>by
  obtain⟨x,hx,rfl⟩:=mem_range ht;obtain⟨b1,b,c,e,f,rfl⟩:=hi;obtain⟨q1,q2⟩:=bI8 (t1:=t1) (t2:=t2) (d:=d) (x:=x) (b:=b) (c:=c) (e:=e) (f:=f) F A hN;exact⟨_,rfl,fun h=>⟨_,q1 h,_,_,_,_,_,rfl⟩,q2⟩) [some (j0 p ls),some t1,some t2,some d,some (e8 a),some (j7 N),b1,b,c,e,f] ⟨_,_,_,_,_,rfl⟩
 rw[aF8]at q;have e1:ac8 [some (j0 p ls),some t1,some t2,some d,some (e8 a),some (j7 N),b1,b,c,e,f]=u5 (stN 6) at1 (u8 0 p) [some (j0 p ls),some t1,some t2,some d,some (e8 a),some (j7 N),b1,b,c,e,f]:=by
  unfold ac8;rw[l8 (ρ':=[some (j0 p ls),some t1,some t2,some d,some (e8 a),some (j7 N),b1,b,c,e,f])]
  ·simp only[sFor_ap,itR_ap,g2_ap,gC_ap,gVar_ap,ct7,jn,cx3,ix0,toI_int];rw[cx8 (by rw[hlim];omega),cs6];rfl
  ·simp only[sIf_ap,bOf_ap,g2_ap,gN_ap,gs_cons,gs_nil,gC_ap,gVar_ap,ct7,ct6,jn,cx3,ix1,fLen_lst,cu6,hl,fNe_int,toB_bl,sNext_ap];simp
 rw[e1];exact⟨fun h=>by
  obtain⟨ρ',h1,a1,a2,a3,a4,a5,h2⟩:=q.1 h;exact⟨ρ',h1,_,_,_,_,_,_,_,h2⟩,q.2⟩
noncomputable def at0:GS:=(sIf (bOf (gN S6 [(m7 [(g2 e9 (d0 8) (gC (.int 2))),(gC (.int 1))]),(gN C8 [(m7 [(gN as3 [(g2 e9 (d0 9) (gC (.int 0)))]),(g2 e9 (d0 9) (gC (.int 1)))]),(m7 [(gN as3 [(g2 e9 (d0 10) (gC (.int 0)))]),(g2 e9 (d0 10) (gC (.int 1)))])])])) (m6 (gC (.bl false))) o7)
theorem bd1{ρ0:List (Option T)}(h8:ρ0.length=8):∀(ls:List Ln) (f g:List Int) (x y z:Option T),(∀l∈ls,1<=l.2.2/\l.2.2<=20)->Sm f->Sm g->
  (L8 ls f g=true->∃x' y' z',u5 (st3 8 9 10) at0 (M8 (ls.map e8) (f.map hf) (g.map hf)) (ρ0++[x,y,z])=some (.nx (ρ0++[x',y',z'])))/\
  (L8 ls f g=false->u5 (st3 8 9 10) at0 (M8 (ls.map e8) (f.map hf) (g.map hf)) (ρ0++[x,y,z])=some (.ret (.bl false)))
 |[],f,g,x,y,z,_,_,_=>⟨fun _=>⟨x,y,z,rfl⟩,fun h=>by simp[L8]at h⟩
 |l::ls,[],g,x,y,z,_,_,_=>⟨fun _=>⟨x,y,z,rfl⟩,fun h=>by simp[L8]at h⟩
 |l::ls,a::f,[],x,y,z,_,_,_=>⟨fun _=>⟨x,y,z,rfl⟩,fun h=>by simp[L8]at h⟩
 |l::ls,a::f,b::g,x,y,z,hl,hf1,hg1=>by
  obtain⟨q1,q2⟩:=hf1.tail;obtain⟨q3,q4⟩:=hg1.tail;have hlk:=hl l cv8;obtain⟨n1,d1,e1,e2,_⟩:=ap4 a;obtain⟨n2,d2,e3,e4,_⟩:=ap4 b;obtain⟨i1,i2⟩:=bd1 h8 ls f g (some (e8 l)) (some (hf a)) (some (hf b)) (fun k hk=>hl k (cv7 _ hk)) q2 q4
  match ρ0,h8 with
  |[r0,r1,r2,r3,r4,r5,r6,r7],_=>
  have ek:at0 [r0,r1,r2,r3,r4,r5,r6,r7,some (e8 l),some (hf a),some (hf b)]=(if decide (2*l.2.2<(a.natAbs:Int)+b.natAbs)=true then some (.ret (.bl false))else some (.nx [r0,r1,r2,r3,r4,r5,r6,r7,some (e8 l),some (hf a),some (hf b)])):=by
   have u1:C8 [.tup [.int (if n1<0 then -n1 else n1),.int d1],.tup [.int (if n2<0 then -n2 else n2),.int d2]]=some (hf ((a.natAbs:Int)+b.natAbs)):=by
    show C8 [fr _ _,fr _ _]=_;rw[<-e2,<-e4];exact aH3 (S7 (by omega)) (S7 (by omega))
   have u2:S6 [.tup [.int l.2.2,.int 1],hf ((a.natAbs:Int)+b.natAbs)]=some (.bl (decide (2*l.2.2<(a.natAbs:Int)+b.natAbs))):=bH5 (S7 (by omega)) (by omega) (by omega);unfold at0;rw[e1,e3];simp only[sIf_ap,bOf_ap,g2_ap,gN_ap,gs_cons,gs_nil,gTup_ap,gC_ap,sRet_ap,gVar_ap,ct7,ct6,jn,cx3,e8,trip,fr,ix0,ix1,ix2,fAbs_int,u1,u2,toB_bl,sNext_ap]
  have step:u5 (st3 8 9 10) at0 (M8 ((l::ls).map e8) ((a::f).map hf) ((b::g).map hf)) ([r0,r1,r2,r3,r4,r5,r6,r7]++[x,y,z])=(if decide (2*l.2.2<(a.natAbs:Int)+b.natAbs)=true then some (.ret (.bl false))else u5 (st3 8 9 10) at0 (M8 (ls.map e8) (f.map hf) (g.map hf)) [r0,r1,r2,r3,r4,r5,r6,r7,some (e8 l),some (hf a),some (hf b)]):=by
   rw[cv2,cv2,cv2,M8,u5];show Option.bind (at0 [r0,r1,r2,r3,r4,r5,r6,r7,some (e8 l),some (hf a),some (hf b)]) _=_;rw[ek];split<;>rfl
  rw[step];rw[L8];cases decide (2*l.2.2<(a.natAbs:Int)+b.natAbs)with
  |true=>exact⟨fun h=>by simp at h,fun _=>rfl⟩
  |false=>
   rw[cx7 (by simp)];exact⟨fun h=>i1 (by simpa using h),fun h=>i2 (by simpa using h)⟩
noncomputable def ay7(p:Nat)(ls:List Ln)(a b:Ln)(f g:List Int):Bool:=Z3 p ls a f&&(Z3 p ls b g&&L8 ls f g)
theorem bN1{p:Nat}{ls:List Ln}{a b:Ln}{f g:List Int}(F:v0 p ls)(A:n9 p a)(B:n9 p b)(hf1:Sm f)(hg1:Sm g)(l1:f.length=ls.length)(l2:g.length=ls.length):
  J7 [j0 p ls,e8 a,e8 b,.tup [j7 f,j7 g]]=some (.bl (ay7 p ls a b f g)):=by
 rw[J7,n8 4 _ _ _ rfl,aE4];have hfor:N0 (bH3 (m7 [(d0 1),(d0 2)]) (d0 3)) (st2 4 5) ac8 (l9 11 [j0 p ls,e8 a,e8 b,.tup [j7 f,j7 g]])=u5 (st2 4 5) ac8 [.tup [e8 a,j7 f],.tup [e8 b,j7 g]] [some (j0 p ls),some (e8 a),some (e8 b),some (.tup [j7 f,j7 g]),none,none,none,none,none,none,none]:=rfl;obtain⟨w1,w2⟩:=aZ1 (t1:=e8 a) (t2:=e8 b) (d:=.tup [j7 f,j7 g]) (b1:=none) (b:=none) (c:=none) (e:=none) (f:=none) F A hf1 l1;unfold ay7;cases ha:Z3 p ls a f with
 |false=>
  have :u5 (st2 4 5) ac8 [.tup [e8 a,j7 f],.tup [e8 b,j7 g]] [some (j0 p ls),some (e8 a),some (e8 b),some (.tup [j7 f,j7 g]),none,none,none,none,none,none,none]=some (.ret (.bl false)):=by
   rw[u5];show Option.bind (ac8 [some (j0 p ls),some (e8 a),some (e8 b),some (.tup [j7 f,j7 g]),some (e8 a),some (j7 f),none,none,none,none,none]) _=_;rw[w2 ha];rfl
  rw[W4 (t:=.bl false)]
  ·rfl
  ·exact hfor.trans this
 |true=>
  obtain⟨ρ1,h1,x1,x2,x3,x4,x5,x6,x7,rfl⟩:=w1 ha;obtain⟨v1,v2⟩:=aZ1 (t1:=e8 a) (t2:=e8 b) (d:=.tup [j7 f,j7 g]) (b1:=x3) (b:=x4) (c:=x5) (e:=x6) (f:=x7) F B hg1 l2;have step:u5 (st2 4 5) ac8 [.tup [e8 a,j7 f],.tup [e8 b,j7 g]] [some (j0 p ls),some (e8 a),some (e8 b),some (.tup [j7 f,j7 g]),none,none,none,none,none,none,none]=(ac8 [some (j0 p ls),some (e8 a),some (e8 b),some (.tup [j7 f,j7 g]),some (e8 b),some (j7 g),x3,x4,x5,x6,x7]).bind fun o=>match o with |.nx ρ2=>some (.nx ρ2)|.ct ρ2=>some (.nx ρ2)|.bk ρ2=>some (.nx ρ2)|.ret t=>some (.ret t):=by
   rw[u5];show Option.bind (ac8 [some (j0 p ls),some (e8 a),some (e8 b),some (.tup [j7 f,j7 g]),some (e8 a),some (j7 f),none,none,none,none,none]) _=_;rw[h1];rfl
  cases hb:Z3 p ls b g with
  |false=>
   rw[W4 (t:=.bl false)]
   ·rfl
   ·refine hfor.trans (step.trans ?_);rw[v2 hb];rfl
  |true=>
   obtain⟨ρ2,h2,y1,y2,y3,y4,y5,y6,y7,rfl⟩:=v1 hb;rw[l8 (ρ':=[some (j0 p ls),some (e8 a),some (e8 b),some (.tup [j7 f,j7 g]),y1,y2,y3,y4,y5,y6,y7])]
   ·obtain⟨r1,r2⟩:=bd1 (ρ0:=[some (j0 p ls),some (e8 a),some (e8 b),some (.tup [j7 f,j7 g]),y1,y2,y3,y4]) rfl ls f g y5 y6 y7 (fun l hl=>by have :=F.ok l hl;omega) hf1 hg1;cases hr:L8 ls f g with
    |false=>
     rw[W4 (t:=.bl false)]
     ·rfl
     ·exact r2 hr
    |true=>
     obtain⟨z1,z2,z3,hz⟩:=r1 hr;rw[l8 (ρ':=[some (j0 p ls),some (e8 a),some (e8 b),some (.tup [j7 f,j7 g]),y1,y2,y3,y4,z1,z2,z3])]
     ·rfl
     ·exact hz
   ·refine hfor.trans (step.trans ?_);rw[h2];rfl
theorem bS5(m n:Nat):(((m:Nat):Int)==(n:Int))=(m==n):=by
 rw[Bool.eq_iff_iff,beq_iff_eq,beq_iff_eq];omega
theorem bo6{xs:List T}{n:Nat}(f:T->Bool)(h:∀x∈xs,B8 [x]=some (.bl (f x)))(hl:xs.length<=lim):A3 [.lst xs,.int n]=some (.bl (xs.length==n&&xs.all f)):=by
 have k:=U0 (ρ:=[some (.lst xs),some (.int n)]) (it:=itL (d0 0)) (nT:=1) (caps:=[]) (st:=stN 0) (e:=gN B8 [(d0 0)]) f rfl hl (fun x hx=>⟨[some x],rfl,h x hx⟩);rw[A3,n8 2 _ _ _ rfl,ad0,sRet_ap,show l9 2 [.lst xs,.int n]=[some (.lst xs),some (.int n)]from rfl];have e1:g1 (P7 .list) (d0 0) [some (.lst xs),some (.int n)]=some (.bl true):=rfl;have e2:g2 fEq (gN D0 [(d0 0)]) (d0 1) [some (.lst xs),some (.int n)]=some (.bl (xs.length==n)):=by
  show some (T.bl (((xs.length:Nat):Int)==(n:Int)))=_;rw[bS5]
 simp only[gAnd_ap,bOf_ap,e1,e2,k,cx3,toB_bl,if_true];cases(xs.length==n)<;>rfl
theorem bo5{p:T}{ls:List Ln}{x y:T}{i j:Bool}(h1:A3 [x,.int (ls.length:Nat)]=some (.bl i))(h2:A3 [y,.int (ls.length:Nat)]=some (.bl j)):D5 [.tup [p,.lst (ls.map e8)],.tup [x,y]]=some (.bl (i&&j)):=by
 rw[D5,n8 2 _ _ _ rfl,ae8,sRet_ap,show l9 2 [.tup [p,.lst (ls.map e8)],.tup [x,y]]=[some (.tup [p,.lst (ls.map e8)]),some (.tup [x,y])]from rfl];have e1:gN K6 [d0 1] [some (.tup [p,.lst (ls.map e8)]),some (.tup [x,y])]=some (.bl true):=ba1 (t:=.tup [x,y]) rfl;have e2:gN P8 [(o0 (itT (d0 1)) 1 [0] (stN 0) B3 (gN A3 [(d0 0),(gN D0 [(g2 e9 (d0 1) (gC (.int 1)))])]))] [some (.tup [p,.lst (ls.map e8)]),some (.tup [x,y])]=some (.bl (i&&j)):=by
  have ez:∀z:T,gN A3 [(d0 0),(gN D0 [(g2 e9 (d0 1) (gC (.int 1)))])] [some z,some (.tup [p,.lst (ls.map e8)])]=A3 [z,.int (ls.length:Nat)]:=fun z=>by
   simp only[gN_ap,gs_cons,gs_nil,g2_ap,gC_ap,gVar_ap,ct7,ct6,jn,cx3,ix1,fLen_lst,cu6]
  have el:(R9 [none,some (.tup [p,.lst (ls.map e8)])] (stN 0) B3 (gN A3 [(d0 0),(gN D0 [(g2 e9 (d0 1) (gC (.int 1)))])]) [x,y])=some [.bl i,.bl j]:=by
   simp only[R9,stN_ap,cw4,cx3,bYes_ap,if_true,ez,h1,h2]
  have hit:itT (d0 1) [some (.tup [p,.lst (ls.map e8)]),some (.tup [x,y])]=some [x,y]:=rfl;have hcap:O2 1 [0] [some (.tup [p,.lst (ls.map e8)]),some (.tup [x,y])]=[none,some (.tup [p,.lst (ls.map e8)])]:=rfl;have hle:([x,y]:List T).length<=lim:=by show 2<=lim;decide
  rw[gN_ap,gs_cons,gs_nil];simp only[o0,hit,cx3,hcap,cx8 hle,el];show some (T.bl (i&&(j&&true)))=_;rw[Bool.and_true]
 simp only[gAnd_ap,bOf_ap,e1,e2,cx3,toB_bl,if_true,outT_ret]
noncomputable def bL3:T->Bool
 |.tup xs=>xs.length==2
 |_=>false
theorem bV3{t:T}(h:plain t=true):K6 [t]=some (.bl (bL3 t)):=by
 rw[ba1 h];cases t<;>rfl
theorem aF0{q t:T}(h:plain t=true)(h2:bL3 t=false):D5 [q,t]=some (.bl false):=by
 rw[D5,n8 2 _ _ _ rfl,ae8,sRet_ap,show l9 2 [q,t]=[some q,some t]from rfl];have e1:gN K6 [d0 1] [some q,some t]=some (.bl false):=by
  have :=bV3 h;rw[h2]at this;exact this
 simp only[gAnd_ap,bOf_ap,e1,cx3,toB_bl];rfl
theorem bA2{N:List Int}{n:Nat}(hl:N.length<=lim):A3 [j7 N,.int n]=some (.bl (N.length==n)):=by
 rw[bo6 (fun _=>true) (fun x hx=>by obtain⟨m,_,rfl⟩:=List.mem_map.mp hx;exact bM4 m) (by simpa using hl)];simp
theorem bV5{p:Nat}{ls:List Ln}{a b:Ln}{t:T}(F:v0 p ls)(A:n9 p a)(B:n9 p b)(h:D5 [j0 p ls,t]=some (.bl false)):t8 [j0 p ls,e8 a,e8 b,t]=some (.val (.bl false)):=by
 rw[t8,N9 4 _ _ _ rfl,V0,aq7 (xs:=[j0 p ls,e8 a,e8 b]) rfl (aQ2 F A B)];have e1:gN D5 [(d0 0),(d0 3)] (l9 4 [j0 p ls,e8 a,e8 b,t])=some (.bl false):=h;simp only[L9,sRet_ap,gAnd_ap,bOf_ap,e1,cx3,toB_bl];rfl
theorem cg9{p:Nat}{ls:List Ln}{a b:Ln}{f g:List Int}(F:v0 p ls)(A:n9 p a)(B:n9 p b)(hf1:Sm f)(hg1:Sm g)(l1:f.length=ls.length)(l2:g.length=ls.length):
  t8 [j0 p ls,e8 a,e8 b,.tup [j7 f,j7 g]]=some (.val (.bl (ay7 p ls a b f g))):=by
 have hlen:=F.len;have hlim:lim=1000000:=rfl;have hd:D5 [j0 p ls,.tup [j7 f,j7 g]]=some (.bl true):=by
  have :=bo5 (p:=.int p) (ls:=ls) (bA2 (N:=f) (n:=ls.length) (by omega)) (bA2 (N:=g) (n:=ls.length) (by omega));rw[l1,l2]at this;simpa using this
 rw[t8,N9 4 _ _ _ rfl,V0,aq7 (xs:=[j0 p ls,e8 a,e8 b]) rfl (aQ2 F A B)];have e1:gN D5 [(d0 0),(d0 3)] (l9 4 [j0 p ls,e8 a,e8 b,.tup [j7 f,j7 g]])=some (.bl true):=hd;have e2:gN E5 [(d0 0),(d0 1),(g2 e9 (d0 3) (gC (.int 0)))] (l9 4 [j0 p ls,e8 a,e8 b,.tup [j7 f,j7 g]])=some (.bl (Z3 p ls a f)):=ch3 F A hf1;have e3:gN E5 [(d0 0),(d0 2),(g2 e9 (d0 3) (gC (.int 1)))] (l9 4 [j0 p ls,e8 a,e8 b,.tup [j7 f,j7 g]])=some (.bl (Z3 p ls b g)):=ch3 F B hg1;have e4:gN D7 [(d0 0),(d0 3)] (l9 4 [j0 p ls,e8 a,e8 b,.tup [j7 f,j7 g]])=some (.bl (L8 ls f g)):=cr3 F hf1 hg1 (by omega);simp only[L9,sRet_ap,gAnd_ap,bOf_ap,e1,e2,e3,e4,cx3,toB_bl,if_true];unfold ay7;cases Z3 p ls a f with
 |false=>rfl
 |true=>
  cases Z3 p ls b g with
  |false=>rfl
  |true=>rfl
theorem aR4:∀(f g:List Int),A5 (f.map T.int) (g.map T.int)=(f.zip g).map fun q=>T.tup [.int q.1,.int q.2]
 |[],_=>rfl
 |_::_,[]=>rfl
 |a::f,b::g=>by
  simp only[cv2,A5,cw7,aR4 f g]
noncomputable def bm1(op:Int->Int->Int):T->T
 |.tup [.int a,.int b]=>hf (op a b)
 |t=>t
theorem aX4(op:Int->Int->Int):∀(f g:List Int),(A5 (f.map T.int) (g.map T.int)).map (bm1 op)=(List.zipWith op f g).map hf
 |[],_=>rfl
 |_::_,[]=>rfl
 |a::f,b::g=>by
  simp only[cv2,A5,cw6,aX4 op f g,bm1]
theorem aN4{ρ:j9}{f g:List Int}{c d:Nat}{u v:T}{gop:T->T->Option T}{op:Int->Int->Int}(hop:∀i j,gop (.int i) (.int j)=some (.int (op i j)))(hc:(ρ[c]?).join=some (.tup [u,g8 f]))(hd:(ρ[d]?).join=some (.tup [v,g8 g]))(hl:f.length<=lim):
  o0 (itZ (g2 e9 (d0 c) (gC (.int 1))) (g2 e9 (d0 d) (gC (.int 1)))) 2 [] (st2 0 1) B3 (gN K4 [(g2 gop (d0 0) (d0 1)),(gC (.int 2))]) ρ=some (j7 (List.zipWith op f g)):=by
 have :=ad9 (ρ:=ρ) (it:=itZ (g2 e9 (d0 c) (gC (.int 1))) (g2 e9 (d0 d) (gC (.int 1)))) (nT:=2) (caps:=[]) (st:=st2 0 1) (e:=gN K4 [(g2 gop (d0 0) (d0 1)),(gC (.int 2))]) (xs:=A5 (f.map T.int) (g.map T.int)) (bm1 op)
  (by simp only[itZ_ap,itL_ap,g2_ap,gC_ap,gVar_ap,hc,hd,cx3,ix1,toL_lst]) (cw9 (ad2 _ _) (by simpa using hl)) (fun t ht=>by
   rw[aR4]at ht;obtain⟨⟨i,j⟩,_,rfl⟩:=List.mem_map.mp ht;refine⟨[some (.int i),some (.int j)],rfl,?_⟩;simp only[gN_ap,gs_cons,gs_nil,g2_ap,gC_ap,gVar_ap,ct7,ct6,jn,cx3,hop,cd5,bm1])
 rw[this,aX4]
theorem ao0{i:Nat}{g:G}{b:GR}{ρ:j9}{t:T}(h:g ρ=some t):Q7 (L9 (k7 i g)) b ρ=b (ρ.set i (some t)):=by
 simp only[Q7,L9,sSet_ap,h,cx3]
theorem bK9{c:GB}{x:GS}{b:GR}{ρ:j9}(h:c ρ=some false):Q7 (L9 (sIf c x o7)) b ρ=b ρ:=by
 simp only[Q7,L9,sIf_ap,h,cx3,cr9,if_false,sNext_ap]
theorem br8{c:GB}{g:G}{b:GR}{ρ:j9}{t:T}(h:c ρ=some true)(h2:g ρ=some t):Q7 (L9 (sIf c (m6 g) o7)) b ρ=some (.o (.ret t)):=by
 simp only[Q7,L9,sIf_ap,h,cx3,if_true,sRet_ap,h2]
theorem aY0:fEq (.str "cut") (.str "cut")=some (.bl true):=by
 show some (T.bl (_==_))=_;congr 2
theorem bg1:fEq (.str "flow") (.str "cut")=some (.bl false):=by
 show some (T.bl (_==_))=_;congr 2
inductive bo8(p:Nat)(ls:List Ln)(a b:Ln):T->Prop where
 |cut (S:List Int) (C:N2 p S) (h:B2 S ls<B2 S [a,b]):bo8 p ls a b (.tup [.str "cut",g8 S])
 |dbl (f g:List Int) (hf:L7 p ls (sup p a b) f) (hg:L7 p ls (sup p a (U6 b)) g):bo8 p ls a b (.tup [.str "double",.tup [j7 (List.zipWith (· + ·) f g),j7 (List.zipWith (· - ·) f g)]])
theorem bA4{p:Nat}{ls:List Ln}{a b:Ln}(F:v0 p ls)(A:n9 p a)(B:n9 p b):∃t,C9 [j0 p ls,e8 a,e8 b]=some (.val t)/\bo8 p ls a b t:=by
 have hl:=F.len;have hlim:lim=1000000:=rfl;rw[C9,N9 3 _ _ _ rfl,am3,aq7 (xs:=[j0 p ls,e8 a,e8 b]) rfl (aQ2 F A B)];rw[show l9 7 [j0 p ls,e8 a,e8 b]=[some (j0 p ls),some (e8 a),some (e8 b),none,none,none,none]from rfl];have s1:=cg2 (ls:=ls) F.hi A B;have s2:=cg2 (ls:=ls) F.hi A B.turn;rcases cg1 F bc7 (bc5 A B) (bc6 A B)with⟨S,h1,C,h2⟩|⟨f,h1,hf⟩
 ·have e1:gN C0 [(d0 0),(gFr (gN F6 [(d0 0),(d0 1),(d0 2)]))] [some (j0 p ls),some (e8 a),some (e8 b),none,none,none,none]=some (.tup [.str "cut",g8 S]):=by
   simp only[gN_ap,gs_cons,gs_nil,gVar_ap,ct7,ct6,jn,cx3,gFr,g8,s1,h1]
  refine⟨_,?_,.cut S C (aA3 A B C h2)⟩;rw[ao0 e1,br8 (t:=.tup [.str "cut",g8 S])]
  ·rfl
  ·simp only[bOf_ap,g2_ap,gC_ap,gVar_ap,cw4,cw3,ct7,ct6,jn,cx3,ix0,aY0,toB_bl]
  ·rfl
 ·have e1:gN C0 [(d0 0),(gFr (gN F6 [(d0 0),(d0 1),(d0 2)]))] [some (j0 p ls),some (e8 a),some (e8 b),none,none,none,none]=some (.tup [.str "flow",g8 f]):=by
   simp only[gN_ap,gs_cons,gs_nil,gVar_ap,ct7,ct6,jn,cx3,gFr,g8,s1,h1]
  rw[ao0 e1,bK9 (by simp only[bOf_ap,g2_ap,gC_ap,gVar_ap,cw4,cw3,ct7,ct6,jn,cx3,ix0,bg1,toB_bl])];simp only[cw4,cw3];rcases cg1 F bc7 (bc5 A B.turn) (bc6 A B.turn)with⟨S,k1,C,k2⟩|⟨g,k1,hg⟩
  ·have e2:gN C0 [(d0 0),(gFr (gN F6 [(d0 0),(d0 1),(m7 [(g2 e9 (d0 2) (gC (.int 1))),(g2 e9 (d0 2) (gC (.int 0))),(g2 e9 (d0 2) (gC (.int 2)))])]))] [some (j0 p ls),some (e8 a),some (e8 b),some (.tup [.str "flow",g8 f]),none,none,none]=some (.tup [.str "cut",g8 S]):=by
    have s2':F6 [j0 p ls,.tup [.int a.1,.int a.2.1,.int a.2.2],.tup [.int b.2.1,.int b.1,.int b.2.2]]=some (g8 (sup p a (U6 b))):=s2;simp only[gN_ap,gs_cons,gs_nil,gTup_ap,g2_ap,gC_ap,gVar_ap,ct7,ct6,jn,cx3,e8,trip,ix0,ix1,ix2,gFr,g8,s2',k1]
   refine⟨_,?_,.cut S C ?_⟩
   ·rw[ao0 e2,br8 (t:=.tup [.str "cut",g8 S])]
    ·rfl
    ·simp only[bOf_ap,g2_ap,gC_ap,gVar_ap,cw4,cw3,ct7,ct6,jn,cx3,ix0,aY0,toB_bl]
    ·rfl
   ·have :=aA3 A B.turn C k2;rwa[bt2]at this
  ·have e2:gN C0 [(d0 0),(gFr (gN F6 [(d0 0),(d0 1),(m7 [(g2 e9 (d0 2) (gC (.int 1))),(g2 e9 (d0 2) (gC (.int 0))),(g2 e9 (d0 2) (gC (.int 2)))])]))] [some (j0 p ls),some (e8 a),some (e8 b),some (.tup [.str "flow",g8 f]),none,none,none]=some (.tup [.str "flow",g8 g]):=by
    have s2':F6 [j0 p ls,.tup [.int a.1,.int a.2.1,.int a.2.2],.tup [.int b.2.1,.int b.1,.int b.2.2]]=some (g8 (sup p a (U6 b))):=s2;simp only[gN_ap,gs_cons,gs_nil,gTup_ap,g2_ap,gC_ap,gVar_ap,ct7,ct6,jn,cx3,e8,trip,ix0,ix1,ix2,gFr,g8,s2',k1]
   refine⟨_,?_,.dbl f g hf hg⟩;rw[ao0 e2,bK9 (by simp only[bOf_ap,g2_ap,gC_ap,gVar_ap,cw4,cw3,ct7,ct6,jn,cx3,ix0,bg1,toB_bl])];simp only[cw4,cw3];have hfl:=hf.len;rw[ao0 (aN4 (op:=(· + ·)) (fun i j=>fAdd_int i j) rfl rfl (by omega))];rw[ao0 (aN4 (op:=(· - ·)) (fun i j=>fSub_int i j) rfl rfl (by omega))];rfl
theorem R0{i j:Int}(h1:0<j)(h2:j<1000000):A8 (.int i) (.int j)=some (.int (i/j)):=aj8 h1 (S0 (k:=20) (by omega) (by decide))
theorem bK4(c k:Int):∃d:Int,E8 [.int c,.int k]=some (.int d)/\0<=d:=by
 have s1:sm 6364136223846793005=true:=rfl;have s2:sm 1442695040888963407=true:=rfl;have p1:(0:Int)<340282366920938463463374607431768211507:=by decide
 have p2:(0:Int)<340282366920938463463374607431768211297:=by decide
 have m0:=Int.emod_nonneg (c*6364136223846793005+(k+1)*1442695040888963407) (show(340282366920938463463374607431768211507:Int)≠0 by decide);have m1:=Int.emod_lt_of_pos (c*6364136223846793005+(k+1)*1442695040888963407) p1;have e2:(2:Nat)^129=680564733841876926926749214863536422912:=by decide
 generalize hz:(c*6364136223846793005+(k+1)*1442695040888963407)%340282366920938463463374607431768211507=z at m0 m1;have hb:big z=true:=S0 (k:=129) (by omega) (by decide);refine⟨z*z%340282366920938463463374607431768211297,?_,Int.emod_nonneg _ (show(340282366920938463463374607431768211297:Int)≠0 by decide)⟩;rw[E8,n8 2 _ _ _ rfl,aw8];rw[l8 (ρ':=[some (.int c),some (.int k),some (.int z)])]
 ·simp only[sRet_ap,g2_ap,gC_ap,gVar_ap,ct7,ct6,jn,cx3,T8 hb hb,A0 p2,outT_ret]
 ·rw[<-hz];simp only[sSet_ap,g2_ap,gC_ap,gVar_ap,l9,cv2,cv4,cu5,cu7,ct0,cw0,ct7,ct6,jn,cx3,ai1 s1,ai1 s2,fAdd_int,A0 p1];rfl
theorem ap5{st:St1}{b:GS}(Iv:Nat->j9->Prop):∀(xs:List T) (n:Nat) (ρ:j9),Iv n ρ->(∀i x,xs[i]?=some x->∀ρ,Iv (n+i) ρ->∃ρ1 ρ2,st x ρ=some ρ1/\b ρ1=some (.nx ρ2)/\Iv (n+i+1) ρ2)->
  ∃ρ',u5 st b xs ρ=some (.nx ρ')/\Iv (n+xs.length) ρ'
 |[],n,ρ,h0,_=>⟨ρ,rfl,h0⟩
 |x::xs,n,ρ,h0,h=>by
  obtain⟨ρ1,ρ2,h1,h2,h3⟩:=h 0 x (by simp) ρ h0;obtain⟨ρ',k1,k2⟩:=ap5 Iv xs (n+1) ρ2 h3 fun i y hy ρ hi=>by
   have :=h (i+1) y (by simpa using hy) ρ (by rw[show n+(i+1)=n+1+i by omega];exact hi);rw[show n+(i+1)+1=n+1+i+1 by omega]at this;exact this
  refine⟨ρ',?_,by rw[cu5,show n+(xs.length+1)=n+1+xs.length by omega];exact k2⟩;rw[u5];simp only[h1,cx3,h2];exact k1
theorem bi6{n i:Nat}{x:T}(h:(u8 0 n)[i]?=some x):i<n/\x=.int (i:Int):=by
 unfold u8 at h;rw[cu0]at h;cases e:(List.range n)[i]? with
 |none=>rw[e]at h;cases h
 |some j=>
  rw[e]at h;obtain⟨h1,h2⟩:=List.getElem?_eq_some_iff.mp e;simp at h1 h2;subst h2;cases h;exact⟨h1,by simp⟩
theorem bi5(n:Nat):(u8 0 n).length=n:=by simp[u8]
theorem bm4{k:Nat}{b:GS}{n:Nat}(Iv:Nat->j9->Prop)(ρ:j9)(h0:Iv 0 ρ)(h:∀i,i<n->∀ρ,Iv i ρ->∃ρ2,b (ρ.set k (some (.int (i:Int))))=some (.nx ρ2)/\Iv (i+1) ρ2):
  ∃ρ',u5 (stN k) b (u8 0 n) ρ=some (.nx ρ')/\Iv n ρ':=by
 obtain⟨ρ',k1,k2⟩:=ap5 (st:=stN k) (b:=b) Iv (u8 0 n) 0 ρ h0 fun i x hx ρ hi=>by
  obtain⟨hl,rfl⟩:=bi6 hx;rw[Nat.zero_add]at hi⊢;obtain⟨ρ2,q1,q2⟩:=h i hl ρ hi;exact⟨_,ρ2,rfl,q1,q2⟩
 rw[bi5,Nat.zero_add]at k2;exact⟨ρ',k1,k2⟩
theorem aF7{x:Int×Int×Int}:∀{ws:List (Int×Int×Int)},W5 ws=true->(∀w∈ws,ag4 [w.1,w.2.1] [x.1,x.2.1]=true)->W5 (ws++[x])=true
 |[],_,_=>rfl
 |[a],_,h=>by
  show(ag4 [a.1,a.2.1] [x.1,x.2.1]&&true)=true;rw[h a cv8];rfl
 |a::b::r,hr,h=>by
  have hr':(ag4 [a.1,a.2.1] [b.1,b.2.1]&&W5 (b::r))=true:=hr;rw[cr8]at hr';have ih:=aF7 (ws:=b::r) hr'.2 fun w hw=>h w (cv7 _ hw)
  show(ag4 [a.1,a.2.1] [b.1,b.2.1]&&W5 (b::r++[x]))=true;rw[hr'.1,ih];rfl
theorem co7{a b c d:Int}(h:a<c\/(a=c/\b<d)):ag4 [a,b] [c,d]=true:=by
 unfold ag4;rcases h with h|⟨h,h'⟩
 ·rw[cx7 (by omega)];exact cx5 h
 ·rw[cx8 h];unfold ag4;rw[cx7 (by omega)];exact cx5 h'
theorem K8(a:Int){b:Int}(h:0<b):0<=a%b/\a%b<b:=⟨Int.emod_nonneg a (by omega),Int.emod_lt_of_pos a h⟩
theorem co3(m:Int):∃r:Int,e9 (.lst [.int 3,.int 20]) (.int (m%2))=some (.int r)/\(r=3\/r=20):=by
 have :=K8 m (b:=2) (by decide);have h:m%2=0\/m%2=1:=by omega
 rcases h with h|h<;>rw[h]
 ·exact⟨3,rfl,.inl rfl⟩
 ·exact⟨20,rfl,.inr rfl⟩
theorem cr5(ns:List Int)(k:Nat)(hk:k<4)(hl:ns.length<=63):∃c:Int,aa5 [.scr ns,.int k]=some (.int c):=by
 rw[aa5,n8 2 _ _ _ rfl,aE6];have st:l9 2 [.scr ns,.int k]=[some (.scr ns),some (.int k)]:=rfl;rw[st];have tst:(bOf (g2 fEq (d0 0) (o6 []))) [some (.scr ns),some (.int k)]=some ns.isEmpty:=rfl;cases e:ns.isEmpty with
 |true=>
  rw[W4 (t:=.int ((k:Int)*7919)) (by
   rw[sIf_ap,tst,e];simp only[cx3,if_true,sRet_ap,g2_ap,gC_ap,gVar_ap,ct6,ct7,jn,ai1 (show sm 7919=true from rfl)])]
  exact⟨_,rfl⟩
 |false=>
  have hn:0<ns.length:=by
   cases ns with
   |nil=>simp at e
   |cons=>simp
  rw[l8 (ρ':=[some (.scr ns),some (.int k)]) (by rw[sIf_ap,tst,e];rfl)];have q:=K8 (k:Int) (b:=(ns.length:Int)) (by omega);have hq:(((k:Int)%(ns.length:Int)).toNat:Int)=(k:Int)%(ns.length:Int):=Int.toNat_of_nonneg q.1;have hql:((k:Int)%(ns.length:Int)).toNat<ns.length:=by omega
  obtain⟨z,ix⟩:∃z,e9 (.scr ns) (.int ((k:Int)%(ns.length:Int)))=some (.int z):=by
   rw[<-hq];generalize((k:Int)%(ns.length:Int)).toNat=j at hql;refine⟨ns[j],?_⟩;show(ixT ns.length _).bind _=_;rw[ae0 hql];simp only[cx3];rw[ct8 hql];rfl
  simp only[sRet_ap,g2_ap,gN_ap,gs_cons,gs_nil,gC_ap,gVar_ap,ct6,ct7,jn,cx3,D0,A0 (show(0:Int)<((ns.length:Nat):Int) by omega),ix,R0 (i:=(k:Int)) (j:=((ns.length:Nat):Int)) (by omega) (by omega),ai1 (show sm 104729=true from rfl),fAdd_int,outT_ret];exact⟨_,rfl⟩
theorem bi7{lo:Int}{n i:Nat}{x:T}(h:(u8 lo n)[i]?=some x):i<n/\x=.int (lo+(i:Int)):=by
 unfold u8 at h;rw[cu0]at h;cases e:(List.range n)[i]? with
 |none=>rw[e]at h;cases h
 |some j=>
  rw[e]at h;cases h;have hl:=af8 e;rw[List.length_range]at hl;rw[List.getElem?_range hl]at e;cases e;exact⟨hl,rfl⟩
structure ag6(p one other:Int)(ls:List Ln):Prop where
 len:ls.length<=16
 tr:∀l∈ls,0<=l.1/\l.1<l.2.1/\l.2.1<p/\1<=l.2.2/\l.2.2<=20
 ri:W5 ls=true
 lt:∀w∈ls,w.1<one\/(w.1=one/\w.2.1<other)
theorem ag6.next{p one other:Int}{ws:List Ln}(h:ag6 p one other ws):ag6 p one (other+1) ws:=⟨h.len,h.tr,h.ri,fun w hw=>by have :=h.lt w hw;omega⟩
theorem ag6.snoc{p one other r:Int}{ws:List Ln}(h:ag6 p one other ws)(hl:ws.length<16)(h1:0<=one/\one<other)(h2:other<p)(hr:1<=r/\r<=20):ag6 p one (other+1) (ws++[(one,other,r)]):=by
 refine⟨by simp;omega,fun w hw=> ?_,aF7 h.ri fun w hw=>co7 (h.lt w hw),fun w hw=> ?_⟩
 ·rcases List.mem_append.mp hw with hw|hw
  ·exact h.tr w hw
  ·simp only[List.mem_singleton]at hw;subst hw;exact⟨h1.1,h1.2,h2,hr.1,hr.2⟩
 ·rcases List.mem_append.mp hw with hw|hw
  ·have :=h.lt w hw;omega
  ·simp only[List.mem_singleton]at hw;subst hw;exact .inr ⟨rfl,by show other<other+1;omega⟩
noncomputable def aI1:GS:=(j6 (k7 5 (gM [2] (gN E8 [(d0 0),(g2 D3 (g2 C6 (gC (.int 8)) (d0 3)) (d0 4))])))
  (sIf (V6 (bOf (g2 fLt (g2 v8 (d0 5) (gC (.int 5))) (g2 D3 (gC (.int 2)) (g2 v8 (g2 A8 (d0 0) (gC (.int 8))) (gC (.int 3)))))) (bOf (g2 fLt (gN D0 [(d0 2)]) (gC (.int 16))))) (S9 2 (gM [2] (m7 [(d0 3),(d0 4),(g2 D3 (gC (.int 1)) (g2 v8 (g2 A8 (d0 5) (gC (.int 64))) (g2 e9 (o6 [(gC (.int 3)),(gC (.int 20))]) (g2 v8 (g2 A8 (d0 0) (gC (.int 64))) (gC (.int 2))))))]))) o7))
theorem bI9{m p:Int}{i j:Int}{ws:List Ln}{c:Option T}(hi:0<=i/\i<j)(hj:j<p)(W:ag6 p i j ws):
  ∃ws' c',aI1 [some (.int m),some (.int p),some (.lst (ws.map e8)),some (.int i),some (.int j),c]=some (.nx [some (.int m),some (.int p),some (.lst (ws'.map e8)),some (.int i),some (.int j),c'])/\ag6 p i (j+1) ws':=by
 obtain⟨h,hd,h0⟩:=bK4 m (8*i+j);unfold aI1;rw[l8 (ρ':=[some (.int m),some (.int p),some (.lst (List.map e8 ws)),some (.int i),some (.int j),some (.int h)]) (by
  simp only[sSet_ap,gM,t9,ct2,ct3,cw4,cw3,gN_ap,gs_cons,gs_nil,g2_ap,gC_ap,gVar_ap,ct7,ct6,jn,cx3,as1 (show sm 8=true from rfl),fAdd_int,hd])]
 obtain⟨r,hr1,hr2⟩:=co3 (m/64);have hrp:0<r:=by omega
 have hmr:=K8 (h/64) hrp;have t:(V6 (bOf (g2 fLt (g2 v8 (d0 5) (gC (.int 5))) (g2 D3 (gC (.int 2)) (g2 v8 (g2 A8 (d0 0) (gC (.int 8))) (gC (.int 3)))))) (bOf (g2 fLt (gN D0 [(d0 2)]) (gC (.int 16))))) [some (.int m),some (.int p),some (.lst (List.map e8 ws)),some (.int i),some (.int j),some (.int h)]=some (decide (h%5<2+m/8%3)&&decide (((ws.length:Nat):Int)<16)):=by
  simp only[bAnd_ap,bOf_ap,gN_ap,gs_cons,gs_nil,g2_ap,gC_ap,gVar_ap,ct7,ct6,jn,cx3,toB_bl,A0 (show(0:Int)<5 by decide),A0 (show(0:Int)<3 by decide),R0 (i:=m) (j:=8) (by decide) (by decide),fAdd_int,fLt_int,fLen_lst,cu6];cases decide (h%5<2+m/8%3)<;>rfl
 rw[sIf_ap,t];simp only[cx3];cases hb:decide (h%5<2+m/8%3)&&decide (((ws.length:Nat):Int)<16)with
 |false=>exact⟨ws,_,rfl,W.next⟩
 |true=>
  simp only[cr8,cx6]at hb;have hl:ws.length<16:=by omega
  refine⟨ws++[(i,j,1+h/64%r)],some (.int h),?_,W.snoc hl hi hj ⟨by omega,by omega⟩⟩;simp only[if_true,S9,gM,t9,ct2,ct3,cw4,cw3,gTup_ap,gLst_ap,gs_cons,gs_nil,g2_ap,gC_ap,gVar_ap,ct7,ct6,jn,cx3,A0 (show(0:Int)<2 by decide),R0 (i:=m) (j:=64) (by decide) (by decide),R0 (i:=h) (j:=64) (by decide) (by decide),hr1,A0 hrp,fAdd_int];rw[cx8 (by rw[cu6];exact cx0 hl (by decide)),cv1];rfl
theorem bT2{a b:G}{ρ:j9}{m n:Int}(ha:a ρ=some (.int m))(hb:b ρ=some (.int n))(h: -(lim:Int)<=m/\m<=(lim:Int)/\ -(lim:Int)<=n/\n<=(lim:Int)):aW8 a b ρ=some (u8 m (n-m).toNat):=by
 unfold aW8;rw[ha,hb];simp only[cx3,toI_int];rw[cx8 h]
theorem cm5(m:Int):∃(p:Nat) (ls:List Ln),X4 [.int m]=some (j0 p ls)/\v0 p ls:=by
 rw[X4,n8 1 _ _ _ rfl,aw7];have hp:=K8 m (b:=7) (by decide);generalize hpd:2+m%7=p;have hp2:2<=p/\p<=8:=by omega
 have hlim:(lim:Int)=1000000:=rfl;have hr: -(lim:Int)<=p/\p<=(lim:Int):=by omega
 have hpn:((p.toNat:Nat):Int)=p:=Int.toNat_of_nonneg (by omega);rw[l8 (ρ':=[some (.int m),some (.int p),none,none,none,none]) (by
  rw[<-hpd];simp only[sSet_ap,gM,t9,ct3,g2_ap,gC_ap,gVar_ap,l9,cv2,cv4,cu5,cu7,ct0,cw0,ct7,jn,cx3,A0 (show(0:Int)<7 by decide),fAdd_int];rfl)]
 rw[l8 (ρ':=[some (.int m),some (.int p),some (.lst []),none,none,none]) rfl];have loop1:∃ρ',u5 (stN 3) (N0 (gLM [2] (aW8 (g2 D3 (d0 3) (gC (.int 1))) (d0 1))) (stN 4) aI1) (u8 0 p.toNat) [some (.int m),some (.int p),some (.lst []),none,none,none]=some (.nx ρ')/\
   ∃ws a b c,ρ'=[some (.int m),some (.int p),some (.lst (List.map e8 ws)),a,b,c]/\ag6 p (p.toNat:Nat) 0 ws:=by
  refine bm4 (fun i ρ=>∃ws a b c,ρ=[some (.int m),some (.int p),some (.lst (List.map e8 ws)),a,b,c]/\ag6 p (i:Nat) 0 ws) _ ⟨[],none,none,none,rfl,⟨by simp,by simp,rfl,by simp⟩⟩ fun i hi ρ ⟨ws,a,b,c,hρ,W⟩=> ?_
  subst hρ;simp only[cw4,cw3];have inner:∃ρ',u5 (stN 4) aI1 (u8 ((i:Int)+1) (p-((i:Int)+1)).toNat) [some (.int m),some (.int p),some (.lst (List.map e8 ws)),some (.int (i:Int)),b,c]=some (.nx ρ')/\
    ∃ws b c,ρ'=[some (.int m),some (.int p),some (.lst (List.map e8 ws)),some (.int (i:Int)),b,c]/\ag6 p i p ws:=by
   have :=ap5 (st:=stN 4) (b:=aI1) (fun k ρ=>∃ws b c,ρ=[some (.int m),some (.int p),some (.lst (List.map e8 ws)),some (.int (i:Int)),b,c]/\ag6 p i ((i:Int)+1+(k:Int)) ws) (u8 ((i:Int)+1) (p-((i:Int)+1)).toNat) 0 [some (.int m),some (.int p),some (.lst (List.map e8 ws)),some (.int (i:Int)),b,c] ⟨ws,b,c,rfl,⟨W.len,W.tr,W.ri,fun w hw=>by have h1:=W.lt w hw;have h2:=W.tr w hw;omega⟩⟩ (fun k x hx ρ zz=>by
    obtain⟨ws,b,c,hρ,W⟩:=zz;obtain⟨hk,rfl⟩:=bi7 hx;subst hρ;obtain⟨ws',c',h1,h2⟩:=bI9 (m:=m) (p:=p) (i:=(i:Int)) (j:=(i:Int)+1+(k:Int)) (ws:=ws) (c:=c) ⟨by omega,by omega⟩ (by omega) (by have :=W;rwa[Nat.zero_add]at this);exact⟨_,_,rfl,h1,ws',_,c',rfl,by rw[show((0+k+1:Nat):Int)=(k:Int)+1 by omega,<-Int.add_assoc];exact h2⟩)
   obtain⟨ρ',h1,ws',b',c',h2,W'⟩:=this;refine⟨ρ',h1,ws',b',c',h2,?_⟩;have :(i:Int)+1+((0+(u8 ((i:Int)+1) (p-((i:Int)+1)).toNat).length:Nat):Int)=p:=by
    unfold u8;simp;omega
   rwa[this]at W'
  obtain⟨ρ',k1,ws',b',c',rfl,W'⟩:=inner;refine⟨_,?_,ws',some (.int (i:Int)),b',c',rfl,⟨W'.len,W'.tr,W'.ri,fun w hw=> ?_⟩⟩
  ·rw[sFor_ap,gLM,bT2 (m:=(i:Int)+1) (n:=p) rfl rfl ⟨by omega,by omega,by omega,by omega⟩];exact k1
  ·have a1:=W'.lt w hw;have a2:=W'.tr w hw;left;show w.1<((i+1:Nat):Int);omega
 obtain⟨ρ1,k1,ws,a,b,c,rfl,W⟩:=loop1;rw[l8 (ρ':=[some (.int m),some (.int p),some (.lst (List.map e8 ws)),a,b,c]) (by
  simp only[sFor_ap,gLM,t9,ct2,ct3,cw4,cw3,itR_ap,gVar_ap,ct7,ct6,jn,cx3,toI_int,cx8 hr];exact k1)]
 refine⟨p.toNat,ws,?_,⟨by omega,by omega,W.len,fun l hl=>by have :=W.tr l hl;omega,W.ri⟩⟩;rw[hpn];rfl
theorem cj7(m:Int):∃r:Int,e9 (.lst [.int 4,.int 13,.int 40]) (.int (m%3))=some (.int r)/\(r=4\/r=13\/r=40):=by
 have :=K8 m (b:=3) (by decide);have h:m%3=0\/m%3=1\/m%3=2:=by omega
 rcases h with h|h|h<;>rw[h]
 ·exact⟨4,rfl,.inl rfl⟩
 ·exact⟨13,rfl,.inr (.inl rfl)⟩
 ·exact⟨40,rfl,.inr (.inr rfl)⟩
theorem bR9{x q p:Int}(hx:0<=x/\x<p)(hq:0<=q/\q<p-1):(x+1+q)%p≠x:=by
 intro e;by_cases h:x+1+q<p
 ·rw[Int.emod_eq_of_lt (by omega) h]at e;omega
 ·have :(x+1+q)%p=x+1+q-p:=by
   rw[<-Int.sub_emod_right,Int.emod_eq_of_lt (by omega) (by omega)]
  omega
theorem bN0(m:Int)(p:Nat)(hp:2<=p/\p<=8):∃a:Ln,U4 [.int m,.int p]=some (e8 a)/\n9 p a:=by
 have hpp:(0:Int)<(p:Int):=by omega
 have hp1:(0:Int)<(p:Int)-1:=by omega
 obtain⟨r,hr1,hr2⟩:=cj7 (m/4096);have hrp:0<r:=by omega
 have u1:=K8 m hpp;have u2:=K8 (m/8) hp1;have u3:=K8 (m%p+1+m/8%((p:Int)-1)) hpp;have u4:=K8 (m/64) hrp;refine⟨(m%p,(m%p+1+m/8%((p:Int)-1))%p,m/64%r),?_,⟨u1.1,u1.2,u3.1,u3.2,fun e=>bR9 u1 u2 e.symm,u4.1,by dsimp only;omega⟩⟩;rw[U4,n8 2 _ _ _ rfl,aE0];rw[l8 (ρ':=[some (.int m),some (.int p),some (.int (m%p))]) (by
  rw[sSet_ap];show Option.bind (v8 (.int m) (.int p)) _=_;rw[A0 hpp];rfl)]
 simp only[sRet_ap,gTup_ap,gLst_ap,gs_cons,gs_nil,g2_ap,gC_ap,gVar_ap,ct7,ct6,jn,cx3,R0 (i:=m) (j:=8) (by decide) (by decide),R0 (i:=m) (j:=64) (by decide) (by decide),R0 (i:=m) (j:=4096) (by decide) (by decide),fSub_int,A0 hp1,A0 hpp,A0 (show(0:Int)<3 by decide),hr1,A0 hrp,fAdd_int,outT_ret];rfl
theorem aJ7{op:Int->Int->Int}(hop:∀(l:Ln) (a b x:Int),ct l (op a b) x=op (ct l a x) (ct l b x))(h0:op 0 0=0)(hadd:∀a b c d,op (a+b) (c+d)=op a c+op b d)(x:Int):∀(ls:List Ln) (f g:List Int),f.length=ls.length->g.length=ls.length->B0 ls (List.zipWith op f g) x=op (B0 ls f x) (B0 ls g x)
 |[],f,g,_,_=>by
  show(0:Int)=op 0 0;rw[h0]
 |l::ls,a::f,b::g,h1,h2=>by
  show ct l (op a b) x+B0 ls (List.zipWith op f g) x=op (ct l a x+B0 ls f x) (ct l b x+B0 ls g x);rw[hop,aJ7 hop h0 hadd x ls f g (by simpa using h1) (by simpa using h2),hadd]
theorem cf2(l:Ln)(a b x:Int):ct l (a-b) x=ct l a x-ct l b x:=by
 unfold ct;split<;>split<;>omega
theorem bU8(b:Ln)(w x:Int):ct (U6 b) w x= -ct b w x:=by
 unfold ct U6;dsimp only;omega
theorem aS2{op:Int->Int->Int}(hop:∀a b:Int,a.natAbs<=20->b.natAbs<=20->(op a b).natAbs<=40):∀{f g:List Int},(∀a∈f,a.natAbs<=20)->(∀a∈g,a.natAbs<=20)->∀n∈List.zipWith op f g,n.natAbs<=40
 |[],_,_,_,n,hn=>by simp at hn
 |_::_,[],_,_,n,hn=>by simp at hn
 |a::f,b::g,h1,h2,n,hn=>by
  rw[cw6]at hn;rcases List.mem_cons.mp hn with e|e
  ·rw[e];exact hop a b (h1 a cv8) (h2 b cv8)
  ·exact aS2 hop (fun c hc=>h1 c (cv7 _ hc)) (fun c hc=>h2 c (cv7 _ hc)) n e
theorem ay8{p:Nat}{ls:List Ln}{left f:List Int}(F:v0 p ls)(h:L7 p ls left f):∀a∈f,a.natAbs<=20:=fun a ha=>by
 obtain⟨n,hn,e⟩:=List.getElem_of_mem ha;have hl:n<ls.length:=by rw[<-h.len];exact hn
 have b:=h.bnd n ls[n] (ct8 hl);have o:=F.ok ls[n] (List.getElem_mem hl);have :f.getD n 0=a:=by simp[List.getD,hn,e]
 rw[this]at b;omega
theorem aT3:∀{ls:List Ln}{f g:List Int},Bnd ls f->Bnd ls g->L8 ls (List.zipWith (· + ·) f g) (List.zipWith (· - ·) f g)=true
 |[],_,_,_,_=>by simp[L8]
 |l::ls,[],g,_,_=>by simp[L8]
 |l::ls,a::f,[],_,_=>by simp[L8]
 |l::ls,a::f,b::g,h1,h2=>by
  obtain⟨q1,q2⟩:=h1.tail;obtain⟨q3,q4⟩:=h2.tail;rw[cw6,cw6,L8,aT3 q2 q4,Bool.and_true];have :¬2*l.2.2<((a+b).natAbs:Int)+((a-b).natAbs:Int):=by omega
  simp only[this,decide_false,Bool.not_false]
theorem bI2{p:Nat}{ls:List Ln}{a b:Ln}{f g:List Int}(F:v0 p ls)(A:n9 p a)(B:n9 p b)(hf:L7 p ls (sup p a b) f)(hg:L7 p ls (sup p a (U6 b)) g):
  ay7 p ls a b (List.zipWith (· + ·) f g) (List.zipWith (· - ·) f g)=true:=by
 have e1:∀x:Nat,x<p->B0 ls f x=ct a a.2.2 x+ct b b.2.2 x:=fun x hx=>by rw[hf.bal x hx,aI4 A B hx]
 have e2:∀x:Nat,x<p->B0 ls g x=ct a a.2.2 x-ct b b.2.2 x:=fun x hx=>by
  rw[hg.bal x hx,aI4 A B.turn hx,bU8];show _+ -ct b b.2.2 x=_;omega
 unfold ay7;rw[aT3 hf.bnd hg.bnd,Bool.and_true,cr8];constructor
 ·unfold Z3;rw[List.all_eq_true];intro x hx;have hx:=List.mem_range.mp hx;rw[cx6,aJ7 (op:=(· + ·)) (fun l a b x=>by6 l a b x) rfl (fun a b c d=>by show a+b+(c+d)=a+c+(b+d);omega) _ ls f g hf.len hg.len,e1 x hx,e2 x hx];show _+_=_;omega
 ·unfold Z3;rw[List.all_eq_true];intro x hx;have hx:=List.mem_range.mp hx;rw[cx6,aJ7 (op:=(· - ·)) (fun l a b x=>cf2 l a b x) rfl (fun a b c d=>by show a+b-(c+d)=a-c+(b-d);omega) _ ls f g hf.len hg.len,e1 x hx,e2 x hx];show _-_=_;omega
structure Dbl(ls:List Ln)(f:List Int):Prop where
 len:f.length=ls.length
 sm:∀n∈f,n.natAbs<=40
theorem Dbl.Sm{ls:List Ln}{f:List Int}(h:Dbl ls f):Sm f:=fun n hn=>by have :=h.sm n hn;omega
theorem aY2{p:Nat}{ls:List Ln}{l1 l2 f g:List Int}(F:v0 p ls)(hf:L7 p ls l1 f)(hg:L7 p ls l2 g):Dbl ls (List.zipWith (· + ·) f g)/\Dbl ls (List.zipWith (· - ·) f g):=
 ⟨⟨by rw[List.length_zipWith,hf.len,hg.len];omega,aS2 (fun a b h1 h2=>by show(a+b).natAbs<=40;omega) (ay8 F hf) (ay8 F hg)⟩,⟨by rw[List.length_zipWith,hf.len,hg.len];omega,aS2 (fun a b h1 h2=>by show(a-b).natAbs<=40;omega) (ay8 F hf) (ay8 F hg)⟩⟩
noncomputable def P9:Nat->Nat->List (List Int)->List (List Int)
 |_,0,cs=>cs
 |i,n+1,cs=>P9 (i+1) n (cs++cs.map fun c=>c++[(i:Int)])
theorem bb2(lo:Int)(n:Nat):u8 lo (n+1)=.int lo::u8 (lo+1) n:=by
 unfold u8;rw[List.range_succ_eq_map,cv2,cv3];congr 1
 ·simp
 ·refine List.map_congr_left fun i _=> ?_
  show T.int (lo+((i+1:Nat):Int))=T.int (lo+1+(i:Int));congr 1;omega
noncomputable def bn9:GS:=(k7 1 (g2 D3 (d0 1) (o0 (itL (d0 1)) 1 [2] (stN 0) B3 (g2 D3 (d0 0) (o6 [(d0 1)])))))
theorem bg3{P:Option T}:∀(n i:Nat) (cs:List (List Int)) (a:Option T),cs.length*2^n<=1000000->(∀c∈cs,c.length+n<=1000)->∃a',u5 (stN 2) bn9 (u8 (i:Int) n) [P,some (.lst (cs.map g8)),a]=some (.nx [P,some (.lst ((P9 i n cs).map g8)),a'])
 |0,i,cs,a,_,_=>⟨a,rfl⟩
 |n+1,i,cs,a,h,hc=>by
  have hlim:lim=1000000:=rfl;have hpos:1<=2^n:=Nat.one_le_two_pow;have h2:cs.length*2<=1000000:=by
   refine cw9 ?_ h;rw[Nat.pow_succ,Nat.mul_comm (2^n) 2,<-Nat.mul_assoc];exact Nat.le_mul_of_pos_right _ hpos
  obtain⟨a',ih⟩:=bg3 (P:=P) n (i+1) (cs++cs.map fun c=>c++[(i:Int)]) (some (.int i)) (by
   rw[cu4,cu6,<-Nat.two_mul];rw[Nat.pow_succ,Nat.mul_comm (2^n) 2,<-Nat.mul_assoc,Nat.mul_comm cs.length 2]at h;exact h) (fun c hcm=>by
   rcases List.mem_append.mp hcm with q|q
   ·have :=hc c q;omega
   ·obtain⟨d,hd,rfl⟩:=List.mem_map.mp q;have :=hc d hd;simp;omega)
  refine⟨a',?_⟩;rw[bb2,u5];simp only[stN_ap,cx3,cw4,cw3];have k:=ad9 (ρ:=[P,some (.lst (cs.map g8)),some (.int i)]) (it:=itL (d0 1)) (nT:=1) (caps:=[2]) (st:=stN 0) (e:=g2 D3 (d0 0) (o6 [(d0 1)])) (xs:=cs.map g8) (fun t=>match t with |.lst xs=>.lst (xs++[.int i])|t=>t) rfl (by rw[cu6,hlim];omega) (fun t ht=>by
   obtain⟨c,hcm,rfl⟩:=List.mem_map.mp ht;refine⟨[some (g8 c),some (.int i)],rfl,?_⟩;have :=hc c hcm;simp only[g2_ap,gLst_ap,gs_cons,gs_nil,gVar_ap,ct7,ct6,jn,cx3];show(if _ then _ else _)=_;rw[cx8 (by rw[cu6,hlim];simp;omega)])
  have e:bn9 [P,some (.lst (cs.map g8)),some (.int i)]=some (.nx [P,some (.lst ((cs++cs.map fun c=>c++[(i:Int)]).map g8)),some (.int i)]):=by
   unfold bn9;rw[sSet_ap,g2_ap,k];simp only[gVar_ap,ct7,ct6,jn,cx3];have e2:D3 (.lst (cs.map g8)) (.lst ((cs.map g8).map fun t=>match t with |.lst xs=>.lst (xs++[.int i])|t=>t))=some (.lst ((cs++cs.map fun c=>c++[(i:Int)]).map g8)):=by
    show(if _ then _ else _)=_;rw[cx8 (by rw[cu6,cu6,cu6,hlim];omega),cv1];congr 3;rw[cv3,cv3];refine List.map_congr_left fun c _=> ?_
    show T.lst (c.map T.int++[.int i])=T.lst ((c++[(i:Int)]).map T.int);rw[cv1];rfl
   rw[e2];rfl
  rw[e];exact ih
noncomputable def C7(p:Nat):List (List Int):=P9 0 p [[]]
theorem ch0(p:Nat)(hp:p<=8):M6 [.int p]=some (.lst ((C7 p).map g8)):=by
 have hlim:(lim:Int)=1000000:=rfl;have h2:2^p<=2^8:=Nat.pow_le_pow_right (by decide) hp;obtain⟨a,h⟩:=bg3 (P:=some (.int p)) p 0 [[]] none (by simp;omega) (by simp;omega);rw[M6,n8 1 _ _ _ rfl,aE5];rw[l8 (ρ':=[some (.int p),some (.lst [.lst []]),none]) rfl];rw[l8 (ρ':=[some (.int p),some (.lst ((C7 p).map g8)),a])]
 ·rfl
 ·simp only[sFor_ap,itR_ap,gVar_ap,ct7,jn,cx3,toI_int];rw[cx8 (by omega),cs6];exact h
theorem bc4{z:Int}:∀{e:List Int},upB e=true->(∀x∈e,x<z)->upB (e++[z])=true
 |[],_,_=>rfl
 |y::e,up,hlt=>by
  obtain⟨u1,u2⟩:=ap9 up;refine bl5 (fun b hb=> ?_) (bc4 u2 fun x hx=>hlt x (cv7 _ hx));rcases List.mem_append.mp hb with q|q
  ·exact u1 b q
  ·simp at q;rw[q];exact hlt y cv8
theorem aY3:∀(n i:Nat) (cs:List (List Int)),(∀c∈cs,N2 i c)->∀c∈P9 i n cs,N2 (i+n) c
 |0,i,cs,h,c,hc=>h c hc
 |n+1,i,cs,h,c,hc=>by
  have :=aY3 n (i+1) (cs++cs.map fun c=>c++[(i:Int)]) (fun d hd=>by
   rcases List.mem_append.mp hd with q|q
   ·have :=h d q;exact⟨fun x hx=>by have :=this.ok x hx;omega,this.up⟩
   ·obtain⟨e,he,rfl⟩:=List.mem_map.mp q;have :=h e he;refine⟨fun x hx=> ?_,?_⟩
    ·rcases List.mem_append.mp hx with z|z
     ·have :=this.ok x z;omega
     ·simp at z;omega
    ·exact bc4 this.up fun x hx=>(this.ok x hx).2) c hc
  rwa[show i+1+n=i+(n+1) by omega]at this
theorem aY4{p:Nat}{c:List Int}(h:c∈C7 p):N2 p c:=by
 have :=aY3 p 0 [[]] (fun c hc=>by simp at hc;subst hc;exact⟨by simp,rfl⟩) c h;rwa[Nat.zero_add]at this
theorem aO2:∀(n i:Nat) (cs:List (List Int)) (c:List Int),c∈cs->c∈P9 i n cs
 |0,_,_,_,h=>h
 |n+1,i,cs,c,h=>aO2 n (i+1) _ c (cv5 _ h)
theorem aD4:∀(n i:Nat) (cs:List (List Int)) (c S:List Int),c∈cs->upB S=true->(∀x∈S,(i:Int)<=x/\x<((i+n:Nat):Int))->c++S∈P9 i n cs
 |0,i,cs,c,S,hc,_,h=>by
  cases S with
  |nil=>rw[cs9];exact hc
  |cons x S=>have :=h x cv8;omega
 |n+1,i,cs,c,S,hc,up,h=>by
  cases S with
  |nil=>rw[cs9];exact aO2 (n+1) i cs c hc
  |cons x S=>
   obtain⟨u1,u2⟩:=ap9 up;have hx:=h x cv8;unfold P9;by_cases e:x=(i:Int)
   ·have :=aD4 n (i+1) (cs++cs.map fun c=>c++[(i:Int)]) (c++[(i:Int)]) S (cv6 _ (List.mem_map_of_mem hc)) u2 (fun y hy=>by
     have h1:=u1 y hy;have h2:=h y (cv7 _ hy);omega)
    rw[e];simpa using this
   ·exact aD4 n (i+1) _ c (x::S) (cv5 _ hc) up (fun y hy=>by
     have h2:=h y hy;rcases List.mem_cons.mp hy with z|z
     ·omega
     ·have h1:=u1 y z;omega)
theorem bJ2{p:Nat}{S:List Int}(C:N2 p S):S∈C7 p:=by
 have :=aD4 p 0 [[]] [] S (by simp) C.up (fun x hx=>by have :=C.ok x hx;omega);rw[cw0]at this;exact this
theorem aw1(p:Nat)(hp:p<=8):0<(C7 p).length/\(C7 p).length<=256:=by
 have :∀(n i:Nat) (cs:List (List Int)),(P9 i n cs).length=cs.length*2^n:=by
  intro n;induction n with
  |zero=>intro i cs;simp[P9]
  |succ n ih=>intro i cs;rw[P9,ih,cu4,cu6,Nat.pow_succ,<-Nat.two_mul,Nat.mul_comm 2,Nat.mul_assoc,Nat.mul_comm 2]
 unfold C7;rw[this];have h1:1<=2^p:=Nat.one_le_two_pow;have h2:2^p<=2^8:=Nat.pow_le_pow_right (by decide) hp;simp;omega
theorem ap3{xs:List T}{i:Int}(h0:0<=i)(h1:i<(xs.length:Int)):∃t,e9 (.lst xs) (.int i)=some t/\t∈xs:=by
 have hn:i.toNat<xs.length:=by omega
 have :=ae1 (i:=i.toNat) (ct8 hn);rw[show((i.toNat:Nat):Int)=i by omega]at this;exact⟨_,this,List.getElem_mem hn⟩
noncomputable def aV7:List T:=[.non,.tup [.lst [],.lst [],.lst []],.tup [.lst [.non],.lst [.non]],.tup [.lst (List.replicate 17 (fr 1 2)),.lst []],.lst [.lst [],.lst []]]
theorem ce0:B8 [.non]=some (.bl false):=bA3 rfl (fun a b h=>by cases h)
theorem bR7{p:Nat}{ls:List Ln}(F:v0 p ls):∀t∈aV7,D5 [j0 p ls,t]=some (.bl false):=by
 intro t ht;have hl:=F.len;unfold aV7 at ht;simp only[List.mem_cons,List.not_mem_nil,or_false]at ht;rcases ht with rfl|rfl|rfl|rfl|rfl
 ·exact aF0 rfl rfl
 ·exact aF0 rfl rfl
 ·have h:=bo6 (xs:=[.non]) (n:=ls.length) (fun _=>false) (fun x hx=>by simp at hx;subst hx;exact ce0) (by decide);have :=bo5 (p:=.int p) (ls:=ls) h h;simpa using this
 ·have h:=bo6 (xs:=List.replicate 17 (fr 1 2)) (n:=ls.length) (fun _=>true) (fun x hx=>by rw[List.eq_of_mem_replicate hx];exact bM4 1) (by rw[cu8];decide);have h2:=bo6 (xs:=[]) (n:=ls.length) (fun _=>true) (fun x hx=>by cases hx) (by decide);have :=bo5 (p:=.int p) (ls:=ls) h h2;rw[cu8]at this;have e:((17:Nat)==ls.length)=false:=by simp;omega
  rw[e]at this;exact this
 ·exact aF0 rfl rfl
noncomputable def bl2:List T:=[.non,.lst [.int 9],.lst [.int 1,.int 0],.lst [.int 0,.int 0],.tup [.int 0],.lst [.bl true]]
theorem bR8{p:Nat}{q:T}(hp:p<=8):∀t∈bl2,J9 [.tup [.int p,q],t]=some (.bl false):=by
 intro t ht;unfold bl2 at ht;simp only[List.mem_cons,List.not_mem_nil,or_false]at ht;rcases ht with rfl|rfl|rfl|rfl|rfl|rfl
 ·exact ba2 rfl
 ·have :=aR1 (p:=p) (q:=q) (S:=[9]) (by decide);have e:(([9]:List Int).all fun i=>decide (0<=i)&&decide (i<=(p:Int)-1))=false:=by
   simp;omega
  rw[e]at this;exact this
 ·have :=aR1 (p:=p) (q:=q) (S:=[1,0]) (by decide);rw[show upB [1,0]=false from rfl,Bool.and_false]at this;exact this
 ·have :=aR1 (p:=p) (q:=q) (S:=[0,0]) (by decide);rw[show upB [0,0]=false from rfl,Bool.and_false]at this;exact this
 ·exact ba2 rfl
 ·have k1:=U0 (ρ:=[some (.tup [.int p,q]),some (.lst [.bl true])]) (it:=itL (d0 1)) (nT:=1) (caps:=[0]) (st:=stN 0) (e:=gN B6 [(d0 0),(gC (.int 0)),(g2 aa0 (g2 e9 (d0 1) (gC (.int 0))) (gC (.int 1)))]) (fun _=>false) rfl (by decide) (fun x hx=>by
   simp at hx;subst hx;exact⟨_,rfl,az6 (t:=.bl true) (lo:=0) (hi:=(p:Int)-1) rfl⟩)
  rw[J9,n8 2 _ _ _ rfl,ak6,sRet_ap,show l9 2 [.tup [.int p,q],.lst [.bl true]]=[some (.tup [.int p,q]),some (.lst [.bl true])]from rfl];have e3:g1 (P7 .list) (d0 1) [some (.tup [.int p,q]),some (.lst [.bl true])]=some (.bl true):=rfl;simp only[gAnd_ap,bOf_ap,k1,e3,cx3,toB_bl,if_true];rfl
theorem ai2{F:List T->Option Res}{ts:List T}{t:T}(h:F ts=some (.val t)):Q4 F ts=some t:=by unfold Q4;rw[h];rfl
theorem D8{i:Nat}{g:G}{b:GS}{ρ:j9}{t:T}{o:Option Out}(h:g ρ=some t)(k:b (ρ.set i (some t))=o):j6 (k7 i g) b ρ=o:=by
 rw[l8 (ρ':=ρ.set i (some t))]
 ·exact k
 ·rw[sSet_ap,h];rfl
theorem aq3{c:GB}{a b:GS}{ρ:j9}{o:Option Out}(h:c ρ=some false)(k:b ρ=o):j6 (sIf c a o7) b ρ=o:=by
 rw[l8 (ρ':=ρ)]
 ·exact k
 ·rw[sIf_ap,h];rfl
theorem ar7{f:T->Option T}{a:G}{ρ:j9}{x z:T}(h:a ρ=some x)(h3:f x=some z):g1 f a ρ=some z:=by unfold g1;rw[h,cx3,h3]
theorem D9{f:T->T->Option T}{a b:G}{ρ:j9}{x y z:T}(h:a ρ=some x)(h2:b ρ=some y)(h3:f x y=some z):g2 f a b ρ=some z:=by unfold g2;rw[h,cx3,h2,cx3,h3]
theorem F8{f:List T->Option T}{l:List G}{ρ:j9}{xs:List T}{z:T}(h:gs l ρ=some xs)(h3:f xs=some z):gN f l ρ=some z:=by unfold gN;rw[h,cx3,h3]
theorem E6{g:G}{ρ:j9}{b:Bool}(h:g ρ=some (.bl b)):bOf g ρ=some b:=by unfold bOf;rw[h];rfl
theorem O1{a:G}{l:List G}{ρ:j9}{x:T}{xs:List T}(h:a ρ=some x)(h2:gs l ρ=some xs):gs (a::l) ρ=some (x::xs):=by
 rw[gs_cons,h,cx3,h2,cx3]
theorem cl2{l:List G}{ρ:j9}{xs:List T}(h:gs l ρ=some xs):m7 l ρ=some (.tup xs):=by unfold m7;rw[h];rfl
theorem bM3{l:List G}{ρ:j9}{xs:List T}(h:gs l ρ=some xs):o6 l ρ=some (.lst xs):=by unfold o6;rw[h];rfl
theorem ce5:fEq (.str "double") (.str "double")=some (.bl true):=by
 show some (T.bl (_==_))=_;congr 2
theorem bU0:fEq (.str "cut") (.str "double")=some (.bl false):=by
 show some (T.bl (_==_))=_;congr 2
theorem chg(m:Int):∃c:Int,e9 (.lst [.tup [.int 1,.int 2],.tup [.int (-1),.int 1],.tup [.int 0,.int 1],.tup [.int 3,.int 1]]) (.int (m%4))=some (hf c)/\c.natAbs<=6:=by
 have :=K8 m (b:=4) (by decide);have h:m%4=0\/m%4=1\/m%4=2\/m%4=3:=by omega
 rcases h with h|h|h|h<;>rw[h]
 ·exact⟨1,rfl,by decide⟩
 ·exact⟨-2,rfl,by decide⟩
 ·exact⟨0,rfl,by decide⟩
 ·exact⟨6,rfl,by decide⟩
noncomputable def bo0:GS:=(j6 (k7 10 (gM [] (o0 (itT (g2 e9 (d0 4) (gC (.int 1)))) 1 [] (stN 0) B3 (gN as2 [(d0 0)]))))
  (j6 (k7 11 (gM [10] (g2 v8 (g2 A8 (d0 7) (gC (.int 512))) (gN D0 [(g2 e9 (d0 0) (gC (.int 1)))]))))
  (j6 (k7 12 (gM [10] (g2 e9 (o6 [(m7 [(gC (.int 1)),(gC (.int 2))]),(m7 [(g1 aa1 (gC (.int 1))),(gC (.int 1))]),(m7 [(gC (.int 0)),(gC (.int 1))]),(m7 [(gC (.int 3)),(gC (.int 1))])]) (g2 v8 (g2 A8 (d0 7) (gC (.int 64))) (gC (.int 4))))))
  (j6 (al2 10 (gM [10] (g2 v8 (d0 7) (gC (.int 2)))) (gM [10] (d0 11)) (gF (gN C8 [(g2 e9 (g2 e9 (d0 10) (g2 v8 (d0 7) (gC (.int 2)))) (d0 11)),(d0 12)])))
  (j6 (k7 13 (gM [] (g2 e9 (o6 [(m7 [(g2 e9 (d0 10) (gC (.int 0))),(g2 e9 (d0 10) (gC (.int 1)))]),(m7 [(g2 e9 (d0 10) (gC (.int 1))),(g2 e9 (d0 10) (gC (.int 0)))])]) (g2 v8 (g2 A8 (d0 7) (g2 T7 (gC (.int 2)) (gC (.int 20)))) (gC (.int 2))))))
  (sIf (bOf (g2 fNe (gN (Q4 t8) [(d0 0),(d0 1),(d0 2),(d0 13)]) (gN J7 [(d0 0),(d0 1),(d0 2),(d0 13)]))) (m6 (gC (.bl false))) o7))))))
theorem bg0(n:Int):Z9 (hf n)=true:=by
 obtain⟨a,d,e,-⟩:=P6 n;rw[e];rfl
theorem il1(x y:T)(r:List T):e9 (.lst (x::y::r)) (.int 1)=some y:=ae1 (i:=1) (by simp)
theorem Dbl.set{ls:List Ln}{f:List Int}{k:Nat}{c:Int}(h:Dbl ls f)(hc:c.natAbs<=6)(hk:k<f.length):(f.set k (f.getD k 0+c)).length=ls.length/\L3.Sm (f.set k (f.getD k 0+c)):=by
 refine⟨by rw[cu9];exact h.len,fun n hn=> ?_⟩;rcases List.mem_or_eq_of_mem_set hn with e|e
 ·have :=h.sm n e;omega
 ·have :=h.sm (f.getD k 0) (by simp[List.getD,hk]);omega
theorem bL1:T7 (.int 2) (.int 20)=some (.int 1048576):=by
 show(if 0<=(20:Int)/\(20:Int)<=1000/\(2:Int).natAbs<2^64 then some (T.int ((2:Int)^(20:Int).toNat))else none)=_;rw[cx8 (by decide)];rfl
theorem bV1{p:Nat}{ls:List Ln}{a b:Ln}{f g:List Int}{m5:Option T}{mm h:Int}{x6 x8 x9 x10 x11 x12 x13 x14:Option T}(F:v0 p ls)(A:n9 p a)(B:n9 p b)(hne:ls≠[])(Df:Dbl ls f)(Dg:Dbl ls g):
  ∃y10 y11 y12 y13,bo0 [some (j0 p ls),some (e8 a),some (e8 b),some (.int mm),some (.tup [.str "double",.tup [j7 f,j7 g]]),m5,x6,some (.int h),x8,x9,x10,x11,x12,x13,x14]=
   some (.nx [some (j0 p ls),some (e8 a),some (e8 b),some (.int mm),some (.tup [.str "double",.tup [j7 f,j7 g]]),m5,x6,some (.int h),x8,x9,y10,y11,y12,y13,x14]):=by
 have hlen:=F.len;have hl0:0<ls.length:=List.length_pos_iff.mpr hne;have hk:=K8 (h/512) (b:=(ls.length:Int)) (by omega);have h2:=K8 h (b:=2) (by decide);have h3:=K8 (h/1048576) (b:=2) (by decide);obtain⟨k,hkk⟩:∃k:Nat,h/512%(ls.length:Int)=(k:Int):=⟨(h/512%(ls.length:Int)).toNat,by omega⟩
 have hkl:k<ls.length:=by omega
 obtain⟨c,hc1,hc2⟩:=chg (h/64);unfold bo0;refine(?_:∃y10 y11 y12 y13,j6 _ _ _=_);rw[l8 (ρ':=[some (j0 p ls),some (e8 a),some (e8 b),some (.int mm),some (.tup [.str "double",.tup [j7 f,j7 g]]),m5,x6,some (.int h),x8,x9,some (.lst [j7 f,j7 g]),x11,x12,x13,x14]) rfl];rw[l8 (ρ':=[some (j0 p ls),some (e8 a),some (e8 b),some (.int mm),some (.tup [.str "double",.tup [j7 f,j7 g]]),m5,x6,some (.int h),x8,x9,some (.lst [j7 f,j7 g]),some (.int k),x12,x13,x14]) (by
  rw[<-hkk];simp only[sSet_ap,gM,t9,ct2,ct3,cw4,cw3,g2_ap,gN_ap,gs_cons,gs_nil,gC_ap,gVar_ap,ct7,ct6,jn,cx3,ix1,fLen_lst,cu6,R0 (i:=h) (j:=512) (by decide) (by decide),A0 (show(0:Int)<((ls.length:Nat):Int) by omega)])]
 rw[l8 (ρ':=[some (j0 p ls),some (e8 a),some (e8 b),some (.int mm),some (.tup [.str "double",.tup [j7 f,j7 g]]),m5,x6,some (.int h),x8,x9,some (.lst [j7 f,j7 g]),some (.int k),some (hf c),x13,x14]) (by
  simp only[sSet_ap,gM,t9,ct2,ct3,cw4,cw3,g2_ap,g1_ap,gLst_ap,gTup_ap,gs_cons,gs_nil,gC_ap,gVar_ap,ct7,ct6,jn,cx3,R0 (i:=h) (j:=64) (by decide) (by decide),A0 (show(0:Int)<4 by decide),fNeg_int,hc1])]
 have row_idx:∀N:List Int,N.length=ls.length->e9 (j7 N) (.int (k:Int))=some (hf (N.getD k 0)):=fun N hN=>by
  refine ae1 ?_;have :k<N.length:=by omega
  simp[List.getD,this]
 have row_set:∀(N:List Int) (v:Int),(N.map hf).set k (hf v)=(N.set k v).map hf:=fun N v=>by rw[List.map_set]
 --the rows bent
 have put:∃f' g',al2 10 (gM [10] (g2 v8 (d0 7) (gC (.int 2)))) (gM [10] (d0 11)) (gF (gN C8 [(g2 e9 (g2 e9 (d0 10) (g2 v8 (d0 7) (gC (.int 2)))) (d0 11)),(d0 12)])) [some (j0 p ls),some (e8 a),some (e8 b),some (.int mm),some (.tup [.str "double",.tup [j7 f,j7 g]]),m5,x6,some (.int h),x8,x9,some (.lst [j7 f,j7 g]),some (.int k),some (hf c),x13,x14]=
   some (.nx [some (j0 p ls),some (e8 a),some (e8 b),some (.int mm),some (.tup [.str "double",.tup [j7 f,j7 g]]),m5,x6,some (.int h),x8,x9,some (.lst [j7 f',j7 g']),some (.int k),some (hf c),x13,x14])/\f'.length=ls.length/\g'.length=ls.length/\Sm f'/\Sm g':=by
  have sf:=Df.sm (f.getD k 0) (by have :k<f.length:=(by rw[Df.len];exact hkl);simp[List.getD,this]);have sg:=Dg.sm (g.getD k 0) (by have :k<g.length:=(by rw[Dg.len];exact hkl);simp[List.getD,this]);have hcase:h%2=0\/h%2=1:=by omega
  have ixk:∀N:List Int,N.length=ls.length->ixT (N.map hf).length (k:Int)=some k:=fun N hN=>ae0 (by rw[cu6];omega)
  rcases hcase with e|e
  ·obtain⟨q1,q2⟩:=Df.set hc2 (show k<f.length by rw[Df.len];exact hkl);refine⟨f.set k (f.getD k 0+c),g,?_,q1,Dg.len,q2,Dg.Sm⟩;unfold al2;simp only[gF,gM,t9,ct2,ct3,cw4,cw3,g2_ap,gN_ap,gs_cons,gs_nil,gC_ap,gVar_ap,ct7,ct6,jn,cx3,A0 (show(0:Int)<2 by decide),e,il0,row_idx f Df.len,aH3 (S7 (show(f.getD k 0).natAbs<=2000000 by omega)) (S7 (show c.natAbs<=2000000 by omega)),bg0,if_true,cu5,cu7];rw[show ixT (0+1+1) (0:Int)=some 0 from rfl];simp only[cx3,ct7,ixk f Df.len,cw4,row_set]
  ·obtain⟨q1,q2⟩:=Dg.set hc2 (show k<g.length by rw[Dg.len];exact hkl);refine⟨f,g.set k (g.getD k 0+c),?_,Df.len,q1,Df.Sm,q2⟩;unfold al2;simp only[gF,gM,t9,ct2,ct3,cw4,cw3,g2_ap,gN_ap,gs_cons,gs_nil,gC_ap,gVar_ap,ct7,ct6,jn,cx3,A0 (show(0:Int)<2 by decide),e,il1,row_idx g Dg.len,aH3 (S7 (show(g.getD k 0).natAbs<=2000000 by omega)) (S7 (show c.natAbs<=2000000 by omega)),bg0,if_true,cu5,cu7];rw[show ixT (0+1+1) (1:Int)=some 1 from rfl];simp only[cx3,ct7,ct6,ixk g Dg.len,cw4,cw3,row_set]
 obtain⟨f',g',put,lf,lg,sf,sg⟩:=put;rw[l8 put];have bent:∃u v:List Int,u.length=ls.length/\v.length=ls.length/\Sm u/\Sm v/\g2 e9 (o6 [(m7 [(g2 e9 (d0 10) (gC (.int 0))),(g2 e9 (d0 10) (gC (.int 1)))]),(m7 [(g2 e9 (d0 10) (gC (.int 1))),(g2 e9 (d0 10) (gC (.int 0)))])]) (g2 v8 (g2 A8 (d0 7) (g2 T7 (gC (.int 2)) (gC (.int 20)))) (gC (.int 2))) [some (j0 p ls),some (e8 a),some (e8 b),some (.int mm),some (.tup [.str "double",.tup [j7 f,j7 g]]),m5,x6,some (.int h),x8,x9,some (.lst [j7 f',j7 g']),some (.int k),some (hf c),x13,x14]=some (.tup [j7 u,j7 v]):=by
  have hd:A8 (.int h) (.int 1048576)=some (.int (h/1048576)):=aj8 (by decide) (S0 (k:=30) (by decide) (by decide));have hcase:h/1048576%2=0\/h/1048576%2=1:=by omega
  rcases hcase with e|e
  ·refine⟨f',g',lf,lg,sf,sg,?_⟩;simp only[g2_ap,gLst_ap,gTup_ap,gs_cons,gs_nil,gC_ap,gVar_ap,ct7,ct6,jn,cx3,il0,il1,bL1,hd,A0 (show(0:Int)<2 by decide),e]
  ·refine⟨g',f',lg,lf,sg,sf,?_⟩;simp only[g2_ap,gLst_ap,gTup_ap,gs_cons,gs_nil,gC_ap,gVar_ap,ct7,ct6,jn,cx3,il0,il1,bL1,hd,A0 (show(0:Int)<2 by decide),e]
 obtain⟨u,v,lu,lv,su,sv,hb⟩:=bent;refine⟨some (.lst [j7 f',j7 g']),some (.int k),some (hf c),some (.tup [j7 u,j7 v]),D8 (t:=.tup [j7 u,j7 v]) hb ?_⟩;simp only[cw4,cw3];have d1:=ai2 (cg9 F A B su sv lu lv);have d2:=bN1 F A B su sv lu lv;rw[sIf_ap];have :bOf (g2 fNe (gN (Q4 t8) [(d0 0),(d0 1),(d0 2),(d0 13)]) (gN J7 [(d0 0),(d0 1),(d0 2),(d0 13)])) [some (j0 p ls),some (e8 a),some (e8 b),some (.int mm),some (.tup [.str "double",.tup [j7 f,j7 g]]),m5,x6,some (.int h),x8,x9,some (.lst [j7 f',j7 g']),some (.int k),some (hf c),some (.tup [j7 u,j7 v]),x14]=some false:=by
  refine E6 (D9 (F8 rfl d1) (F8 rfl d2) ?_);rw[aX8];simp
 rw[this];rfl
set_option maxRecDepth 10000
theorem ab4{g:GB}{ρ:j9}{b:Bool}(h:g ρ=some b):J3 g ρ=some !b:=by unfold J3;rw[h];rfl
theorem be9{xs:List T}{k:Nat}(h:xs.length*k<=lim)(hk:k<=lim):C6 (.lst xs) (.int k)=some (.lst (List.replicate k xs).flatten):=by
 show(if 0<=(k:Int)/\xs.length*(k:Int).toNat<=lim/\(k:Int)<=lim then some (T.lst (List.replicate (k:Int).toNat xs).flatten)else none)=_;rw[cx8 ⟨by omega,by simpa using h,by exact_mod_cast hk⟩,cs6]
noncomputable def bl6:GS:=(j6 (k7 7 (gM [] (gN E8 [(d0 3),(g2 D3 (gC (.int 70)) (d0 6))])))
  (j6 (k7 8 (gM [] (g2 e9 (d0 5) (g2 v8 (d0 7) (gN D0 [(d0 5)])))))
  (j6 (k7 9 (gM [] (gN (Q4 v9) [(d0 0),(d0 1),(d0 2),(d0 8)])))
  (j6 (sIf (bOr (J3 (bOf (g1 (P7 .bool) (d0 9)))) (bOf (g2 fNe (d0 9) (gN E9 [(d0 0),(d0 1),(d0 2),(d0 8)])))) (m6 (gC (.bl false))) o7)
  (sIf (V6 (bOf (g2 fEq (g2 e9 (d0 4) (gC (.int 0))) (gC (.str "double")))) (bOf (g2 fNe (g2 e9 (d0 0) (gC (.int 1))) (o6 [])))) (j6 (k7 10 (gM [] (o0 (itT (g2 e9 (d0 4) (gC (.int 1)))) 1 [] (stN 0) B3 (gN as2 [(d0 0)]))))
  (j6 (k7 11 (gM [10] (g2 v8 (g2 A8 (d0 7) (gC (.int 512))) (gN D0 [(g2 e9 (d0 0) (gC (.int 1)))]))))
  (j6 (k7 12 (gM [10] (g2 e9 (o6 [(m7 [(gC (.int 1)),(gC (.int 2))]),(m7 [(g1 aa1 (gC (.int 1))),(gC (.int 1))]),(m7 [(gC (.int 0)),(gC (.int 1))]),(m7 [(gC (.int 3)),(gC (.int 1))])]) (g2 v8 (g2 A8 (d0 7) (gC (.int 64))) (gC (.int 4))))))
  (j6 (al2 10 (gM [10] (g2 v8 (d0 7) (gC (.int 2)))) (gM [10] (d0 11)) (gF (gN C8 [(g2 e9 (g2 e9 (d0 10) (g2 v8 (d0 7) (gC (.int 2)))) (d0 11)),(d0 12)])))
  (j6 (k7 13 (gM [] (g2 e9 (o6 [(m7 [(g2 e9 (d0 10) (gC (.int 0))),(g2 e9 (d0 10) (gC (.int 1)))]),(m7 [(g2 e9 (d0 10) (gC (.int 1))),(g2 e9 (d0 10) (gC (.int 0)))])]) (g2 v8 (g2 A8 (d0 7) (g2 T7 (gC (.int 2)) (gC (.int 20)))) (gC (.int 2))))))
  (sIf (bOf (g2 fNe (gN (Q4 t8) [(d0 0),(d0 1),(d0 2),(d0 13)]) (gN J7 [(d0 0),(d0 1),(d0 2),(d0 13)]))) (m6 (gC (.bl false))) o7)))))) o7)))))
theorem bG9:bl6=(j6 (k7 7 (gM [] (gN E8 [(d0 3),(g2 D3 (gC (.int 70)) (d0 6))])))
  (j6 (k7 8 (gM [] (g2 e9 (d0 5) (g2 v8 (d0 7) (gN D0 [(d0 5)])))))
  (j6 (k7 9 (gM [] (gN (Q4 v9) [(d0 0),(d0 1),(d0 2),(d0 8)])))
  (j6 (sIf (bOr (J3 (bOf (g1 (P7 .bool) (d0 9)))) (bOf (g2 fNe (d0 9) (gN E9 [(d0 0),(d0 1),(d0 2),(d0 8)])))) (m6 (gC (.bl false))) o7)
  (sIf (V6 (bOf (g2 fEq (g2 e9 (d0 4) (gC (.int 0))) (gC (.str "double")))) (bOf (g2 fNe (g2 e9 (d0 0) (gC (.int 1))) (o6 [])))) bo0 o7))))):=rfl
theorem cb8(ls:List Ln):fNe (.lst (ls.map e8)) (.lst [])=some (.bl !ls.isEmpty):=by
 cases ls with
 |nil=>rfl
 |cons l ls=>rfl
theorem by7{p:Nat}{ls:List Ln}{a b:Ln}{S:List Int}(F:v0 p ls)(A:n9 p a)(B:n9 p b)(C:N2 p S):v9 [j0 p ls,e8 a,e8 b,g8 S]=some (.val (.bl (decide (B2 S ls<B2 S [a,b])))):=
 ch2 (k:=true) F A B (bV6 C F.hi) (fun _=>⟨S,rfl,rfl⟩) (fun h=>by cases h)
theorem cm0{p:Nat}{ls:List Ln}{a b:Ln}{t:T}(F:v0 p ls)(A:n9 p a)(B:n9 p b)(h:J9 [j0 p ls,t]=some (.bl false)):v9 [j0 p ls,e8 a,e8 b,t]=some (.val (.bl false)):=
 ch2 (k:=false) F A B h (fun h=>by cases h) (fun _=>rfl)
theorem bI3{p:Nat}(hp:p<=8)(h:Int):∃S∈C7 p,e9 (.lst ((C7 p).map g8)) (.int (h%((C7 p).length:Int)))=some (g8 S):=by
 have hl:=aw1 p hp;have :=K8 h (b:=((C7 p).length:Int)) (by omega);obtain⟨t,h1,h2⟩:=ap3 (xs:=(C7 p).map g8) this.1 (by rw[cu6];exact this.2);obtain⟨S,hS,rfl⟩:=List.mem_map.mp h2;exact⟨S,hS,h1⟩
theorem bS7{p:Nat}{ls:List Ln}{a b:Ln}{t:T}{m j:Int}{x7 x8 x9 x10 x11 x12 x13 x14:Option T}(F:v0 p ls)(A:n9 p a)(B:n9 p b)(Bo:bo8 p ls a b t):
  ∃y7 y8 y9 y10 y11 y12 y13,bl6 [some (j0 p ls),some (e8 a),some (e8 b),some (.int m),some t,some (.lst ((C7 p).map g8)),some (.int j),x7,x8,x9,x10,x11,x12,x13,x14]=
   some (.nx [some (j0 p ls),some (e8 a),some (e8 b),some (.int m),some t,some (.lst ((C7 p).map g8)),some (.int j),y7,y8,y9,y10,y11,y12,y13,x14]):=by
 obtain⟨h,hd,_⟩:=bK4 m (70+j);obtain⟨S,hS,hi⟩:=bI3 F.hi h;have C:=aY4 hS;have hl:=aw1 p F.hi;have c1:=ai2 (by7 F A B C);have c2:=ba3 (S:=S) (ls:=ls) (p:=p) (a:=a) (b:=b) F.rok (ak9 A B);generalize decide (B2 S ls<B2 S [a,b])=r at c1 c2;have e0:gM [] (gN E8 [(d0 3),(g2 D3 (gC (.int 70)) (d0 6))]) [some (j0 p ls),some (e8 a),some (e8 b),some (.int m),some t,some (.lst ((C7 p).map g8)),some (.int j),x7,x8,x9,x10,x11,x12,x13,x14]=some (.int h):=F8 (xs:=[.int m,.int (70+j)]) rfl hd;have e1:gM [] (g2 e9 (d0 5) (g2 v8 (d0 7) (gN D0 [(d0 5)]))) [some (j0 p ls),some (e8 a),some (e8 b),some (.int m),some t,some (.lst ((C7 p).map g8)),some (.int j),some (.int h),x8,x9,x10,x11,x12,x13,x14]=some (g8 S):=by
  show g2 _ _ _ _=_;refine D9 (x:=.lst ((C7 p).map g8)) (y:=.int (h%((C7 p).length:Int))) rfl ?_ hi;refine D9 (x:=.int h) (y:=.int ((C7 p).length:Int)) rfl ?_ (A0 (by omega));refine F8 (xs:=[.lst ((C7 p).map g8)]) rfl ?_;rw[fLen_lst,cu6]
 have e2:gM [] (gN (Q4 v9) [(d0 0),(d0 1),(d0 2),(d0 8)]) [some (j0 p ls),some (e8 a),some (e8 b),some (.int m),some t,some (.lst ((C7 p).map g8)),some (.int j),some (.int h),some (g8 S),x9,x10,x11,x12,x13,x14]=some (.bl r):=F8 (xs:=[j0 p ls,e8 a,e8 b,g8 S]) rfl c1;have e3:(bOr (J3 (bOf (g1 (P7 .bool) (d0 9)))) (bOf (g2 fNe (d0 9) (gN E9 [(d0 0),(d0 1),(d0 2),(d0 8)])))) [some (j0 p ls),some (e8 a),some (e8 b),some (.int m),some t,some (.lst ((C7 p).map g8)),some (.int j),some (.int h),some (g8 S),some (.bl r),x10,x11,x12,x13,x14]=some false:=by
  unfold bOr;rw[ab4 (E6 (ar7 (x:=.bl r) (z:=.bl true) rfl rfl)),cx3,cx7 (by simp)];refine E6 (D9 (x:=.bl r) rfl (F8 (xs:=[j0 p ls,e8 a,e8 b,g8 S]) rfl c2) ?_);rw[aX8];simp
 rw[bG9];cases Bo with
 |cut S' C' hb=>
  refine⟨some (.int h),some (g8 S),some (.bl r),x10,x11,x12,x13,D8 e0 (D8 e1 (D8 e2 (aq3 e3 ?_)))⟩;have e4:(V6 (bOf (g2 fEq (g2 e9 (d0 4) (gC (.int 0))) (gC (.str "double")))) (bOf (g2 fNe (g2 e9 (d0 0) (gC (.int 1))) (o6 [])))) [some (j0 p ls),some (e8 a),some (e8 b),some (.int m),some (.tup [.str "cut",g8 S']),some (.lst ((C7 p).map g8)),some (.int j),some (.int h),some (g8 S),some (.bl r),x10,x11,x12,x13,x14]=some false:=by
   unfold V6;rw[E6 (b:=false) (D9 (x:=.str "cut") (y:=.str "double") rfl rfl bU0)];rfl
  simp only[cw4,cw3];rw[sIf_ap,e4];rfl
 |dbl f g hf hg=>
  obtain⟨D1,D2⟩:=aY2 F hf hg;have e4:(V6 (bOf (g2 fEq (g2 e9 (d0 4) (gC (.int 0))) (gC (.str "double")))) (bOf (g2 fNe (g2 e9 (d0 0) (gC (.int 1))) (o6 [])))) [some (j0 p ls),some (e8 a),some (e8 b),some (.int m),some (.tup [.str "double",.tup [j7 (List.zipWith (· + ·) f g),j7 (List.zipWith (· - ·) f g)]]),some (.lst ((C7 p).map g8)),some (.int j),some (.int h),some (g8 S),some (.bl r),x10,x11,x12,x13,x14]=some !ls.isEmpty:=by
   unfold V6;rw[E6 (b:=true) (D9 (x:=.str "double") (y:=.str "double") rfl rfl ce5)];exact E6 (D9 (x:=.lst (ls.map e8)) (y:=.lst []) rfl rfl (cb8 ls))
  cases hem:ls.isEmpty with
  |true=>
   refine⟨some (.int h),some (g8 S),some (.bl r),x10,x11,x12,x13,D8 e0 (D8 e1 (D8 e2 (aq3 e3 ?_)))⟩;simp only[cw4,cw3];rw[sIf_ap,e4,hem];rfl
  |false=>
   obtain⟨y10,y11,y12,y13,hb⟩:=bV1 (a:=a) (b:=b) (m5:=some (.lst ((C7 p).map g8))) (mm:=m) (h:=h) (x6:=some (.int j)) (x8:=some (g8 S)) (x9:=some (.bl r)) (x10:=x10) (x11:=x11) (x12:=x12) (x13:=x13) (x14:=x14) F A B (by intro z;rw[z]at hem;cases hem) D1 D2;refine⟨some (.int h),some (g8 S),some (.bl r),y10,y11,y12,y13,D8 e0 (D8 e1 (D8 e2 (aq3 e3 ?_)))⟩;simp only[cw4,cw3];rw[sIf_ap,e4,hem];exact hb
theorem cr1{p:Nat}{ls:List Ln}{a b:Ln}(F:v0 p ls)(A:n9 p a)(B:n9 p b)(m:Int):E7 [j0 p ls,e8 a,e8 b,.int m]=some (.bl true):=by
 obtain⟨t,ht,Bo⟩:=bA4 F A B;rw[E7,n8 4 _ _ _ rfl]
 suffices hh:U2 (l9 15 [j0 p ls,e8 a,e8 b,.int m])=some (.ret (.bl true)) by rw[hh];rfl
 unfold U2;refine D8 (t:=t) (F8 (xs:=[j0 p ls,e8 a,e8 b]) rfl (ai2 ht)) ?_;refine D8 (t:=.lst ((C7 p).map g8)) (F8 (xs:=[.int p]) rfl (ch0 p F.hi)) ?_;have loop:=ap5 (st:=stN 6) (b:=bl6) (fun _ ρ=>∃y6 y7 y8 y9 y10 y11 y12 y13,ρ=[some (j0 p ls),some (e8 a),some (e8 b),some (.int m),some t,some (.lst ((C7 p).map g8)),y6,y7,y8,y9,y10,y11,y12,y13,none]) (u8 0 5) 0 [some (j0 p ls),some (e8 a),some (e8 b),some (.int m),some t,some (.lst ((C7 p).map g8)),none,none,none,none,none,none,none,none,none] ⟨_,_,_,_,_,_,_,_,rfl⟩ (fun i x hx ρ zz=>by
  obtain⟨y6,y7,y8,y9,y10,y11,y12,y13,hρ⟩:=zz;subst hρ;obtain⟨j,rfl⟩:∃j:Int,x=.int j:=by
   have :=cv9 hx;unfold u8 at this;obtain⟨a,_,rfl⟩:=List.mem_map.mp this;exact⟨_,rfl⟩
  obtain⟨z7,z8,z9,z10,z11,z12,z13,h⟩:=bS7 (m:=m) (j:=j) (x7:=y7) (x8:=y8) (x9:=y9) (x10:=y10) (x11:=y11) (x12:=y12) (x13:=y13) (x14:=none) F A B Bo;exact⟨_,_,rfl,h,_,_,_,_,_,_,_,_,rfl⟩)
 obtain⟨ρ',h1,y6,y7,y8,y9,y10,y11,y12,y13,rfl⟩:=loop;rw[l8 (ρ':=[some (j0 p ls),some (e8 a),some (e8 b),some (.int m),some t,some (.lst ((C7 p).map g8)),y6,y7,y8,y9,y10,y11,y12,y13,none]) (by exact h1)];refine D8 (t:=.lst aV7) (by
  show o6 _ _=_;refine bM3 (O1 rfl (O1 rfl (O1 rfl (O1 (x:=.tup [.lst (List.replicate 17 (fr 1 2)),.lst []]) (cl2 (O1 (x:=.lst (List.replicate 17 (fr 1 2))) (D9 (x:=.lst [fr 1 2]) (y:=.int 17) rfl rfl ?_) rfl)) (O1 rfl rfl)))));exact be9 (xs:=[fr 1 2]) (k:=17) (by decide) (by decide)) ?_
 simp only[cw4,cw3];have hm5:=K8 m (b:=5) (by decide);obtain⟨d,hd1,hd2⟩:=ap3 (xs:=aV7) (i:=m%5) hm5.1 (by show m%5<5;omega);have hm6:=K8 (m/8) (b:=6) (by decide);obtain⟨c,hc1,hc2⟩:=ap3 (xs:=bl2) (i:=m/8%6) hm6.1 (by show m/8%6<6;omega);have v1:=ai2 (bV5 F A B (bR7 F d hd2));have v2:=ai2 (cm0 F A B (bR8 F.hi c hc2));refine aq3 (E6 (ar7 (x:=.bl false) (F8 (O1 (x:=j0 p ls) rfl (O1 (x:=e8 a) rfl (O1 (x:=e8 b) rfl (O1 (x:=d) (D9 (x:=.lst aV7) (y:=.int (m%5)) rfl (D9 (x:=.int m) (y:=.int 5) rfl rfl (A0 (by decide))) hd1) rfl)))) v1) rfl)) ?_;rw[sRet_ap,ar7 (x:=.bl false) (z:=.bl true) (F8 (O1 (x:=j0 p ls) rfl (O1 (x:=e8 a) rfl (O1 (x:=e8 b) rfl (O1 (x:=c) (D9 (x:=.lst bl2) (y:=.int (m/8%6)) rfl (D9 (x:=.int (m/8)) (y:=.int 6) (D9 (x:=.int m) (y:=.int 8) rfl rfl (R0 (by decide) (by decide))) rfl (A0 (by decide))) hc1) rfl)))) v2) rfl];rfl
set_option maxRecDepth 10000
theorem aZ0{t x y:T}(h:u7 [t,x,y]=some (.exc "BadFloor")):C9 [t,x,y]=some (.exc "BadFloor"):=by
 rw[C9,N9 3 _ _ _ rfl,am3,aC0 (xs:=[t,x,y]) rfl h];rfl
theorem bU4{t x y d:T}(h:u7 [t,x,y]=some (.exc "BadFloor")):t8 [t,x,y,d]=some (.exc "BadFloor"):=by
 rw[t8,N9 4 _ _ _ rfl,V0,aC0 (xs:=[t,x,y]) rfl h];rfl
theorem bU6{t x y d:T}(h:u7 [t,x,y]=some (.exc "BadFloor")):v9 [t,x,y,d]=some (.exc "BadFloor"):=by
 rw[v9,N9 4 _ _ _ rfl,ah4,aC0 (xs:=[t,x,y]) rfl h];rfl
theorem aq0{F:List T->Option Res}{xs:List T}(h:F xs=some (.exc "BadFloor")):aq1 F xs=some (.str "BadFloor"):=by
 unfold aq1;rw[h];rfl
theorem bB3{F:List T->Option Res}{xs:List T}{t:T}(h:F xs=some (.val t)):aq1 F xs=some t:=by
 unfold aq1;rw[h];rfl
theorem aF2{F:List T->Option Res}{l:List G}{xs ys:List T}{t:T}(h:gs l (xs.map some)=some ys)(h2:aq1 F ys=some t):X7 F l xs=some t:=by
 unfold X7;rw[h,cx3,h2]
noncomputable def aK9:List T:=[.tup [.int 1,.lst []],.tup [.int 9,.lst []],.tup [.int 2,.lst [trip 1 0 1]],.tup [.int 2,.lst [trip 0 1 0]],.tup [.int 2,.lst [trip 0 1 1,trip 0 1 2]],.tup [.int 2,.lst [.lst [.int 0,.int 1,.int 1]]],.tup [.int 2,.lst [trip 0 2 1]]]
theorem ap6{p:Int}{ls:List Ln}(hl:ls.length<=16)(h:(decide (2<=p)&&decide (p<=8)&&(decide (ls.length<=16)&&(ls.all (aG6 p)&&W5 ls)))=false):J2 [.tup [.int p,.lst (ls.map e8)]]=some (.bl false):=by
 have hlim:lim=1000000:=rfl;have :=bK2 (p:=p) (ts:=ls.map e8) (fun t=>match t with |.tup [.int u,.int v,.int r]=>aG6 p (u,v,r)|_=>false) (fun t ht=>by
  obtain⟨l,_,rfl⟩:=List.mem_map.mp ht;exact cg7) (by rw[cu6];omega) (W5 ls) (fun _=>ch4 (by omega))
 rw[this,cu6,List.all_map];congr 2
theorem bJ3:∀t∈aK9,J2 [t]=some (.bl false):=by
 intro t ht;unfold aK9 at ht;simp only[List.mem_cons,List.not_mem_nil,or_false]at ht;rcases ht with rfl|rfl|rfl|rfl|rfl|rfl|rfl
 ·exact ap6 (p:=1) (ls:=[]) (by decide) (by decide)
 ·exact ap6 (p:=9) (ls:=[]) (by decide) (by decide)
 ·exact ap6 (p:=2) (ls:=[(1,0,1)]) (by decide) (by decide)
 ·exact ap6 (p:=2) (ls:=[(0,1,0)]) (by decide) (by decide)
 ·exact ap6 (p:=2) (ls:=[(0,1,1),(0,1,2)]) (by decide) (by decide)
 ·have h:C4 [.lst [.int 0,.int 1,.int 1],.int 2,.int 1,.int 20]=some (.bl false):=aE9 rfl rfl;have :=bK2 (p:=2) (ts:=[.lst [.int 0,.int 1,.int 1]]) (fun _=>false) (fun t ht=>by
   simp at ht;subst ht;exact bV4 h) (by decide) false (fun z=>by simp at z)
  simpa using this
 ·exact ap6 (p:=2) (ls:=[(0,2,1)]) (by decide) (by decide)
noncomputable def bl1:List T:=[trip 0 0 1,trip 0 1 (-1),trip 0 1 201,trip 0 8 1,.tup [.int 0,.int 1],.lst [.int 0,.int 1,.int 1]]
theorem bG2{p:Nat}{q:T}(hp:2<=p/\p<=8):∀t∈bl1,K5 [.tup [.int p,q],t]=some (.bl false):=by
 intro t ht;unfold bl1 at ht;simp only[List.mem_cons,List.not_mem_nil,or_false]at ht;rcases ht with rfl|rfl|rfl|rfl|rfl|rfl
 ·refine aE8 (az7.trans ?_);congr 2;unfold ab7;simp
 ·refine aE8 (az7.trans ?_);congr 2;unfold ab7;simp
 ·refine aE8 (az7.trans ?_);congr 2;unfold ab7;simp
 ·refine aE8 (az7.trans ?_);congr 2;unfold ab7;have e:decide ((8:Int)<=(p:Int)-1)=false:=by simp;omega
  rw[e];simp
 ·exact aE8 (aE9 rfl rfl)
 ·exact aE8 (aE9 rfl rfl)
noncomputable def bJ1(ls:List Ln)(a b:Ln):T->Bool
 |.lst xs=>match W0 xs with |some S=>decide (B2 S ls<B2 S [a,b])|none=>false
 |_=>false
theorem aO8(ls:List Ln)(a b:Ln)(S:List Int):bJ1 ls a b (g8 S)=decide (B2 S ls<B2 S [a,b]):=by
 simp only[bJ1,g8,ints_map]
noncomputable def X1(p:Nat)(ls:List Ln)(a b:Ln):Bool:=(C7 p).any fun S=>decide (B2 S ls<B2 S [a,b])
theorem cf4{p:Nat}{ls:List Ln}{a b:Ln}{ρ:j9}(F:v0 p ls)(A:n9 p a)(B:n9 p b)(h3:(ρ[3]?).join=some (j0 p ls))(h4:(ρ[4]?).join=some (e8 a))(h5:(ρ[5]?).join=some (e8 b)):
  gN am8 [(o0 (itL (gN M6 [(g2 e9 (d0 3) (gC (.int 0)))])) 1 [3,4,5] (stN 0) B3 (gN E9 [(d0 1),(d0 2),(d0 3),(d0 0)]))] ρ=some (.bl (X1 p ls a b)):=by
 have hl:=aw1 p F.hi;have hlim:lim=1000000:=rfl;have hit:itL (gN M6 [(g2 e9 (d0 3) (gC (.int 0)))]) ρ=some ((C7 p).map g8):=by
  simp only[itL_ap,gN_ap,gs_cons,gs_nil,g2_ap,gC_ap,gVar_ap,h3,cx3,ix0,ch0 p F.hi,toL_lst]
 have hcap:O2 1 [3,4,5] ρ=[none,some (j0 p ls),some (e8 a),some (e8 b)]:=by
  unfold O2;simp only[cv2,cv4,h3,h4,h5];rfl
 rw[aZ4 (bJ1 ls a b) hit (by rw[cu6];omega) (fun t ht=>by
  obtain⟨S,hS,rfl⟩:=List.mem_map.mp ht;rw[hcap];refine⟨[some (g8 S),some (j0 p ls),some (e8 a),some (e8 b)],rfl,?_⟩;rw[aO8];exact F8 (xs:=[j0 p ls,e8 a,e8 b,g8 S]) rfl (ba3 F.rok (ak9 A B))),List.any_map]
 congr 2;unfold X1;congr 1
 funext S
 exact aO8 ls a b S
theorem bo1{p:Nat}{ls:List Ln}{a b:Ln}{S:List Int}(C:N2 p S)(h:B2 S ls<B2 S [a,b]):X1 p ls a b=true:=by
 unfold X1;rw[List.any_eq_true];exact⟨S,bJ2 C,cx5 h⟩
theorem bz9{p:Nat}{ls:List Ln}{a b:Ln}{f g:List Int}(F:v0 p ls)(A:n9 p a)(B:n9 p b)(hf:L7 p ls (sup p a b) f)(hg:L7 p ls (sup p a (U6 b)) g):X1 p ls a b=false:=by
 unfold X1;rw[List.any_eq_false];intro S hS;have :=bv8 F A B (aY4 hS) hf hg;simp;omega
theorem bx2{ρ:j9}{u:T}{f g:List Int}{c:Nat}(hc:(ρ[c]?).join=some (.tup [u,.tup [j7 f,j7 g]]))(l1:f.length<=lim)(l2:g.length<=lim):
  gN P8 [(o0 (itT (g2 e9 (d0 c) (gC (.int 1)))) 1 [] (stN 0) B3 (gN P8 [(o0 (itL (d0 0)) 1 [] (stN 0) B3 (g2 fLt (g2 e9 (d0 0) (gC (.int 1))) (gC (.int 3))))]))] ρ=some (.bl true):=by
 have hit:itT (g2 e9 (d0 c) (gC (.int 1))) ρ=some [j7 f,j7 g]:=by
  unfold itT;simp only[g2_ap,gC_ap,gVar_ap,hc,cx3,ix1,bW2]
 rw[U0 (fun _=>true) hit (by show 2<=lim;decide) (fun t ht=>by
  have :∃N:List Int,N.length<=lim/\t=j7 N:=by
   simp at ht;rcases ht with rfl|rfl
   ·exact⟨f,l1,rfl⟩
   ·exact⟨g,l2,rfl⟩
  obtain⟨N,hN,rfl⟩:=this;refine⟨[some (j7 N)],rfl,?_⟩;rw[U0 (ρ:=[some (j7 N)]) (it:=itL (d0 0)) (fun _=>true) rfl (by simpa using hN) (fun t ht=>by
   obtain⟨n,_,rfl⟩:=List.mem_map.mp ht;obtain⟨x,d,e,_,hd,_⟩:=ap4 n;refine⟨[some (hf n)],rfl,?_⟩;rw[e];refine D9 (x:=.int d) (y:=.int 3) (D9 (x:=fr x d) (y:=.int 1) rfl rfl (ix1 _ _ _)) rfl ?_;rw[fLt_int,cx5 hd])]
  simp)]
 simp
theorem cl7:fEq (.str "double") (.str "cut")=some (.bl false):=by
 show some (T.bl (_==_))=_;congr 2
theorem cb9:fNe (.str "double") (.str "double")=some (.bl false):=by
 show some (T.bl !(_==_))=_;congr 2
noncomputable def bm9:GS:=(j6 (k7 8 (gM [] (o6 [(m7 [(gC (.int 1)),(o6 [])]),(m7 [(gC (.int 9)),(o6 [])]),(m7 [(gC (.int 2)),(o6 [(m7 [(gC (.int 1)),(gC (.int 0)),(gC (.int 1))])])]),(m7 [(gC (.int 2)),(o6 [(m7 [(gC (.int 0)),(gC (.int 1)),(gC (.int 0))])])])])))
  (j6 (k7 8 (gM [] (g2 D3 (d0 8) (o6 [(m7 [(gC (.int 2)),(o6 [(m7 [(gC (.int 0)),(gC (.int 1)),(gC (.int 1))]),(m7 [(gC (.int 0)),(gC (.int 1)),(gC (.int 2))])])]),(m7 [(gC (.int 2)),(o6 [(o6 [(gC (.int 0)),(gC (.int 1)),(gC (.int 1))])])]),(m7 [(gC (.int 2)),(o6 [(m7 [(gC (.int 0)),(gC (.int 2)),(gC (.int 1))])])])]))))
  (j6 (k7 9 (gM [] (g2 e9 (d0 8) (g2 v8 (g2 A8 (d0 2) (g2 T7 (gC (.int 2)) (gC (.int 60)))) (gC (.int 7))))))
  (j6 (k7 10 (gM [] (g2 e9 (o6 [(m7 [(gC (.int 0)),(gC (.int 0)),(gC (.int 1))]),(m7 [(gC (.int 0)),(gC (.int 1)),(g1 aa1 (gC (.int 1)))]),(m7 [(gC (.int 0)),(gC (.int 1)),(gC (.int 201))]),(m7 [(gC (.int 0)),(gC (.int 8)),(gC (.int 1))]),(m7 [(gC (.int 0)),(gC (.int 1))]),(o6 [(gC (.int 0)),(gC (.int 1)),(gC (.int 1))])]) (g2 v8 (g2 A8 (d0 2) (g2 T7 (gC (.int 2)) (gC (.int 64)))) (gC (.int 6))))))
  (j6 (k7 11 (gFr (gM [] (o6 [(gN (X7 C9 [(d0 0),(m7 [(gC (.int 0)),(gC (.int 1)),(gC (.int 1))]),(m7 [(gC (.int 0)),(gC (.int 1)),(gC (.int 1))])]) [d0 9])]))))
  (j6 (S9 11 (gM [11] (gN (X7 C9 [(d0 0),(d0 1),(d0 2)]) [d0 3,d0 10,d0 5])))
  (j6 (S9 11 (gM [11] (gN (X7 t8 [(d0 0),(d0 1),(d0 2),(gC .non)]) [d0 3,d0 4,d0 10])))
  (j6 (S9 11 (gM [11] (gN (X7 v9 [(d0 0),(d0 1),(d0 2),(gC .non)]) [d0 3,d0 10,d0 4])))
  (sIf (bOf (g2 fNe (d0 11) (g2 C6 (o6 [(gC (.str "BadFloor"))]) (gC (.int 4))))) (m6 (gC (.bl false))) o7)))))))))
noncomputable def bl7:GS:=(j6 (k7 2 (gM [] (gN E8 [(gN aa5 [(d0 0),(d0 1)]),(d0 1)])))
  (j6 (k7 3 (gM [] (gN X4 [(d0 2)])))
  (j6 (k7 4 (gM [] (gN U4 [(g2 A8 (d0 2) (gC (.int 512))),(g2 e9 (d0 3) (gC (.int 0)))])))
  (j6 (k7 5 (gM [] (gN U4 [(g2 A8 (d0 2) (g2 T7 (gC (.int 2)) (gC (.int 30)))),(g2 e9 (d0 3) (gC (.int 0)))])))
  (j6 (k7 6 (gM [] (gN (X7 C9 [(d0 0),(d0 1),(d0 2)]) [d0 3,d0 4,d0 5])))
  (j6 (sIf (bOr (J3 (bOf (g1 (P7 .tuple) (d0 6)))) (bOf (g2 fNe (gN D0 [(d0 6)]) (gC (.int 2))))) (m6 (gC (.bl false))) o7)
  (j6 (k7 7 (gM [] (gN am8 [(o0 (itL (gN M6 [(g2 e9 (d0 3) (gC (.int 0)))])) 1 [3,4,5] (stN 0) B3 (gN E9 [(d0 1),(d0 2),(d0 3),(d0 0)]))])))
  (j6 (sIf (bOf (g2 fEq (g2 e9 (d0 6) (gC (.int 0))) (gC (.str "cut")))) (j6 (sIf (bOr (J3 (bOf (d0 7))) (J3 (bOf (gN E9 [(d0 3),(d0 4),(d0 5),(g2 e9 (d0 6) (gC (.int 1)))])))) (m6 (gC (.bl false))) o7)
  (sIf (bOf (g1 (ac7 true) (gN (Q4 v9) [(d0 3),(d0 4),(d0 5),(g2 e9 (d0 6) (gC (.int 1)))]))) (m6 (gC (.bl false))) o7)) (sIf (bOr (bOf (g2 fNe (g2 e9 (d0 6) (gC (.int 0))) (gC (.str "double")))) (bOr (bOf (d0 7)) (J3 (bOf (gN J7 [(d0 3),(d0 4),(d0 5),(g2 e9 (d0 6) (gC (.int 1)))]))))) (m6 (gC (.bl false))) (sIf (J3 (bOf (gN P8 [(o0 (itT (g2 e9 (d0 6) (gC (.int 1)))) 1 [] (stN 0) B3 (gN P8 [(o0 (itL (d0 0)) 1 [] (stN 0) B3 (g2 fLt (g2 e9 (d0 0) (gC (.int 1))) (gC (.int 3))))]))]))) (m6 (gC (.bl false))) (sIf (bOf (g1 (ac7 true) (gN (Q4 t8) [(d0 3),(d0 4),(d0 5),(g2 e9 (d0 6) (gC (.int 1)))]))) (m6 (gC (.bl false))) o7))))
  (j6 (sIf (J3 (bOf (gN E7 [(d0 3),(d0 4),(d0 5),(g2 A8 (d0 2) (g2 T7 (gC (.int 2)) (gC (.int 50))))]))) (m6 (gC (.bl false))) o7)
  bm9)))))))))
theorem bZ3{j:Nat}(h:j<=1000):T7 (.int 2) (.int (j:Int))=some (.int (2^j)):=by
 show(if 0<=(j:Int)/\(j:Int)<=1000/\(2:Int).natAbs<2^64 then some (T.int ((2:Int)^(j:Int).toNat))else none)=_;rw[cx8 ⟨by omega,by omega,by decide⟩,cs6]
theorem bU1{m:Int}{j:Nat}(h:j<=200):A8 (.int m) (.int (2^j))=some (.int (m/2^j)):=by
 refine aj8 (Int.pow_pos (by decide)) (S0 (k:=201) ?_ (by decide));rw[Int.natAbs_pow];exact Nat.pow_lt_pow_right (by decide) (by omega)
theorem dp{m:Int}{j:Nat}{g:G}{ρ:j9}(hg:g ρ=some (.int m))(h:j<=200):g2 A8 g (g2 T7 (gC (.int 2)) (gC (.int (j:Int)))) ρ=some (.int (m/2^j)):=
 D9 hg (D9 rfl rfl (bZ3 (by omega))) (bU1 h)
theorem bT6{g:G}{ρ:j9}{ts:List T}(h:g ρ=some (.lst ts)):gFr (gM [] g) ρ=some (.lst ts):=by
 show Option.bind (g ρ) _=_;rw[h];rfl
theorem aS1{i:Nat}{g:G}{b:GS}{ρ:j9}{t:T}{ts:List T}{o:Option Out}(hs:(ρ[i]?).join=some (.lst ts))(h:g ρ=some t)(hl:ts.length<lim)(k:b (ρ.set i (some (.lst (ts++[t]))))=o):j6 (S9 i g) b ρ=o:=by
 rw[l8 (ρ':=ρ.set i (some (.lst (ts++[t]))))]
 ·exact k
 ·unfold S9;rw[h,cx3,hs];simp only[cx8 hl]
theorem bH7:fNe (.lst [.str "BadFloor",.str "BadFloor",.str "BadFloor",.str "BadFloor"]) (.lst [.str "BadFloor",.str "BadFloor",.str "BadFloor",.str "BadFloor"])=some (.bl false):=by
 have e:eqD 7 (.str "BadFloor") (.str "BadFloor")=some true:=by
  show some (_==_)=_;congr 1
 show((if _ then ae7 (eqD 7) _ _ else _).bind _)=_;simp only[ae7,e,cx3,if_true];rfl
theorem ce7{p:Nat}{ls:List Ln}{a b:Ln}{s x1 x6 x7 x8 x9 x10 x11:Option T}{m:Int}(F:v0 p ls)(A:n9 p a)(B:n9 p b):
  ∃y8 y9 y10 y11,bm9 [s,x1,some (.int m),some (j0 p ls),some (e8 a),some (e8 b),x6,x7,x8,x9,x10,x11]=some (.nx [s,x1,some (.int m),some (j0 p ls),some (e8 a),some (e8 b),x6,x7,y8,y9,y10,y11]):=by
 have h7:=K8 (m/2^60) (b:=7) (by decide);obtain⟨t,t1,t2⟩:=ap3 (xs:=aK9) (i:=m/2^60%7) h7.1 (by show m/2^60%7<7;exact h7.2);have h6:=K8 (m/2^64) (b:=6) (by decide);obtain⟨w,w1,w2⟩:=ap3 (xs:=bl1) (i:=m/2^64%6) h6.1 (by show m/2^64%6<6;exact h6.2);have hw:=bG2 (q:=.lst (ls.map e8)) ⟨F.lo,F.hi⟩ w w2;have r1:=aq0 (aZ0 (x:=trip 0 1 1) (y:=trip 0 1 1) (bG4 (bJ3 t t2)));have r2:=aq0 (aZ0 (y:=e8 b) (bw0 (aI3 F) hw));have r3:=aq0 (bU4 (d:=.non) (cb6 (aI3 F) (ba0 A) hw));have r4:=aq0 (bU6 (d:=.non) (bw0 (b:=e8 a) (aI3 F) hw));unfold bm9;refine⟨some (.lst aK9),some t,some w,some (.lst [.str "BadFloor",.str "BadFloor",.str "BadFloor",.str "BadFloor"]),?_⟩;refine D8 (t:=.lst [.tup [.int 1,.lst []],.tup [.int 9,.lst []],.tup [.int 2,.lst [trip 1 0 1]],.tup [.int 2,.lst [trip 0 1 0]]]) rfl ?_;refine D8 (t:=.lst aK9) rfl ?_;refine D8 (t:=t) (D9 (x:=.lst aK9) (y:=.int (m/2^60%7)) rfl (D9 (x:=.int (m/2^60)) (y:=.int 7) (dp (j:=60) rfl (by decide)) rfl (A0 (by decide))) t1) ?_;refine D8 (t:=w) (D9 (x:=.lst bl1) (y:=.int (m/2^64%6)) rfl (D9 (x:=.int (m/2^64)) (y:=.int 6) (dp (j:=64) rfl (by decide)) rfl (A0 (by decide))) w1) ?_;refine D8 (t:=.lst [.str "BadFloor"]) (bT6 (bM3 (O1 (F8 (xs:=[t]) rfl (aF2 (ys:=[t,trip 0 1 1,trip 0 1 1]) rfl r1)) rfl))) ?_;simp only[cw4,cw3];refine aS1 (ts:=[.str "BadFloor"]) (t:=.str "BadFloor") rfl (F8 (xs:=[j0 p ls,w,e8 b]) rfl (aF2 (ys:=[j0 p ls,w,e8 b]) rfl r2)) (by decide) ?_;refine aS1 (ts:=[.str "BadFloor",.str "BadFloor"]) (t:=.str "BadFloor") rfl (F8 (xs:=[j0 p ls,e8 a,w]) rfl (aF2 (ys:=[j0 p ls,e8 a,w,.non]) rfl r3)) (by show 2<lim;decide) ?_;refine aS1 (ts:=[.str "BadFloor",.str "BadFloor",.str "BadFloor"]) (t:=.str "BadFloor") rfl (F8 (xs:=[j0 p ls,w,e8 a]) rfl (aF2 (ys:=[j0 p ls,w,e8 a,.non]) rfl r4)) (by show 3<lim;decide) ?_;simp only[cw4,cw3];rw[sIf_ap,E6 (b:=false) (D9 (x:=.lst [.str "BadFloor",.str "BadFloor",.str "BadFloor",.str "BadFloor"]) rfl (y:=.lst [.str "BadFloor",.str "BadFloor",.str "BadFloor",.str "BadFloor"]) (D9 (x:=.lst [.str "BadFloor"]) (y:=.int 4) rfl rfl (be9 (xs:=[.str "BadFloor"]) (k:=4) (by show 4<=lim;decide) (by decide))) bH7)];rfl
theorem bU9{ns:List Int}(hl:ns.length<=63){k:Nat}(hk:k<4)(x2 x3 x4 x5 x6 x7 x8 x9 x10 x11:Option T):∃y2 y3 y4 y5 y6 y7 y8 y9 y10 y11,
  bl7 [some (.scr ns),some (.int k),x2,x3,x4,x5,x6,x7,x8,x9,x10,x11]=some (.nx [some (.scr ns),some (.int k),y2,y3,y4,y5,y6,y7,y8,y9,y10,y11]):=by
 obtain⟨cl,hc⟩:=cr5 ns k hk hl;obtain⟨m,hd,_⟩:=bK4 cl k;obtain⟨p,ls,hfl,F⟩:=cm5 m;obtain⟨a,ha,A⟩:=bN0 (m/512) p ⟨F.lo,F.hi⟩;obtain⟨b,hb,B⟩:=bN0 (m/2^30) p ⟨F.lo,F.hi⟩;obtain⟨t,ht,Bo⟩:=bA4 F A B;have hlr:=cr1 F A B (m/2^50);have hlim:lim=1000000:=rfl;have hlen:=F.len;obtain⟨y8,y9,y10,y11,hend⟩:=ce7 (s:=some (.scr ns)) (x1:=some (.int k)) (x6:=some t) (x7:=some (.bl (X1 p ls a b))) (x8:=x8) (x9:=x9) (x10:=x10) (x11:=x11) (m:=m) F A B;refine⟨some (.int m),some (j0 p ls),some (e8 a),some (e8 b),some t,some (.bl (X1 p ls a b)),y8,y9,y10,y11,?_⟩;unfold bl7;refine D8 (t:=.int m) (F8 (O1 (F8 (xs:=[.scr ns,.int k]) rfl hc) (O1 (x:=.int k) rfl rfl)) hd) ?_;refine D8 (t:=j0 p ls) (F8 (xs:=[.int m]) rfl hfl) ?_;refine D8 (t:=e8 a) (F8 (xs:=[.int (m/512),.int p]) (O1 (D9 (x:=.int m) (y:=.int 512) rfl rfl (R0 (by decide) (by decide))) rfl) ha) ?_;refine D8 (t:=e8 b) (F8 (xs:=[.int (m/2^30),.int p]) (O1 (dp (j:=30) (m:=m) rfl (by decide)) rfl) hb) ?_;refine D8 (t:=t) (F8 (xs:=[j0 p ls,e8 a,e8 b]) rfl (aF2 (ys:=[j0 p ls,e8 a,e8 b]) rfl (bB3 ht))) ?_;simp only[cw4,cw3];have key:∀(c2:Option Out),(j6 (k7 7 (gM [] (gN am8 [(o0 (itL (gN M6 [(g2 e9 (d0 3) (gC (.int 0)))])) 1 [3,4,5] (stN 0) B3 (gN E9 [(d0 1),(d0 2),(d0 3),(d0 0)]))]))) (j6 (sIf (bOf (g2 fEq (g2 e9 (d0 6) (gC (.int 0))) (gC (.str "cut")))) (j6 (sIf (bOr (J3 (bOf (d0 7))) (J3 (bOf (gN E9 [(d0 3),(d0 4),(d0 5),(g2 e9 (d0 6) (gC (.int 1)))])))) (m6 (gC (.bl false))) o7)
  (sIf (bOf (g1 (ac7 true) (gN (Q4 v9) [(d0 3),(d0 4),(d0 5),(g2 e9 (d0 6) (gC (.int 1)))]))) (m6 (gC (.bl false))) o7)) (sIf (bOr (bOf (g2 fNe (g2 e9 (d0 6) (gC (.int 0))) (gC (.str "double")))) (bOr (bOf (d0 7)) (J3 (bOf (gN J7 [(d0 3),(d0 4),(d0 5),(g2 e9 (d0 6) (gC (.int 1)))]))))) (m6 (gC (.bl false))) (sIf (J3 (bOf (gN P8 [(o0 (itT (g2 e9 (d0 6) (gC (.int 1)))) 1 [] (stN 0) B3 (gN P8 [(o0 (itL (d0 0)) 1 [] (stN 0) B3 (g2 fLt (g2 e9 (d0 0) (gC (.int 1))) (gC (.int 3))))]))]))) (m6 (gC (.bl false))) (sIf (bOf (g1 (ac7 true) (gN (Q4 t8) [(d0 3),(d0 4),(d0 5),(g2 e9 (d0 6) (gC (.int 1)))]))) (m6 (gC (.bl false))) o7))))
  (j6 (sIf (J3 (bOf (gN E7 [(d0 3),(d0 4),(d0 5),(g2 A8 (d0 2) (g2 T7 (gC (.int 2)) (gC (.int 50))))]))) (m6 (gC (.bl false))) o7)
  bm9))) [some (.scr ns),some (.int k),some (.int m),some (j0 p ls),some (e8 a),some (e8 b),some t,x7,x8,x9,x10,x11]=some (.nx [some (.scr ns),some (.int k),some (.int m),some (j0 p ls),some (e8 a),some (e8 b),some t,some (.bl (X1 p ls a b)),y8,y9,y10,y11]):=fun _=>by
  refine D8 (t:=.bl (X1 p ls a b)) (cf4 F A B rfl rfl rfl) ?_;simp only[cw4,cw3];rw[l8 (ρ':=[some (.scr ns),some (.int k),some (.int m),some (j0 p ls),some (e8 a),some (e8 b),some t,some (.bl (X1 p ls a b)),x8,x9,x10,x11])]
  ·refine aq3 (ab4 (b:=true) (E6 (F8 (xs:=[j0 p ls,e8 a,e8 b,.int (m/2^50)]) (O1 rfl (O1 rfl (O1 rfl (O1 (dp (j:=50) (m:=m) rfl (by decide)) rfl)))) hlr))) hend
  ·cases Bo with
   |cut S C hS=>
    have hbar:=bo1 C hS;have c1:=ai2 (by7 F A B C);have c2:=ba3 (S:=S) (ls:=ls) (p:=p) (a:=a) (b:=b) F.rok (ak9 A B);rw[cx5 hS]at c1 c2;rw[hbar];rw[sIf_ap,E6 (b:=true) (D9 (x:=.str "cut") (y:=.str "cut") rfl rfl aY0)];simp only[cx3,if_true];refine aq3 ?_ ?_
    ·unfold bOr;rw[ab4 (b:=true) (E6 rfl)];simp only[cx3,Bool.not_true,cr9,if_false];exact ab4 (b:=true) (E6 (F8 (xs:=[j0 p ls,e8 a,e8 b,g8 S]) rfl c2))
    ·rw[sIf_ap,E6 (b:=false) (ar7 (x:=.bl true) (F8 (xs:=[j0 p ls,e8 a,e8 b,g8 S]) rfl c1) rfl)];rfl
   |dbl f g hf hg=>
    have hbar:=bz9 F A B hf hg;obtain⟨D1,D2⟩:=aY2 F hf hg;have hgood:=bI2 F A B hf hg;have d1:=ai2 (cg9 F A B D1.Sm D2.Sm D1.len D2.len);have d2:=bN1 F A B D1.Sm D2.Sm D1.len D2.len;rw[hgood]at d1 d2;rw[hbar];rw[sIf_ap,E6 (b:=false) (D9 (x:=.str "double") (y:=.str "cut") rfl rfl cl7)];simp only[cx3,cr9,if_false];rw[sIf_ap];have e1:(bOr (bOf (g2 fNe (g2 e9 (d0 6) (gC (.int 0))) (gC (.str "double")))) (bOr (bOf (d0 7)) (J3 (bOf (gN J7 [(d0 3),(d0 4),(d0 5),(g2 e9 (d0 6) (gC (.int 1)))]))))) [some (.scr ns),some (.int k),some (.int m),some (j0 p ls),some (e8 a),some (e8 b),some (.tup [.str "double",.tup [j7 (List.zipWith (· + ·) f g),j7 (List.zipWith (· - ·) f g)]]),some (.bl false),x8,x9,x10,x11]=some false:=by
     unfold bOr;rw[E6 (b:=false) (D9 (x:=.str "double") (y:=.str "double") rfl rfl cb9)];simp only[cx3,cr9,if_false];rw[E6 (b:=false) rfl];simp only[cx3,cr9,if_false];exact ab4 (b:=true) (E6 (F8 (xs:=[j0 p ls,e8 a,e8 b,.tup [j7 (List.zipWith (· + ·) f g),j7 (List.zipWith (· - ·) f g)]]) rfl d2))
    rw[e1];simp only[cx3,cr9,if_false];have q1:=D1.len;have q2:=D2.len;rw[sIf_ap,ab4 (b:=true) (E6 (bx2 (u:=.str "double") (f:=List.zipWith (· + ·) f g) (g:=List.zipWith (· - ·) f g) rfl (by omega) (by omega)))];simp only[cx3,Bool.not_true,cr9,if_false];rw[sIf_ap,E6 (b:=false) (ar7 (x:=.bl true) (F8 (xs:=[j0 p ls,e8 a,e8 b,.tup [j7 (List.zipWith (· + ·) f g),j7 (List.zipWith (· - ·) f g)]]) rfl d1) rfl)];rfl
 refine aq3 ?_ (key none);unfold bOr;cases Bo with
 |cut S C hS=>
  rw[ab4 (b:=true) (E6 (ar7 (x:=.tup [.str "cut",g8 S]) rfl rfl))];simp only[cx3,Bool.not_true,cr9,if_false];exact E6 (D9 (x:=.int 2) (y:=.int 2) rfl rfl rfl)
 |dbl f g hf hg=>
  rw[ab4 (b:=true) (E6 (ar7 (x:=.tup [.str "double",.tup [j7 (List.zipWith (· + ·) f g),j7 (List.zipWith (· - ·) f g)]]) rfl rfl))];simp only[cx3,Bool.not_true,cr9,if_false];exact E6 (D9 (x:=.int 2) (y:=.int 2) rfl rfl rfl)
theorem bH1(ns:List Int)(hl:ns.length<=63):aR0 [.scr ns]=some (.bl true):=by
 rw[aR0,n8 1 _ _ _ rfl]
 suffices h:aQ9 (l9 12 [.scr ns])=some (.ret (.bl true)) by rw[h];rfl
 have st:l9 12 [.scr ns]=[some (.scr ns),none,none,none,none,none,none,none,none,none,none,none]:=rfl;rw[st];have hcount:∃n:Nat,n<=4/\itR (gN az1 [(gC (.int 1)),(gN az0 [(gC (.int 4)),(gN D0 [(d0 0)])])]) [some (.scr ns),none,none,none,none,none,none,none,none,none,none,none]=some (u8 0 n):=by
  have e1:(gN az1 [(gC (.int 1)),(gN az0 [(gC (.int 4)),(gN D0 [(d0 0)])])]) [some (.scr ns),none,none,none,none,none,none,none,none,none,none,none]=some (.int (if(if(ns.length:Int)<4 then(ns.length:Int)else 4)>1 then(if(ns.length:Int)<4 then(ns.length:Int)else 4)else 1)):=rfl;have hb:(1:Int)<=(if(if(ns.length:Int)<4 then(ns.length:Int)else 4)>1 then(if(ns.length:Int)<4 then(ns.length:Int)else 4)else 1)/\(if(if(ns.length:Int)<4 then(ns.length:Int)else 4)>1 then(if(ns.length:Int)<4 then(ns.length:Int)else 4)else 1)<=4:=by
   split<;>split<;>omega
  generalize(if(if(ns.length:Int)<4 then(ns.length:Int)else 4)>1 then(if(ns.length:Int)<4 then(ns.length:Int)else 4)else(1:Int))=z at e1 hb;refine⟨z.toNat,by omega,?_⟩;unfold itR;rw[e1];show(if -(lim:Int)<=z/\z<=(lim:Int)then some (u8 0 z.toNat)else none)=_;have hL:(lim:Int)=1000000:=rfl;rw[cx8 (by omega)]
 obtain⟨n,hn,hit⟩:=hcount;have loop:=ap5 (st:=stN 1) (b:=bl7) (fun _ ρ=>∃x1 x2 x3 x4 x5 x6 x7 x8 x9 x10 x11,ρ=[some (.scr ns),x1,x2,x3,x4,x5,x6,x7,x8,x9,x10,x11]) (u8 0 n) 0 [some (.scr ns),none,none,none,none,none,none,none,none,none,none,none] ⟨_,_,_,_,_,_,_,_,_,_,_,rfl⟩ (fun i x hx ρ zz=>by
  obtain⟨x1,x2,x3,x4,x5,x6,x7,x8,x9,x10,x11,hρ⟩:=zz;subst hρ;obtain⟨j,hj,rfl⟩:∃j:Nat,j<4/\x=.int j:=by
   have :=cv9 hx;unfold u8 at this;obtain⟨a,ha,rfl⟩:=List.mem_map.mp this;exact⟨a,by have :=List.mem_range.mp ha;omega,by simp⟩
  obtain⟨y2,y3,y4,y5,y6,y7,y8,y9,y10,y11,h⟩:=bU9 hl hj x2 x3 x4 x5 x6 x7 x8 x9 x10 x11;exact⟨_,_,rfl,h,_,_,_,_,_,_,_,_,_,_,_,rfl⟩)
 obtain⟨ρ',h1,x1,x2,x3,x4,x5,x6,x7,x8,x9,x10,x11,h2⟩:=loop;show j6 (N0 (gLM [] (itR (gN az1 [(gC (.int 1)),(gN az0 [(gC (.int 4)),(gN D0 [(d0 0)])])]))) (stN 1) bl7) (m6 (gC (.bl true))) _=_;rw[l8 (ρ':=ρ') (by
  rw[sFor_ap,gLM];show Option.bind (itR _ [some (.scr ns),none,none,none,none,none,none,none,none,none,none,none]) _=_;rw[hit];exact h1),h2]
 rfl
end L3
namespace Sw
open PySem PySem.Spec PyProof.Rows L2 L3
noncomputable def o8(K:W.Frag)(x:Str)(i:Nat):Prop:=∃(f:Addr) (oc:Value) (od:Option Addr) (kV doc pm:Value) (an:Option Addr) (cdv ct:Value) (osl:Array (Option Value)),W.nsIn K mainGlobals x=some (some (.ref f))/\
 K.lookup f=some ⟨oc,od,.func (W.fnOf x x (ab3 (top i)) (A7 (top i)) (j4 (top i)) .none kV doc pm an cdv ct),osl⟩/\W.codeIn K cdv x=true
theorem mkF{K:W.Frag}{x:Str}{i:Nat}{f:Addr}{oc:Value}{od:Option Addr}{kV doc pm:Value}{an:Option Addr}{cdv ct:Value}{osl:Array (Option Value)}(a:W.nsIn K mainGlobals x=some (some (.ref f)))
  (b:K.lookup f=some ⟨oc,od,.func (W.fnOf x x (ab3 (top i)) (A7 (top i)) (j4 (top i)) .none kV doc pm an cdv ct),osl⟩) (c:W.codeIn K cdv x=true):o8 K x i:=⟨f,oc,od,kV,doc,pm,an,cdv,ct,osl,a,b,c⟩
noncomputable def aL6(K:W.Frag)(x:Str)(i:Nat)(P:Addr):Prop:=∃(f:Addr) (oc:Value) (od:Option Addr) (kV doc pm:Value) (an:Option Addr) (c:Addr) (ct:Value) (osl:Array (Option Value)),W.nsIn K mainGlobals x=some (some (.ref f))/\
 K.lookup f=some ⟨oc,od,.func (W.fnOf x x (ab3 (top i)) (A7 (top i)) (j4 (top i)) .none kV doc pm an (.ref c) ct),osl⟩/\W.codeIn K (.ref c) x=true/\W.codeHdIn K c P=true
theorem co6{K:W.Frag}{x:Str}{i:Nat}{P f:Addr}{oc:Value}{od:Option Addr}{kV doc pm:Value}{an:Option Addr}{c:Addr}{ct:Value}{osl:Array (Option Value)}(a:W.nsIn K mainGlobals x=some (some (.ref f)))
  (b:K.lookup f=some ⟨oc,od,.func (W.fnOf x x (ab3 (top i)) (A7 (top i)) (j4 (top i)) .none kV doc pm an (.ref c) ct),osl⟩) (d:W.codeIn K (.ref c) x=true) (e:W.codeHdIn K c P=true):aL6 K x i P:=⟨f,oc,od,kV,doc,pm,an,c,ct,osl,a,b,d,e⟩
theorem bf4{K:W.Frag}{f:Addr}{oc:Value}{od:Option Addr}{fd:FuncData}{osl:Array (Option Value)}(b:K.lookup f=some ⟨oc,od,.func fd,osl⟩):W.keepIn K (.ref f)=true:=by
 unfold W.keepIn;dsimp only;rw[b]
theorem r9{K:W.Frag}{h:Heap}{mg:Str->Option Value}{x:Str}{i:Nat}(X:K.In h)(G:h.Ns mainGlobals mg)(F:o8 K x i):∃f fd,FM K mg x i f fd:=by
 obtain⟨f,oc,od,kV,doc,pm,an,cdv,ct,osl,a,b,c⟩:=F;exact⟨f,_,⟨⟨⟨oc,od,kV,doc,pm,an,cdv,ct,osl,rfl,b,c⟩,bf4 b⟩,W.mg_of X G a⟩⟩
theorem bT7{K:W.Frag}{h:Heap}{mg:Str->Option Value}{x:Str}{i:Nat}{P:Addr}(X:K.In h)(G:h.Ns mainGlobals mg)(F:aL6 K x i P):∃f fd c,cg0 K x x (top i) f fd c/\mg x=some (.ref f)/\W.codeHdIn K c P=true:=by
 obtain⟨f,oc,od,kV,doc,pm,an,c,ct,osl,a,b,d,e⟩:=F;exact⟨f,_,c,⟨⟨oc,od,kV,doc,pm,an,ct,osl,rfl,b,d⟩,bf4 b⟩,W.mg_of X G a,e⟩
noncomputable def ab5(K:W.Frag)(x:Str)(i:Int):Prop:=∃t,W.nsIn K mainGlobals x=some (some (.int i t))
theorem mkN{K:W.Frag}{x:Str}{i:Int}{t:Tok}(a:W.nsIn K mainGlobals x=some (some (.int i t))):ab5 K x i:=⟨t,a⟩
noncomputable def aD8(K:W.Frag)(x:Str)(i j:Int):Prop:=∃a o t u n,W.nsIn K mainGlobals x=some (some (.ref a))/\K.lookup a=some o/\o.cls=.type "tuple"/\o.data=.seq #[.int i t,.int j u] n
theorem mkP{K:W.Frag}{x:Str}{i j:Int}{a:Addr}{od:Option Addr}{t u:Tok}{n:Nat}{sl:Array (Option Value)}(e:W.nsIn K mainGlobals x=some (some (.ref a)))(b:K.lookup a=some ⟨.type "tuple",od,.seq #[.int i t,.int j u] n,sl⟩):aD8 K x i j:=⟨a,_,t,u,n,e,b,rfl,rfl⟩
theorem bR0{K:W.Frag}{h:Heap}{mg:Str->Option Value}{x:Str}{i j:Int}(X:K.In h)(G:h.Ns mainGlobals mg)(F:aD8 K x i j):∃a,mg x=some (.ref a)/\∀G,Rep K G (.tup [.int i,.int j]) (.ref a):=by
 obtain⟨a,o,t,u,n,e1,e2,e3,e4⟩:=F;refine⟨a,W.mg_of X G e1,fun G=> ?_⟩;simp only[Rep];refine⟨a,[.int i,.int j],rfl,.inr ⟨o,_,n,e2,e3,e4,by show 2<=sizeLine;decide,.cons ⟨t,rfl⟩ (.cons ⟨u,rfl⟩ .nil)⟩,?_⟩;exact j5.cons (by simp[Rep]) (j5.cons (by simp[Rep]) j5.nil)
noncomputable def aL7(K:PySem.W.Frag)(x:Str)(b1 b2 b3:Bool):Prop:=∃D C1 C2 C3 W,PySem.W.nsIn K mainGlobals x=some (some (.ref D))/\PySem.W.nsIn K mainGlobals "BadNet"=some (some (.ref C1))/\PySem.W.nsIn K mainGlobals "BadFlow"=some (some (.ref C2))/\PySem.W.nsIn K mainGlobals "BadFloor"=some (some (.ref C3))/\PySem.W.nsIn K mainGlobals "WareError"=some (some (.ref W))/\
 PySem.W.excIn K D [.type "ValueError",.type "Exception",.type "BaseException",.type "object"] "ValueError.__new__"=true/\az8 K D/\PySem.W.kitOne K (.ref D) (.ref C1)=some b1/\PySem.W.kitOne K (.ref D) (.ref C2)=some b2/\PySem.W.kitOne K (.ref D) (.ref C3)=some b3/\PySem.W.kitOne K (.ref D) (.type "ValueError")=some true/\PySem.W.exmOne K (.ref D) (.ref W)=some true
theorem mkE{K:PySem.W.Frag}{x:Str}{b1 b2 b3:Bool}{D C1 C2 C3 W:Addr}(a1:PySem.W.nsIn K mainGlobals x=some (some (.ref D)))(a2:PySem.W.nsIn K mainGlobals "BadNet"=some (some (.ref C1)))(a3:PySem.W.nsIn K mainGlobals "BadFlow"=some (some (.ref C2)))(a4:PySem.W.nsIn K mainGlobals "BadFloor"=some (some (.ref C3)))(a5:PySem.W.nsIn K mainGlobals "WareError"=some (some (.ref W)))
  (a6:PySem.W.excIn K D [.type "ValueError",.type "Exception",.type "BaseException",.type "object"] "ValueError.__new__"=true) (l1:PySem.W.findIn K (.ref D) "__getattribute__"=some (some (.builtin "BaseException.__getattribute__"))) (l2:PySem.W.findIn K (.ref D) "__getattr__"=some none)
  (l3:PySem.W.findObj K D none "__class__"=some (.bind (.builtin "getset_descriptor.__get__") (.builtin "object.__class__"))) (l4:PySem.W.mroIn K D (.type "object")=some true) (l5:PySem.W.mroIn K D (.type "BaseException")=some true) (l6:(PySem.W.clsIn K D).isSome=true)
  (a7:PySem.W.kitOne K (.ref D) (.ref C1)=some b1) (a8:PySem.W.kitOne K (.ref D) (.ref C2)=some b2) (a9:PySem.W.kitOne K (.ref D) (.ref C3)=some b3) (a10:PySem.W.kitOne K (.ref D) (.type "ValueError")=some true) (a11:PySem.W.exmOne K (.ref D) (.ref W)=some true):aL7 K x b1 b2 b3:=
 ⟨D,C1,C2,C3,W,a1,a2,a3,a4,a5,a6,⟨l1,l2,l3,l4,l5,l6⟩,a7,a8,a9,a10,a11⟩
structure ch9(K:W.Frag):Prop where
 ValueError:W.nsIn K mainGlobals "ValueError"=some none
 abs:W.nsIn K mainGlobals "abs"=some none
 all:W.nsIn K mainGlobals "all"=some none
 any:W.nsIn K mainGlobals "any"=some none
 bool:W.nsIn K mainGlobals "bool"=some none
 enumerate:W.nsIn K mainGlobals "enumerate"=some none
 int:W.nsIn K mainGlobals "int"=some none
 isinstance:W.nsIn K mainGlobals "isinstance"=some none
 len:W.nsIn K mainGlobals "len"=some none
 list:W.nsIn K mainGlobals "list"=some none
 max:W.nsIn K mainGlobals "max"=some none
 min:W.nsIn K mainGlobals "min"=some none
 range:W.nsIn K mainGlobals "range"=some none
 sorted:W.nsIn K mainGlobals "sorted"=some none
 sum:W.nsIn K mainGlobals "sum"=some none
 tuple:W.nsIn K mainGlobals "tuple"=some none
 zip:W.nsIn K mainGlobals "zip"=some none
structure ch6(K:W.Frag):Prop where
 LEAST_PLACES:ab5 K "LEAST_PLACES" 2
 LEAST_ROOM:ab5 K "LEAST_ROOM" 1
 LEAST_WANTED:ab5 K "LEAST_WANTED" 0
 MOST_LINES:ab5 K "MOST_LINES" 16
 MOST_PLACES:ab5 K "MOST_PLACES" 8
 MOST_ROOM:ab5 K "MOST_ROOM" 20
 MOST_WANTED:ab5 K "MOST_WANTED" 200
 NOUGHT:aD8 K "NOUGHT" 0 1
structure FnK(K:W.Frag):Prop where
 is_whole:o8 K "is_whole" 7
 common_divisor:o8 K "common_divisor" 8
 is_fraction:o8 K "is_fraction" 9
 reduced:o8 K "reduced" 10
 plus:o8 K "plus" 11
 minus:o8 K "minus" 12
 is_more:o8 K "is_more" 13
 is_pair:o8 K "is_pair" 15
 is_triple:o8 K "is_triple" 16
 is_within:o8 K "is_within" 17
 is_trip:o8 K "is_trip" 18
 are_rising:o8 K "are_rising" 19
 gain:o8 K "gain" 20
 is_line:o8 K "is_line" 34
 is_ware:o8 K "is_ware" 35
 is_floor:o8 K "is_floor" 33
 supplies:o8 K "supplies" 36
 first_above_nought:o8 K "first_above_nought" 38
 spare:o8 K "spare" 40
 explored:o8 K "explored" 39
 route_to:o8 K "route_to" 41
 sent:o8 K "sent" 42
 whole_flow:o8 K "whole_flow" 37
 are_fractions:o8 K "are_fractions" 44
 is_double:o8 K "is_double" 43
 wanted_gain:o8 K "wanted_gain" 46
 brings_wanted:o8 K "brings_wanted" 45
 without_turn:o8 K "without_turn" 48
 has_room_for_both:o8 K "has_room_for_both" 47
 is_cut:o8 K "is_cut" 49
 parted_sum:o8 K "parted_sum" 50
 need_floor:o8 K "need_floor" 32
 both_go:o8 K "both_go" 29
 double_goes:o8 K "double_goes" 30
 cut_bars:o8 K "cut_bars" 31
 w_cell:o8 K "_law_cell" 52
 w_drawn:o8 K "_law_drawn" 53
 w_made:o8 K "_law_made" 56
 w_plus:o8 K "_law_plus" 57
 w_times:o8 K "_law_times" 58
 w_under:o8 K "_law_under" 60
 w_floor:o8 K "_law_floor" 62
 w_ware:o8 K "_law_ware" 63
 w_left:o8 K "_law_left" 64
 w_goes:o8 K "_law_goes" 65
 w_bars:o8 K "_law_bars" 66
 w_cuts:o8 K "_law_cuts" 67
 w_looked_right:o8 K "_law_looked_right" 68
 w_word:o8 K "_law_word" 54
 w_told:o8 K "_law_told" 55
 law:aL6 K "law" 69 400
theorem fin{P:Program}{w:World}{K:W.Frag}{h:Heap}{mg:Str->Option Value}{fa:Addr}(X:K.In h)(G:h.Ns mainGlobals mg)(hmg:mg "law"=some (.ref fa))(hB:ch9 K)(hC:ch6 K)(E1:aL7 K "BadFloor" false false true)(hF:FnK K):
  ∃fd:FuncData,(∀(s:Shared) (u:Value),BindsTo s fd ⟨[u],[]⟩ [("_law_script",u)])/\∀base:Heap,K.In base->base.Ns mainGlobals mg->BM mg base->V9 P w K mg base CX0 12 fa fd ["_law_script"] (spT K 1 aR0):=by
 have B:Blt mg:=⟨W.mg_none_of X G hB.ValueError,W.mg_none_of X G hB.abs,W.mg_none_of X G hB.all,W.mg_none_of X G hB.any,W.mg_none_of X G hB.bool,W.mg_none_of X G hB.enumerate,W.mg_none_of X G hB.int,W.mg_none_of X G hB.isinstance,W.mg_none_of X G hB.len,W.mg_none_of X G hB.list,W.mg_none_of X G hB.max,W.mg_none_of X G hB.min,W.mg_none_of X G hB.range,W.mg_none_of X G hB.sorted,W.mg_none_of X G hB.sum,W.mg_none_of X G hB.tuple,W.mg_none_of X G hB.zip⟩
 have C:Cst K mg:=⟨(let⟨t,e⟩:=hC.LEAST_PLACES;⟨t,W.mg_of X G e⟩),(let⟨t,e⟩:=hC.LEAST_ROOM;⟨t,W.mg_of X G e⟩),(let⟨t,e⟩:=hC.LEAST_WANTED;⟨t,W.mg_of X G e⟩),(let⟨t,e⟩:=hC.MOST_LINES;⟨t,W.mg_of X G e⟩),(let⟨t,e⟩:=hC.MOST_PLACES;⟨t,W.mg_of X G e⟩),(let⟨t,e⟩:=hC.MOST_ROOM;⟨t,W.mg_of X G e⟩),(let⟨t,e⟩:=hC.MOST_WANTED;⟨t,W.mg_of X G e⟩),bR0 X G hC.NOUGHT⟩
 obtain⟨D1,C11,C12,C13,W1,x1,x2,x3,x4,x5,x6,x7,x8,x9,x10,x11,x12⟩:=E1;have m1:=W.mg_of X G x1;have Z:ch5 K mg:=⟨⟨D1,m1,x6⟩⟩
 have K1:bo4 K mg D1 false false true true:=⟨x7,⟨C11,W.mg_of X G x2,x8⟩,⟨C12,W.mg_of X G x3,x9⟩,⟨C13,W.mg_of X G x4,x10⟩,x11⟩
 have hcls:∀c∈as4,∃D,mg c=some (.ref D)/\wdK K mg W1 D c:=fun c hc=>by
  rcases List.mem_cons.mp hc with rfl|hd
  ·exact⟨D1,m1,⟨rfl,K1⟩,x12⟩
  ·exact absurd hd (by simp)
 obtain⟨_,_,U_is_whole⟩:=r9 X G hF.is_whole;obtain⟨_,_,U_common_divisor⟩:=r9 X G hF.common_divisor;obtain⟨_,_,U_is_fraction⟩:=r9 X G hF.is_fraction;obtain⟨_,_,U_reduced⟩:=r9 X G hF.reduced;obtain⟨_,_,U_plus⟩:=r9 X G hF.plus;obtain⟨_,_,U_minus⟩:=r9 X G hF.minus;obtain⟨_,_,U_is_more⟩:=r9 X G hF.is_more;obtain⟨_,_,U_is_pair⟩:=r9 X G hF.is_pair;obtain⟨_,_,U_is_triple⟩:=r9 X G hF.is_triple;obtain⟨_,_,U_is_within⟩:=r9 X G hF.is_within;obtain⟨_,_,U_is_trip⟩:=r9 X G hF.is_trip;obtain⟨_,_,U_are_rising⟩:=r9 X G hF.are_rising;obtain⟨_,_,U_gain⟩:=r9 X G hF.gain;obtain⟨_,_,U_is_line⟩:=r9 X G hF.is_line;obtain⟨_,_,U_is_ware⟩:=r9 X G hF.is_ware;obtain⟨_,_,U_is_floor⟩:=r9 X G hF.is_floor;obtain⟨_,_,U_supplies⟩:=r9 X G hF.supplies;obtain⟨_,_,U_first_above_nought⟩:=r9 X G hF.first_above_nought;obtain⟨_,_,U_spare⟩:=r9 X G hF.spare;obtain⟨_,_,U_explored⟩:=r9 X G hF.explored;obtain⟨_,_,U_route_to⟩:=r9 X G hF.route_to;obtain⟨_,_,U_sent⟩:=r9 X G hF.sent;obtain⟨_,_,U_whole_flow⟩:=r9 X G hF.whole_flow;obtain⟨_,_,U_are_fractions⟩:=r9 X G hF.are_fractions;obtain⟨_,_,U_is_double⟩:=r9 X G hF.is_double;obtain⟨_,_,U_wanted_gain⟩:=r9 X G hF.wanted_gain;obtain⟨_,_,U_brings_wanted⟩:=r9 X G hF.brings_wanted;obtain⟨_,_,U_without_turn⟩:=r9 X G hF.without_turn;obtain⟨_,_,U_has_room_for_both⟩:=r9 X G hF.has_room_for_both;obtain⟨_,_,U_is_cut⟩:=r9 X G hF.is_cut;obtain⟨_,_,U_parted_sum⟩:=r9 X G hF.parted_sum;obtain⟨_,_,U_need_floor⟩:=r9 X G hF.need_floor;obtain⟨_,_,U_both_go⟩:=r9 X G hF.both_go;obtain⟨_,_,U_double_goes⟩:=r9 X G hF.double_goes;obtain⟨_,_,U_cut_bars⟩:=r9 X G hF.cut_bars;obtain⟨_,_,U_w_cell⟩:=r9 X G hF.w_cell;obtain⟨_,_,U_w_drawn⟩:=r9 X G hF.w_drawn;obtain⟨_,_,U_w_made⟩:=r9 X G hF.w_made;obtain⟨_,_,U_w_plus⟩:=r9 X G hF.w_plus;obtain⟨_,_,U_w_times⟩:=r9 X G hF.w_times;obtain⟨_,_,U_w_under⟩:=r9 X G hF.w_under;obtain⟨_,_,U_w_floor⟩:=r9 X G hF.w_floor;obtain⟨_,_,U_w_ware⟩:=r9 X G hF.w_ware;obtain⟨_,_,U_w_left⟩:=r9 X G hF.w_left;obtain⟨_,_,U_w_goes⟩:=r9 X G hF.w_goes;obtain⟨_,_,U_w_bars⟩:=r9 X G hF.w_bars;obtain⟨_,_,U_w_cuts⟩:=r9 X G hF.w_cuts;obtain⟨_,_,U_w_looked_right⟩:=r9 X G hF.w_looked_right;obtain⟨_,_,U_w_word⟩:=r9 X G hF.w_word;obtain⟨_,_,U_w_told⟩:=r9 X G hF.w_told;obtain⟨f_law,fd_law,c_law,U_law,n_law,h_law⟩:=bT7 X G hF.law;rw[n_law]at hmg;cases hmg;refine⟨fd_law,fun s u=> ?_,fun base kb nb bm=> ?_⟩
 ·obtain⟨oc,od,kV,doc,pm,an,ct,osl,rfl,_⟩:=U_law.ex;exact .of_eq rfl
 ·have Te:aI2 P w K mg base "_law_told" (wdK K mg W1):=bq0 B U_w_told.F U_w_told.m U_w_word.F U_w_word.m (W.mg_of X G x5) hcls bm;have g_is_whole:Cal P w K mg base "is_whole" 2 1 L3.N1:=bb6 B U_is_whole;have g_common_divisor:Cal P w K mg base "common_divisor" 2 2 L3.F0:=aA0 U_common_divisor;have g_is_fraction:Cal P w K mg base "is_fraction" 3 1 L3.B8:=aJ9 B g_is_whole g_common_divisor U_is_fraction;have g_reduced:Cal P w K mg base "reduced" 3 2 L3.K4:=bk4 g_common_divisor U_reduced;have g_plus:Cal P w K mg base "plus" 4 2 L3.P1:=bR4 g_reduced U_plus;have g_minus:Cal P w K mg base "minus" 5 2 L3.ab6:=bG1 g_plus U_minus;have g_is_more:Cal P w K mg base "is_more" 2 2 L3.X5:=bk8 U_is_more;have g_is_pair:Cal P w K mg base "is_pair" 2 1 L3.K6:=bk7 B U_is_pair;have g_is_triple:Cal P w K mg base "is_triple" 2 1 L3.V4:=aV5 B U_is_triple;have g_is_within:Cal P w K mg base "is_within" 3 3 L3.B6:=aV4 g_is_whole U_is_within;have g_is_trip:Cal P w K mg base "is_trip" 4 4 L3.C4:=bk6 g_is_triple g_is_within U_is_trip;have g_are_rising:Cal P w K mg base "are_rising" 2 1 L3.K0:=aP7 B U_are_rising;have g_gain:Cal P w K mg base "gain" 6 3 L3.ak8:=bR5 B C g_plus g_minus U_gain;have g_is_line:Cal P w K mg base "is_line" 5 2 L3.M3:=bk9 C g_is_trip U_is_line;have g_is_ware:Cal P w K mg base "is_ware" 5 2 L3.K5:=bk5 C g_is_trip U_is_ware;have g_is_floor:Cal P w K mg base "is_floor" 6 1 L3.J2:=bb7 B C g_is_pair g_is_within g_is_line g_are_rising U_is_floor;have g_supplies:ba5 P w K mg base "supplies" 2 3 L3.F6:=bb4 B U_supplies;have g_first_above_nought:Cal P w K mg base "first_above_nought" 2 1 L3.u0:=ao9 B U_first_above_nought;have g_spare:Cal P w K mg base "spare" 2 3 L3.N8:=bG0 U_spare;have g_explored:Cal P w K mg base "explored" 3 3 L3.P2:=bb8 B g_spare U_explored;have g_route_to:Cal P w K mg base "route_to" 2 2 L3.U5:=bb5 U_route_to;have g_sent:Cal P w K mg base "sent" 2 4 L3.ag2:=bR3 B U_sent;have g_whole_flow:ba6 P w K mg base "whole_flow" 4 2 L3.C0:=aP4 B g_first_above_nought g_explored g_route_to g_spare g_sent U_whole_flow;have g_are_fractions:Cal P w K mg base "are_fractions" 4 2 L3.A3:=aC5 B g_is_fraction U_are_fractions;have g_is_double:Cal P w K mg base "is_double" 5 2 L3.D5:=aV6 B g_is_pair g_are_fractions U_is_double;have g_wanted_gain:Cal P w K mg base "wanted_gain" 2 2 L3.M5:=aJ8 C U_wanted_gain;have g_brings_wanted:Cal P w K mg base "brings_wanted" 7 3 L3.E5:=aC4 B g_gain g_wanted_gain U_brings_wanted;have g_without_turn:Cal P w K mg base "without_turn" 2 1 L3.J4:=aG2 B U_without_turn;have g_has_room_for_both:Cal P w K mg base "has_room_for_both" 5 2 L3.D7:=ar0 B g_plus g_without_turn g_is_more U_has_room_for_both;have g_is_cut:Cal P w K mg base "is_cut" 4 2 L3.J9:=bv1 B g_is_within U_is_cut;have g_parted_sum:Cal P w K mg base "parted_sum" 2 2 L3.J8:=aP5 B U_parted_sum;have g_need_floor:Q1 P w K mg base "need_floor" 7 3 L3.u7:=aP6 Z g_is_floor g_is_ware U_need_floor;have g_both_go:Q1 P w K mg base "both_go" 8 3 L3.C9:=bl0 B g_need_floor g_whole_flow g_supplies g_reduced U_both_go;have g_double_goes:Q1 P w K mg base "double_goes" 8 4 L3.t8:=aK0 g_need_floor g_is_double g_brings_wanted g_has_room_for_both U_double_goes;have g_cut_bars:Q1 P w K mg base "cut_bars" 8 4 L3.v9:=bb9 g_need_floor g_is_cut g_parted_sum U_cut_bars;have g_w_cell:Cal P w K mg base "_law_cell" 2 2 L3.aa5:=bu9 B U_w_cell;have g_w_drawn:Cal P w K mg base "_law_drawn" 2 2 L3.E8:=bk3 U_w_drawn;have g_w_made:Cal P w K mg base "_law_made" 2 2 L3.X3:=bu5 B U_w_made;have g_w_plus:Cal P w K mg base "_law_plus" 3 2 L3.C8:=bu4 g_w_made U_w_plus;have g_w_times:Cal P w K mg base "_law_times" 3 2 L3.N3:=bk1 g_w_made U_w_times;have g_w_under:Cal P w K mg base "_law_under" 2 2 L3.S6:=bk0 U_w_under;have g_w_floor:Cal P w K mg base "_law_floor" 3 1 L3.X4:=bk2 B g_w_drawn U_w_floor;have g_w_ware:Cal P w K mg base "_law_ware" 2 2 L3.U4:=bu3 U_w_ware;have g_w_left:Cal P w K mg base "_law_left" 4 3 L3.aa4:=bu6 B g_w_plus g_w_times U_w_left;have g_w_goes:Cal P w K mg base "_law_goes" 5 4 L3.J7:=bu7 B g_w_left g_w_under g_w_plus U_w_goes;have g_w_bars:Cal P w K mg base "_law_bars" 2 4 L3.E9:=bv0 B U_w_bars;have g_w_cuts:Cal P w K mg base "_law_cuts" 2 1 L3.M6:=bu8 B U_w_cuts;have g_w_looked_right:Cal P w K mg base "_law_looked_right" 9 4 L3.E7:=az9 B g_both_go g_w_cuts g_w_drawn g_cut_bars g_w_bars g_w_plus g_double_goes g_w_goes U_w_looked_right;exact cp7 (k:=11) (N:=["_law_script","_law_k","_law_more","_law_floor_here","_law_one","_law_other","_law_told_here","_law_barred","_law_bad","_law_none","_law_odd","_law_some"]) (ps:=["_law_script"]) (g:=aQ9) U_law Q5 (by decide) fun A outer s H E hr=>cf3 B Te h_law g_w_drawn g_w_cell g_w_floor g_w_ware g_both_go g_w_cuts g_w_bars g_cut_bars g_w_goes g_double_goes g_w_looked_right hr
end Sw
theorem PySem.W.Fast.tw16999760819597896532:True:=trivial
theorem PySem.W.Fast.tw10550983781063509250:True:=trivial
theorem PySem.W.Fast.tw16832715829255885160:True:=trivial
theorem PySem.W.Fast.tw16896939608731561383:True:=trivial
theorem PySem.W.Fast.tw9835038614918412183:True:=trivial
theorem PySem.W.Fast.tw2868987854878790430:True:=trivial
theorem PySem.W.Fast.tw15191477507371508526:True:=trivial
theorem PySem.W.Fast.tw13191872864365008972:True:=trivial
theorem PySem.W.Fast.tw3563214581233980804:True:=trivial
theorem PySem.W.Fast.tw17589206983783821943:True:=trivial
theorem PySem.W.Fast.tw2995618934664098827:True:=trivial
theorem PySem.W.Fast.tw4231279466343654878:True:=trivial
theorem PySem.W.Fast.tw12147382722800729544:True:=trivial
theorem PySem.W.Fast.tw6578962249267659874:True:=trivial
theorem PySem.W.Fast.tw556910464862402252:True:=trivial
theorem PySem.W.Fast.tw15759479109275187864:True:=trivial
theorem PySem.W.Fast.tw17972001618678067536:True:=trivial
theorem PySem.W.Fast.tw11975724484624504065:True:=trivial
theorem PySem.W.Fast.tw5002075793724947945:True:=trivial
theorem PySem.W.Fast.tw10899932548119117605:True:=trivial
theorem PySem.W.Fast.tw3553979162533892427:True:=trivial
theorem PySem.W.Fast.tw8624371851359225335:True:=trivial
theorem PySem.W.Fast.tw14885470324467097490:True:=trivial
theorem PySem.W.Fast.tw5124454353005593751:True:=trivial
open PySem PySem.W PyProof.Rows
set_option maxRecDepth 100000 in
set_option maxHeartbeats 0 in
theorem PySem.Challenge.cw_sharedways_k40_whole_two_on_lines_holds : PySem.Challenge.rw_sharedways_k40_whole_two_on_lines.Holds := by
 w_on;o_law;k_head;(case hw=>w_witness2)
 k_fill
 refine L3.ci0 (l:=PySem.Challenge.rw_sharedways_k40_whole_two_on_lines) (n:=63) (k:=12) (x:="_law_script") (FL:=L3.aR0) rfl (by decide) rfl ⟨rfl,by decide,by decide⟩ (fun w h Y=>W.km_in_of Y) ?F fun ns hl=>L3.bH1 ns hl
 case F=>
  intro w mg fa h KX G hmg Y;have hT:=W.km_tabs_of Y;have hnt:W.noTabs (L2.KOf KX)=true:=by dsimp only[L2.KOf];kernel_rfl
  have hB:Sw.ch9 (L2.KOf KX):=by
   dsimp only[L2.KOf];refine' ⟨?b0,?b1,?b2,?b3,?b4,?b5,?b6,?b7,?b8,?b9,?b10,?b11,?b12,?b13,?b14,?b15,?b16⟩
   iterate 17 k_is
  have hC:Sw.ch6 (L2.KOf KX):=by
   dsimp only[L2.KOf];refine' ⟨?c0,?c1,?c2,?c3,?c4,?c5,?c6,?c7⟩
   (case c0=>refine' Sw.mkN ?a;(case a=>k_is))
   (case c1=>refine' Sw.mkN ?a;(case a=>k_is))
   (case c2=>refine' Sw.mkN ?a;(case a=>k_is))
   (case c3=>refine' Sw.mkN ?a;(case a=>k_is))
   (case c4=>refine' Sw.mkN ?a;(case a=>k_is))
   (case c5=>refine' Sw.mkN ?a;(case a=>k_is))
   (case c6=>refine' Sw.mkN ?a;(case a=>k_is))
   (case c7=>refine' Sw.mkP ?a ?b;(case a=>k_is);(case b=>k_is))
  have E1:Sw.aL7 (L2.KOf KX) "BadFloor" false false true:=by dsimp only[L2.KOf];(refine' Sw.mkE ?a1 ?a2 ?a3 ?a4 ?a5 ?a6 ?l1 ?l2 ?l3 ?l4 ?l5 ?l6 ?a7 ?a8 ?a9 ?a10 ?a11;(case a1=>k_is);(case a2=>k_is);(case a3=>k_is);(case a4=>k_is);(case a5=>k_is);(case a6=>kernel_rfl);(case l1=>k_is);(case l2=>k_is);(case l3=>kernel_rfl);(case l4=>k_is);(case l5=>k_is);(case l6=>kernel_rfl);(case a7=>kernel_rfl);(case a8=>kernel_rfl);(case a9=>kernel_rfl);(case a10=>kernel_rfl);(case a11=>kernel_rfl))
  have hF:Sw.FnK (L2.KOf KX):=by
   dsimp only[L2.KOf];refine' ⟨?f0,?f1,?f2,?f3,?f4,?f5,?f6,?f7,?f8,?f9,?f10,?f11,?f12,?f13,?f14,?f15,?f16,?f17,?f18,?f19,?f20,?f21,?f22,?f23,?f24,?f25,?f26,?f27,?f28,?f29,?f30,?f31,?f32,?f33,?f34,?f35,?f36,?f37,?f38,?f39,?f40,?f41,?f42,?f43,?f44,?f45,?f46,?f47,?f48,?f49,?t0⟩
   iterate 50 (refine' Sw.mkF ?a ?b ?c;(case a=>k_is);(case b=>k_is);(case c=>k_is))
   (case t0=>(refine' Sw.co6 ?a ?b ?d ?e;(case a=>k_is);(case b=>k_is);(case d=>k_is);(case e=>kernel_rfl)))
  have tab:∀p∈L3.Z2,h.get? p.1=some (W.tabObj #[]):=fun p hp=>hT p.1 (by
   rcases List.mem_cons.mp hp with rfl|hr
   ·exact cv8
   ·exact absurd hr (by simp))
  have tabc:∀p∈L3.Z2,∃c,W.CodeHd h c p.1:=fun p hp=>by
   rcases List.mem_cons.mp hp with rfl|hr
   ·obtain⟨_,_,_,_,_,_,_,c,_,_,_,_,_,e⟩:=hF.law;exact⟨c,W.codeHd_of_K KX e⟩
   ·exact absurd hr (by simp)
  exact⟨hnt,tab,tabc,Sw.fin KX G hmg hB hC E1 hF⟩
