import PyProof.Rows.All
import Wide.All
import OpenK.AllK
import Wide.FinOn
import Lean
import PyProof.EqAt
import PyProof.EqKinds
import PyProof.TupleCall
import PySem.Str
import PySem.Builtin.Int.W1All
import PyProof.NeKinds
import PyProof.ZipIter
import PyProof.SumWalkG
import PyProof.MinMaxWalk
import PyProof.WalksMore
import PyProof.SeqI3
import PyProof.WalkInts
import PyProof.Rows.CallKwBuiltin
import PyProof.Rows.Tup
import PyProof.CollectIter
import PyProof.EnumMake
import PyProof.TupleOfSeq
import PyProof.ListNew
import PyProof.ReprLoop
import PyProof.StationsW
import PyProof.ExcClass3
import PyProof.Rows.CatchBare
import OpenK.KOwn
import KE.KIsAll
import PyProof.NsDelKeeps
import PyProof.RulesAs
import PyProof.ExcArgsOwn
import PyProof.ListRange
import KE.RegKIsAll
import KE.KRevIter
import PyProof.Rows.SortRuns
import KE.KSortTup
import PyProof.DictWalks
import KE.KDictList
import PyProof.ExcBaseAll.ValueError
import PySem.Challenge.RW_hourhaul_k40_plans_of_rounds
set_option Elab.async false
set_option linter.all false
set_option maxRecDepth 100000
set_option genSizeOf false
set_option compiler.extract_closed false
set_option bootstrap.genMatcherCode false
section
namespace L2
open PySem PySem.Spec PyProof.Rows
noncomputable abbrev Key:=Sum Int Str
noncomputable def pL:Key->Value->Bool|.inl k,v=>Value.isInt k v|.inr x,v=>Value.isStrOf x v
noncomputable def aaX(w:World):Key->Int|.inl k=>hashInt k|.inr x=>hashStr w x
theorem bO:∀{k:Key}{v:Value},pL k v=true->(∃i t,k=Sum.inl i/\v=Value.int i t)\/(∃x t,k=Sum.inr x/\v=Value.str x t)|.inl i,v,h=>by obtain⟨t,e⟩:=Value.isInt_shape (k:=i) (v:=v) h;exact .inl ⟨i,t,rfl,e⟩|.inr x,v,h=>by obtain⟨t,e⟩:=Value.isStrOf_shape (x:=x) (v:=v) h;exact .inr ⟨x,t,rfl,e⟩
theorem CG(i:Int)(t:Tok):pL (.inl i) (.int i t)=true:=by simp[pL,Value.isInt]
theorem CT(x:Str)(t:Tok):pL (.inr x) (.str x t)=true:=by simp[pL,Value.isStrOf]
theorem RL(a b:Int):decide ((Sum.inl a:Key)=Sum.inl b)=(a==b):=by
 by_cases e:a=b;.subst e;simp
 .have h:¬(Sum.inl a:Key)=Sum.inl b:=fun q=>e (Sum.inl.inj q);rw[decide_eq_false h];exact(beq_eq_false_iff_ne.mpr e).symm
theorem O6(a b:Str):decide ((Sum.inr a:Key)=Sum.inr b)=decide (a=b):=by
 by_cases e:a=b;.subst e;simp
 .have h:¬(Sum.inr a:Key)=Sum.inr b:=fun q=>e (Sum.inr.inj q);rw[decide_eq_false h,decide_eq_false e]
theorem R7(a:Int)(b:Str):decide ((Sum.inl a:Key)=Sum.inr b)=false:=decide_eq_false (fun q=>nomatch q)
theorem Rw(a:Str)(b:Int):decide ((Sum.inr a:Key)=Sum.inl b)=false:=decide_eq_false (fun q=>nomatch q)
noncomputable def bU(prog:Program)(w:World):PySem.KeyKind prog w Key where
 is:=pL;hash:=aaX w;inj:=fun v a b ha hb=>by
  rcases bO ha with⟨i,t,rfl,rfl⟩|⟨x,t,rfl,rfl⟩
  . rcases bO hb with⟨j,u,rfl,e⟩|⟨y,u,rfl,e⟩;.injection e with e1 _;rw[e1]
    .exact nomatch e
  . rcases bO hb with⟨j,u,rfl,e⟩|⟨y,u,rfl,e⟩;.exact nomatch e
    .injection e with e1 _;rw[e1]
 byValue:=fun k v h=>by rcases bO h with⟨i,t,rfl,rfl⟩|⟨x,t,rfl,rfl⟩<;>rfl
 pyHash:=fun hv h=>by
  rcases bO hv with⟨i,t,rfl,rfl⟩|⟨x,t,rfl,rfl⟩;.exact wpAny_pyHash_int h
  .exact wpAny_pyHash_str h
 eqBool:=fun hu hv h=>by
  rcases bO hu with⟨i,t,rfl,rfl⟩|⟨x,t,rfl,rfl⟩
  . rcases bO hv with⟨j,u,rfl,rfl⟩|⟨y,u,rfl,rfl⟩;.rw[RL]at h;exact wpAny_eqBool_int h
    .rw[R7]at h;exact SeqAt.EqAt.int_str i t y u _ _ _ _ h
  . rcases bO hv with⟨j,u,rfl,rfl⟩|⟨y,u,rfl,rfl⟩;.rw[Rw]at h;exact SeqAt.EqAt.str_int x t j u _ _ _ _ h
    .rw[O6]at h;exact wpAny_eqBool_str h
 «strs»:=fun k x t v h=>by
  rcases bO h with⟨i,u,rfl,e⟩|⟨y,u,rfl,e⟩;.exact nomatch e
  .injection e with e1 _;subst e1;cases v<;>rfl
theorem vC(prog:Program)(w:World)(i:Int)(t:Tok):(bU prog w).is (.inl i) (.int i t)=true:=CG i t
theorem wk(prog:Program)(w:World)(x:Str)(t:Tok):(bU prog w).is (.inr x) (.str x t)=true:=CT x t
end L2
namespace L2
open PySem PySem.Spec PyProof.Rows
inductive V where|non|bl(b:Bool)|int(i:Int)|str(x:Str)|byt(b:Array UInt8)|flt(b:UInt64)|ref(a:Addr)|ty(n:String)deriving DecidableEq
noncomputable def RelV:V->Value->Prop|.non,u=>u=Value.none|.bl b,u=>u=Value.bool b|.int i,u=>∃t,u=Value.int i t|.str x,u=>∃t,u=Value.str x t|.byt b,u=>∃t,u=Value.bytes b t|.flt b,u=>∃t,u=Value.float b t|.ref a,u=>u=Value.ref a|.ty n,u=>u=Value.type n
noncomputable abbrev Vals:List V->List Value->Prop:=Paired RelV
theorem Vals.length{xs:List V}{us:List Value}(r:Vals xs us):xs.length=us.length:=Paired.length r
theorem Vals.get:∀{xs:List V}{us:List Value}{i:Nat}{x:V},Vals xs us->xs[i]?=some x->∃u,us[i]?=some u/\RelV x u|_,_,_,_,.nil,e=>by simp at e|_,_,0,_,.cons r _,e=>by simp at e;subst e;exact⟨_,rfl,r⟩|_,_,i+1,x,.cons _ t,e=>by obtain⟨u,h1,h2⟩:=Vals.get (i:=i) (x:=x) t (by simpa using e);exact⟨u,by simpa using h1,h2⟩
theorem Vals.set{x:V}{u:Value}(r:RelV x u):∀{xs:List V}{us:List Value}(i:Nat),Vals xs us->Vals (xs.set i x) (us.set i u)|_,_,_,.nil=>.nil|_,_,0,.cons _ t=>.cons r t|_,_,i+1,.cons q t=>.cons q (Vals.set r i t)
theorem Vals.append:∀{xs ys:List V}{us ws:List Value},Vals xs us->Vals ys ws->Vals (xs++ys) (us++ws)|_,_,_,_,.nil,s=>s|_,_,_,_,.cons r t,s=>.cons r (Vals.append t s)
theorem Vals.take:∀{xs:List V}{us:List Value}(n:Nat),Vals xs us->Vals (xs.take n) (us.take n)|_,_,0,_=>.nil|_,_,_+1,.nil=>.nil|_,_,n+1,.cons r t=>.cons r (Vals.take n t)
theorem Vals.drop:∀{xs:List V}{us:List Value}(n:Nat),Vals xs us->Vals (xs.drop n) (us.drop n)|_,_,0,r=>r|_,_,_+1,.nil=>.nil|_,_,n+1,.cons _ t=>Vals.drop n t
noncomputable def nZ:Option V->Option Value->Prop|some v,some u=>RelV v u|none,none=>True|_,_=>False
noncomputable def KV{κ:Type}:List (κ×V)->List (κ×Value)->Prop:=Paired fun(p:κ×V)(q:κ×Value)=>p.1=q.1/\RelV p.2 q.2
noncomputable def kV:Key->V|.inl i=>.int i|.inr x=>.str x
inductive HO where/--a list -/|lst(xs:List V)/--a tuple (never changes) -/|tup(xs:List V)/--a dict whose keys are ints and texts;one whose keys are tuples of ints and texts (the empty one is both) -/|dK(kvs:List (Key×V))|dT(kvs:List (List Key×V))/--a set of ints: its members,its size -/|set(S:Int->Bool)(n:Nat)/--an instance of the class at C,its dict at dx,its attributes -/|ins(C dx:Addr)(fs:List (Str×V))/--the dict of the instance at x -/|own(x:Addr)/--the dict of an exception -/|xd(fs:List (Str×V))/--a bound method,f of x -/|met(f x:Addr)/--a range object lo,lo+1,.. below hi -/|qW(lo hi:Int)/--a thing that is known to the object (the script;a dict while a loop walks it): read,never written while it is so -/|fW(o:Obj)(u:HO)/--a code object's table -/|Td(ps:Array Value)/--any other thing,by what is true of its one object (a def of one's own: SetO a S n:=HO.ext fun h=>..) -/|ext(φ:Heap->Prop)
noncomputable abbrev Hp:=Addr->Option HO
noncomputable def upd(H:Hp)(a:Addr)(o:HO):Hp:=fun b=>if b=a then some o else H b
theorem bj{H:Hp}{a:Addr}{o:HO}:upd H a o a=some o:=by unfold upd;rw[if_pos rfl]
theorem aM{H:Hp}{a b:Addr}{o:HO}(h:b≠a):upd H a o b=H b:=by unfold upd;rw[if_neg h]
theorem Wo{H:Hp}{a b:Addr}{o u:HO}(h:H a=some o)(h':H b=some u)(d:o≠u):a≠b:=by intro e;subst e;rw[h]at h';exact d (Option.some.inj h')
theorem gh{H:Hp}{a b:Addr}{o:HO}(h:H a=some o)(h':H b=none):a≠b:=by intro e;subst e;rw[h]at h';cases h'
section
variable(P:Program)(w:World)
noncomputable def bL(H:Hp)(h:Heap)(a:Addr):HO->Prop|.lst xs=>xs.length<=sizeLine/\∃(its:List Value)(n:Nat),Vals xs its/\h.get? a=some {cls:=.type "list",data:=.seq its.toArray n}|.tup xs=>xs.length<=sizeLine/\∃its:List Value,Vals xs its/\IsTup h a its.toArray|.dK kvs=>kvs.length<=sizeLine/\(a==sysModules)=false/\∃vs,KV kvs vs/\h.DictOf (bU P w) a vs|.dT kvs=>kvs.length<=sizeLine/\(a==sysModules)=false/\∃xs:List (List Key×Addr×Value),Paired (fun(p:List Key×V)(q:List Key×Addr×Value)=>p.1=q.1/\H q.2.1=some (.tup (p.1.map kV))/\RelV p.2 q.2.2) kvs xs/\∃o es ep,h.get? a=some o/\o.ExactDict/\o.data=.dict es ep/\es.toList=xs.map (entryOfKey (tupleKind (bU P w)))/\(xs.map (·.1)).Nodup|.set S n=>h.SetOf (intKind P w) a S n|.ins C dx fs=>H dx=some (.own a)/\fs.length<=1000/\dx≠a/\h.get? a=some (PySem.W.instObj C dx)/\∃mA,h.Ns1 dx mA/\(∀f,nZ (fs.lookup f) (mA f))/\PySem.Within mA (fs.map (·.1))|.own _=>∃o,h.get? a=some o|.xd fs=>∃mA,h.Ns1 a mA/\∀f,nZ (fs.lookup f) (mA f)|.qW lo hi=>∃t u v,h.get? a=some {cls:=.type "range",data:=.fields #[.int lo t,.int hi u,.int 1 v]}|.fW o u=>h.get? a=some o/\bL H h a u|.Td ps=>h.get? a=some {cls:=.none,data:=.fields ps}|.met f x=>h.get? a=some (PySem.W.methodObj (.ref f) (.ref x))|.ext φ=>φ h/\(∃o,h.get? a=some o)/\∀h1 h2:Heap,φ h1->(∀o,h1.get? a=some o->h2.get? a=some o)->φ h2
noncomputable def lV(H:Hp)(h:Heap):Prop:=∀a o,H a=some o->bL P w H h a o
end
section
variable{P:Program}{w:World}{H H':Hp}{h h':Heap}{a:Addr}{o:HO}
theorem bL.lt(x:bL P w H h a o):a<h.objs.size:=by cases o with|lst xs=>obtain⟨_,_,_,_,e⟩:=x;exact Heap.lt_size e|tup xs=>obtain⟨_,_,_,p⟩:=x;exact p.lt|dK kvs=>obtain⟨_,_,_,_,o,_,_,e,_⟩:=x;exact Heap.lt_size e|dT kvs=>obtain⟨_,_,_,_,o,_,_,e,_⟩:=x;exact Heap.lt_size e|set S n=>obtain⟨o,_,_,_,e,_⟩:=x;exact Heap.lt_size e|ins C dx fs=>obtain⟨_,_,_,e,_⟩:=x;exact Heap.lt_size e|own y=>obtain⟨_,e⟩:=x;exact Heap.lt_size e|xd fs=>obtain⟨_,⟨_,_,_,e,_⟩,_⟩:=x;exact Heap.lt_size e|qW lo hi=>obtain⟨_,_,_,e⟩:=x;exact Heap.lt_size e|fW ob u=>obtain⟨e,_⟩:=x;exact Heap.lt_size e|Td ps=>exact Heap.lt_size (show h.get? a=some _ from x)|met f y=>exact Heap.lt_size (show h.get? a=some _ from x)|ext φ=>obtain⟨_,⟨_,e⟩,_⟩:=x;exact Heap.lt_size e
theorem Paired.Ox{α β:Type}{F G:α->β->Prop}:∀{l₁:List α}{l₂:List β},Paired F l₁ l₂->(∀a b,F a b->G a b)->Paired G l₁ l₂|_,_,.nil,_=>.nil|_,_,.cons r t,f=>.cons (f _ _ r) (Paired.Ox t f)
theorem bL.stay(x:bL P w H h a o)(k:∀b u,(b=a\/H b=some (.own a))->h.get? b=some u->h'.get? b=some u)(ho:∀b,H b=some (.own a)->H' b=some (.own a))(ht:∀b xs,H b=some (.tup xs)->H' b=some (.tup xs)):bL P w H' h' a o:=by induction o with|lst xs=>obtain⟨z,its,n,r,e⟩:=x;exact⟨z,its,n,r,k _ _ (.inl rfl) e⟩|tup xs=>obtain⟨z,its,r,ob,e,c⟩:=x;exact⟨z,its,r,ob,k _ _ (.inl rfl) e,c⟩|dK kvs=>obtain⟨z,y,vs,r,ob,es,ep,e,c⟩:=x;exact⟨z,y,vs,r,ob,es,ep,k _ _ (.inl rfl) e,c⟩|dT kvs=>obtain⟨z,y,xs,r,ob,es,ep,e,c⟩:=x;exact⟨z,y,xs,Paired.Ox r fun p q z=>⟨z.1,ht _ _ z.2.1,z.2.2⟩,ob,es,ep,k _ _ (.inl rfl) e,c⟩|set S n=>obtain⟨ob,es,ep,t,e,c⟩:=x;exact⟨ob,es,ep,t,k _ _ (.inl rfl) e,c⟩|ins C dx fs=>obtain⟨d,z,ne,e,mA,⟨od,es,ep,e2,c⟩,r⟩:=x;exact⟨ho _ d,z,ne,k _ _ (.inl rfl) e,mA,⟨od,es,ep,k _ _ (.inr d) e2,c⟩,r⟩|own y=>obtain⟨ob,e⟩:=x;exact⟨ob,k _ _ (.inl rfl) e⟩|xd fs=>obtain⟨mA,⟨od,es,ep,e,c⟩,r⟩:=x;exact⟨mA,⟨od,es,ep,k _ _ (.inl rfl) e,c⟩,r⟩|qW lo hi=>obtain⟨t,u,v,e⟩:=x;exact⟨t,u,v,k _ _ (.inl rfl) e⟩|fW ob u ih=>obtain⟨e,q⟩:=x;exact⟨k _ _ (.inl rfl) e,ih q⟩|Td ps=>have e:h.get? a=some {cls:=.none,data:=.fields ps}:=x;show h'.get? a=some {cls:=.none,data:=.fields ps};exact k a _ (.inl rfl) e|met f y=>have e:h.get? a=some (PySem.W.methodObj (.ref f) (.ref y)):=x;show h'.get? a=some (PySem.W.methodObj (.ref f) (.ref y));exact k a _ (.inl rfl) e|ext φ=>obtain⟨p,⟨o,e⟩,st⟩:=x;exact⟨st _ _ p fun o q=>k _ _ (.inl rfl) q,⟨o,k _ _ (.inl rfl) e⟩,st⟩
theorem lV.lt(x:lV P w H h)(e:H a=some o):a<h.objs.size:=(x a o e).lt
theorem lV.fresh(x:lV P w H h)(e:h.objs.size<=a):H a=none:=by cases q:H a with|none=>rfl|some u=>exact absurd (Nat.lt_of_lt_of_le (x.lt q) e) (Nat.lt_irrefl _)
theorem lV.kept(x:lV P w H h)(k:∀b u,h.get? b=some u->h'.get? b=some u):lV P w H h':=fun a o e=>(x a o e).stay (fun b u _ q=>k b u q) (fun _ q=>q) fun _ _ q=>q
theorem lV.laid(x:lV P w H h)(k:∀b u,h.get? b=some u->h'.get? b=some u)(hp:h.objs.size<=a)(new:bL P w (upd H a o) h' a o):lV P w (upd H a o) h':=fun b u e=>by
 have hn:=x.fresh hp;by_cases hb:b=a;.subst hb;rw[bj]at e;cases e;exact new
 .rw[aM hb]at e;exact(x b u e).stay (fun c v _ q=>k c v q) (fun c q=>by rw[aM (gh q hn)];exact q) fun c xs q=>by rw[aM (gh q hn)];exact q
end
noncomputable def Rd(H:Hp)(a:Addr)(u:HO):Prop:=H a=some u\/∃o,H a=some (.fW o u)
theorem Rd.ok{P:Program}{w:World}{H:Hp}{h:Heap}{a:Addr}{u:HO}(r:Rd H a u)(x:lV P w H h):bL P w H h a u:=by
 rcases r with r|⟨o,r⟩;.exact x a u r
 .obtain⟨_,q⟩:=x a _ r;exact q
noncomputable def Xk:Option HO->Prop|some (.lst _)=>True|some (.dK _)=>True|some (.dT _)=>True|some (.set _ _)=>True|some (.ins _ _ _)=>True|some (.ext _)=>True|_=>False
section
variable{P:Program}{w:World}{H:Hp}{h h':Heap}{x e:Addr}{o':HO}
theorem lV.write(ok:lV P w H h)(mu:Xk (H x))(he:e=x\/H e=some (.own x))(k:∀b u,b≠e->h.get? b=some u->h'.get? b=some u)(heo:∃u,h'.get? e=some u)(new:bL P w (upd H x o') h' x o'):lV P w (upd H x o') h':=fun b u q=>by
 have Yv:∀c y,H c=some (.own y)->c≠x:=fun c y r z=>by subst z;rw[r]at mu;exact mu
 have ac1:∀c xs,H c=some (.tup xs)->c≠x:=fun c xs r z=>by subst z;rw[r]at mu;exact mu
 by_cases hb:b=x;.subst hb;rw[bj]at q;cases q;exact new
 . rw[aM hb]at q;by_cases hbe:b=e
   . have q':H b=some (.own x):=by
      rcases he with z|z;.exact absurd (hbe.trans z) hb
      .rw[hbe];exact z
     rw[q]at q';cases q';obtain⟨v,hv⟩:=heo;exact⟨v,by rw[hbe];exact hv⟩
   . refine(ok b u q).stay (fun c v hc r=>k c v ?_ r) (fun c r=>by rw[aM (Yv c b r)];exact r) fun c xs r=>by rw[aM (ac1 c xs r)];exact r
     rcases hc with rfl|hc;.exact hbe
     . rintro rfl;rcases he with z|z;.exact Yv c b hc z
       .rw[hc]at z;cases z;exact hb rfl
end
structure Un(fs ex:List Addr)(H H':Hp)(h h':Heap):Prop where
 keep:∀b o,h.get? b=some o->H b=none->b∉fs->b∉ex->h'.get? b=some o
 slot:∀b o,h.get? b=some o->H b=none->b∈fs->b∉ex->∃sl,h'.get? b=some {o with slots:=sl}free:∀b o,h.get? b=some o->H b=none->b∉ex->H' b=none
 there:∀b o,h.get? b=some o->b∉ex->∃o',h'.get? b=some o'
 tups:∀b xs,H b=some (.tup xs)->H' b=some (.tup xs)vd:∀b o u,H b=some (.fW o u)->H' b=some (.fW o u)xN:∀b ps,H b=some (.Td ps)->∃more,H' b=some (.Td (ps++more))
section
variable{fs fs' ex ex':List Addr}{H H1 H2:Hp}{h h1 h2 h':Heap}{a x e:Addr}{o:HO}
theorem Un.any(u:Un fs ex H H1 h h1){b:Addr}{ob:Obj}(q:h.get? b=some ob)(n:H b=none)(hx:b∉ex):∃sl,h1.get? b=some {ob with slots:=sl}:=by
 by_cases hb:b∈fs;.exact u.slot b ob q n hb hx
 .exact⟨ob.slots,u.keep b ob q n hb hx⟩
theorem Un.kept(k:∀b u,h.get? b=some u->h'.get? b=some u):Un fs ex H H h h':=⟨fun b ob q _ _ _=>k b ob q,fun b ob q _ _ _=>⟨ob.slots,k b ob q⟩,fun _ _ _ n _=>n,fun b ob q _=>⟨ob,k b ob q⟩,fun _ _ q=>q,fun _ _ _ q=>q,fun _ ps q=>⟨#[],by rw[q];simp⟩⟩
theorem Un.refl:Un fs ex H H h h:=Un.kept fun _ _ q=>q
theorem Un.laid(k:∀b u,h.get? b=some u->h'.get? b=some u)(hp:h.objs.size<=a)(hn:H a=none):Un fs ex H (upd H a o) h h' where
 keep:=fun b u q _ _ _=>k b u q;slot:=fun b u q _ _ _=>⟨u.slots,k b u q⟩;free:=fun b u q n _=>by rw[aM (Nat.ne_of_lt (Nat.lt_of_lt_of_le (Heap.lt_size q) hp))];exact n
 there:=fun b u q _=>⟨u,k b u q⟩;tups:=fun b xs q=>by rw[aM (gh q hn)];exact q
 vd:=fun b u xs q=>by rw[aM (gh q hn)];exact q
 xN:=fun b ps q=>⟨#[],by rw[aM (gh q hn),q];simp⟩
theorem Un.write(mu:Xk (H x))(he:e=x\/H e=some (.own x))(k:∀b u,b≠e->h.get? b=some u->h'.get? b=some u)(heo:∃u,h'.get? e=some u):Un fs ex H (upd H x o) h h':=by
 have hx:∀b,H b=none->b≠x:=fun b n z=>by subst z;rw[n]at mu;exact mu
 have hb:∀b,H b=none->b≠e:=fun b n z=>by
  subst z;rcases he with r|r;.exact hx b n r
  .rw[n]at r;cases r
 have hm:∀b u,H b=some u->¬ Xk (some u)->b≠x:=fun b u q nm z=>by subst z;rw[q]at mu;exact nm mu
 refine⟨fun b u q n _ _=>k b u (hb b n) q,fun b u q n _ _=>⟨u.slots,k b u (hb b n) q⟩,fun b u q n _=>by rw[aM (hx b n)];exact n,fun b u q _=>?_,fun b xs q=>by rw[aM (hm b _ q fun z=>z)];exact q,fun b u xs q=>by rw[aM (hm b _ q fun z=>z)];exact q,fun b ps q=>⟨#[],by rw[aM (hm b _ q fun z=>z),q];simp⟩⟩;by_cases hbe:b=e;.subst hbe;exact heo
 .exact⟨u,k b u hbe q⟩
end
noncomputable def Zh(h:Heap)(H:Hp):List Addr:=(List.range h.objs.size).filter fun a=>(H a).isSome
noncomputable def uv(h:Heap)(H:Hp):Heap:=PySem.W.hideAll h (Zh h H)
theorem Cy(h:Heap)(H:Hp):(uv h H).objs.size=h.objs.size:=PySem.W.hideAll_size _ _
theorem Gp{h:Heap}{H:Hp}{b:Addr}{o:Obj}(e:h.get? b=some o)(n:H b=none):(uv h H).get? b=some o:=PySem.W.hideAll_get _ e fun hm=>by have q:(H b).isSome=true:=(List.mem_filter.mp hm).2;rw[n]at q;simp at q
theorem JQ{h:Heap}{H:Hp}{b:Addr}{o:Obj}(e:(uv h H).get? b=some o):h.get? b=some o/\H b=none:=by have e':h.get? b=some o:=PySem.W.of_hideAll (Zh h H) e;refine⟨e',?_⟩;cases q:H b with|none=>rfl|some x=>have hm:b∈Zh h H:=List.mem_filter.mpr ⟨List.mem_range.mpr (Heap.lt_size e'),by simp[q]⟩;have z:(uv h H).get? b=none:=PySem.W.hideAll_none (Zh h H) hm;rw[z]at e;cases e
end L2
namespace L2
open PySem PySem.Spec PyProof.Rows
structure Mod(K:PySem.W.Frag)(mg:Str->Option Value)(base:Heap):Prop where
 kin:K.In base
 glob:base.Ns mainGlobals mg
 blt:∃mb,base.Ns builtinsNs mb/\∀x:Str,x≠"__name__"->mb x=bootBuiltins x
 nolimit:base.NoLimit
structure Cx where
 prog:Program
 w:World
 K:PySem.W.Frag
 mg:Str->Option Value
 base:Heap
 A:Around
 N:List Str
 s₀:Shared
 H₀:Hp
 env:Env
 outer:List Env
 stack:List Env
 ex:List Addr
 fn:Str->Bool
 calm:Bool
 pn:List (Addr×Obj)xe:Value->Shared->Prop
noncomputable def frs(l:List Env):List Addr:=l.filterMap (·.frame)
noncomputable abbrev Cx.fs(X:Cx):List Addr:=frs X.outer
noncomputable def xX(sc:Scope)(x:Str):Prop:=sc.names.lookup x=some .local\/sc.names.lookup x=some .cell\/sc.names.lookup x=some .free
noncomputable def Loc(sc:Scope)(x:Str):Prop:=sc.names.lookup x=some .local\/sc.names.lookup x=some .cell
noncomputable def Look(env:Env)(h:Heap)(m:Str->Option Value)(x:Str)(u:Value):Prop:=(env.kindOf x=some .local/\m x=some u)\/((env.kindOf x=some .cell\/env.kindOf x=some .free)/\∃c,env.cells.lookup x=some c/\h.IsCell c (some u))
structure Cx.Ok(X:Cx):Prop where
 mod:Mod X.K X.mg X.base
 kind:X.env.scope.kind=.function
 glob:X.env.globals=mainGlobals
 blt:X.env.builtins=builtinsNs
 above:X.s₀.heap.objs.size<=X.env.locals
 inj:∀x y c,X.env.cells.lookup x=some c->X.env.cells.lookup y=some c->x=y
 has:∀x,(X.env.kindOf x=some .cell\/X.env.kindOf x=some .free)->∃c,X.env.cells.lookup x=some c
 cab:∀x c,X.fn x=true->X.env.cells.lookup x=some c->X.s₀.heap.objs.size<=c
 hd:X.calm=true->X.A.handled=none
 frames:X.A.frames=some X.stack
 Vc:X.stack=X.outer\/(X.stack=X.env::X.outer/\X.env.frame=some X.env.locals)exf:∀b∈X.ex,b≠X.env.locals/\∀x c,X.env.cells.lookup x=some c->c≠b
 bs:∀b o,X.base.get? b=some o->X.s₀.heap.get? b=some o/\X.H₀ b=none
 Jl:X.base.objs.size<=X.s₀.heap.objs.size
 zy:∀b o,X.base.get? b=some o->b∉X.ex
 DX:∀b∈X.ex,b∉X.fs
 m7:X.s₀.heap.FunFrames X.base X.outer
 Oi:∀b∈X.fs,X.H₀ b=none
structure Inv(X:Cx)(pins:List (Addr×Obj))(σ:List (Option V))(H:Hp)(s:Shared):Prop where
 ok:X.Ok
 os:s.os=X.s₀.os
 bare:AllBare s.gens
 base:Un X.fs X.ex X.H₀ H X.s₀.heap s.heap
 loc:∃m,s.heap.Ns X.env.locals m/\∀(i:Nat)(x:Str)(v:V),X.N[i]?=some x->σ[i]?=some (some v)->xX X.env.scope x->∃u,RelV v u/\Look X.env s.heap m x u
 cell:∀x c,X.env.cells.lookup x=some c->∃v,s.heap.IsCell c v
 free:H X.env.locals=none
 iU:∀x c,X.env.cells.lookup x=some c->H c=none
 pin:∀p∈X.pn++pins,s.heap.get? p.1=some p.2/\H p.1=none/\p.1≠X.env.locals/\p.1∉X.fs/\∀v,p.2.data≠.cell v
 hok:lV X.prog X.w H s.heap
 len:σ.length=X.N.length
section
variable{X:Cx}{pins:List (Addr×Obj)}{σ:List (Option V)}{H H':Hp}{s:Shared}{h':Heap}
theorem Cx.Ok.ab2(ok:X.Ok){b:Addr}{o:Obj}(e:X.base.get? b=some o):b∉X.fs:=fun hb=>by have:=(ok.m7.mem hb).1;rw[e]at this;cases this
theorem Inv.bs(I:Inv X pins σ H s):∀b o,X.base.get? b=some o->s.heap.get? b=some o/\H b=none:=fun b o e=>⟨I.base.keep b o (I.ok.bs b o e).1 (I.ok.bs b o e).2 (I.ok.ab2 e) (I.ok.zy b o e),I.base.free b o (I.ok.bs b o e).1 (I.ok.bs b o e).2 (I.ok.zy b o e)⟩
theorem Inv.bk(I:Inv X pins σ H s):∀b o,X.base.get? b=some o->s.heap.get? b=some o:=fun b o e=>(I.bs b o e).1
theorem Inv.mod(I:Inv X pins σ H s):Mod X.K X.mg X.base:=I.ok.mod
theorem Inv.O8(I:Inv X pins σ H s):X.K.In s.heap:=I.ok.mod.kin.keeps I.bk
theorem Inv.lt(I:Inv X pins σ H s):X.env.locals<s.heap.objs.size:=let⟨_,hn,_⟩:=I.loc;hn.lt
theorem Inv.sz(I:Inv X pins σ H s):X.s₀.heap.objs.size<=s.heap.objs.size:=Nat.le_trans I.ok.above (Nat.le_of_lt I.lt)
theorem Inv.aco(I:Inv X pins σ H s){a:Addr}(h:s.heap.objs.size<=a):a∉X.fs:=fun hb=>by obtain⟨_,o,ho,_⟩:=I.ok.m7.mem hb;exact absurd (Nat.lt_of_lt_of_le (Heap.lt_size ho) (Nat.le_trans I.sz h)) (Nat.lt_irrefl _)
theorem Inv.O2(I:Inv X pins σ H s):∀x c,X.env.cells.lookup x=some c->c≠X.env.locals:=fun x c e z=>by obtain⟨v,o,ho,hd⟩:=I.cell x c e;obtain⟨m,⟨o',es,ep,ho',hd',_⟩,_⟩:=I.loc;rw[z,ho']at ho;cases ho;rw[hd']at hd;cases hd
theorem Inv.m7(I:Inv X pins σ H s):s.heap.FunFrames X.base X.outer:=by
 have all:∀(l:List Env),(∀b∈frs l,b∈X.fs)->X.s₀.heap.FunFrames X.base l->s.heap.FunFrames X.base l:=by intro l;induction l with|nil=>intro _ _;trivial|cons env r ih=>intro hs hl;obtain⟨hk,⟨L,o,hf,hn,ho,hd⟩,hr⟩:=hl;have hL:L∈X.fs:=hs L (by unfold frs;rw[List.filterMap_cons,hf];exact List.mem_cons_self);obtain⟨sl,e⟩:=I.base.slot L o ho (I.ok.Oi L hL) hL fun z=>I.ok.DX L z hL;exact⟨hk,⟨L,_,hf,hn,e,hd⟩,ih (fun b hb=>hs b (by unfold frs;rw[List.filterMap_cons,hf];exact List.mem_cons_of_mem _ hb)) hr⟩
 exact all X.outer (fun _ hb=>hb) I.ok.m7
theorem Inv.stack(I:Inv X pins σ H s):s.heap.FunFrames X.base X.stack:=by
 rcases I.ok.Vc with e|⟨e,hf⟩;.rw[e];exact I.m7
 .rw[e];obtain⟨m,hn,_⟩:=I.loc;refine .cons (by rw[I.ok.kind];decide) hf hn ?_ I.m7;exact Heap.get?_none_of_le (Nat.le_trans I.ok.Jl I.ok.above)
theorem Inv.uU(I:Inv X pins σ H s):∀b∈frs X.stack,b∈X.env.locals::X.fs:=fun b hb=>by
 rcases I.ok.Vc with e|⟨e,hf⟩;.rw[e]at hb;exact List.mem_cons_of_mem _ hb
 .rw[e]at hb;unfold frs at hb;rw[List.filterMap_cons,hf]at hb;exact hb
theorem Inv.Aq(I:Inv X pins σ H s):∀b∈frs X.stack,H b=none:=fun b hb=>by
 rcases List.mem_cons.mp (I.uU b hb)with e|hb;.rw[e];exact I.free
 .obtain⟨_,o,ho,_⟩:=I.ok.m7.mem hb;exact I.base.free b o ho (I.ok.Oi b hb) fun z=>I.ok.DX b z hb
theorem Inv.step{g':Array GenState}{t':Nat}{d':Drawn}{ch:List Addr}(I:Inv X pins σ H s)(hch:∀b∈ch,(b∈X.ex\/X.s₀.heap.objs.size<=b)/\b≠X.env.locals/\(∀x c,X.env.cells.lookup x=some c->c≠b)/\∀p∈X.pn++pins,p.1≠b)(keep:∀b o,b≠X.env.locals->b∉X.fs->b∉ch->s.heap.get? b=some o->H b=none->h'.get? b=some o)(slot:∀b o,b≠X.env.locals->b∈X.fs->b∉ch->s.heap.get? b=some o->H b=none->∃sl,h'.get? b=some {o with slots:=sl})(free:∀b o,b∉ch->s.heap.get? b=some o->H b=none->H' b=none)(there:∀b o,b∉ch->s.heap.get? b=some o->∃o',h'.get? b=some o')(tups:∀b xs,H b=some (.tup xs)->H' b=some (.tup xs))(vd:∀b o u,H b=some (.fW o u)->H' b=some (.fW o u))(xN:∀b ps,H b=some (.Td ps)->∃more,H' b=some (.Td (ps++more)))(ns:∀m,s.heap.Ns X.env.locals m->h'.Ns X.env.locals m)(hok:lV X.prog X.w H' h')(hg:AllBare g'):Inv X pins σ H' {s with heap:=h',gens:=g',drawn:=d',toks:=t'}:=by
 have neL:∀b o,X.s₀.heap.get? b=some o->b≠X.env.locals:=fun b o e=>Nat.ne_of_lt (Nat.lt_of_lt_of_le (Heap.lt_size e) I.ok.above);have neC:∀b o,X.s₀.heap.get? b=some o->b∉X.ex->b∉ch:=fun b o e hx hb=>by
  rcases(hch b hb).1 with z|z;.exact hx z
  .exact absurd (Nat.lt_of_lt_of_le (Heap.lt_size e) z) (Nat.lt_irrefl _)
 have cellK:∀x c,X.env.cells.lookup x=some c->∀v,s.heap.IsCell c v->h'.IsCell c v:=fun x c e v⟨o,ho,hd⟩=>by
  have IW:c∉ch:=fun z=>(hch c z).2.2.1 x c e rfl;by_cases hc:c∈X.fs;.obtain⟨sl,q⟩:=slot c o (I.O2 x c e) hc IW ho (I.iU x c e);exact⟨_,q,hd⟩
  .exact⟨o,keep c o (I.O2 x c e) hc IW ho (I.iU x c e),hd⟩
 refine⟨I.ok,I.os,hg,⟨fun b o e n hb hx=>?_,fun b o e n hb hx=>?_,fun b o e n hx=>?_,fun b o e hx=>?_,fun b xs e=>tups b xs (I.base.tups b xs e),fun b o xs e=>vd b o xs (I.base.vd b o xs e),fun b ps e=>?_⟩,?_,fun x c e=>?_,?_,fun x c e=>?_,fun p hp=>?_,hok,I.len⟩;.exact keep b o (neL b o e) hb (neC b o e hx) (I.base.keep b o e n hb hx) (I.base.free b o e n hx)
 .obtain⟨sl,e1⟩:=I.base.slot b o e n hb hx;obtain⟨sl',e2⟩:=slot b _ (neL b o e) hb (neC b o e hx) e1 (I.base.free b o e n hx);exact⟨sl',e2⟩
 .obtain⟨o',e1⟩:=I.base.there b o e hx;exact free b o' (neC b o e hx) e1 (I.base.free b o e n hx)
 .obtain⟨o',e1⟩:=I.base.there b o e hx;exact there b o' (neC b o e hx) e1
 .obtain⟨m1,e1⟩:=I.base.xN b ps e;obtain⟨m2,e2⟩:=xN b _ e1;exact⟨m1++m2,by rw[e2,Array.append_assoc]⟩
 . obtain⟨m,hn,hl⟩:=I.loc;refine⟨m,ns m hn,fun i x v e1 e2 e3=>?_⟩;obtain⟨u,r,l⟩:=hl i x v e1 e2 e3;refine⟨u,r,?_⟩;rcases l with l|⟨k,c,e,z⟩;.exact .inl l
   .exact .inr ⟨k,c,e,cellK x c e _ z⟩
 .obtain⟨v,z⟩:=I.cell x c e;exact⟨v,cellK x c e v z⟩
 .obtain⟨m,⟨o,_,_,ho,_⟩,_⟩:=I.loc;exact free _ o (fun z=>(hch _ z).2.1 rfl) ho I.free
 .obtain⟨v,o,ho,hd⟩:=I.cell x c e;exact free c o (fun z=>(hch c z).2.2.1 x c e rfl) ho (I.iU x c e)
 .obtain⟨e,n,ne,nf,d⟩:=I.pin p hp;have IW:p.1∉ch:=fun z=>(hch p.1 z).2.2.2 p hp rfl;exact⟨keep p.1 p.2 ne nf IW e n,free p.1 p.2 IW e n,ne,nf,d⟩
theorem Inv.un{t':Nat}(I:Inv X pins σ H s)(u:Un X.fs [] H H' s.heap h')(hok:lV X.prog X.w H' h'):Inv X pins σ H' {s with heap:=h',toks:=t'}:=by obtain⟨m,⟨o,es,ep,ho,r⟩,_⟩:=id I.loc;obtain⟨sl,hL⟩:=u.any ho I.free (by simp);exact I.step (g':=s.gens) (d':=s.drawn) (ch:=[]) (fun _ z=>nomatch z) (fun b o _ hb _ e n=>u.keep b o e n hb (by simp)) (fun b o _ hb _ e n=>u.slot b o e n hb (by simp)) (fun b o _ e n=>u.free b o e n (by simp)) (fun b o _ e=>u.there b o e (by simp)) u.tups u.vd u.xN (fun m' hm=>by obtain⟨o',es',ep',ho',r'⟩:=hm;rw[ho]at ho';cases ho';exact⟨_,es',ep',hL,r'⟩) hok I.bare
theorem Inv.call{g':Array GenState}{t':Nat}{d':Drawn}{ch:List Addr}(I:Inv X pins σ H s)(u:Un (frs X.stack) ch H H' s.heap h')(hok:lV X.prog X.w H' h')(hg:AllBare g')(hch:∀b∈ch,(b∈X.ex\/X.s₀.heap.objs.size<=b)/\b≠X.env.locals/\(∀x c,X.env.cells.lookup x=some c->c≠b)/\∀p∈X.pn++pins,p.1≠b):Inv X pins σ H' {s with heap:=h',gens:=g',drawn:=d',toks:=t'}:=by obtain⟨m,⟨o,es,ep,ho,r⟩,_⟩:=id I.loc;obtain⟨sl,hL⟩:=u.any ho I.free fun z=>(hch _ z).2.1 rfl;exact I.step (ch:=ch) hch (fun b o hL hb hc e n=>u.keep b o e n (fun z=>(List.mem_cons.mp (I.uU b z)).elim hL hb) hc) (fun b o _ _ hc e n=>u.any e n hc) (fun b o hc e n=>u.free b o e n hc) (fun b o hc e=>u.there b o e hc) u.tups u.vd u.xN (fun m' hm=>by obtain⟨o',es',ep',ho',r'⟩:=hm;rw[ho]at ho';cases ho';exact⟨_,es',ep',hL,r'⟩) hok hg
theorem Inv.turned{t':Nat}{it:Addr}(I:Inv X pins σ H s)(k:∀b o,b≠it->s.heap.get? b=some o->h'.get? b=some o)(hn:H it=none)(hL:it≠X.env.locals)(h1:it∈X.ex\/X.s₀.heap.objs.size<=it)(h2:∀x c,X.env.cells.lookup x=some c->c≠it)(h3:∀p∈X.pn++pins,p.1≠it):Inv X pins σ H {s with heap:=h',toks:=t'}:=by
 have nit:∀b u,H b=some u->b≠it:=fun b u e z=>by rw[z,hn]at e;cases e
 refine I.step (g':=s.gens) (d':=s.drawn) (ch:=[it]) (fun b hb=>?_) (fun b o _ _ hc e _=>k b o (fun z=>hc (by simp[z])) e) (fun b o _ _ hc e _=>⟨o.slots,k b o (fun z=>hc (by simp[z])) e⟩) (fun _ _ _ _ n=>n) (fun b o hc e=>⟨o,k b o (fun z=>hc (by simp[z])) e⟩) (fun _ _ e=>e) (fun _ _ _ e=>e) (fun b ps e=>⟨#[],by rw[e];simp⟩) (fun m hm=>?_) (fun b u e=>?_) I.bare
 . have e:b=it:=by simpa using hb
   subst e;exact⟨h1,hL,h2,h3⟩
 .obtain⟨o,es,ep,ho,r⟩:=hm;exact⟨o,es,ep,k _ o (Ne.symm hL) ho,r⟩
 . refine(I.hok b u e).stay (fun c v hc q=>k c v ?_ q) (fun _ q=>q) fun _ _ q=>q;rcases hc with z|z;.rw[z];exact nit b u e
   .exact nit c _ z
theorem Inv.tok(I:Inv X pins σ H s)(t:Nat):Inv X pins σ H {s with toks:=t}:=I.un (h':=s.heap) (t':=t) Un.refl I.hok
theorem Inv.kept{t':Nat}(I:Inv X pins σ H s)(k:∀b u,s.heap.get? b=some u->h'.get? b=some u):Inv X pins σ H {s with heap:=h',toks:=t'}:=I.un (Un.kept k) (I.hok.kept k)
theorem Inv.laid{a:Addr}{o:HO}{t':Nat}(I:Inv X pins σ H s)(k:∀b u,s.heap.get? b=some u->h'.get? b=some u)(hp:s.heap.objs.size<=a)(new:bL X.prog X.w (upd H a o) h' a o):Inv X pins σ (upd H a o) {s with heap:=h',toks:=t'}:=I.un (Un.laid k hp (I.hok.fresh hp)) (I.hok.laid k hp new)
theorem Inv.write{x e:Addr}{o:HO}{t':Nat}(I:Inv X pins σ H s)(mu:Xk (H x))(he:e=x\/H e=some (.own x))(k:∀b u,b≠e->s.heap.get? b=some u->h'.get? b=some u)(heo:∃u,h'.get? e=some u)(new:bL X.prog X.w (upd H x o) h' x o):Inv X pins σ (upd H x o) {s with heap:=h',toks:=t'}:=I.un (Un.write mu he k heo) (I.hok.write mu he k heo new)
theorem Inv.Bk{BX:List (Addr×Obj)}(I:Inv X pins σ H s)(h:∀p∈BX,s.heap.get? p.1=some p.2/\H p.1=none/\p.1≠X.env.locals/\p.1∉X.fs/\∀v,p.2.data≠.cell v):Inv X BX σ H s:=⟨I.ok,I.os,I.bare,I.base,I.loc,I.cell,I.free,I.iU,fun p hp=>(List.mem_append.mp hp).elim (fun z=>I.pin p (List.mem_append_left _ z)) (h p),I.hok,I.len⟩
theorem wC{N:List Str}(hN:N.Nodup){i j:Nat}{x:Str}(a:N[i]?=some x)(b:N[j]?=some x):i=j:=by obtain⟨h1,e1⟩:=List.getElem?_eq_some_iff.mp a;obtain⟨h2,e2⟩:=List.getElem?_eq_some_iff.mp b;exact(List.getElem_inj hN).mp (e1.trans e2.symm)
theorem sY{M:Model}{A:Around}{E:Value->Shared->Prop}{i:Nat}{x:Str}{v:V}{u:Value}{Q:Unit->Shared->Prop}(I:Inv X pins σ H s)(hN:X.N.Nodup)(hi:X.N[i]?=some x)(hx:Loc X.env.scope x)(r:RelV v u)(h:∀s',Inv X pins (σ.set i (some v)) H s'->(∃a,Heap.SameBut a s.heap s'.heap/\(a=X.env.locals\/X.env.cells.lookup x=some a))->Q () s')(hf:X.fn x=true\/X.env.scope.names.lookup x=some .local:=by first|exact .inl rfl|exact .inr rfl|assumption):wpAny M A (storeName X.env x u) Q E s:=by
 obtain⟨m,hn,hl⟩:=id I.loc;have hcls:(X.env.scope.kind==.class||(X.env.scope.kind==.module&&X.env.locals !=X.env.globals))=false:=by rw[I.ok.kind];rfl
 have hiσ:i<σ.length:=by rw[I.len];exact(List.getElem?_eq_some_iff.mp hi).1
 have O2:=I.O2;have tracked:∀{a:Addr}{h':Heap},(∃o,s.heap.get? a=some o/\H a=none)->Heap.SameBut a s.heap h'->lV X.prog X.w H h':=fun{a h'}ha hs b ob e=>by
  obtain⟨_,_,hfree⟩:=ha;refine(I.hok b ob e).stay (fun c w' hc q=>(hs.2 c ?_).trans q) (fun _ q=>q) fun _ _ q=>q;rintro rfl;rcases hc with rfl|hc;.rw[hfree]at e;cases e
  .rw[hfree]at hc;cases hc
 rcases hx with hk|hk
 . refine wpAny_storeName_local hk hn (fun h' hn' hs=>?_) hcls;obtain⟨oL,_,_,hoL,_⟩:=id hn;refine h _ ⟨I.ok,I.os,I.bare,⟨fun b o e n hb hx=>?_,fun b o e n hb hx=>?_,I.base.free,fun b o e hx=>?_,I.base.tups,I.base.vd,I.base.xN⟩,⟨_,hn',fun j y v' e1 e2 e3=>?_⟩,fun y c e=>?_,I.free,I.iU,fun p hp=>?_,tracked ⟨oL,hoL,I.free⟩ hs,by simpa using I.len⟩ ⟨_,hs,.inl rfl⟩;.exact(hs.2 b (Nat.ne_of_lt (Nat.lt_of_lt_of_le (Heap.lt_size e) I.ok.above))).trans (I.base.keep b o e n hb hx)
   .obtain⟨sl,e1⟩:=I.base.slot b o e n hb hx;exact⟨sl,(hs.2 b (Nat.ne_of_lt (Nat.lt_of_lt_of_le (Heap.lt_size e) I.ok.above))).trans e1⟩
   .obtain⟨o',e1⟩:=I.base.there b o e hx;exact⟨o',(hs.2 b (Nat.ne_of_lt (Nat.lt_of_lt_of_le (Heap.lt_size e) I.ok.above))).trans e1⟩
   . by_cases hj:j=i;.subst hj;rw[hi]at e1;cases e1;rw[List.getElem?_set_self hiσ]at e2;cases e2;exact⟨u,r,.inl ⟨hk,by simp⟩⟩
     . rw[List.getElem?_set_ne (Ne.symm hj)]at e2;obtain⟨u',r',q⟩:=hl j y v' e1 e2 e3;refine⟨u',r',?_⟩;rcases q with⟨k,e⟩|⟨k,c,e,z⟩;.refine .inl ⟨k,?_⟩;have:y≠x:=fun e=>hj (wC hN e1 (e▸hi));simp[this,e]
       .exact .inr ⟨k,c,e,z.sameBut hs (O2 y c e)⟩
   .obtain⟨w',z⟩:=I.cell y c e;exact⟨w',z.sameBut hs (O2 y c e)⟩
   .obtain⟨e,n,ne,nf,d⟩:=I.pin p hp;exact⟨(hs.2 p.1 ne).trans e,n,ne,nf,d⟩
 . have hfn:X.fn x=true:=by
    rcases hf with z|z;.exact z
    .rw[z]at hk;cases hk
   obtain⟨c,hc⟩:=I.ok.has x (.inl hk);obtain⟨w',z⟩:=I.cell x c hc;refine wpAny_storeName_cell I.ok.kind hk hc z (fun h' hc' hs=>?_);obtain⟨oc,hoc,ac3⟩:=id z;refine h {s with heap:=h'} ⟨I.ok,I.os,I.bare,⟨fun b o e n hb hx=>?_,fun b o e n hb hx=>?_,I.base.free,fun b o e hx=>?_,I.base.tups,I.base.vd,I.base.xN⟩,⟨m,hn.sameBut hs (Ne.symm (O2 x c hc)),fun j y v' e1 e2 e3=>?_⟩,fun y c' e=>?_,I.free,I.iU,fun p hp=>?_,tracked ⟨oc,hoc,I.iU x c hc⟩ hs,by simpa using I.len⟩ ⟨c,hs,.inr hc⟩;.exact(hs.2 b (Nat.ne_of_lt (Nat.lt_of_lt_of_le (Heap.lt_size e) (I.ok.cab x c hfn hc)))).trans (I.base.keep b o e n hb hx)
   .obtain⟨sl,e1⟩:=I.base.slot b o e n hb hx;exact⟨sl,(hs.2 b (Nat.ne_of_lt (Nat.lt_of_lt_of_le (Heap.lt_size e) (I.ok.cab x c hfn hc)))).trans e1⟩
   .obtain⟨o',e1⟩:=I.base.there b o e hx;exact⟨o',(hs.2 b (Nat.ne_of_lt (Nat.lt_of_lt_of_le (Heap.lt_size e) (I.ok.cab x c hfn hc)))).trans e1⟩
   . by_cases hj:j=i;.subst hj;rw[hi]at e1;cases e1;rw[List.getElem?_set_self hiσ]at e2;cases e2;exact⟨u,r,.inr ⟨.inl hk,c,hc,hc'⟩⟩
     . rw[List.getElem?_set_ne (Ne.symm hj)]at e2;obtain⟨u',r',q⟩:=hl j y v' e1 e2 e3;refine⟨u',r',?_⟩;rcases q with q|⟨k,c',e,z'⟩;.exact .inl q
       .refine .inr ⟨k,c',e,z'.sameBut hs ?_⟩;rintro rfl;exact hj (wC hN e1 (I.ok.inj _ _ _ e hc▸hi))
   . by_cases hcc:c'=c;.subst hcc;exact⟨_,hc'⟩
     .obtain⟨w2,z2⟩:=I.cell y c' e;exact⟨w2,z2.sameBut hs hcc⟩
   .obtain⟨e,n,ne,nf,d⟩:=I.pin p hp;refine⟨(hs.2 p.1 ?_).trans e,n,ne,nf,d⟩;intro q;rw[q,hoc]at e;have q':oc=p.2:=Option.some.inj e;exact d w' (by rw[<-q'];exact ac3)
theorem iZ{M:Model}{A:Around}{E:Value->Shared->Prop}{i:Nat}{x:Str}{v:V}{u:Value}{Q:Unit->Shared->Prop}(I:Inv X pins σ H s)(hN:X.N.Nodup)(hi:X.N[i]?=some x)(hx:Loc X.env.scope x)(r:RelV v u)(h:∀s',Inv X pins (σ.set i (some v)) H s'->Q () s')(hf:X.fn x=true\/X.env.scope.names.lookup x=some .local:=by first|exact .inl rfl|exact .inr rfl|assumption):wpAny M A (storeName X.env x u) Q E s:=sY I hN hi hx r (fun s' I' _=>h s' I') hf
end
noncomputable abbrev XK:=Value->Option Addr->Hp->Prop
noncomputable abbrev St:=List (Option V)
noncomputable abbrev VK:=V->Hp->Prop
noncomputable abbrev TE:=St->Hp->VK->Prop
noncomputable abbrev TT:=St->Hp->(Bool->Hp->Prop)->Prop
noncomputable abbrev TA:=St->Hp->(List V->Hp->Prop)->Prop
structure Ends where
 nx:St->Hp->Prop
 rt:VK
 bk:St->Hp->Prop:=fun _ _=>False
 ct:St->Hp->Prop:=fun _ _=>False
noncomputable abbrev TS:=Ends->St->Hp->Prop
inductive EP(X:Cx)(pins:List (Addr×Obj))(σ:St)(Q:VK)(u:Value)(s':Shared):Prop where|mk(v:V)(H':Hp)(q0:Inv X pins σ H' s')(q1:RelV v u)(q2:Q v H')
noncomputable def TP(X:Cx)(pins:List (Addr×Obj))(σ:St)(Q:Bool->Hp->Prop)(b:Bool)(s':Shared):Prop:=∃H',Inv X pins σ H' s'/\Q b H'
inductive AP(X:Cx)(pins:List (Addr×Obj))(σ:St)(Q:List V->Hp->Prop)(us:List Value)(s':Shared):Prop where|mk(vs:List V)(H':Hp)(q0:Inv X pins σ H' s')(q1:Vals vs us)(q2:Q vs H')
noncomputable def SP(X:Cx)(pins:List (Addr×Obj))(D:Ends)(f:Flow)(s':Shared):Prop:=match f with|.next=>∃σ' H',Inv X pins σ' H' s'/\D.nx σ' H'|.brk=>∃σ' H',Inv X pins σ' H' s'/\D.bk σ' H'|.cont=>∃σ' H',Inv X pins σ' H' s'/\D.ct σ' H'|.ret u=>∃v σ' H',Inv X pins σ' H' s'/\RelV v u/\D.rt v H'
noncomputable def PE(X:Cx)(e:Expr)(t:TE):Prop:=∀(pins:List (Addr×Obj))(s:Shared)(σ:St)(H:Hp)(Q:VK),Inv X pins σ H s->t σ H Q->wpAny (model X.prog X.w) X.A (eval e X.env) (EP X pins σ Q) X.xe s
noncomputable def PT(X:Cx)(e:Expr)(t:TT):Prop:=∀(pins:List (Addr×Obj))(s:Shared)(σ:St)(H:Hp)(Q:Bool->Hp->Prop),Inv X pins σ H s->t σ H Q->wpAny (model X.prog X.w) X.A (isTrue e X.env (eval e X.env)) (TP X pins σ Q) X.xe s
noncomputable def PW(X:Cx)(e:Expr)(t:TT):Prop:=∀(whole:Sem Value)(pins:List (Addr×Obj))(s:Shared)(σ:St)(H:Hp)(Q:Bool->Hp->Prop),Inv X pins σ H s->t σ H Q->wpAny (model X.prog X.w) X.A (isTrue e X.env whole) (TP X pins σ Q) X.xe s
theorem PW.pt{X:Cx}{e:Expr}{t:TT}(h:PW X e t):PT X e t:=h _
noncomputable def PA(X:Cx)(es:List Expr)(t:TA):Prop:=∀(pos:Pos)(pins:List (Addr×Obj))(s:Shared)(σ:St)(H:Hp)(Q:List V->Hp->Prop),Inv X pins σ H s->t σ H Q->wpAny (model X.prog X.w) X.A (spliced (backTo pos (starEach es X.env))) (AP X pins σ Q) X.xe s
noncomputable def PS(X:Cx)(st:Stmt)(t:TS):Prop:=∀(pins:List (Addr×Obj))(s:Shared)(σ:St)(H:Hp)(D:Ends),Inv X pins σ H s->t D σ H->wpAny (model X.prog X.w) X.A (exec st X.env) (SP X pins D) X.xe s
noncomputable def Aa(X:Cx)(st:List Stmt)(t:TS):Prop:=∀(pins:List (Addr×Obj))(s:Shared)(σ:St)(H:Hp)(D:Ends),Inv X pins σ H s->t D σ H->wpAny (model X.prog X.w) X.A (execs st X.env) (SP X pins D) X.xe s
theorem cL{α:Type}{t:Sem α}{Q Q':α->Shared->Prop}{M:Model}{A:Around}{E:Value->Shared->Prop}{s:Shared}(h:wpAny M A t Q E s)(hQ:∀a s,Q a s->Q' a s):wpAny M A t Q' E s:=wpAny_mono h hQ fun _ _ x=>x
end L2
namespace L2
open PySem PySem.Spec PyProof.Rows
section
variable{X:Cx}
noncomputable def Wf(i:Nat):TE:=fun σ H Q=>∃v,σ[i]?=some (some v)/\Q v H
noncomputable def tC(v:V):TE:=fun _ H Q=>Q v H
theorem gb{i:Nat}{x:Str}{pos:Pos}(hN:X.N[i]?=some x)(hv:xX X.env.scope x)(hd:(x==("__debug__":Str))=false:=by decide)(hcd:(x==("__classdict__":Str))=false:=by decide):PE X (.Name x pos) (Wf i):=by
 intro pins s σ H Q I h;obtain⟨v,e,h⟩:=h;obtain⟨m,hn,hl⟩:=I.loc;obtain⟨u,r,l⟩:=hl i x v hN e hv;have fin:EP X pins σ Q u s:=⟨v,H,I,r,h⟩;rcases l with⟨hk,hm⟩|⟨hk,c,hc,hcell⟩;.exact wpAny_Name (wpAny_loadName_local I.ok.kind hk hn hm fin) hd
 . rcases hk with hk|hk;.exact wpAny_Name (wpAny_loadName_cell I.ok.kind hk hc hcell fin) hd
   .exact wpAny_Name (wpAny_loadName_free I.ok.kind hk hc hcell fin hcd) hd
theorem Rc{i j pos}:PE X (.Constant (.int i) j pos) (tC (.int i)):=fun _ _ _ H _ I h=>wpAny_Constant_int ⟨.int i,H,I.tok _,⟨_,rfl⟩,h⟩
theorem W2{b j pos}:PE X (.Constant (.bool b) j pos) (tC (.bl b)):=fun _ _ _ H _ I h=>Constant_bool ⟨.bl b,H,I,rfl,h⟩
theorem Sd{j pos}:PE X (.Constant .none j pos) (tC .non):=fun _ _ _ H _ I h=>Constant_none ⟨.non,H,I,rfl,h⟩
noncomputable def Gl(X:Cx)(x:Str):Prop:=X.env.kindOf x=some .globalImplicit
theorem K1{E:Value->Shared->Prop}{pins:List (Addr×Obj)}{s:Shared}{σ:St}{H:Hp}{x:Str}{u:Value}{pos:Pos}{Q:Value->Shared->Prop}(I:Inv X pins σ H s)(hg:Gl X x)(hm:X.mg x=some u)(h:Q u s)(hd:(x==("__debug__":Str))=false:=by decide):wpAny (model X.prog X.w) X.A (eval (.Name x pos) X.env) Q E s:=Calls.Name_function_global I.ok.kind hg (Calls.loadGlobal_global (by rw[I.ok.glob];exact I.mod.glob.keeps I.bk) hm h) hd
theorem lX{E:Value->Shared->Prop}{pins:List (Addr×Obj)}{s:Shared}{σ:St}{H:Hp}{x:Str}{u:Value}{pos:Pos}{Q:Value->Shared->Prop}(I:Inv X pins σ H s)(hg:Gl X x)(hm:X.mg x=none)(hv:bootBuiltins x=some u)(h:Q u s)(hn:x≠"__name__":=by decide)(hd:(x==("__debug__":Str))=false:=by decide):wpAny (model X.prog X.w) X.A (eval (.Name x pos) X.env) Q E s:=by obtain⟨mb,h1,h2⟩:=I.mod.blt;exact Calls.Name_function_global I.ok.kind hg (Calls.loadGlobal_builtin (by rw[I.ok.glob];exact I.mod.glob.keeps I.bk) hm (by rw[I.ok.blt];exact h1.keeps I.bk) ((h2 x hn).trans hv) h) hd
theorem K5{x:Str}{v:V}{u:Value}{pos:Pos}(hg:Gl X x)(hm:X.mg x=none)(hv:bootBuiltins x=some u)(r:RelV v u)(hn:x≠"__name__":=by decide)(hd:(x==("__debug__":Str))=false:=by decide):PE X (.Name x pos) (tC v):=fun _ _ _ H _ I h=>lX I hg hm hv ⟨v,H,I,r,h⟩ hn hd
variable{a b:Expr}{ta tb:TE}{pos:Pos}
noncomputable def tB(t:TE):TT:=fun σ H Q=>t σ H fun x H1=>∃c,x=.bl c/\Q c H1
theorem SN{e:Expr}{t:TE}(h:PE X e t)(he:∀whole,isTrue e X.env whole=(do let v<-whole;standAt e.pos;holding [v] (truthy v)):=by intro _;rfl):PT X e (tB t):=by intro pins s σ H Q I hw;refine isTrue_plain (cL (h pins s σ H _ I hw) fun v s1⟨x,H1,I1,r1,q1⟩=>?_) (he _);obtain⟨d,rfl,q⟩:=q1;cases r1;exact wpAny_truthy_bool ⟨H1,I1,q⟩
variable{tA tB':TT}{rest:List Expr}
noncomputable def acO(t u:TT):TT:=fun σ H Q=>t σ H fun c H1=>if c=true then u σ H1 Q else Q false H1
noncomputable def tOr(t u:TT):TT:=fun σ H Q=>t σ H fun c H1=>if c=true then Q true H1 else u σ H1 Q
noncomputable def abI(t:TT):TT:=fun σ H Q=>t σ H fun c H1=>Q (!c) H1
theorem JS(ha:PT X a tA):PW X (.BoolOp .And [a] pos) tA:=by intro wh pins s σ H Q I h;refine isTrue_and (cL (ha pins s σ H Q I h) fun c s1 e=>?_);cases c with|true=>exact isTrue_and_nil e|false=>exact e
theorem Qc(ha:PT X a tA):PW X (.BoolOp .Or [a] pos) tA:=by intro wh pins s σ H Q I h;refine isTrue_or (cL (ha pins s σ H Q I h) fun c s1 e=>?_);cases c with|false=>exact isTrue_or_nil e|true=>exact e
theorem Pk(ha:PT X a tA)(hb:PW X (.BoolOp .And (b::rest) pos) tB'):PW X (.BoolOp .And (a::b::rest) pos) (acO tA tB'):=by intro wh pins s σ H Q I h;refine isTrue_and (cL (ha pins s σ H _ I h) fun c s1⟨H1,I1,q1⟩=>?_);cases c with|true=>exact hb wh pins s1 σ H1 Q I1 q1|false=>exact⟨H1,I1,q1⟩
theorem Vn(ha:PT X a tA)(hb:PW X (.BoolOp .Or (b::rest) pos) tB'):PW X (.BoolOp .Or (a::b::rest) pos) (tOr tA tB'):=by intro wh pins s σ H Q I h;refine isTrue_or (cL (ha pins s σ H _ I h) fun c s1⟨H1,I1,q1⟩=>?_);cases c with|true=>exact⟨H1,I1,q1⟩|false=>exact hb wh pins s1 σ H1 Q I1 q1
theorem RT(ha:PT X a tA):PT X (.UnaryOp .Not a pos) (abI tA):=by intro pins s σ H Q I h;exact isTrue_not (ha pins s σ H (fun c H1=>Q (!c) H1) I h)
noncomputable def W3(ta tb:TE):TE:=fun σ H Q=>ta σ H fun x H1=>∃c,x=.bl c/\if c=true then tb σ H1 Q else Q (.bl false) H1
theorem RW{op}{t:TE}(h:PE X a t):PE X (.BoolOp op [a] pos) t:=fun pins s σ H Q I hw=>BoolOp_one (h pins s σ H Q I hw)
theorem O3(ha:PE X a ta)(hb:PE X (.BoolOp .And (b::rest) pos) tb):PE X (.BoolOp .And (a::b::rest) pos) (W3 ta tb):=by intro pins s σ H Q I h;refine BoolOp_and (cL (ha pins s σ H _ I h) fun v s1⟨x,H1,I1,r1,q1⟩=>?_);obtain⟨c,rfl,q1⟩:=q1;cases r1;refine wpAny_truthy_bool ?_;cases c with|true=>exact hb pins s1 σ H1 Q I1 q1|false=>exact⟨.bl false,H1,I1,rfl,q1⟩
noncomputable def tIf(t:TT)(ta tb:TE):TE:=fun σ H Q=>t σ H fun c H1=>if c=true then ta σ H1 Q else tb σ H1 Q
theorem G8{c:Expr}(hc:PT X c tA)(ha:PE X a ta)(hb:PE X b tb):PE X (.IfExp c a b pos) (tIf tA ta tb):=by intro pins s σ H Q I h;refine wpAny_IfExp (cL (hc pins s σ H _ I h) fun d s1⟨H1,I1,q1⟩=>?_);cases d with|true=>exact ha pins s1 σ H1 Q I1 q1|false=>exact hb pins s1 σ H1 Q I1 q1
end
end L2
namespace L2
open PySem PySem.Spec PyProof.Rows
noncomputable def gA(K:PySem.W.Frag)(H:Hp)(a:Addr)(xs:List V):Prop:=Rd H a (.lst xs)\/∃(o:Obj)(its:Array Value)(n:Nat),K.lookup a=some o/\o.cls=.type "list"/\o.dict=none/\o.data=.seq its n/\its.size<=sizeLine/\Vals xs its.toList
noncomputable def jC(K:PySem.W.Frag)(H:Hp)(a:Addr)(xs:List V):Prop:=Rd H a (.tup xs)\/∃(o:Obj)(its:Array Value)(n:Nat),K.lookup a=some o/\o.cls=.type "tuple"/\o.data=.seq its n/\its.size<=sizeLine/\Vals xs its.toList
noncomputable def acP:Value->Option V|.none=>some .non|.bool b=>some (.bl b)|.int i _=>some (.int i)|.str x _=>some (.str x)|.bytes b _=>some (.byt b)|.float b _=>some (.flt b)|.ref a=>some (.ref a)|.type n=>some (.ty n)|_=>none
theorem RelV.abs{x:V}{u:Value}(r:RelV x u):acP u=some x:=by cases x with|non=>cases r;rfl|bl _=>cases r;rfl|int _=>obtain⟨t,rfl⟩:=r;rfl|str _=>obtain⟨t,rfl⟩:=r;rfl|byt _=>obtain⟨t,rfl⟩:=r;rfl|flt _=>obtain⟨t,rfl⟩:=r;rfl|ref _=>cases r;rfl|ty _=>cases r;rfl
theorem RelV.inj{x y:V}{u:Value}(r:RelV x u)(q:RelV y u):x=y:=Option.some.inj (r.abs.symm.trans q.abs)
theorem Vals.inj:∀{xs ys:List V}{us:List Value},Vals xs us->Vals ys us->xs=ys|_,_,_,.nil,.nil=>rfl|_,_,_,.cons r t,.cons r' t'=>by rw[r.inj r',Vals.inj t t']
section
variable{X:Cx}{pins:List (Addr×Obj)}{σ:St}{H:Hp}{s:Shared}{a:Addr}{xs ys:List V}
theorem gA.of{K:PySem.W.Frag}(h:H a=some (.lst xs)):gA K H a xs:=.inl (.inl h)
theorem jC.of{K:PySem.W.Frag}(h:H a=some (.tup xs)):jC K H a xs:=.inl (.inl h)
theorem Inv.list(I:Inv X pins σ H s)(h:gA X.K H a xs):∃its:List Value,Vals xs its/\PlainL s.heap a its.toArray/\xs.length<=sizeLine:=by
 rcases h with h|⟨o,its,n,hk,hc,hd,hs,hz,r⟩;.obtain⟨z,its,n,r,e⟩:=h.ok I.hok;exact⟨its,r,⟨_,n,e,rfl,rfl,rfl⟩,z⟩
 .refine⟨its.toList,r,⟨o,n,I.O8 a o hk,hc,hd,by simpa using hs⟩,?_⟩;have e:=r.length;simp only[Array.length_toList]at e;omega
theorem Inv.tuple(I:Inv X pins σ H s)(h:jC X.K H a xs):∃its:List Value,Vals xs its/\IsTup s.heap a its.toArray/\xs.length<=sizeLine:=by
 rcases h with h|⟨o,its,n,hk,hc,hs,hz,r⟩;.obtain⟨z,its,r,p⟩:=h.ok I.hok;exact⟨its,r,p,z⟩
 .refine⟨its.toList,r,⟨o,I.O8 a o hk,hc,n,by simpa using hs⟩,?_⟩;have e:=r.length;simp only[Array.length_toList]at e;omega
theorem Inv.qe(I:Inv X pins σ H s)(h:gA X.K H a xs)(h':gA X.K H a ys):xs=ys:=by
 obtain⟨its,r,⟨o,n,e,_,_,d⟩,_⟩:=I.list h;obtain⟨its',r',⟨o',n',e',_,_,d'⟩,_⟩:=I.list h';rw[e]at e';cases e';rw[d]at d';injection d' with d1 _;have:its=its':=by simpa using congrArg Array.toList d1
 subst this;exact r.inj r'
theorem Inv.mV(I:Inv X pins σ H s)(h:jC X.K H a xs)(h':jC X.K H a ys):xs=ys:=by
 obtain⟨its,r,⟨o,e,_,n,d⟩,_⟩:=I.tuple h;obtain⟨its',r',⟨o',e',_,n',d'⟩,_⟩:=I.tuple h';rw[e]at e';cases e';rw[d]at d';injection d' with d1 _;have:its=its':=by simpa using congrArg Array.toList d1
 subst this;exact r.inj r'
end
noncomputable abbrev Cx.wish(X:Cx)(E:Value->Shared->Prop):Cx:={X with xe:=E}
noncomputable abbrev Cx.Vv(X:Cx):Cx:=X.wish fun _ _=>False
theorem Cx.Ok.wish{X:Cx}(ok:X.Ok)(E:Value->Shared->Prop):(X.wish E).Ok:=⟨ok.mod,ok.kind,ok.glob,ok.blt,ok.above,ok.inj,ok.has,ok.cab,ok.hd,ok.frames,ok.Vc,ok.exf,ok.bs,ok.Jl,ok.zy,ok.DX,ok.m7,ok.Oi⟩
theorem Cx.Ok.jc{X:Cx}{E:Value->Shared->Prop}(ok:(X.wish E).Ok):X.Ok:=⟨ok.mod,ok.kind,ok.glob,ok.blt,ok.above,ok.inj,ok.has,ok.cab,ok.hd,ok.frames,ok.Vc,ok.exf,ok.bs,ok.Jl,ok.zy,ok.DX,ok.m7,ok.Oi⟩
section
variable{X:Cx}{pins:List (Addr×Obj)}{σ:St}{H:Hp}{s:Shared}{E:Value->Shared->Prop}
theorem Inv.wish(I:Inv X pins σ H s)(E:Value->Shared->Prop):Inv (X.wish E) pins σ H s:=⟨I.ok.wish E,I.os,I.bare,I.base,I.loc,I.cell,I.free,I.iU,I.pin,I.hok,I.len⟩
theorem Inv.jc(I:Inv (X.wish E) pins σ H s):Inv X pins σ H s:=⟨I.ok.jc,I.os,I.bare,I.base,I.loc,I.cell,I.free,I.iU,I.pin,I.hok,I.len⟩
theorem SP.jc{D:Ends}{f:Flow}{s':Shared}(h:SP (X.wish E) pins D f s'):SP X pins D f s':=by cases f with|next=>obtain⟨σ',H',I,q⟩:=h;exact⟨σ',H',I.jc,q⟩|brk=>obtain⟨σ',H',I,q⟩:=h;exact⟨σ',H',I.jc,q⟩|cont=>obtain⟨σ',H',I,q⟩:=h;exact⟨σ',H',I.jc,q⟩|ret u=>obtain⟨v,σ',H',I,r,q⟩:=h;exact⟨v,σ',H',I.jc,r,q⟩
theorem Aa.Vv{st:List Stmt}{t:TS}(h:Aa X.Vv st t):Aa X st t:=fun pins s σ H D I hw=>wpAny_mono (h pins s σ H D (I.wish _) hw) (fun _ _ q=>q.jc) fun _ _ z=>False.elim z
end
section
variable{X:Cx}{st:Stmt}{rest:List Stmt}{t u:TS}{e:Expr}{te:TE}{pos:Pos}
noncomputable def XS:TS:=fun D σ H=>D.nx σ H
noncomputable def abW(t u:TS):TS:=fun D σ H=>t {D with nx:=u D} σ H
theorem Mp:Aa X [] XS:=fun _ _ σ H _ I h=>wpAny_execs_nil ⟨σ,H,I,h⟩
theorem Hh(h1:PS X st t)(h2:Aa X rest u):Aa X (st::rest) (abW t u):=by intro pins s σ H D I h;refine wpAny_execs_cons (cL (h1 pins s σ H {D with nx:=u D} I h) fun f s1 q=>?_);cases f with|next=>obtain⟨σ',H',I',q⟩:=q;exact h2 pins s1 σ' H' D I' q|ret v=>exact q|brk=>exact q|cont=>exact q
theorem Inv.quiet{pins:List (Addr×Obj)}{σ:St}{H:Hp}{s:Shared}(I:Inv X pins σ H s):interactive X.env=false:=by simp[interactive,I.ok.kind]
noncomputable def Vm(te:TE):TS:=fun D σ H=>te σ H fun _ H1=>D.nx σ H1
theorem oG(he:PE X e te)(hs:swapsWith e none pos.line X.env=pure false:=by rfl):PS X (.Expr e pos) (Vm te):=by intro pins s σ H D I h;exact wpAny_Expr_any (cL (he pins s σ H _ I h) fun v s1⟨x,H1,I1,r1,q1⟩=>⟨σ,H1,I1,q1⟩) I.quiet hs
noncomputable def aby(te:TE):TS:=fun D σ H=>te σ H D.rt
theorem Ij(he:PE X e te):PS X (.Return (some e) pos) (aby te):=by intro pins s σ H D I h;exact wpAny_Return_some (cL (he pins s σ H _ I h) fun v s1⟨x,H1,I1,r1,q1⟩=>⟨x,σ,H1,I1,r1,q1⟩)
noncomputable def abd(c:TT)(t u:TS):TS:=fun D σ H=>c σ H fun b H1=>if b=true then t D σ H1 else u D σ H1
theorem W5{c:Expr}{a b:List Stmt}{tc:TT}(hc:PT X c tc)(ha:Aa X a t)(hb:Aa X b u):PS X (.If c a b pos) (abd tc t u):=by intro pins s σ H D I h;refine wpAny_If (cL (hc pins s σ H _ I h) fun d s1⟨H1,I1,q1⟩=>?_);cases d with|true=>exact ha pins s1 σ H1 D I1 q1|false=>exact hb pins s1 σ H1 D I1 q1
noncomputable def QH:TS:=fun _ _ _=>False
theorem Ht:PS X st QH:=fun _ _ _ _ _ _ h=>h.elim
end
noncomputable abbrev TG:=V->St->Hp->(St->Hp->Prop)->Prop
noncomputable abbrev Ed:=List V->St->Hp->(St->Hp->Prop)->Prop
noncomputable def PG(X:Cx)(target:Expr)(t:TG):Prop:=∀(pins:List (Addr × Obj))(s:Shared)(σ:St)(H:Hp)(v:V)(u:Value)(Q:St->Hp->Prop),Inv X pins σ H s->RelV v u->t v σ H Q->wpAny (model X.prog X.w) X.A (assign target X.env u) (fun _ s'=>∃σ' H',Inv X pins σ' H' s'/\Q σ' H') X.xe s
noncomputable def Zw(X:Cx)(ts:List Expr)(t:Ed):Prop:=∀(pins:List (Addr × Obj))(s:Shared)(σ:St)(H:Hp)(vs:List V)(us:List Value)(Q:St->Hp->Prop),Inv X pins σ H s->Vals vs us->t vs σ H Q->wpAny (model X.prog X.w) X.A (assignInOrder ((assignEach ts X.env).map (·.2)) us) (fun _ s'=>∃σ' H',Inv X pins σ' H' s'/\Q σ' H') X.xe s
noncomputable abbrev Qe:=V->V->V->Hp->(Hp->Prop)->Prop
noncomputable def Yb(X:Cx)(t:Qe):Prop:=∀(pins:List (Addr × Obj))(s:Shared)(σ:St)(H:Hp)(o i v:V)(ov iv u:Value)(Q:Hp->Prop),Inv X pins σ H s->RelV o ov->RelV i iv->RelV v u->t o i v H Q->wpAny (model X.prog X.w) X.A (setItem ov iv u) (fun _ s'=>∃H',Inv X pins σ H' s'/\Q H') X.xe s
noncomputable abbrev ZQ:=V->V->Hp->VK->Prop
noncomputable def ZX(X:Cx)(op:Operator)(t:ZQ):Prop:=∀(pins:List (Addr × Obj))(s:Shared)(σ:St)(H:Hp)(x y:V)(v u:Value)(Q:VK),Inv X pins σ H s->RelV x v->RelV y u->t x y H Q->wpAny (model X.prog X.w) X.A (inplaceOp op v u) (EP X pins σ Q) X.xe s
section
variable{X:Cx}{pos:Pos}
noncomputable def o9(i:Nat):TG:=fun v σ H Q=>Q (σ.set i (some v)) H
theorem aC{i:Nat}{x:Str}(hN:X.N.Nodup)(hi:X.N[i]?=some x)(hx:Loc X.env.scope x)(hf:X.fn x=true\/X.env.scope.names.lookup x=some .local:=by first|exact .inl rfl|exact .inr rfl|assumption):PG X (.Name x pos) (o9 i):=by intro pins s σ H v u Q I r h;exact wpAny_assign_Name (iZ I hN hi hx r (fun s' I'=>⟨_,H,I',h⟩) hf)
noncomputable def Qn:Ed:=fun vs σ H Q=>vs=[]/\Q σ H
noncomputable def HJ(t:TG)(u:Ed):Ed:=fun vs σ H Q=>∃v r,vs=v::r/\t v σ H fun σ' H'=>u r σ' H' Q
theorem cC:Zw X [] Qn:=by intro pins s σ H vs us Q I r h;obtain⟨e,h⟩:=h;subst e;cases r;exact assignInOrder_nil ⟨σ,H,I,h⟩
theorem aG{e:Expr}{es:List Expr}{t:TG}{u:Ed}(h1:PG X e t)(h2:Zw X es u)(hs:(assignEach (e::es) X.env).map (·.2)=assign e X.env::(assignEach es X.env).map (·.2):=by rfl):Zw X (e::es) (HJ t u):=by intro pins s σ H vs us Q I r h;obtain⟨v,vr,e1,h⟩:=h;subst e1;cases r with|cons r rr=>rw[hs];refine assignInOrder_cons (cL (h1 pins s σ H _ _ _ I r h) fun _ s1⟨σ1,H1,I1,q1⟩=>?_);exact h2 pins s1 σ1 H1 _ _ Q I1 rr q1
noncomputable def Qz(K:PySem.W.Frag)(n:Nat)(t:Ed):TG:=fun v σ H Q=>∃a xs,v=.ref a/\jC K H a xs/\xs.length=n/\t xs σ H Q
theorem dh{es:List Expr}{k:Nat}{t:Ed}{n:Nat}(hc:X.calm=true)(h:Zw X es t)(hn:(assignEach es X.env).length=n:=by rfl)(hst:(assignEach es X.env).findIdx? (·.1)=none:=by rfl):PG X (.Tuple es k pos) (Qz X.K n t):=by intro pins s σ H v u Q I r hw;obtain⟨a,xs,e1,hq,hl,hw⟩:=hw;subst e1;cases r;obtain⟨its,rv,ht,hz⟩:=I.tuple hq;refine assign_Tuple_tuple (I.ok.hd hc) ht (by simp[hn,<-hl,rv.length]) hst fun h' hx=>?_;have I1:Inv X pins σ H {s with heap:=h'}:=I.kept (t':=s.toks) fun b o e=>hx b o (Nat.ne_of_lt (Heap.lt_size e)) e;exact h pins _ σ H xs _ Q I1 (by simpa using rv) hw
noncomputable def acQ(to ti:TE)(t:Qe):TG:=fun v σ H Q=>to σ H fun o H1=>ti σ H1 fun i H2=>t o i v H2 fun H3=>Q σ H3
theorem Qi{o i:Expr}{to ti:TE}{t:Qe}(ho:PE X o to)(hi:PE X i ti)(hs:Yb X t)(ha:∀ v,assign (.Subscript o i pos) X.env v=(do
  let ov<-holding [v] (eval o X.env)let iv<-holding [v,ov] (eval i X.env)standAt pos
  holding [v,ov,iv] (setItem ov iv v)release [v,ov,iv] []):=by intro _;rfl):PG X (.Subscript o i pos) (acQ to ti t):=by intro pins s σ H v u Q I r h;rw[ha];refine wpAny_bind (wpAny_holding (cL (ho pins s σ H _ I h) fun ov s1⟨x,H1,I1,r1,q1⟩=>?_));refine wpAny_bind (wpAny_holding (cL (hi pins s1 σ H1 _ I1 q1) fun iv s2⟨y,H2,I2,r2,q2⟩=>?_));refine wpAny_bind (wpAny_standAt (wpAny_bind (wpAny_holding (cL (hs pins s2 σ H2 x y v ov iv u _ I2 r1 r2 r q2) fun _ s3⟨H3,I3,q3⟩=>?_))));exact wpAny_release ⟨σ,H3,I3,q3⟩
noncomputable def O4(te:TE)(g:TG):TS:=fun D σ H=>te σ H fun x H1=>g x σ H1 D.nx
theorem Qx{tg e:Expr}{te:TE}{g:TG}(he:PE X e te)(hg:PG X tg g)(hs:swapsWithSole [tg] e pos.line X.env=pure false:=by rfl)(hw:swappedStores [tg] e X.env=pure none:=by rfl)(h1:(assignEach [tg] X.env).map (·.2)=[assign tg X.env]:=by rfl):PS X (.Assign [tg] e pos) (O4 te g):=by intro pins s σ H D I h;refine wpAny_Assign_stores (cL (he pins s σ H _ I h) fun v s1⟨x,H1,I1,r1,q1⟩=>?_) hs hw;rw[h1];exact cL (hg pins s1 σ H1 x v _ I1 r1 q1) fun _ s2 q=>q
theorem yN{i:Nat}{x:Str}{e:Expr}{te:TE}{pos':Pos}(hN:X.N.Nodup)(hi:X.N[i]?=some x)(hx:Loc X.env.scope x)(he:PE X e te)(hs:swapsWith e (some (.Name x pos')) pos.line X.env=pure false:=by rfl)(hf:X.fn x=true\/X.env.scope.names.lookup x=some .local:=by first|exact .inl rfl|exact .inr rfl|assumption):PS X (.Assign [.Name x pos'] e pos) (O4 te (o9 i)):=by intro pins s σ H D I h;refine wpAny_Assign_Name (cL (he pins s σ H _ I h) fun v s1⟨y,H1,I1,r1,q1⟩=>?_) hs;exact iZ I1 hN hi hx r1 (fun s2 I2=>⟨_,H1,I2,q1⟩) hf
noncomputable def abK(i j:Nat)(ta:TA):TS:=fun D σ H=>ta σ H fun vs H1=>∃v w,vs=[v,w]/\D.nx ((σ.set i (some v)).set j (some w)) H1
theorem PJ{i j:Nat}{x y:Str}{a b:Expr}{ta:TA}{px py pt:Pos}{kt k2 Te}(hc:X.calm=true)(hN:X.N.Nodup)(hi:X.N[i]?=some x)(hj:X.N[j]?=some y)(hij:i≠j)(hx:X.env.scope.names.lookup x=some .local)(hy:X.env.scope.names.lookup y=some .local)(ha:PA X [a,b] ta)(hw:swappedStores [.Tuple [.Name x px,.Name y py] kt pt] (.Tuple [a,b] k2 Te) X.env=pure (some [x,y]))(hs:swapsWithSole [.Tuple [.Name x px,.Name y py] kt pt] (.Tuple [a,b] k2 Te) pos.line X.env=pure false:=by rfl):PS X (.Assign [.Tuple [.Name x px,.Name y py] kt pt] (.Tuple [a,b] k2 Te) pos) (abK i j ta):=by
 intro pins s σ H D I h;rw[exec_Assign_arm];refine wpAny_bind (wpAny_standAt ?_);rw[hs];refine wpAny_bind (wpAny_pure ?_);rw[if_neg (by decide)];refine wpAny_bind (Tuple_ (cL (ha _ pins s σ H _ I h) fun us s1⟨vs,H1,I1,r1,q1⟩=>?_));obtain⟨v,w,e1,q1⟩:=q1;subst e1;obtain⟨u1,u2,rfl,rv,zA⟩:∃u1 u2,us=[u1,u2]/\RelV v u1/\RelV w u2:=by cases r1 with|cons p q=>cases q with|cons p' q'=>cases q';exact⟨_,_,rfl,p,p'⟩
 refine wpAny_newObj_type ?_ (by show 2<=sizeLine;decide);have I2:Inv X pins σ H1 {s1 with heap:=s1.heap.push {cls:=.type "tuple",data:=.seq [u1,u2].toArray}}:=I1.kept (t':=s1.toks) fun b o e=>Heap.get?_push_of_some _ e;rw[hw];refine wpAny_bind (wpAny_pure ?_);show wpAny (model X.prog X.w) X.A (do rule "assign.swapped-stores";let items<-unpackItems (.ref s1.heap.objs.size) 2 none;assignInOrder [fun v=>bindName X.env y v,fun v=>bindName X.env x v] items.reverse;pure Flow.next) _ _ _;refine wpAny_bind (wpAny_rule (wpAny_bind (unpackItems_tuple (items:=#[u1,u2]) (I.ok.hd hc) (IsTup.new s1.heap _) fun h' hx'=>?_)));have I3:=I2.kept (h':=h') (t':=s1.toks) fun b o e=>hx' b o (Nat.ne_of_lt (Heap.lt_size e)) e;show wpAny _ _ (assignInOrder [fun v=>bindName X.env y v,fun v=>bindName X.env x v] [u2,u1]>>=fun _=>pure Flow.next) _ _ _;refine wpAny_bind (assignInOrder_cons (wpAny_bindName (iZ I3 hN hj (.inl hy) zA (fun s2 I4=>?_) (.inr hy))));refine assignInOrder_cons (wpAny_bindName (iZ I4 hN hi (.inl hx) rv (fun s3 I5=>assignInOrder_nil (wpAny_pure ?_)) (.inr hx)));rw[List.set_comm _ _ (Ne.symm hij)]at I5;exact⟨_,H1,I5,q1⟩
noncomputable def aaR(i:Nat)(te:TE)(ti:ZQ):TS:=fun D σ H=>∃x,σ[i]?=some (some x)/\te σ H fun y H1=>ti x y H1 fun z H2=>D.nx (σ.set i (some z)) H2
theorem Py{i:Nat}{x:Str}{e:Expr}{te:TE}{op:Operator}{ti:ZQ}{pos':Pos}(hN:X.N.Nodup)(hi:X.N[i]?=some x)(hx:Loc X.env.scope x)(he:PE X e te)(ho:ZX X op ti)(hf:X.fn x=true\/X.env.scope.names.lookup x=some .local:=by first|exact .inl rfl|exact .inr rfl|assumption):PS X (.AugAssign (.Name x pos') op e pos) (aaR i te ti):=by
 intro pins s σ H D I h;obtain⟨v,e1,h⟩:=h;obtain⟨m,hn,hl⟩:=I.loc;have vis:xX X.env.scope x:=by rcases hx with k|k;exact .inl k;exact .inr (.inl k)
 obtain⟨u,r,l⟩:=hl i x v hi e1 vis;refine wpAny_AugAssign_Name ?_;have go:wpAny (model X.prog X.w) X.A (eval e X.env) (fun w s₂=>wpAny (model X.prog X.w) X.A (inplaceOp op u w) (fun r s₃=>wpAny (model X.prog X.w) X.A (storeName X.env x r) (fun _=>SP X pins D .next) X.xe s₃) X.xe s₂) X.xe s:=by refine cL (he pins s σ H _ I h) fun w s1⟨y,H1,I1,r1,q1⟩=>?_;refine cL (ho pins s1 σ H1 v y u w _ I1 r r1 q1) fun z s2⟨zv,H2,I2,r2,q2⟩=>?_;exact iZ I2 hN hi hx r2 (fun s3 I3=>⟨_,H2,I3,q2⟩) hf
 rcases l with⟨hk,hm⟩|⟨hk,c,hc,hcell⟩;.exact wpAny_loadName_local I.ok.kind hk hn hm go
 . rcases hk with hk|hk;.exact wpAny_loadName_cell I.ok.kind hk hc hcell go
   . rcases hx with k|k;.have:X.env.scope.names.lookup x=some .free:=hk;rw[k]at this;cases this
     .have:X.env.scope.names.lookup x=some .free:=hk;rw[k]at this;cases this
noncomputable def ipI(f:Int->Int->Int):ZQ:=fun x y H Q=>∃i j,x=.int i/\y=.int j/\Q (.int (f i j)) H
theorem RM:ZX X .Add (ipI fun i j=>i+j):=by intro pins s σ H x y v u Q I r1 r2 h;obtain⟨i,j,e1,e2,q⟩:=h;subst e1;subst e2;obtain⟨t,rfl⟩:=r1;obtain⟨t',rfl⟩:=r2;exact iadd_int ⟨.int _,H,I.tok _,⟨_,rfl⟩,q⟩
end
structure It where
 go:Nat->Hp->Prop
 Oj:Nat->Hp->V->Hp->Prop
 stop:Nat->Hp->Prop
noncomputable def mR(X:Cx)(pins:List (Addr×Obj))(H:Hp)(b:Addr):Prop:=H b=none/\b≠X.env.locals/\b∉X.fs/\(b∈X.ex\/X.s₀.heap.objs.size<=b)/\(∀x c,X.env.cells.lookup x=some c->c≠b)/\∀p∈X.pn++pins,p.1≠b
theorem Inv.De{X:Cx}{pins:List (Addr×Obj)}{σ:St}{H H':Hp}{s:Shared}{b:Addr}(I:Inv X pins σ H s)(hb:s.heap.objs.size<=b)(hn:H' b=none):mR X pins H' b:=by
 refine⟨hn,Nat.ne_of_gt (Nat.lt_of_lt_of_le I.lt hb),I.aco hb,.inr (Nat.le_trans I.sz hb),fun x c e z=>?_,fun p hp z=>?_⟩;.obtain⟨v,q⟩:=I.cell x c e;exact absurd (Nat.lt_of_lt_of_le q.lt (by rw[z];exact hb)) (Nat.lt_irrefl _)
 .exact absurd (Nat.lt_of_lt_of_le (Heap.lt_size (I.pin p hp).1) (by rw[z];exact hb)) (Nat.lt_irrefl _)
structure Turn(P:Program)(w:World)(K:PySem.W.Frag)(tg:Expr)(J:It)(fp:List Addr)(it:Addr)(tn:Nat->Heap->Prop):Prop where
 mem:it∈fp
 obj:∀i h,tn i h->∀b∈fp,∃o,h.get? b=some o/\∀v,o.data≠.cell v
 keep:∀i h h',tn i h->(∀b∈fp,∀o,h.get? b=some o->h'.get? b=some o)->tn i h'
 item:∀(X:Cx),X.prog=P->X.w=w->X.K=K->X.calm=true->∀(i:Nat)(pins:List (Addr×Obj))(s:Shared)(σ:St)(H:Hp)(E:Value->Shared->Prop),Inv X pins σ H s->(∀b∈fp,mR X pins H b)->tn i s.heap->J.go i H->wpAny (model P w) X.A (pyNext (.ref it)) (fun r s1=>∃u,r=some u/\wpAny (model P w) X.A (letOwnedTupleGo tg (.ref it) u) (fun _ s2=>∃x H',Inv X pins σ H' s2/\RelV x u/\J.Oj i H x H'/\tn (i+1) s2.heap/\∀b∈fp,H' b=none) E s1) E s
 done:∀(X:Cx),X.prog=P->X.w=w->X.K=K->X.calm=true->∀(i:Nat)(pins:List (Addr×Obj))(s:Shared)(σ:St)(H:Hp)(E:Value->Shared->Prop),Inv X pins σ H s->(∀b∈fp,mR X pins H b)->tn i s.heap->J.stop i H->wpAny (model P w) X.A (pyNext (.ref it)) (fun r s1=>r=none/\Inv X pins σ H s1) E s
 self:∀(A:Around)(i:Nat)(s:Shared)(Q:Value->Shared->Prop)(E:Value->Shared->Prop),tn i s.heap->Q (.ref it) s->wpAny (model P w) A (pyIter (.ref it)) Q E s
noncomputable abbrev TI:=St->Hp->(It->Hp->Prop)->Prop
noncomputable def PIE(X:Cx)(pins:List (Addr×Obj))(σ:St)(tg:Expr)(R:It->Hp->Prop)(itv:Value)(s2:Shared):Prop:=∃(it:Addr)(fp:List Addr)(tn:Nat->Heap->Prop)(J:It)(H':Hp),itv=.ref it/\Inv X pins σ H' s2/\Turn X.prog X.w X.K tg J fp it tn/\tn 0 s2.heap/\(∀b∈fp,mR X pins H' b)/\R J H'
noncomputable def PI(X:Cx)(tg iter:Expr)(wi:TI):Prop:=∀(pins:List (Addr × Obj))(s:Shared)(σ:St)(H:Hp)(R:It->Hp->Prop),Inv X pins σ H s->wi σ H R->wpAny (model X.prog X.w) X.A (eval iter X.env) (fun v s1=>wpAny (model X.prog X.w) X.A (pyIter v) (PIE X pins σ tg R) X.xe s1) X.xe s
theorem Bb{M:Model}{A:Around}{E:Value->Shared->Prop}{s:Shared}{tg:Expr}{it:Addr}{u:Value}{o:Obj}{n:String}{vs:Array Value}{Q:Unit->Shared->Prop}(ho:s.heap.get? it=some o)(hc:o.cls=.type n)(hd:o.data=.fields vs)(hn:["enumerate","zip","dict_itemiterator","dict_reverseitemiterator","odict_iterator","itertools.zip_longest","itertools.pairwise"].contains n=false)(hQ:Q () s):wpAny M A (letOwnedTupleGo tg (.ref it) u) Q E s:=by unfold letOwnedTupleGo;cases tg<;>first|exact wpAny_pure hQ|(cases u<;>first|exact wpAny_pure hQ|(refine wpAny_bind (wpAny_load ho ?_);rw[hc,hd];show wpAny M A (if(["enumerate","zip","dict_itemiterator","dict_reverseitemiterator","odict_iterator","itertools.zip_longest","itertools.pairwise"].contains n&&vs[0]?==some (rawInt _))=true then _ else _) Q E s;rw[if_neg (by intro h;rw[hn,Bool.false_and]at h;cases h)];exact wpAny_pure hQ))
noncomputable def Px(K:PySem.W.Frag)(a:Addr):It:=⟨fun i H=>∃xs x,gA K H a xs/\xs[i]?=some x,fun i H x H'=>H'=H/\∀xs,gA K H a xs->xs[i]?=some x,fun i H=>∃xs,gA K H a xs/\xs.length<=i⟩
noncomputable def Ut(K:PySem.W.Frag)(a:Addr):It:=⟨fun i H=>∃xs x,jC K H a xs/\xs[i]?=some x,fun i H x H'=>H'=H/\∀xs,jC K H a xs->xs[i]?=some x,fun i H=>∃xs,jC K H a xs/\xs.length<=i⟩
noncomputable def WY(lo:Int)(n:Nat):It:=⟨fun i _=>i<n,fun i H x H'=>H'=H/\x=.int (lo+i),fun i _=>n<=i⟩
theorem DN{P:Program}{w:World}{K:PySem.W.Frag}{tg:Expr}(a it:Addr):Turn P w K tg (Px K a) [it] it (fun i h=>h.IsListIter it a i)where
 mem:=by simp
 obj:=fun i h st b hb=>by
  have e:b=it:=by simpa using hb
  subst e;obtain⟨o,e,c,d⟩:=st;exact⟨o,e,fun v z=>by rw[d]at z;cases z⟩
 keep:=fun i h h' st k=>st.at fun o e=>k it (by simp) o e;item:=by intro X hP hw hK hc i pins s σ H E I hf st hg;subst hP hw hK;obtain⟨xs,x,hq,hx⟩:=hg;obtain⟨its,rv,p,hz⟩:=I.list hq;obtain⟨u,hu,ru⟩:=rv.get hx;obtain⟨f0,f1,f2,f3,f4,f5⟩:=hf it (by simp);refine wpAny_pyNext_list_item st p.isList (x:=u) (by simpa using hu) fun h' st' sb=>?_;have I1:Inv X pins σ H {s with heap:=h'}:=I.turned (t':=s.toks) (fun b o hb e=>(sb.2 b hb).trans e) f0 f1 f3 f4 f5;obtain⟨o,e,c,d⟩:=id st';exact⟨u,rfl,Bb (s:={s with heap:=h'}) e c d (by decide) ⟨x,H,I1,ru,⟨rfl,fun ys hy=>by rw[I.qe hy hq];exact hx⟩,st',fun b hb=>(hf b hb).1⟩⟩
 done:=by intro X hP hw hK hc i pins s σ H E I hf st hg;subst hP hw hK;obtain⟨xs,hq,hx⟩:=hg;obtain⟨its,rv,p,hz⟩:=I.list hq;obtain⟨f0,f1,f2,f3,f4,f5⟩:=hf it (by simp);have hl:=rv.length;exact wpAny_pyNext_list_end (I.ok.hd hc) st p.isList (by simp;omega) fun h' eb=>⟨rfl,I.turned (t':=s.toks) (fun b o hb e=>eb b o hb e) f0 f1 f3 f4 f5⟩
 self:=fun _ _ _ _ _ st h=>wpAny_pyIter_listiter st h
theorem zx{P:Program}{w:World}{K:PySem.W.Frag}{tg:Expr}(a it:Addr):Turn P w K tg (Ut K a) [it] it (fun i h=>h.IsTupleIter it a i)where
 mem:=by simp
 obj:=fun i h st b hb=>by
  have e:b=it:=by simpa using hb
  subst e;obtain⟨o,e,c,d⟩:=st;exact⟨o,e,fun v z=>by rw[d]at z;cases z⟩
 keep:=fun i h h' st k=>st.at fun o e=>k it (by simp) o e;item:=by intro X hP hw hK hc i pins s σ H E I hf st hg;subst hP hw hK;obtain⟨xs,x,hq,hx⟩:=hg;obtain⟨its,rv,p,hz⟩:=I.tuple hq;obtain⟨u,hu,ru⟩:=rv.get hx;obtain⟨f0,f1,f2,f3,f4,f5⟩:=hf it (by simp);refine wpAny_pyNext_tuple_item st (show s.heap.IsTuple a its.toArray from p) (x:=u) (by simpa using hu) fun h' st' sb=>?_;have I1:Inv X pins σ H {s with heap:=h'}:=I.turned (t':=s.toks) (fun b o hb e=>(sb.2 b hb).trans e) f0 f1 f3 f4 f5;obtain⟨o,e,c,d⟩:=id st';exact⟨u,rfl,Bb (s:={s with heap:=h'}) e c d (by decide) ⟨x,H,I1,ru,⟨rfl,fun ys hy=>by rw[I.mV hy hq];exact hx⟩,st',fun b hb=>(hf b hb).1⟩⟩
 done:=by intro X hP hw hK hc i pins s σ H E I hf st hg;subst hP hw hK;obtain⟨xs,hq,hx⟩:=hg;obtain⟨its,rv,p,hz⟩:=I.tuple hq;obtain⟨f0,f1,f2,f3,f4,f5⟩:=hf it (by simp);have hl:=rv.length;exact wpAny_pyNext_tuple_end (I.ok.hd hc) st (show s.heap.IsTuple a its.toArray from p) (by simp;omega) fun h' eb=>⟨rfl,I.turned (t':=s.toks) (fun b o hb e=>eb b o hb e) f0 f1 f3 f4 f5⟩
 self:=fun _ _ _ _ _ st h=>wpAny_pyIter_tupleiter st h
theorem yV{P:Program}{w:World}{K:PySem.W.Frag}{tg:Expr}(it:Addr)(lo:Int)(n:Nat):Turn P w K tg (WY lo n) [it] it (fun i h=>IsRangeIter h it (lo+(i:Nat)*1) ((n:Int)-(i:Nat)) 1)where
 mem:=by simp
 obj:=fun i h st b hb=>by
  have e:b=it:=by simpa using hb
  subst e;exact⟨_,st,fun v z=>by have z':Data.fields _=Data.cell v:=z;cases z'⟩
 keep:=fun i h h' st k=>k it (by simp) _ st;item:=by intro X hP hw hK hc i pins s σ H E I hf st hg;subst hP hw hK;obtain⟨f0,f1,f2,f3,f4,f5⟩:=hf it (by simp);have W:=Walks.range (prog:=X.prog) (w:=X.w) (I.ok.hd hc) it lo 1 n;refine W.item i s _ _ hg st fun v h' tk hv st' kk=>?_;obtain⟨t,rfl⟩:=hv;have I1:Inv X pins σ H {s with heap:=h',toks:=tk}:=I.turned (fun b o hb e=>kk b o (by simpa using hb) e) f0 f1 f3 f4 f5;refine⟨_,rfl,Bb (s:={s with heap:=h',toks:=tk}) (n:="range_iterator") st' rfl rfl (by decide) ⟨.int (lo+i),H,I1,⟨t,?_⟩,⟨rfl,rfl⟩,st',fun b hb=>(hf b hb).1⟩⟩;rw[Int.mul_one]
 done:=by intro X hP hw hK hc i pins s σ H E I hf st hg;subst hP hw hK;obtain⟨f0,f1,f2,f3,f4,f5⟩:=hf it (by simp);exact wpAny_pyNext_range_end (I.ok.hd hc) st (by have:n<=i:=hg;omega) fun h' eb=>⟨rfl,I.turned (t':=s.toks) (fun b o hb e=>eb b o hb e) f0 f1 f3 f4 f5⟩
 self:=fun _ _ _ _ _ st h=>wpAny_pyIter_rangeiter st h
end L2
namespace L2
open PySem PySem.Spec PyProof.Rows
section
variable{X:Cx}{tg:Expr}
theorem vV{pins:List (Addr×Obj)}{σ:St}{H:Hp}{s:Shared}{R:It->Hp->Prop}{E:Value->Shared->Prop}{lo hi:Int}{t u v:Tok}{tk:Nat}(I:Inv X pins σ H s)(h1:-(2^62)<=lo)(h2:lo<2^62)(h3:-(2^62)<=hi)(h4:hi<2^62)(q:R (WY lo (hi-lo).toNat) H):wpAny (model X.prog X.w) X.A (pyIter (.ref s.heap.objs.size)) (PIE X pins σ tg R) E {s with heap:=s.heap.push {cls:=.type "range",data:=.fields #[.int lo t,.int hi u,.int 1 v]},toks:=tk}:=by
 refine wpAny_pyIter_range (IsRange.new ..) (small_one h1 h2 h3 h4) ?_;have I1:Inv X pins σ H {s with heap:=s.heap.push {cls:=.type "range",data:=.fields #[.int lo t,.int hi u,.int 1 v]},toks:=tk}:=I.kept fun b o e=>Heap.get?_push_of_some _ e;refine⟨(s.heap.push {cls:=.type "range",data:=.fields #[.int lo t,.int hi u,.int 1 v]}).objs.size,[(s.heap.push {cls:=.type "range",data:=.fields #[.int lo t,.int hi u,.int 1 v]}).objs.size],_,_,H,rfl,I1.kept (t':=tk) fun b o e=>Heap.get?_push_of_some _ e,yV _ lo (hi-lo).toNat,?_,fun b hb=>?_,q⟩
 . have e1:lo+((0:Nat):Int)*1=lo:=by simp
   have e2:(((hi-lo).toNat:Nat):Int)-((0:Nat):Int)=Builtin.Range.rangeSize lo hi 1:=by rw[rangeSize_one];split<;>omega
   show IsRangeIter _ _ (lo+((0:Nat):Int)*1) ((((hi-lo).toNat:Nat):Int)-((0:Nat):Int)) 1;rw[e1,e2];exact Heap.get?_push_size _ rfl
 . have e:b=(s.heap.push {cls:=.type "range",data:=.fields #[.int lo t,.int hi u,.int 1 v]}).objs.size:=by simpa using hb
   subst e;exact I1.De (Nat.le_refl _) (I1.hok.fresh (Nat.le_refl _))
noncomputable def Xx(ta:TA):TI:=fun σ H R=>ta σ H fun vs H1=>∃j:Int,vs=[.int j]/\-(2^62)<=j/\j<2^62/\R (WY 0 j.toNat) H1
noncomputable def Xv(ta:TA):TI:=fun σ H R=>ta σ H fun vs H1=>∃i j:Int,vs=[.int i,.int j]/\(-(2^62)<=i/\i<2^62/\-(2^62)<=j/\j<2^62)/\R (WY i (j-i).toNat) H1
theorem CN{a:Expr}{ta:TA}{p pos:Pos}(hg:Gl X "range")(hm:X.mg "range"=none)(ha:PA X [a] ta)(hs:starEach [a] X.env=[(false,eval a X.env)]:=by rfl):PI X tg (.Call (.Name "range" p) [a] [] pos) (Xx ta):=by intro pins s σ H R I h;refine Call_ (lX I hg hm boot_range (PyProof.Rows.callWith_type1 (cL (ha pos pins s σ H _ I h) fun us s1⟨vs,H1,I1,r1,q1⟩=>?_) hs rfl));obtain⟨j,e,q1,q2,q⟩:=q1;subst e;cases r1 with|cons r rr=>cases rr;obtain⟨t,rfl⟩:=r;exact call_range_1 (vV I1 (by omega) (by omega) q1 q2 (by simpa using q))
theorem Dj{a b:Expr}{ta:TA}{p pos:Pos}(hg:Gl X "range")(hm:X.mg "range"=none)(ha:PA X [a,b] ta)(hs:starEach [a,b] X.env=[(false,eval a X.env),(false,eval b X.env)]:=by rfl)(hs2:starEach [b] X.env=[(false,eval b X.env)]:=by rfl):PI X tg (.Call (.Name "range" p) [a,b] [] pos) (Xv ta):=by intro pins s σ H R I h;refine Call_ (lX I hg hm boot_range (PyProof.Rows.callWith_type1 (cL (ha pos pins s σ H _ I h) fun us s1⟨vs,H1,I1,r1,q1⟩=>?_) (by rw[hs,hs2]) (by rw[hs2];rfl)));obtain⟨i,j,e,⟨q1,q2,q3,q4⟩,q⟩:=q1;subst e;cases r1 with|cons r rr=>cases rr with|cons r' rr=>cases rr;obtain⟨t,rfl⟩:=r;obtain⟨t',rfl⟩:=r';exact call_range_2 (vV I1 q1 q2 q3 q4 q)
noncomputable def acL(wi:TI)(g:TG)(tb:TS):TS:=fun D σ H=>wi σ H fun J H1=>∃W:Nat->Nat->St->Hp->Prop,(∃m,W 0 m σ H1)/\∀i m σ H,W i m σ H->(J.stop i H/\D.nx σ H)\/(J.go i H/\∃N:St->Hp->Prop,(∀σ' H',N σ' H'->∃m',m'<m/\W (i+1) m' σ' H')/\∀x H',J.Oj i H x H'->g x σ H' fun σ2 H2=>tb {D with nx:=N,ct:=N,bk:=D.nx} σ2 H2)
noncomputable def pQ(fp:List Addr)(h:Heap):List (Addr×Obj):=fp.filterMap fun b=>(h.get? b).map fun o=>(b,o)
theorem iB{fp:List Addr}{h:Heap}{b:Addr}{o:Obj}(hb:b∈fp)(e:h.get? b=some o):(b,o)∈pQ fp h:=List.mem_filterMap.mpr ⟨b,hb,by rw[e];rfl⟩
theorem Dn{fp:List Addr}{h:Heap}{p:Addr×Obj}(hp:p∈pQ fp h):p.1∈fp/\h.get? p.1=some p.2:=by obtain⟨b,hb,e⟩:=List.mem_filterMap.mp hp;cases q:h.get? b with|none=>rw[q]at e;cases e|some o=>rw[q]at e;have e':(b,o)=p:=Option.some.inj e;subst e';exact⟨hb,q⟩
theorem Inv.pinned{pins:List (Addr×Obj)}{σ:St}{H:Hp}{s:Shared}{fp:List Addr}(I:Inv X pins σ H s)(hf:∀b∈fp,mR X pins H b)(ho:∀b∈fp,∃o,s.heap.get? b=some o/\∀v,o.data≠.cell v):Inv X (pins++pQ fp s.heap) σ H s:=I.Bk fun p hp=>(List.mem_append.mp hp).elim (fun z=>I.pin p (List.mem_append_right _ z)) fun z=>by obtain⟨hb,e⟩:=Dn z;obtain⟨f0,f1,f2,_⟩:=hf p.1 hb;obtain⟨o,e',d⟩:=ho p.1 hb;rw[e]at e';cases e';exact⟨e,f0,f1,f2,d⟩
theorem Inv.lA{pins pl:List (Addr×Obj)}{σ:St}{H:Hp}{s:Shared}(I:Inv X (pins++pl) σ H s):Inv X pins σ H s:=I.Bk fun p hp=>I.pin p (List.mem_append_right _ (List.mem_append_left _ hp))
theorem QL{iter:Expr}{body:List Stmt}{wi:TI}{g:TG}{tb:TS}{pos:Pos}(hp:PassesOwn (model X.prog X.w) X.A X.env X.xe)(hc:X.calm=true)(hi:PI X tg iter wi)(hg:PG X tg g)(hb:Aa X body tb)(hs:∀x,foldedSetIterable iter X.env x=pure x:=by intro _;rfl):PS X (.For tg iter body [] pos) (acL wi g tb):=by
 intro pins s σ H D I h;refine wpAny_For (cL (hi pins s σ H _ I h) fun v s1 h1=>cL h1 fun itv s2 h2=>?_) hs;obtain⟨it,fp,tn,J,H2,e,I2,T,st2,f2,W,⟨m0,w0⟩,turn⟩:=h2;subst e--what stays true of the iterator's objects through the loop
 have stat:∀{H':Hp},(∀b∈fp,H' b=none)->∀b∈fp,mR X pins H' b:=fun hn b hb=>⟨hn b hb,(f2 b hb).2⟩;refine codeAny_forLoop_any (fun n s'=>∃i σ' H',Inv X pins σ' H' s'/\tn i s'.heap/\(∀b∈fp,H' b=none)/\W i n σ' H') ?_ m0 ⟨0,σ,H2,I2,st2,fun b hb=>(f2 b hb).1,w0⟩;rintro n s3⟨i,σ3,H3,I3,st3,fr3,w3⟩;rcases turn i n σ3 H3 w3 with⟨stop,qn⟩|⟨go,N,hN,step⟩;.refine wpAny_passesOwn hp (cL (T.done X rfl rfl rfl hc i pins s3 σ3 H3 X.xe I3 (stat fr3) st3 stop) fun r s4⟨hr,I4⟩=>?_);subst hr;exact wpAny_execs_nil ⟨σ3,H3,I4,qn⟩
 . refine wpAny_passesOwn hp (cL (T.item X rfl rfl rfl hc i pins s3 σ3 H3 X.xe I3 (stat fr3) st3 go) fun r s4⟨u,hr,h4⟩=>?_);subst hr;refine wpAny_passesOwn hp (cL h4 fun _ s5⟨x,H5,I5,r5,y5,Mu,fr5⟩=>?_);have I5':=I5.pinned (stat fr5) (T.obj _ _ Mu);refine wpAny_passesOwn hp (cL (hg _ s5 σ3 H5 x u _ I5' r5 (step x H5 y5)) fun _ s6⟨σ6,H6,I6,q6⟩=>?_);refine wpAny_passesOwn hp (cL (hb _ s6 σ6 H6 _ I6 q6) fun f s7 q7=>?_);have again:∀{σ7:St}{H7:Hp},Inv X (pins++pQ fp s5.heap) σ7 H7 s7->N σ7 H7->∃m,m<n/\∃i σ' H',Inv X pins σ' H' s7/\tn i s7.heap/\(∀b∈fp,H' b=none)/\W i m σ' H':=fun{σ7 H7}I7 n7=>by obtain⟨m',hm,w7⟩:=hN σ7 H7 n7;refine⟨m',hm,i+1,σ7,H7,I7.lA,T.keep _ _ _ Mu fun b hb o e=>(I7.pin (b,o) (List.mem_append_right _ (List.mem_append_right _ (iB hb e)))).1,fun b hb=>?_,w7⟩;obtain⟨o,e,d⟩:=T.obj _ _ Mu b hb;exact(I7.pin (b,o) (List.mem_append_right _ (List.mem_append_right _ (iB hb e)))).2.1
   cases f with|next=>obtain⟨σ7,H7,I7,n7⟩:=q7;exact again I7 n7|cont=>obtain⟨σ7,H7,I7,n7⟩:=q7;exact again I7 n7|brk=>obtain⟨σ7,H7,I7,q7⟩:=q7;exact⟨σ7,H7,I7.lA,q7⟩|ret v=>obtain⟨x7,σ7,H7,I7,r7,q7⟩:=q7;exact⟨x7,σ7,H7,I7.lA,r7,q7⟩
end
end L2
namespace L2
open PySem PySem.Spec PyProof.Rows
noncomputable abbrev R2:=V->V->Hp->VK->Prop
noncomputable def fH(X:Cx)(f:Value->Value->Sem Value)(r:R2):Prop:=∀(pins:List (Addr × Obj))(s:Shared)(σ:St)(H:Hp)(x y:V)(v u:Value)(Q:VK),Inv X pins σ H s->RelV x v->RelV y u->r x y H Q->wpAny (model X.prog X.w) X.A (f v u) (EP X pins σ Q) X.xe s
noncomputable def UnR(X:Cx)(f:Value->Sem Value)(r:V->Hp->VK->Prop):Prop:=∀(pins:List (Addr × Obj))(s:Shared)(σ:St)(H:Hp)(x:V)(v:Value)(Q:VK),Inv X pins σ H s->RelV x v->r x H Q->wpAny (model X.prog X.w) X.A (f v) (EP X pins σ Q) X.xe s
noncomputable def fc(X:Cx)(f:Value)(r:List V->Hp->VK->Prop):Prop:=∀(pins:List (Addr × Obj))(s:Shared)(σ:St)(H:Hp)(xs:List V)(us:List Value)(Q:VK),Inv X pins σ H s->Vals xs us->r xs H Q->wpAny (model X.prog X.w) X.A (call f us) (EP X pins σ Q) X.xe s
noncomputable def Vb(r:R2)(ta tb:TE):TE:=fun σ H Q=>ta σ H fun x H1=>tb σ H1 fun y H2=>r x y H2 Q
noncomputable def tUn(r:V->Hp->VK->Prop)(ta:TE):TE:=fun σ H Q=>ta σ H fun x H1=>r x H1 Q
noncomputable def rI(C:Int->Int->Prop)(g:Int->Int->V):R2:=fun x y H Q=>∃i j,x=.int i/\y=.int j/\C i j/\Q (g i j) H
noncomputable def Je(g:Int->Int->V):R2:=fun x y H Q=>∃i j,x=.int i/\y=.int j/\Q (g i j) H
noncomputable def rU(g:Int->V):V->Hp->VK->Prop:=fun x H Q=>∃i,x=.int i/\Q (g i) H
section
variable{X:Cx}{a b c:Expr}{ta tb tc:TE}{pos:Pos}
theorem RG(ha:PE X a ta)(hb:PE X b tb){pins:List (Addr×Obj)}{s:Shared}{σ:St}{H:Hp}{R:V->V->Hp->Prop}(I:Inv X pins σ H s)(h:ta σ H fun x H1=>tb σ H1 fun y H2=>R x y H2){Q:Value->Shared->Prop}{f:Value->Value->Sem Value}(hf:∀v u s2 x y H2,Inv X pins σ H2 s2->RelV x v->RelV y u->R x y H2->wpAny (model X.prog X.w) X.A (f v u) Q X.xe s2):wpAny (model X.prog X.w) X.A (eval a X.env) (fun v s₁=>wpAny (model X.prog X.w) X.A (eval b X.env) (fun u s₂=>wpAny (model X.prog X.w) X.A (f v u) Q X.xe s₂) X.xe s₁) X.xe s:=by refine cL (ha pins s σ H _ I h) fun v s1⟨x,H1,I1,r1,q1⟩=>?_;refine cL (hb pins s1 σ H1 _ I1 q1) fun u s2⟨y,H2,I2,r2,q2⟩=>?_;exact hf v u s2 x y H2 I2 r1 r2 q2
theorem We{op:Operator}{r:R2}(ho:fH X (binaryOp op) r)(ha:PE X a ta)(hb:PE X b tb):PE X (.BinOp a op b pos) (Vb r ta tb):=by intro pins s σ H Q I h;exact wpAny_BinOp (RG ha hb I h fun v u s2 x y H2 I2 rx ry q=>ho pins s2 σ H2 x y v u Q I2 rx ry q)
theorem Wk{op:UnaryOp}{r:V->Hp->VK->Prop}(ho:UnR X (unaryOp op) r)(ha:PE X a ta):PE X (.UnaryOp op a pos) (tUn r ta):=by intro pins s σ H Q I h;exact UnaryOp_ (cL (ha pins s σ H _ I h) fun v s1⟨x,H1,I1,r1,q1⟩=>ho pins s1 σ H1 x v Q I1 r1 q1)
theorem opI{f:Value->Value->Sem Value}{C:Int->Int->Prop}{g:Int->Int->Int}(rule:∀(i j:Int)(t u:Tok)(s:Shared)(Q:Value->Shared->Prop)(E:Value->Shared->Prop),C i j->Q (.int (g i j) s.toks) {s with toks:=s.toks+1}->wpAny (model X.prog X.w) X.A (f (.int i t) (.int j u)) Q E s):fH X f (rI C fun i j=>.int (g i j)):=by intro pins s σ H x y v u Q I rx ry h;obtain⟨i,j,rfl,rfl,hc,q⟩:=h;obtain⟨t,rfl⟩:=rx;obtain⟨t',rfl⟩:=ry;exact rule i j t t' s _ _ hc ⟨.int (g i j),H,I.tok _,⟨_,rfl⟩,q⟩
theorem XN{f:Value->Value->Sem Value}{g:Int->Int->Int}(rule:∀(i j:Int)(t u:Tok)(s:Shared)(Q:Value->Shared->Prop)(E:Value->Shared->Prop),Q (.int (g i j) s.toks) {s with toks:=s.toks+1}->wpAny (model X.prog X.w) X.A (f (.int i t) (.int j u)) Q E s):fH X f (Je fun i j=>.int (g i j)):=by intro pins s σ H x y v u Q I rx ry h;obtain⟨i,j,rfl,rfl,q⟩:=h;obtain⟨t,rfl⟩:=rx;obtain⟨t',rfl⟩:=ry;exact rule i j t t' s _ _ ⟨.int (g i j),H,I.tok _,⟨_,rfl⟩,q⟩
theorem Mf{f:Value->Value->Sem Value}{g:Int->Int->Bool}(rule:∀(i j:Int)(t u:Tok)(s:Shared)(Q:Value->Shared->Prop)(E:Value->Shared->Prop),Q (.bool (g i j)) s->wpAny (model X.prog X.w) X.A (f (.int i t) (.int j u)) Q E s):fH X f (Je fun i j=>.bl (g i j)):=by intro pins s σ H x y v u Q I rx ry h;obtain⟨i,j,rfl,rfl,q⟩:=h;obtain⟨t,rfl⟩:=rx;obtain⟨t',rfl⟩:=ry;exact rule i j t t' s _ _ ⟨.bl (g i j),H,I,rfl,q⟩
noncomputable def abH(i j:Int):Prop:=0<=j/\j<=1000000/\i.natAbs<2^64
noncomputable def Ry(i j:Int):Prop:=(-(2^64)<i/\i<2^64)\/(-(2^64)<j/\j<2^64)
theorem Ry.ok{i j:Int}(h:Ry i j):IntMulOk i j:=by
 rcases h with⟨h1,h2⟩|⟨h1,h2⟩;.exact .of_left (intBits_le_64 h1 h2)
 .exact .of_right (intBits_le_64 h1 h2)
theorem R5:fH X (binaryOp .Add) (Je fun i j=>.int (i+j)):=XN fun _ _ _ _ _ _ _ q=>add_int q
theorem Qk:fH X (binaryOp .Sub) (Je fun i j=>.int (i-j)):=XN fun _ _ _ _ _ _ _ q=>sub_int q
theorem QX:fH X (binaryOp .Mult) (rI Ry fun i j=>.int (i*j)):=opI fun _ _ _ _ _ _ _ hc q=>mul_int q hc.ok
theorem Q5:fH X (binaryOp .Mod) (rI (fun _ j=>0<j) fun i j=>.int (i%j)):=opI fun i j _ _ _ _ _ hc q=>by have h1:(0:Int)<j:=hc;exact mod_int' (by omega) (by rw[Int.fmod_eq_emod_of_nonneg i (by omega)];exact q)
theorem Rf:fH X (binaryOp .Pow) (rI abH fun i j=>.int (i^j.toNat)):=opI fun _ _ _ _ _ _ _ hc q=>pow_int_small hc.1 hc.2.1 hc.2.2 q
theorem unI{f:Value->Sem Value}{g:Int->Int}(rule:∀(i:Int)(t:Tok)(s:Shared)(Q:Value->Shared->Prop)(E:Value->Shared->Prop),Q (.int (g i) s.toks) {s with toks:=s.toks+1}->wpAny (model X.prog X.w) X.A (f (.int i t)) Q E s):UnR X f (rU fun i=>.int (g i)):=by intro pins s σ H x v Q I rx h;obtain⟨i,rfl,q⟩:=h;obtain⟨t,rfl⟩:=rx;exact rule i t s _ _ ⟨.int (g i),H,I.tok _,⟨_,rfl⟩,q⟩
theorem Qd:UnR X (unaryOp .USub) (rU fun i=>.int (-i)):=unI fun _ _ _ _ _ q=>neg_int q
end
section
variable{X:Cx}{a b c:Expr}{ta tb tc:TE}{pos:Pos}
theorem Ys:fH X (compareOp .Lt) (Je fun i j=>.bl (decide (i<j))):=Mf fun _ _ _ _ _ _ _ q=>lt_int q
theorem Wg:fH X (compareOp .LtE) (Je fun i j=>.bl (decide (i<=j))):=Mf fun _ _ _ _ _ _ _ q=>le_int q
theorem WM:fH X (compareOp .Gt) (Je fun i j=>.bl (decide (j<i))):=Mf fun _ _ _ _ _ _ _ q=>gt_int q
theorem VV:fH X (compareOp .GtE) (Je fun i j=>.bl (decide (j<=i))):=Mf fun _ _ _ _ _ _ _ q=>ge_int q
theorem aV(b:Expr){op:CmpOp}(h:op≠.In:=by decide)(h2:op≠.NotIn:=by decide):behindInMarks op b=false:=by
 have e1:(op==CmpOp.In)=false:=by cases op<;>first|rfl|exact absurd rfl h
 have e2:(op==CmpOp.NotIn)=false:=by cases op<;>first|rfl|exact absurd rfl h2
 cases b<;>simp[behindInMarks,e1,e2]
theorem Kz{op:CmpOp}{r:R2}(ho:fH X (compareOp op) r)(ha:PE X a ta)(hb:PE X b tb)(hm:behindInMarks op b=false):PE X (.Compare a [op] [b] pos) (Vb r ta tb):=by intro pins s σ H Q I h;exact wpAny_Compare1 (RG ha hb I h fun v u s2 x y H2 I2 rx ry q=>ho pins s2 σ H2 x y v u Q I2 rx ry q) hm
noncomputable def NB(t:TE):TT:=fun σ H Q=>t σ H fun x H'=>∃k,x=.bl k/\Q k H'
theorem LK{op:CmpOp}{r:R2}(ho:fH X (compareOp op) r)(ha:PE X a ta)(hb:PE X b tb)(hm:behindInMarks op b=false):PT X (.Compare a [op] [b] pos) (NB (Vb r ta tb)):=by intro pins s σ H Q I h;refine wpAny_isTrue_Compare1 (cL (ha pins s σ H _ I h) fun v s1⟨x,H1,I1,r1,q1⟩=>cL (hb pins s1 σ H1 _ I1 q1) fun u s2⟨y,H2,I2,r2,q2⟩=>cL (ho pins s2 σ H2 x y v u _ I2 r1 r2 q2) fun c s3⟨z,H3,I3,r3,k,e,q3⟩=>?_) hm;subst e;cases r3;exact wpAny_truthy_bool ⟨H3,I3,q3⟩
noncomputable def yh(r r':R2)(ta tb tc:TE):TE:=fun σ H Q=>ta σ H fun x H1=>tb σ H1 fun y H2=>r x y H2 fun z H3=>∃k,z=.bl k/\(if k=true then tc σ H3 fun w' H4=>r' y w' H4 Q else Q (.bl false) H3)
theorem Gk{op op':CmpOp}{r r':R2}(ho:fH X (compareOp op) r)(ho':fH X (compareOp op') r')(ha:PE X a ta)(hb:PE X b tb)(hc:PE X c tc)(hm:lastMarks [op,op'] [b,c]=false:=by with_unfolding_all rfl):PE X (.Compare a [op,op'] [b,c] pos) (yh r r' ta tb tc):=by intro pins s σ H Q I h;refine Compare_chain (cL (ha pins s σ H _ I h) fun v s1⟨x,H1,I1,r1,q1⟩=>chain_link (cL (hb pins s1 σ H1 _ I1 q1) fun u s2⟨y,H2,I2,r2,q2⟩=>cL (ho pins s2 σ H2 x y v u _ I2 r1 r2 q2) fun d s3⟨z,H3,I3,r3,k,e,q3⟩=>?_)) hm;subst e;cases r3;refine wpAny_truthy_bool ?_;cases k with|false=>exact ite_ff ⟨.bl false,H3,I3,rfl,q3⟩|true=>exact ite_tt (chain_last (cL (hc pins s3 σ H3 _ I3 q3) fun w' s4⟨z',H4,I4,r4,q4⟩=>ho' pins s4 σ H4 y z' u w' Q I4 r2 r4 q4))
theorem Il{op op':CmpOp}{r r':R2}(ho:fH X (compareOp op) r)(ho':fH X (compareOp op') r')(ha:PE X a ta)(hb:PE X b tb)(hc:PE X c tc)(hm:lastMarks [op,op'] [b,c]=false:=by with_unfolding_all rfl):PT X (.Compare a [op,op'] [b,c] pos) (NB (yh r r' ta tb tc)):=by intro pins s σ H Q I h;refine isTrue_chain (cL (ha pins s σ H _ I h) fun v s1⟨x,H1,I1,r1,q1⟩=>test_link (cL (hb pins s1 σ H1 _ I1 q1) fun u s2⟨y,H2,I2,r2,q2⟩=>cL (ho pins s2 σ H2 x y v u _ I2 r1 r2 q2) fun d s3⟨z,H3,I3,r3,k,e,q3⟩=>?_)) hm;subst e;cases r3;refine wpAny_truthy_bool ?_;cases k with|false=>obtain⟨k',e',q'⟩:=q3;cases e';exact ite_ff ⟨H3,I3,q'⟩|true=>refine ite_tt (test_last (cL (hc pins s3 σ H3 _ I3 q3) fun w' s4⟨z',H4,I4,r4,q4⟩=>cL (ho' pins s4 σ H4 y z' u w' _ I4 r2 r4 q4) fun d' s5⟨z2,H5,I5,r5,k2,e2,q5⟩=>?_));subst e2;cases r5;exact wpAny_truthy_bool ⟨H5,I5,q5⟩
theorem uz:(sizeLine:Nat)<2^63:=by rw[sizeLine_eq];decide
theorem yI:fH X (binaryOp .Add) (fun x y H Q=>∃i j,x=.str i/\y=.str j/\i.length+j.length<=sizeLine/\Q (.str (i++j)) H):=by intro pins s σ H x y v u Q I rx ry h;obtain⟨i,j,rfl,rfl,hz,q⟩:=h;obtain⟨t,rfl⟩:=rx;obtain⟨t',rfl⟩:=ry;exact add_str (fun t' tk=>⟨.str (i++j),H,I.tok _,⟨_,rfl⟩,q⟩) hz
theorem vals1{x:V}{us:List Value}(r:Vals [x] us):∃u,us=[u]/\RelV x u:=by cases r with|cons r1 r2=>cases r2;exact⟨_,rfl,r1⟩
theorem vals2{x y:V}{us:List Value}(r:Vals [x,y] us):∃u w',us=[u,w']/\RelV x u/\RelV y w':=by cases r with|cons r1 r2=>cases r2 with|cons r3 r4=>cases r4;exact⟨_,_,rfl,r1,r3⟩
theorem Cu(hc:X.calm=true):fc X (.builtin "max") (fun xs H Q=>∃i j,xs=[.int i,.int j]/\Q (.int (if j>i then j else i)) H):=by
 intro pins s σ H xs us Q I r h;obtain⟨i,j,rfl,q⟩:=h;obtain⟨u,w',rfl,⟨t,rfl⟩,⟨t',rfl⟩⟩:=vals2 r;refine max_two_ints (I.ok.hd hc) fun h' tk k=>⟨_,H,I.kept k,?_,q⟩;by_cases hj:j>i;.rw[if_pos hj,if_pos hj];exact⟨_,rfl⟩
 .rw[if_neg hj,if_neg hj];exact⟨_,rfl⟩
end
end L2
namespace L2
open PySem PySem.Spec PyProof.Rows
theorem nZ.some_of{v:V}{o:Option Value}(r:nZ (some v) o):∃u,o=some u/\RelV v u:=by cases o with|none=>exact(show False from r).elim|some u=>exact⟨u,rfl,r⟩
end L2
namespace L2
open PySem PySem.Spec PyProof.Rows
structure jm(k:Nat)(A:Around):Prop where
 hd:A.handled=none
 dp:A.depth+3*k+5<recursionLimit
 un:A.units+16*k+200<cLine
theorem jm.deeper{k:Nat}{A:Around}(r:jm (k+1) A)(env:Env):jm k (A.deeper env):=⟨r.hd,by have:=r.dp;show A.depth+1+3*k+5<_;omega,by have:=r.un;show A.units+3+16*k+200<_;omega⟩
theorem jm.depth{k:Nat}{A:Around}(r:jm k A):A.depth<recursionLimit:=by have:=r.dp;omega
noncomputable def abi:TA:=fun _ H Q=>Q [] H
noncomputable def V2(ta:TE)(tr:TA):TA:=fun σ H Q=>ta σ H fun x H1=>tr σ H1 fun xs H2=>Q (x::xs) H2
section
variable{X:Cx}{e:Expr}{es:List Expr}{te:TE}{t:TA}{pos:Pos}
theorem gD:PA X [] abi:=fun _ _ _ _ H Q I h=>Calls.spliced_nil ⟨[],H,I,.nil,h⟩
theorem cR(ha:PE X e te)(hr:PA X es t)(hs:starEach (e::es) X.env=(false,eval e X.env)::starEach es X.env:=by rfl):PA X (e::es) (V2 te t):=by intro pos pins s σ H Q I h;rw[hs];show wpAny _ _ (spliced ((false,eval e X.env)::backTo pos (starEach es X.env))) _ _ s;refine Calls.spliced_cons (cL (ha pins s σ H _ I h) fun u s1⟨x,H1,I1,r1,q1⟩=>?_);exact cL (hr pos pins s1 σ H1 _ I1 q1) fun us s2⟨xs,H2,I2,r2,q2⟩=>⟨x::xs,H2,I2,.cons r1 r2,q2⟩
noncomputable def acU(t:TA):TE:=fun σ H Q=>t σ H fun xs H1=>xs.length<=sizeLine/\∀p,H1 p=none->Q (.ref p) (upd H1 p (.tup xs))
noncomputable def ab5(t:TA):TE:=fun σ H Q=>t σ H fun xs H1=>xs.length<=sizeLine/\∀p,H1 p=none->Q (.ref p) (upd H1 p (.lst xs))
theorem ug{x1}(h:PA X es t):PE X (.Tuple es x1 pos) (acU t):=by intro pins s σ H Q I hq;refine wpAny_Tuple_spliced (cL (h pos pins s σ H _ I hq) fun us s1⟨xs,H1,I1,r,z,q⟩=>⟨by rw[<-r.length];exact z,?_⟩);have hf:H1 s1.heap.objs.size=none:=I1.hok.fresh (Nat.le_refl _);refine⟨.ref s1.heap.objs.size,upd H1 s1.heap.objs.size (.tup xs),I1.laid (t':=s1.toks) (fun b u e=>Heap.get?_push_of_some _ e) (Nat.le_refl _) ?_,rfl,q _ hf⟩;exact⟨z,us,r,⟨_,Heap.get?_push_size _ rfl,rfl,_,rfl⟩⟩
theorem Rx(h:PA X es t):PE X (.List es pos) (ab5 t):=by intro pins s σ H Q I hq;refine wpAny_List_spliced (cL (h pos pins s σ H _ I hq) fun us s1⟨xs,H1,I1,r,z,q⟩=>⟨by rw[<-r.length];exact z,?_⟩);have hf:H1 s1.heap.objs.size=none:=I1.hok.fresh (Nat.le_refl _);refine⟨.ref s1.heap.objs.size,upd H1 s1.heap.objs.size (.lst xs),I1.laid (t':=s1.toks) (fun b u e=>Heap.get?_push_of_some _ e) (Nat.le_refl _) ?_,rfl,q _ hf⟩;exact⟨z,us,0,r,Heap.get?_push_size _ rfl⟩
end
noncomputable abbrev Sp:=List V->Hp->VK->XK->Prop
noncomputable abbrev Ib:=List Env->Hp->Shared->XK->Value->Shared->Prop
structure J0(P:Program)(w:World)(K:PySem.W.Frag)(mg:Str->Option Value)(base:Heap)(A:Around)(outer:List Env)(s:Shared)(H:Hp):Prop where
 frames:A.frames=some outer
 mod:Mod K mg base
 bs:∀b o,base.get? b=some o->s.heap.get? b=some o/\H b=none
 Jl:base.objs.size<=s.heap.objs.size
 m7:s.heap.FunFrames base outer
 Oi:∀b∈frs outer,H b=none
 hok:lV P w H s.heap
 bare:AllBare s.gens
noncomputable def CE(outer:List Env)(P:Program)(w:World)(H:Hp)(s:Shared)(Q:VK)(u:Value)(s':Shared):Prop:=∃v H',s'.os=s.os/\AllBare s'.gens/\Un (frs outer) [] H H' s.heap s'.heap/\lV P w H' s'.heap/\RelV v u/\Q v H'
noncomputable def CR(CX:Ib)(outer:List Env)(P:Program)(w:World)(H:Hp)(s:Shared)(Q:VK)(E:XK)(r:Result)(s':Shared):Prop:=match r with|.ok (.ret u)=>CE outer P w H s Q u s'|.ok _=>False|.error e=>CX outer H s E e s'
structure bV(P:Program)(w:World)(K:PySem.W.Frag)(mg:Str->Option Value)(base:Heap)(CX:Ib)(k:Nat)(f:Addr)(fd:FuncData)(ps:List Str)(sp:Sp):Prop where
 len:∀vs H Q E,sp vs H Q E->vs.length=ps.length
 run:∀(A:Around)(outer:List Env)(s:Shared)(H:Hp)(args:Args)(us:List Value)(vs:List V)(Q:VK)(E:XK),jm k A->J0 P w K mg base A outer s H->BindsTo s fd args (ps.zip us)->Vals vs us->sp vs H Q E->codeAny (model P w) A (.call (.ref f) args) (CR CX outer P w H s Q E) s
section
variable{X:Cx}{pins:List (Addr×Obj)}{σ:St}{H:Hp}{s s':Shared}
theorem Inv.env0(I:Inv X pins σ H s):J0 X.prog X.w X.K X.mg X.base X.A X.stack s H:=⟨I.ok.frames,I.ok.mod,I.bs,Nat.le_trans I.ok.Jl I.sz,I.stack,I.Aq,I.hok,I.bare⟩
theorem Inv.after{Q:VK}{u:Value}(I:Inv X pins σ H s)(h:CE X.stack X.prog X.w H s Q u s'):EP X pins σ Q u s':=by obtain⟨v,H',os,bare,un,hok,r,q⟩:=h;obtain⟨hh,g,d,t,os'⟩:=s';obtain rfl:os'=s.os:=os;exact⟨v,H',I.call (h':=hh) (g':=g) (d':=d) (t':=t) (ch:=[]) un hok bare (fun b z=>absurd z (by simp)),r,q⟩
end
noncomputable def Xe(sp:Sp)(Ol:List V)(E:XK)(t:TA):TE:=fun σ H Q=>t σ H fun vs H1=>sp (vs++Ol) H1 Q E
noncomputable def Binds(K:PySem.W.Frag)(fd:FuncData)(ps:List Str)(ds:List Value):Prop:=∀(s:Shared)(us:List Value),K.In s.heap->(us++ds).length=ps.length->BindsTo s fd ⟨us,[]⟩ (ps.zip (us++ds))
theorem Binds.all{K:PySem.W.Frag}{fd:FuncData}{ps:List Str}(h:∀us:List Value,us.length=ps.length->bindArgs fd ⟨us,[]⟩=pure (ps.zip us)):Binds K fd ps []:=fun s us _ hl=>by rw[List.append_nil]at hl ⊢;exact .of_eq (h us hl)
noncomputable def Passes(CX:Ib)(X:Cx)(E:XK):Prop:=∀(pins:List (Addr×Obj))(σ:St)(H:Hp)(s:Shared)(e:Value)(s':Shared),Inv X pins σ H s->CX X.stack H s E e s'->X.xe e s'
section
variable{X:Cx}{CX:Ib}{k:Nat}{f C:Addr}{fd:FuncData}{ps:List Str}{sp:Sp}{Ol:List V}{ds:List Value}{E:XK}{x m:Str}{p pos apos:Pos}{e o:Expr}{es:List Expr}{ta:TE}{t:TA}
theorem QW{pins:List (Addr×Obj)}{σ:St}{H:Hp}{s:Shared}{Q:VK}{us:List Value}{vs:List V}(F:bV X.prog X.w X.K X.mg X.base CX k f fd ps sp)(hr:jm k X.A)(hb:Binds X.K fd ps ds)(hd:Vals Ol ds)(hx:Passes CX X E)(I:Inv X pins σ H s)(r:Vals vs us)(h:sp (vs++Ol) H Q E):wpAny (model X.prog X.w) X.A (call (.ref f) us) (EP X pins σ Q) X.xe s:=by
 have r2:Vals (vs++Ol) (us++ds):=r.append hd;have hl:(us++ds).length=ps.length:=by rw[<-r2.length];exact F.len _ _ _ _ h
 refine wpAny_call (codeAny_mono (F.run X.A X.stack s H ⟨us,[]⟩ (us++ds) (vs++Ol) Q E hr I.env0 (hb s us I.O8 hl) r2 h) fun r s' hq=>?_);cases r with|error e=>exact hx pins σ H s e s' I hq|ok fl=>cases fl with|ret u=>exact I.after hq|next=>exact False.elim hq|brk=>exact False.elim hq|cont=>exact False.elim hq
theorem J7(F:bV X.prog X.w X.K X.mg X.base CX k f fd ps sp)(hr:jm k X.A)(hg:Gl X x)(hm:X.mg x=some (.ref f))(hk:PySem.W.keepIn X.K (.ref f)=true)(hb:Binds X.K fd ps ds)(hd:Vals Ol ds)(hx:Passes CX X E)(ha:PA X (e::es) t)(hdb:(x==("__debug__":Str))=false:=by decide)(he:starEach (e::es) X.env=(false,eval e X.env)::starEach es X.env:=by rfl)(hpl:(backTo pos (starEach es X.env)).any (·.1)=false:=by rfl):PE X (.Call (.Name x p) (e::es) [] pos) (Xe sp Ol E t):=by intro pins s σ H Q I h;refine wpAny_Call_Name_kw (K1 I hg hm ?_ hdb);refine PySem.W.callWith_K (h₀:=X.base) I.ok.mod.kin hk (cL (ha pos pins s σ H _ I h) fun us s1⟨vs,H1,I1,r,q⟩=>⟨I1.O8,?_⟩) he hpl;exact QW F hr hb hd hx I1 r q
end
structure aK(N P:List Str)(sc:Scope):Prop where
 kind:sc.kind=.function
 co:sc.isCoroutine=false
 gen:sc.isGenerator=false
 nd:N.Nodup
 pre:N.take P.length=P
 par:∀x∈P,sc.names.lookup x=some .local\/sc.names.lookup x=some .cell
 Tf:∀y∈sc.names,y.2≠.free
theorem rR{kindOf:Str->Option NameKind}{x:Str}:∀{binds:List (Str×Value)}{m:Str->Option Value},(∀v,(x,v)∉binds)->bindL kindOf binds m x=m x
 |[],_,_=>rfl|(n,v)::r,m,h=>by
   unfold bindL;rw[rR fun w hw=>h w (List.mem_cons_of_mem _ hw)];split
   . have:x≠n:=by rintro rfl;exact h v List.mem_cons_self
     simp[this]
   .rfl
theorem sU{kindOf:Str->Option NameKind}{x:Str}:∀{binds:List (Str×Value)}{m:Str->Option Value},(∀v,(x,v)∉binds)->bindC kindOf binds m x=m x
 |[],_,_=>rfl|(n,v)::r,m,h=>by
   unfold bindC;rw[sU fun w hw=>h w (List.mem_cons_of_mem _ hw)];split;.rfl
   . have:x≠n:=by rintro rfl;exact h v List.mem_cons_self
     simp[this]
theorem sZ{kindOf:Str->Option NameKind}{x:Str}{v:Value}:∀{P:List Str}{vs:List Value}{i:Nat}{m:Str->Option Value},P.Nodup->P[i]?=some x->vs[i]?=some v->kindOf x=some .local->bindL kindOf (P.zip vs) m x=some v|[],_,_,_,_,h,_,_=>by simp at h|_::_,[],_,_,_,_,h,_=>by simp at h|p::P,w::vs,0,m,nd,h1,h2,hk=>by simp at h1 h2;subst h1;subst h2;show bindL kindOf ((p,w)::P.zip vs) m p=_;unfold bindL;rw[rR fun v hv=>(List.nodup_cons.mp nd).1 (List.of_mem_zip hv).1,if_pos hk];simp|p::P,w::vs,i+1,m,nd,h1,h2,hk=>by show bindL kindOf ((p,w)::P.zip vs) m x=_;unfold bindL;exact sZ (i:=i) (List.nodup_cons.mp nd).2 (by simpa using h1) (by simpa using h2) hk
theorem rP{kindOf:Str->Option NameKind}{x:Str}{v:Value}:∀{P:List Str}{vs:List Value}{i:Nat}{m:Str->Option Value},P.Nodup->P[i]?=some x->vs[i]?=some v->kindOf x≠some .local->bindC kindOf (P.zip vs) m x=some v|[],_,_,_,_,h,_,_=>by simp at h|_::_,[],_,_,_,_,h,_=>by simp at h|p::P,w::vs,0,m,nd,h1,h2,hk=>by simp at h1 h2;subst h1;subst h2;show bindC kindOf ((p,w)::P.zip vs) m p=_;unfold bindC;rw[sU fun v hv=>(List.nodup_cons.mp nd).1 (List.of_mem_zip hv).1,if_neg hk];simp|p::P,w::vs,i+1,m,nd,h1,h2,hk=>by show bindC kindOf ((p,w)::P.zip vs) m x=_;unfold bindC;exact rP (i:=i) (List.nodup_cons.mp nd).2 (by simpa using h1) (by simpa using h2) hk
noncomputable def start(N:List Str)(vs:List V):St:=vs.map some++List.replicate (N.length-vs.length) none
noncomputable def yG(CX:Ib)(P:Program)(w:World)(K:PySem.W.Frag)(mg:Str->Option Value)(base:Heap)(N:List Str)(qual:Str)(scope:Scope)(f:Addr)(cd:Value)(A:Around)(outer:List Env)(s:Shared)(H:Hp)(E:XK):Cx where prog:=P;w:=w;K:=K;mg:=mg;base:=base;A:=A.deeper (envOfC qual scope s.heap.objs.size f cd);N:=N;s₀:=s;H₀:=H;env:=envOfC qual scope s.heap.objs.size f cd;outer:=outer;stack:=envOfC qual scope s.heap.objs.size f cd::outer;ex:=[];calm:=true;fn:=fun _=>true;pn:=[];xe:=fun e s'=>wpAny (model P w) (A.deeper (envOfC qual scope s.heap.objs.size f cd)) (leaving (envOfC qual scope s.heap.objs.size f cd) e) (fun _ s''=>CX outer H s E e s'') (fun e' s''=>CX outer H s E e' s'') s'
theorem xK{sc:Scope}{n:Nat}{x:Str}(h:sc.names.lookup x=some .cell):∃c,(cellsFrom n sc.names []).lookup x=some c:=by have q:=PySem.W.cellsFrom_some sc.names n [] (.inl h);exact Option.isSome_iff_exists.mp q
theorem Dv{CX:Ib}{P:Program}{w:World}{K:PySem.W.Frag}{mg:Str->Option Value}{base:Heap}{N ps:List Str}{qual:Str}{scope:Scope}{f:Addr}{cd:Value}{A:Around}{outer:List Env}{s s1:Shared}{H:Hp}{E:XK}{us:List Value}{vs:List V}(S:aK N ps scope)(hd:A.handled=none)(e0:J0 P w K mg base A outer s H)(hl:vs.length=ps.length)(r:Vals vs us)(x:InCallC s s.heap.objs.size (bindL (envOfC qual scope s.heap.objs.size f cd).kindOf (ps.zip us) fun _=>none) (cellsFrom (s.heap.objs.size+1) scope.names []) (bindC (envOfC qual scope s.heap.objs.size f cd).kindOf (ps.zip us) fun _=>none) s1):Inv (yG CX P w K mg base N qual scope f cd A outer s H E) [] (start N vs) H s1:=by
 have hpl:ps.length<=N.length:=by have:=congrArg List.length S.pre;rw[List.length_take]at this;omega
 obtain⟨h1,tk,rfl,hk⟩:=x.done;have Yw:∀b:Addr,b∉(yG CX P w K mg base N qual scope f cd A outer s H E).ex:=fun b z=>absurd (show b∈([]:List Addr)from z) (by simp);refine⟨⟨e0.mod,S.kind,rfl,rfl,Nat.le_refl _,fun y z c h1 h2=>?_,fun y hy=>?_,fun y c _ h=>?_,fun _=>hd,Around.frames_deeper e0.frames,.inr ⟨rfl,rfl⟩,fun b z=>absurd z (Yw b),e0.bs,e0.Jl,fun b _ _=>Yw b,fun b z=>absurd z (Yw b),e0.m7,e0.Oi⟩,rfl,e0.bare,Un.kept hk,⟨_,x.toInCall.ns,fun i y v h1 h2 h3=>?_⟩,fun y c h=>⟨_,x.cell y c h⟩,e0.hok.fresh (Nat.le_refl _),fun y c h=>?_,fun p hp=>absurd (show p∈([]:List (Addr×Obj))from hp) (by simp),e0.hok.kept hk,?_⟩;.exact name_of_addr x.apart (PySem.mem_of_lookup h1) (PySem.mem_of_lookup h2)
 . have hy:scope.names.lookup y=some .cell\/scope.names.lookup y=some .free:=hy;rcases hy with hy|hy;.exact xK hy
   .exact absurd rfl (S.Tf _ (PySem.mem_of_lookup hy))
 .exact Nat.le_of_lt (x.above y c (PySem.mem_of_lookup h))
 . have hi:i<vs.length:=by
    unfold start at h2;by_cases hi:i<vs.length;.exact hi
    .rw[List.getElem?_append_right (by simpa using hi)]at h2;rw[List.getElem?_replicate]at h2;split at h2<;>cases h2
   have ha:vs[i]?=some v:=by unfold start at h2;rw[List.getElem?_append_left (by simpa using hi),List.getElem?_map]at h2;cases e:vs[i]?with|none=>rw[e]at h2;cases h2|some a=>rw[e]at h2;cases h2;rfl
   obtain⟨u,hu,rv⟩:=r.get ha;have hp:ps[i]?=some y:=by rw[<-S.pre,List.getElem?_take_of_lt (by omega)];exact h1
   have ndP:ps.Nodup:=by rw[<-S.pre];exact S.nd.sublist (List.take_sublist _ _)
   refine⟨u,rv,?_⟩;rcases S.par y (List.mem_of_getElem? hp)with k|k;.exact .inl ⟨k,sZ ndP hp hu k⟩
   .obtain⟨c,e⟩:=xK (n:=s.heap.objs.size+1) k;refine .inr ⟨.inl k,c,e,?_⟩;have q:=x.cell y c e;rw[rP ndP hp hu (by show scope.names.lookup y≠_;rw[k];decide)]at q;exact q
 .exact e0.hok.fresh (Nat.le_of_lt (x.above y c (PySem.mem_of_lookup h)))
 .unfold start;show _=N.length;rw[List.length_append,List.length_map,List.length_replicate];omega
theorem Yh{CX:Ib}{P:Program}{w:World}{K:PySem.W.Frag}{mg:Str->Option Value}{base:Heap}{k:Nat}{f:Addr}{name qual:Str}{params:Arguments}{body:List Stmt}{scope:Scope}{dV kV doc pm cdv ct oc:Value}{an od:Option Addr}{osl:Array (Option Value)}{N ps:List Str}{sp:Sp}(lk:K.lookup f=some ⟨oc,od,.func (PySem.W.fnOf name qual params body scope dV kV doc pm an cdv ct),osl⟩)(hcd:PySem.W.codeIn K cdv qual=true)(S:aK N ps scope)(len:∀vs H Q E,sp vs H Q E->vs.length=ps.length)(hbody:∀(A:Around)(outer:List Env)(s:Shared)(H:Hp)(vs:List V)(Q:VK)(E:XK),jm k (A.deeper (envOfC qual scope s.heap.objs.size f cdv))->sp vs H Q E->∃t,Aa (yG CX P w K mg base N qual scope f cdv A outer s H E) body t/\t {nx:=fun _ H'=>Q .non H',rt:=Q} (start N vs) H):bV P w K mg base CX (k+1) f (PySem.W.fnOf name qual params body scope dV kV doc pm an cdv ct) ps sp:=by
 refine⟨len,fun A outer s H args us vs Q E hr e0 hb r hsp=>?_⟩;have hl:=len _ _ _ _ hsp;have KX:K.In s.heap:=e0.mod.kin.keeps fun b o e=>(e0.bs b o e).1;have lim:s.heap.NoLimit:=e0.mod.nolimit.keeps fun b o e=>(e0.bs b o e).1;have hkind:∀y∈ps.zip us,scope.names.lookup y.1=some .local\/(scope.names.lookup y.1=some .cell/\((cellsFrom (s.heap.objs.size+1) scope.names []).lookup y.1).isSome=true):=fun⟨n,v⟩hy=>by
  rcases S.par n (List.of_mem_zip hy).1 with q|q;.exact .inl q
  .exact .inr ⟨q,PySem.W.cellsFrom_some _ _ _ (.inl q)⟩
 refine codeAny_call_function hr.depth (KX _ _ lk) rfl S.co S.gen rfl (PySem.W.codeRec_of KX hcd) (hb _ _ _ _ ?_);refine wpAny_newFunctionEnv_cells S.kind hkind fun env he s1 x=>?_;subst he;refine⟨lim.keeps x.toInCall.keep,codeAny_func ?_⟩;obtain⟨t,ht,hq⟩:=hbody A outer s H vs Q E (hr.deeper _) hsp;have I:Inv (yG CX P w K mg base N qual scope f cdv A outer s H E) [] (start N vs) H s1:=Dv S hr.hd e0 hl r x;refine wpAny_mono (ht [] s1 (start N vs) H _ I hq) (fun fl s' hs=>?_) fun e s' hs=>hs;have fin:∀{σ':St}{H':Hp}{v:V}{u:Value},Inv (yG CX P w K mg base N qual scope f cdv A outer s H E) [] σ' H' s'->RelV v u->Q v H'->CE outer P w H s Q u s':=fun{σ' H' v u}J rv q=>⟨v,H',J.os,J.bare,J.base,J.hok,rv,q⟩;cases fl with|ret u=>obtain⟨v,σ',H',J,rv,q⟩:=hs;exact fin J rv q|next=>obtain⟨σ',H',J,q⟩:=hs;exact fin (v:=V.non) (u:=Value.none) J rfl q|brk=>obtain⟨_,_,_,q⟩:=hs;exact False.elim q|cont=>obtain⟨_,_,_,q⟩:=hs;exact False.elim q
end L2
namespace L2
open PySem PySem.Spec PyProof.Rows
section
variable{X:Cx}{x:Str}{p pos:Pos}{e:Expr}{es:List Expr}{t:TA}{id T:String}{r:List V->Hp->VK->Prop}
noncomputable def tCB(r:List V->Hp->VK->Prop)(t:TA):TE:=fun σ H Q=>t σ H fun vs H1=>r vs H1 Q
theorem fu(hc:fc X (.builtin id) r)(hg:Gl X x)(hm:X.mg x=none)(hv:bootBuiltins x=some (.builtin id))(ha:PA X (e::es) t)(hn:x≠"__name__":=by decide)(hdb:(x==("__debug__":Str))=false:=by decide)(he:starEach (e::es) X.env=(false,eval e X.env)::starEach es X.env:=by rfl)(hpl:(backTo pos (starEach es X.env)).any (·.1)=false:=by rfl):PE X (.Call (.Name x p) (e::es) [] pos) (tCB r t):=by intro pins s σ H Q I h;refine wpAny_Call_Name_kw (lX I hg hm hv ?_ hn hdb);exact PyProof.Rows.callWith_builtin1 (cL (ha pos pins s σ H _ I h) fun us s1⟨vs,H1,I1,r1,q1⟩=>hc pins s1 σ H1 vs us Q I1 r1 q1) he hpl
theorem rO(hc:fc X (.type T) r)(hg:Gl X x)(hm:X.mg x=none)(hv:bootBuiltins x=some (.type T))(ha:PA X (e::es) t)(hn:x≠"__name__":=by decide)(hdb:(x==("__debug__":Str))=false:=by decide)(he:starEach (e::es) X.env=(false,eval e X.env)::starEach es X.env:=by rfl)(hpl:(backTo pos (starEach es X.env)).any (·.1)=false:=by rfl):PE X (.Call (.Name x p) (e::es) [] pos) (tCB r t):=by intro pins s σ H Q I h;refine wpAny_Call_Name_kw (lX I hg hm hv ?_ hn hdb);exact PyProof.Rows.callWith_type1 (cL (ha pos pins s σ H _ I h) fun us s1⟨vs,H1,I1,r1,q1⟩=>hc pins s1 σ H1 vs us Q I1 r1 q1) he hpl
end
end L2
namespace HT
open PySem PyProof.Rows
section
variable{prog:Program}{w:World}{A:Around}{E:Value->Shared->Prop}{s:Shared}
theorem Jv{t b:Addr}{vs ws:List Value}{Q:Value->Shared->Prop}(ht:IsTup s.heap t vs.toArray)(hb:IsTup s.heap b ws.toArray)(hv:vs≠[])(h1:ws=[]->Q (.ref t) s)(h2:ws≠[]->Q (.ref s.heap.objs.size) {s with heap:=s.heap.push {cls:=.type "tuple",data:=.seq (vs++ws).toArray}})(hsz:vs.length+ws.length<=sizeLine):wpAny (model prog w) A (binaryOp .Add (.ref t) (.ref b)) Q E s:=by
 obtain⟨⟨cls,dd,data,sl⟩,ho,hc,n,hd⟩:=id ht;obtain⟨⟨cls2,dd2,data2,sl2⟩,ho2,hc2,n2,hd2⟩:=id hb;simp only at hc hd hc2 hd2;subst hc hd hc2 hd2;have e:vs.toArray++ws.toArray=(vs++ws).toArray:=by simp
 by_cases hw:ws=[];.exact concat_meets ⟨_,ho,rfl⟩ ⟨_,ho2,rfl⟩ noFill_tuple_add seq_tuple_add PySem.F.slot_tuple_add PySem.F.entry_tuple_add (PySem.F.args_tuple_add_2 _ _) (tuple_addW1 t b vs.toArray ws.toArray n n2 dd dd2 sl sl2 (by simpa using hv) (by simp[hw])) ⟨ho,ho2,h1 hw⟩
 .refine concat_meets ⟨_,ho,rfl⟩ ⟨_,ho2,rfl⟩ noFill_tuple_add seq_tuple_add PySem.F.slot_tuple_add PySem.F.entry_tuple_add (PySem.F.args_tuple_add_2 _ _) (tuple_addW2 t b vs.toArray ws.toArray n n2 dd dd2 sl sl2 (by simpa using hv) (by simpa using hw) (by rw[List.size_toArray,List.size_toArray];exact hsz)) ⟨ho,ho2,?_⟩;rw[e];exact h2 hw
noncomputable def cX(n d:Nat):Option Int->Nat|none=>d|some v=>if v<0 then(v+(n:Int)).toNat else min v.toNat n
theorem QS(n d:Nat)(hd:d<=n)(o:Option Int):cX n d o<=n:=by cases o with|none=>exact hd|some v=>
   show(if v<0 then(v+(n:Int)).toNat else min v.toNat n)<=n;by_cases hv:v<0;.rw[if_pos hv];omega
   .rw[if_neg hv];exact Nat.min_le_right _ _
theorem Af(v:Int)(n d:Nat):(if v<0 then max (v+(n:Int)) 0 else min v (n:Int))=((cX n d (some v):Nat):Int):=by
 show(if v<0 then max (v+(n:Int)) 0 else min v (n:Int))=(((if v<0 then(v+(n:Int)).toNat else min v.toNat n):Nat):Int);by_cases hv:v<0;.simp only[if_pos hv];omega
 .simp only[if_neg hv];omega
theorem zf(lo hi:Option Int)(n:Nat):Builtin.Slice.sliceAdjust lo hi 1 (n:Int)=(((cX n 0 lo:Nat):Int),((cX n n hi:Nat):Int)):=by
 have h1:¬((1:Int)<0):=by omega
 unfold Builtin.Slice.sliceAdjust;simp only[h1,if_false];refine Prod.ext ?_ ?_;.cases lo with|none=>rfl|some v=>exact Af v n 0
 .cases hi with|none=>rfl|some v=>exact Af v n n
theorem zj(i j:Nat):Builtin.Slice.slicePlaces (i:Int) (j:Int) 1=j-i:=by
 unfold Builtin.Slice.slicePlaces;have h1:(1:Int)>0:=by omega
 simp only[h1,if_true,Int.ediv_one];split<;>omega
theorem pD{v:Value}{o:Option Int}{Q:Option Int->Shared->Prop}(p:IsPart v o)(h:Q o s):wpAny (model prog w) A (Builtin.Slice.slicePartIndex v) Q E s:=by cases p with|none=>exact slicePart_none h|int i t=>exact slicePart_int h
theorem gQ{sl:Addr}{vl vu:Value}{lo hi:Option Int}{n:Nat}{Q:Int×Int×Nat->Shared->Prop}(hs:s.heap.IsSliceOf sl vl vu .none)(pl:IsPart vl lo)(pu:IsPart vu hi)(h:Q (((cX n 0 lo:Nat):Int),1,cX n n hi-cX n 0 lo) s):wpAny (model prog w) A (Builtin.Slice.sliceApplied (.ref sl) (pure (n:Int))) Q E s:=by obtain⟨os,hos,hcs,hds⟩:=id hs;unfold Builtin.Slice.sliceApplied Builtin.Slice.sliceFields;refine wpAny_bind (wpAny_bind (wpAny_field hos hds (x:=vl) rfl (wpAny_bind (wpAny_field hos hds (x:=vu) rfl (wpAny_bind (wpAny_field hos hds (x:=.none) rfl (wpAny_pure ?_)))))));refine wpAny_bind (slicePart_none ?_);show wpAny _ _ (if((1:Int)==0)=true then _ else _) _ _ s;rw[if_neg (by decide)];refine wpAny_bind (pD pl (wpAny_bind (pD pu (wpAny_bind (wpAny_pure ?_)))));show wpAny _ _ (match Builtin.Slice.sliceAdjust lo hi 1 (n:Int)with|(lo,hi)=>pure (lo,(1:Int),Builtin.Slice.slicePlaces lo hi 1)) _ _ s;rw[zf lo hi n];show wpAny _ _ (pure (((cX n 0 lo:Nat):Int),(1:Int),Builtin.Slice.slicePlaces ((cX n 0 lo:Nat):Int) ((cX n n hi:Nat):Int) 1)) _ _ s;rw[zj];exact wpAny_pure h
theorem Hs(xs:Array Value)(i k:Nat):((List.range k).filterMap fun(m:Nat)=>xs[((i:Int)+(m:Int)*1).toNat]?).toArray=((xs.toList.drop i).take k).toArray:=by
 have e:(fun(m:Nat)=>xs[((i:Int)+(m:Int)*1).toNat]?)=fun m=>xs[i+m]?:=by
  funext m;have:((i:Int)+(m:Int)*1).toNat=i+m:=by omega
  rw[this]
 rw[e];have:=pick_run xs i k;rw[List.filterMap_map]at this;have e2:((fun x=>xs[x]?)∘ fun x=>i+x)=fun m=>xs[i+m]?:=rfl;rw[e2]at this;rw[this]
theorem kO{t sl:Addr}{items:Array Value}{vl vu:Value}{lo hi:Option Int}{Q:Value->Shared->Prop}(ht:IsTup s.heap t items)(hs:s.heap.IsSliceOf sl vl vu .none)(pl:IsPart vl lo)(pu:IsPart vu hi)(hw:¬(cX items.size 0 lo=0/\cX items.size items.size hi=items.size))(h:Q (.ref s.heap.objs.size) {s with heap:=s.heap.push {cls:=.type "tuple",data:=.seq ((items.toList.drop (cX items.size 0 lo)).take (cX items.size items.size hi-cX items.size 0 lo)).toArray}})(hsz:items.size<=sizeLine):wpAny (model prog w) A (getItem (.ref t) (.ref sl)) Q E s:=by
 have BZ:sizeOk (.seq ((items.toList.drop (cX items.size 0 lo)).take (cX items.size items.size hi-cX items.size 0 lo)).toArray):=by show((items.toList.drop (cX items.size 0 lo)).take (cX items.size items.size hi-cX items.size 0 lo)).toArray.size<=sizeLine;rw[List.size_toArray,List.length_take,List.length_drop,Array.length_toList];omega
 have hj:cX items.size items.size hi<=items.size:=QS _ _ (Nat.le_refl _) hi;obtain⟨os,hos,hcs,hds⟩:=id hs;have hTs:s.TypeIs (.ref sl) "slice":=⟨os,hos,hcs⟩;unfold getItem;try with_reducible refine wpAny_holding ?_
 first|refine wpAny_bind (wpAny_pure ?_)|skip
 refine wpAny_bind (wpAny_sequenceKey ht.typeIs (by decide) ?_);refine wpAny_bind (wpAny_callSpecial?_slot (name:=Str.ofString "__getitem__") ht.typeIs PyProof.Rows.slot_tuple_getitem (wpAny_call_entry PyProof.Rows.slot_tuple_getitem ht.typeIs entry_tuple_getitem ?_ (args_tuple_getitem _ _)));show wpAny _ _ (Builtin.Tuple.tupleItemsOf (.ref t)>>=_) _ _ s;refine wpAny_bind (tupleItemsOf_ ht ?_);refine wpAny_bind (wpAny_typeOf hTs ?_);rw[if_pos (by decide)];refine wpAny_bind (gQ hs pl pu ?_);have hno:¬((((cX items.size 0 lo:Nat):Int)==0&&(1:Int)==1&&(cX items.size items.size hi-cX items.size 0 lo)==items.size)=true):=by intro q;rw[Bool.and_eq_true,Bool.and_eq_true]at q;have q1:((cX items.size 0 lo:Nat):Int)=0:=eq_of_beq q.1.1;have q2:cX items.size items.size hi-cX items.size 0 lo=items.size:=eq_of_beq q.2;exact hw ⟨by omega,by omega⟩
 show wpAny _ _ (if(((cX items.size 0 lo:Nat):Int)==0&&(1:Int)==1&&(cX items.size items.size hi-cX items.size 0 lo)==items.size)=true then _ else _) _ _ s;rw[if_neg hno,Hs];first|exact wpAny_bind (m:=Builtin.Tuple.tupleExact _) (wpAny_newObj_type (wpAny_pure ⟨_,rfl,wpAny_pure h⟩) BZ)|exact wpAny_bind (m:=Builtin.Tuple.tupleExact _) (wpAny_newObj_type (wpAny_bind (wpAny_pure (wpAny_pure ⟨_,rfl,wpAny_pure h⟩))) BZ)|exact wpAny_bind (wpAny_bind (m:=Builtin.Tuple.tupleExact _) (wpAny_newObj_type (wpAny_pure (wpAny_pure ⟨_,rfl,wpAny_pure h⟩)) BZ))|exact wpAny_bind (wpAny_bind (m:=Builtin.Tuple.tupleExact _) (wpAny_newObj_type (wpAny_pure ⟨_,rfl,wpAny_pure h⟩) BZ))
end
end HT
namespace L2
open PySem PySem.Spec PyProof.Rows
noncomputable abbrev TO:=St->Hp->(Option Int->Hp->Prop)->Prop
noncomputable def PO(X:Cx)(e:Option Expr)(t:TO):Prop:=∀(pins:List (Addr × Obj))(s:Shared)(σ:St)(H:Hp)(Q:Option Int->Hp->Prop),Inv X pins σ H s->t σ H Q->wpAny (model X.prog X.w) X.A (evalPart e X.env) (fun u s'=>∃o H',Inv X pins σ H' s'/\IsPart u o/\Q o H') X.xe s
noncomputable def Kr:TO:=fun _ H Q=>Q none H
noncomputable def Yn(t:TE):TO:=fun σ H Q=>t σ H fun x H1=>∃i,x=.int i/\Q (some i) H1
section
variable{X:Cx}{e:Expr}{te:TE}{lo hi:Option Expr}{tl th:TO}{pos p2:Pos}
theorem JD:PO X none Kr:=by intro pins s σ H Q I h;rw[evalPart_none];exact wpAny_pure ⟨none,H,I,.none,h⟩
theorem Kq(h:PE X e te):PO X (some e) (Yn te):=by intro pins s σ H Q I hw;rw[evalPart_some];refine cL (h pins s σ H _ I hw) fun u s1⟨x,H1,I1,r1,q1⟩=>?_;obtain⟨i,rfl,q⟩:=q1;obtain⟨t,rfl⟩:=r1;exact⟨some i,H1,I1,.int i t,q⟩
noncomputable def SlR(X:Cx)(r:V->Option Int->Option Int->Hp->VK->Prop):Prop:=∀(pins:List (Addr × Obj))(s:Shared)(σ:St)(H:Hp)(x:V)(v vl vu:Value)(lo hi:Option Int)(sl:Addr)(Q:VK),Inv X pins σ H s->RelV x v->s.heap.IsSliceOf sl vl vu .none->IsPart vl lo->IsPart vu hi->r x lo hi H Q->∃T id,typeLookup (.type T) "__getitem__"=pure (some (.builtin id))/\s.TypeIs v T/\wpAny (model X.prog X.w) X.A (getItem v (.ref sl)) (EP X pins σ Q) X.xe s
noncomputable def tSl(r:V->Option Int->Option Int->Hp->VK->Prop)(te:TE)(tl th:TO):TE:=fun σ H Q=>te σ H fun x H1=>tl σ H1 fun l H2=>th σ H2 fun u H3=>r x l u H3 Q
theorem wu{r:V->Option Int->Option Int->Hp->VK->Prop}(hr:SlR X r)(he:PE X e te)(hl:PO X lo tl)(hu:PO X hi th):PE X (.Subscript e (.Slice lo hi none p2) pos) (tSl r te tl th):=by intro pins s σ H Q I h;refine Subscript_ (cL (he pins s σ H _ I h) fun v s1⟨x,H1,I1,r1,q1⟩=>?_);refine wpAny_Slice (cL (hl pins s1 σ H1 _ I1 q1) fun vl s2⟨l,H2,I2,pl,q2⟩=>cL (hu pins s2 σ H2 _ I2 q2) fun vu s3⟨u,H3,I3,pu,q3⟩=>?_);rw[evalPart_none];refine wpAny_pure ?_;have I4:Inv X pins σ H3 {s3 with heap:=s3.heap.push {cls:=.type "slice",data:=.fields #[vl,vu,.none]}}:=I3.kept (t':=s3.toks) fun b ob q=>Heap.get?_push_of_some _ q;obtain⟨T,id,hT,ht,hg⟩:=hr pins {s3 with heap:=s3.heap.push {cls:=.type "slice",data:=.fields #[vl,vu,.none]}} σ H3 x v vl vu l u s3.heap.objs.size Q I4 r1 (Heap.IsSliceOf.new ..) pl pu q3;show wpAny (model X.prog X.w) X.A (subscriptTail e (.Slice lo hi none p2) v (.ref s3.heap.objs.size)) (EP X pins σ Q) X.xe {s3 with heap:=s3.heap.push {cls:=.type "slice",data:=.fields #[vl,vu,.none]}};exact tail_any (ops:=[.ref s3.heap.objs.size,v]) ht hT hg (by with_unfolding_all rfl)
noncomputable def wA(xs:List V)(lo hi:Option Int):List V:=(xs.drop (HT.cX xs.length 0 lo)).take (HT.cX xs.length xs.length hi-HT.cX xs.length 0 lo)
theorem nu(xs:List V)(lo hi:Option Int):(wA xs lo hi).length<=xs.length:=by unfold wA;rw[List.length_take,List.length_drop];omega
noncomputable def abU(K:PySem.W.Frag):V->Option Int->Option Int->Hp->VK->Prop:=fun x lo hi H Q=>∃a xs,x=.ref a/\jC K H a xs/\¬(HT.cX xs.length 0 lo=0/\HT.cX xs.length xs.length hi=xs.length)/\∀p,H p=none->Q (.ref p) (upd H p (.tup (wA xs lo hi)))
theorem Qw:SlR X (abU X.K):=by
 intro pins s σ H x v vl vu lo hi sl Q I rx hs pl pu h;obtain⟨a,xs,rfl,hx,hw,q⟩:=h;cases rx;obtain⟨its,r,ht,hz⟩:=I.tuple hx;have hlen:its.toArray.size=xs.length:=by rw[List.size_toArray];exact r.length.symm
 refine⟨"tuple",_,PyProof.Rows.slot_tuple_getitem.lookup,ht.typeIs,?_⟩;refine HT.kO ht hs pl pu (by rw[hlen];exact hw) ?_ (by rw[hlen];exact hz);rw[hlen];refine⟨.ref s.heap.objs.size,_,I.laid (t':=s.toks) (o:=.tup (wA xs lo hi)) (fun b ob q=>Heap.get?_push_of_some _ q) (Nat.le_refl _) ?_,rfl,q _ (I.hok.fresh (Nat.le_refl _))⟩;exact⟨Nat.le_trans (nu xs lo hi) hz,_,(r.drop (HT.cX xs.length 0 lo)).take (HT.cX xs.length xs.length hi-HT.cX xs.length 0 lo),IsTup.new _ _⟩
noncomputable def Yk(K:PySem.W.Frag):R2:=fun x y H Q=>∃a b xs ys,x=.ref a/\y=.ref b/\jC K H a xs/\jC K H b ys/\xs≠[]/\xs.length+ys.length<=sizeLine/\(ys=[]->Q (.ref a) H)/\(ys≠[]->∀p,H p=none->Q (.ref p) (upd H p (.tup (xs++ys))))
theorem Vals.oR{xs:List V}{us:List Value}(r:Vals xs us):us=[]↔xs=[]:=by cases r with|nil=>simp|cons _ _=>simp
theorem Li:fH X (binaryOp .Add) (Yk X.K):=by intro pins s σ H x y v u Q I rx ry h;obtain⟨a,b,xs,ys,rfl,rfl,ha,hb,hx,hz,q1,q2⟩:=h;cases rx;cases ry;obtain⟨its,r1,p1,_⟩:=I.tuple ha;obtain⟨its2,r2,p2,_⟩:=I.tuple hb;refine HT.Jv p1 p2 (fun z=>hx (r1.oR.mp z)) (fun z=>⟨.ref a,H,I,rfl,q1 (r2.oR.mp z)⟩) (fun z=>?_) (by rw[<-r1.length,<-r2.length];exact hz);refine⟨.ref s.heap.objs.size,_,I.laid (t':=s.toks) (o:=.tup (xs++ys)) (fun b ob q=>Heap.get?_push_of_some _ q) (Nat.le_refl _) ?_,rfl,q2 (fun w=>z (r2.oR.mpr w)) _ (I.hok.fresh (Nat.le_refl _))⟩;exact⟨by rw[List.length_append];exact hz,_,r1.append r2,IsTup.new _ _⟩
end
end L2
namespace L2
open PySem PySem.Spec PyProof.Rows
noncomputable def qz(n:Nat)(i:Int):Option Nat:=if 0<=i then(if i<n then some i.toNat else none)else if-(n:Int)<=i then some (i+n).toNat else none
noncomputable def Uk{α:Type}(xs:List α)(i:Int):Option α:=(qz xs.length i).bind fun j=>xs[j]?
theorem Bc{n:Nat}{i:Int}{j:Nat}(h:qz n i=some j):seqIndex? i n=some j/\j<n/\-(n:Int)<=i/\i<n:=by
 unfold qz at h;by_cases h0:0<=i
 . rw[if_pos h0]at h;by_cases h1:i<n;.rw[if_pos h1]at h;have e:i.toNat=j:=Option.some.inj h;exact⟨by rw[seqIndex_of h0 h1,e],by omega,by omega,h1⟩
   .rw[if_neg h1]at h;cases h
 . rw[if_neg h0]at h;by_cases h1:-(n:Int)<=i;.rw[if_pos h1]at h;have e:(i+n).toNat=j:=Option.some.inj h;exact⟨by rw[seqIndex_neg (by omega) h1,e],by omega,h1,by omega⟩
   .rw[if_neg h1]at h;cases h
theorem Be{α:Type}{xs:List α}{i:Int}{v:α}(h:Uk xs i=some v):∃j,seqIndex? i xs.length=some j/\xs[j]?=some v/\j<xs.length/\-(xs.length:Int)<=i/\i<xs.length:=by unfold Uk at h;cases e:qz xs.length i with|none=>rw[e]at h;cases h|some j=>rw[e]at h;obtain⟨h1,h2,h3,h4⟩:=Bc e;exact⟨j,h1,h,h2,h3,h4⟩
noncomputable def Ae(b:Expr):Prop:=∀o i,subscripted b false o i=operate [o,i] (getItem o i)
noncomputable def Y6(X:Cx)(r:R2):Prop:=∀(value slice:Expr)(pins:List (Addr × Obj))(s:Shared)(σ:St)(H:Hp)(x y:V)(v u:Value)(Q:VK),Inv X pins σ H s->RelV x v->RelV y u->r x y H Q->subscripted slice false v u=operate [v,u] (getItem v u)->wpAny (model X.prog X.w) X.A (subscriptTail value slice v u) (EP X pins σ Q) X.xe s
noncomputable def ZV(X:Cx)(id:String)(r:V->List V->Hp->VK->Prop):Prop:=∀(pins:List (Addr × Obj))(s:Shared)(σ:St)(H:Hp)(x:V)(xs:List V)(v:Value)(us:List Value)(Q:VK),Inv X pins σ H s->RelV x v->Vals xs us->r x xs H Q->wpAny (model X.prog X.w) X.A (call (.builtin id) (v::us)) (EP X pins σ Q) X.xe s
section
variable{X:Cx}{a b:Expr}{ta tb:TE}{pos:Pos}
theorem Xj{r:R2}(hr:Y6 X r)(ha:PE X a ta)(hb:PE X b tb)(hs:Ae b):PE X (.Subscript a b pos) (Vb r ta tb):=by intro pins s σ H Q I h;exact Subscript_ (RG ha hb I h fun v u s2 x y H2 I2 rx ry q=>hr a b pins s2 σ H2 x y v u Q I2 rx ry q (hs _ _))
noncomputable def abZ(K:PySem.W.Frag):R2:=fun x y H Q=>∃p xs i v,x=.ref p/\y=.int i/\gA K H p xs/\Uk xs i=some v/\Q v H
noncomputable def aa7(K:PySem.W.Frag):R2:=fun x y H Q=>∃p xs i v,x=.ref p/\y=.int i/\jC K H p xs/\Uk xs i=some v/\Q v H
theorem Kl:Y6 X (abZ X.K):=by
 intro value slice pins s σ H x y v u Q I rx ry h hs;obtain⟨p,xs,i,z,rfl,rfl,hq,he,q⟩:=h;cases rx;obtain⟨t,rfl⟩:=ry;obtain⟨its,r,pl,hz⟩:=I.list hq;obtain⟨j,h1,h2,h3,h4,h5⟩:=Be he;obtain⟨w,ew,zA⟩:=r.get h2;have hl:=r.length;have hn:=uz;have fin:EP X pins σ Q w s:=⟨z,H,I,zA,q⟩;by_cases h0:0<=i
 . have hj:i.toNat=j:=by rw[seqIndex_of h0 h5]at h1;exact Option.some.inj h1
   exact item_listR pl.isList h0 (by omega) (by rw[hj];simpa using ew) fin hs
 . have hj:(i+(its.toArray.size:Int)).toNat=j:=by rw[seqIndex_neg (by omega) h4]at h1;rw[List.size_toArray,<-hl];exact Option.some.inj h1
   exact subscriptTail_builtinR (x:=w) pl.isList.typeIs slot_list_getitem.lookup (wpAny_getItem_list_neg (Q:=fun r s'=>r=w/\EP X pins σ Q r s') pl.isList (by omega) (by rw[List.size_toArray]<;>omega) (by omega) (by rw[hj];simpa using ew) ⟨rfl,fin⟩) hs
theorem Rg:Y6 X (aa7 X.K):=by intro value slice pins s σ H x y v u Q I rx ry h hs;obtain⟨p,xs,i,z,rfl,rfl,hq,he,q⟩:=h;cases rx;obtain⟨t,rfl⟩:=ry;obtain⟨its,r,pl,hz⟩:=I.tuple hq;obtain⟨j,h1,h2,h3,h4,h5⟩:=Be he;obtain⟨w,ew,zA⟩:=r.get h2;have hl:=r.length;have hn:=uz;have fin:EP X pins σ Q w s:=⟨z,H,I,zA,q⟩;exact subscriptTail_builtinR (x:=w) pl.typeIs slot_tuple_getitem.lookup (getItem_tuple (j:=j) (Q:=fun r s'=>r=w/\EP X pins σ Q r s') pl (by omega) (by omega) (by rw[List.size_toArray,<-hl];exact h1) (by simpa using ew) ⟨rfl,fin⟩) hs
theorem yH(its:List Value)(n j:Nat)(u:Value):Obj.mapSeq (·.setIfInBounds j u) {cls:=.type "list",data:=.seq its.toArray n}={cls:=.type "list",data:=.seq (its.set j u).toArray n}:=by simp[Obj.mapSeq]
theorem Inv.lst{pins:List (Addr×Obj)}{σ:St}{H:Hp}{s:Shared}{p:Addr}{xs:List V}(I:Inv X pins σ H s)(h:H p=some (.lst xs)):∃(its:List Value)(n:Nat),Vals xs its/\s.heap.get? p=some {cls:=.type "list",data:=.seq its.toArray n}/\xs.length<=sizeLine:=by obtain⟨z,its,n,r,e⟩:=I.hok p _ h;exact⟨its,n,r,e,z⟩
theorem Inv.QR{pins:List (Addr×Obj)}{σ:St}{H:Hp}{s:Shared}{p:Addr}{xs ys:List V}{its its':List Value}{n n':Nat}{f:Obj->Obj}(I:Inv X pins σ H s)(h:H p=some (.lst xs))(ho:s.heap.get? p=some {cls:=.type "list",data:=.seq its.toArray n})(hf:f {cls:=.type "list",data:=.seq its.toArray n}={cls:=.type "list",data:=.seq its'.toArray n'})(r:Vals ys its')(hz:ys.length<=sizeLine)(t:Nat):Inv X pins σ (upd H p (.lst ys)) {s with heap:=s.heap.update p f,toks:=t}:=by
 have e:(s.heap.update p f).get? p=some {cls:=.type "list",data:=.seq its'.toArray n'}:=by rw[Heap.get?_update_self f ho (by rw[hf]<;>rfl),hf]
 refine I.write (x:=p) (e:=p) (by rw[h];trivial) (.inl rfl) (fun b u hb q=>(Heap.get?_update_other _ _ (Ne.symm hb)).trans q) ⟨_,e⟩ ?_;exact⟨hz,its',n',r,e⟩
noncomputable def VD:V->V->V->Hp->(Hp->Prop)->Prop:=fun o i v H Q=>∃p xs k j,o=.ref p/\i=.int k/\H p=some (.lst xs)/\qz xs.length k=some j/\Q (upd H p (.lst (xs.set j v)))
theorem set_list:Yb X VD:=by
 intro pins s σ H o i v ov iv u Q I ro ri rv h;obtain⟨p,xs,k,j,rfl,rfl,hp,hj,q⟩:=h;cases ro;obtain⟨t,rfl⟩:=ri;obtain⟨its,n,r,ho,hz⟩:=I.lst hp;obtain⟨h1,h2,h3,h4⟩:=Bc hj;have hl:=r.length;have hn:=uz;have I':Inv X pins σ (upd H p (.lst (xs.set j v))) {s with heap:=s.heap.update p (Obj.mapSeq (·.setIfInBounds j u))}:=I.QR hp ho (yH its n j u) (r.set rv j) (by rw[List.length_set];exact hz) s.toks;by_cases h0:0<=k
 . have hk:k.toNat=j:=by rw[seqIndex_of h0 h4]at h1;exact Option.some.inj h1
   exact PySem.W.ki_setAt ho h0 (by omega) (by rw[List.size_toArray,<-hl];exact h4) (by rw[hk];exact⟨_,I',q⟩)
 . have hk:(k+(its.toArray.size:Int)).toNat=j:=by rw[seqIndex_neg (by omega) h3]at h1;rw[List.size_toArray,<-hl];exact Option.some.inj h1
   exact PySem.W.ki_setBack ho (by omega) (by rw[List.size_toArray,<-hl];exact h3) (by omega) (by rw[hk];exact⟨_,I',q⟩)
theorem uL(lo hi:Option Int)(n:Nat):(sliceBounds lo hi none n).1=((HT.cX n 0 lo:Nat):Int)/\(sliceBounds lo hi none n).2.1=((HT.cX n n hi:Nat):Int)/\(sliceBounds lo hi none n).2.2=1:=by
 refine⟨?_,?_,rfl⟩;.cases lo with|none=>simp[sliceBounds,HT.cX]|some i=>
     simp only[sliceBounds,HT.cX,Option.getD_none,show(1:Int)>0 by decide,if_true];by_cases h:i<0;.simp only[h,if_true]<;>omega
     .simp only[h,if_false]<;>omega
 .cases hi with|none=>simp[sliceBounds,HT.cX]|some i=>
     simp only[sliceBounds,HT.cX,Option.getD_none,show(1:Int)>0 by decide,if_true];by_cases h:i<0;.simp only[h,if_true]<;>omega
     .simp only[h,if_false]<;>omega
theorem qU(its:List Value)(lo hi:Option Int):slicePick its.toArray lo hi none=((its.drop (HT.cX its.length 0 lo)).take (HT.cX its.length its.length hi-HT.cX its.length 0 lo)).toArray:=by obtain⟨h1,h2,h3⟩:=uL lo hi its.toArray.size;unfold slicePick;rw[h1,h2,h3];simp only[sliceRange_one,pick_run,List.size_toArray]<;>rfl
noncomputable def acE(K:PySem.W.Frag):V->Option Int->Option Int->Hp->VK->Prop:=fun x lo hi H Q=>∃a xs,x=.ref a/\gA K H a xs/\∀p,H p=none->Q (.ref p) (upd H p (.lst (wA xs lo hi)))
theorem Jw:SlR X (acE X.K):=by intro pins s σ H x v vl vu lo hi sl Q I rx hs pl pu h;obtain⟨a,xs,rfl,hx,q⟩:=h;cases rx;obtain⟨its,r,ht,hz⟩:=I.list hx;have hlen:=r.length;refine⟨"list",_,slot_list_getitem.lookup,ht.isList.typeIs,?_⟩;refine wpAny_getItem_list_slice ht.isList hs pl pu .none (by simp) ?_ (by rw[List.size_toArray]<;>omega);rw[qU,<-hlen];refine⟨.ref s.heap.objs.size,_,I.laid (t':=s.toks) (o:=.lst (wA xs lo hi)) (fun b ob q=>Heap.get?_push_of_some _ q) (Nat.le_refl _) ?_,rfl,q _ (I.hok.fresh (Nat.le_refl _))⟩;exact⟨Nat.le_trans (nu xs lo hi) hz,_,0,(r.drop (HT.cX xs.length 0 lo)).take (HT.cX xs.length xs.length hi-HT.cX xs.length 0 lo),Heap.get?_push_size _ rfl⟩
noncomputable def jT:V->Bool|.non=>true|.bl _=>true|.int _=>true|.str _=>true|_=>false
noncomputable def Jr:V->V->Bool|.non,.non=>true|.bl a,.bl b=>a==b|.bl a,.int b=>(if a then 1 else 0)==b|.int a,.bl b=>a==(if b then 1 else 0)|.int a,.int b=>a==b|.str a,.str b=>a==b|_,_=>false
theorem R9{A:Around}{s:Shared}{y x:V}{u v:Value}(ry:RelV y u)(rx:RelV x v)(fy:jT y=true)(fx:jT x=true):SeqAt.EqAt A s u v (Jr y x):=by cases y with
 |non=>cases ry;cases x with|non=>cases rx;exact SeqAt.EqAt.same _|bl b=>cases rx;exact SeqAt.EqAt.none_bool b|int b=>obtain⟨t,rfl⟩:=rx;exact SeqAt.EqAt.none_int b t|str b=>obtain⟨t,rfl⟩:=rx;exact SeqAt.EqAt.none_str b t|_=>exact absurd (show false=true from fx) Bool.false_ne_true
 |bl a=>cases ry;cases x with|non=>cases rx;exact SeqAt.EqAt.bool_none a|bl b=>cases rx;exact SeqAt.EqAt.bool_bool a b|int b=>obtain⟨t,rfl⟩:=rx;exact SeqAt.EqAt.bool_int a b t|str b=>obtain⟨t,rfl⟩:=rx;exact SeqAt.EqAt.bool_str a b t|_=>exact absurd (show false=true from fx) Bool.false_ne_true
 |int a=>obtain⟨t',rfl⟩:=ry;cases x with|non=>cases rx;exact SeqAt.EqAt.int_none a t'|bl b=>cases rx;exact SeqAt.EqAt.int_bool a t' b|int b=>obtain⟨t,rfl⟩:=rx;exact SeqAt.EqAt.int_int a t' b t|str b=>obtain⟨t,rfl⟩:=rx;exact SeqAt.EqAt.int_str a t' b t|_=>exact absurd (show false=true from fx) Bool.false_ne_true
 |str a=>obtain⟨t',rfl⟩:=ry;cases x with|non=>cases rx;exact SeqAt.EqAt.str_none a t'|bl b=>cases rx;exact SeqAt.EqAt.str_bool a t' b|int b=>obtain⟨t,rfl⟩:=rx;exact SeqAt.EqAt.str_int a t' b t|str b=>obtain⟨t,rfl⟩:=rx;exact SeqAt.EqAt.str_str a t' b t|_=>exact absurd (show false=true from fx) Bool.false_ne_true
 |_=>exact absurd (show false=true from fy) Bool.false_ne_true
noncomputable def J9(x:V)(u:Value):Bool:=match u with|.none=>Jr .non x|.bool b=>Jr (.bl b) x|.int i _=>Jr (.int i) x|.str z _=>Jr (.str z) x|_=>false
theorem GZ{x y:V}{u:Value}(r:RelV y u)(f:jT y=true):J9 x u=Jr y x:=by cases y with|non=>cases r;rfl|bl b=>cases r;rfl|int i=>obtain⟨t,rfl⟩:=r;rfl|str z=>obtain⟨t,rfl⟩:=r;rfl|_=>exact absurd (show false=true from f) Bool.false_ne_true
theorem uP{x:V}:∀{xs:List V}{us:List Value},Vals xs us->xs.all jT=true->us.any (J9 x)=xs.any fun y=>Jr y x|_,_,.nil,_=>rfl|y::xs,u::us,.cons r t,f=>by rw[List.all_cons,Bool.and_eq_true]at f;rw[List.any_cons,List.any_cons,GZ r f.1,uP t f.2]
theorem p8{A:Around}{s:Shared}{x:V}{v:Value}(rx:RelV x v)(fx:jT x=true):∀{xs:List V}{us:List Value},Vals xs us->xs.all jT=true->∀u∈us,SeqAt.EqAt A s u v (J9 x u)
 |_,_,.nil,_=>fun u hu=>by cases hu|y::xs,u::us,.cons r t,f=>fun u' hu=>by
   rw[List.all_cons,Bool.and_eq_true]at f;rcases List.mem_cons.mp hu with rfl|hu;.rw[GZ r f.1];exact R9 r rx f.1 fx
   .exact p8 rx fx t f.2 u' hu
noncomputable def inV(x:V)(xs:List V):Bool:=xs.any fun y=>Jr y x
noncomputable def rIn(K:PySem.W.Frag)(neg:Bool):R2:=fun x y H Q=>∃p xs,y=.ref p/\(gA K H p xs\/jC K H p xs)/\jT x=true/\xs.all jT=true/\Q (.bl (if neg then !inV x xs else inV x xs)) H
theorem Dz:fH X (compareOp .In) (rIn X.K false):=by
 intro pins s σ H x y v u Q I rx ry h;obtain⟨p,xs,rfl,hq,fx,fs,q⟩:=h;cases ry;rcases hq with hq|hq;.obtain⟨its,r,pl,hz⟩:=I.list hq;refine SeqAt.in_listAt (J9 x) pl.isList (fun w hw=>p8 rx fx r fs w (by simpa using hw)) ⟨.bl _,H,I,rfl,?_⟩;rw[show its.toArray.any (J9 x)=its.any (J9 x)by simp,uP r fs];exact q
 .obtain⟨its,r,pl,hz⟩:=I.tuple hq;refine SeqAt.in_tupleAt (J9 x) pl (fun w hw=>p8 rx fx r fs w (by simpa using hw)) ⟨.bl _,H,I,rfl,?_⟩;rw[show its.toArray.any (J9 x)=its.any (J9 x)by simp,uP r fs];exact q
theorem uR:fc X (.builtin "len") (fun xs H Q=>∃p ys,xs=[.ref p]/\(gA X.K H p ys\/jC X.K H p ys)/\Q (.int ys.length) H):=by
 intro pins s σ H xs us Q I r h;obtain⟨p,ys,rfl,hq,q⟩:=h;obtain⟨u,rfl,rx⟩:=vals1 r;cases rx;have hn:=uz;rcases hq with hq|hq;.obtain⟨its,r',pl,hz⟩:=I.list hq;have hlen:=r'.length;exact Calls.call_len_list pl.isList (by simp only[List.size_toArray]<;>omega) ⟨.int ys.length,H,I.tok _,⟨s.toks+1,by rw[List.size_toArray,hlen]⟩,q⟩
 .obtain⟨its,r',pl,hz⟩:=I.tuple hq;have hlen:=r'.length;exact len_tuple pl (by simp only[List.size_toArray]<;>omega) ⟨.int ys.length,H,I.tok _,⟨s.toks+1,by rw[List.size_toArray,hlen]⟩,q⟩
theorem tR:fc X (.type "list") (fun xs H Q=>∃p ys,xs=[.ref p]/\(gA X.K H p ys\/jC X.K H p ys)/\∀l,H l=none->Q (.ref l) (upd H l (.lst ys))):=by
 intro pins s σ H xs us Q I r h;obtain⟨p,ys,rfl,hq,q⟩:=h;obtain⟨u,rfl,rx⟩:=vals1 r;cases rx;have fin:∀(its:List Value),Vals ys its->ys.length<=sizeLine->∀(h':Heap)(c':Nat),(∀b o',s.heap.get? b=some o'->h'.get? b=some o')->h'.get? s.heap.objs.size=some {cls:=.type "list",dict:=none,data:=.seq its.toArray c',slots:=#[]}->EP X pins σ Q (.ref s.heap.objs.size) {s with heap:=h'}:=fun its r' hz h' c' kp e=>⟨.ref s.heap.objs.size,_,I.laid (t':=s.toks) kp (Nat.le_refl _) (show bL X.prog X.w _ h' _ (.lst ys)from⟨hz,its,c',r',e⟩),rfl,q _ (I.hok.fresh (Nat.le_refl _))⟩;rcases hq with hq|hq;.obtain⟨its,r',pl,hz⟩:=I.list hq;have hlen:=r'.length;obtain⟨o,ho,hc,n,hd⟩:=pl.isList;exact call_list_seq p (.inl rfl) ho hc hd (fun h' c' kp e=>fin its r' hz h' c' kp e) (by simp only[List.size_toArray]<;>omega)
 .obtain⟨its,r',pl,hz⟩:=I.tuple hq;have hlen:=r'.length;obtain⟨o,ho,hc,n,hd⟩:=pl;exact call_list_seq p (.inr rfl) ho hc hd (fun h' c' kp e=>fin its r' hz h' c' kp e) (by simp only[List.size_toArray]<;>omega)
theorem jR:fc X (.type "tuple") (fun xs H Q=>∃p ys,xs=[.ref p]/\((gA X.K H p ys/\∀l,H l=none->Q (.ref l) (upd H l (.tup ys)))\/(jC X.K H p ys/\Q (.ref p) H))):=by
 intro pins s σ H xs us Q I r h;obtain⟨p,ys,rfl,h⟩:=h;obtain⟨u,rfl,rx⟩:=vals1 r;cases rx;rcases h with⟨hq,q⟩|⟨hq,q⟩;.obtain⟨its,r',pl,hz⟩:=I.list hq;have hlen:=r'.length;refine call_tuple_list pl.isList (fun h' kp=>?_) (by simp only[List.size_toArray]<;>omega);have I1:Inv X pins σ H {s with heap:=h'}:=I.kept (t':=s.toks) kp;have I2:Inv X pins σ (upd H h'.objs.size (.tup ys)) {s with heap:=h'.push {cls:=.type "tuple",data:=.seq its.toArray}}:=I1.laid (t':=s.toks) (fun b o e=>Heap.get?_push_of_some _ e) (Nat.le_refl _) (show bL X.prog X.w _ _ _ (.tup ys)from⟨hz,its,r',IsTup.new _ _⟩);exact⟨.ref h'.objs.size,_,I2,rfl,q _ (I1.hok.fresh (Nat.le_refl _))⟩
 .obtain⟨its,r',pl,hz⟩:=I.tuple hq;exact call_tuple_same pl ⟨.ref p,H,I,rfl,q⟩
noncomputable def tyV(K:PySem.W.Frag)(T:String)(x:V)(H:Hp):Prop:=match x with|.str _=>T="str"|.int _=>T="int"|.ref p=>(T="list"/\∃xs,gA K H p xs)\/(T="tuple"/\∃o,K.lookup p=some o/\o.cls=.type "tuple"/\o.dict=none)\/(T="dict"/\((∃kvs,H p=some (.dK kvs))\/∃kvs,H p=some (.dT kvs)))\/(T="set"/\∃S n,H p=some (.set S n))|_=>False
theorem Hu{pins:List (Addr×Obj)}{σ:St}{H:Hp}{s:Shared}{T:String}{x:V}{v:Value}(I:Inv X pins σ H s)(r:RelV x v)(ty:tyV X.K T x H):
 s.TypeIs v T/\∀a,v=.ref a->∃ob,s.heap.get? a=some ob/\ob.dict=none:=by cases x with|str z=>obtain⟨t,rfl⟩:=r;cases(show T="str"from ty);exact⟨typeIs_str s z t,fun _ e=>nomatch e⟩|int i=>obtain⟨t,rfl⟩:=r;cases(show T="int"from ty);exact⟨typeIs_int s i t,fun _ e=>nomatch e⟩|ref p=>
   cases r;rcases ty with⟨rfl,xs,hq⟩|⟨rfl,o,hk,hc,hd⟩|⟨rfl,hk⟩|⟨rfl,S,n,hk⟩;.obtain⟨its,_,pl,_⟩:=I.list hq;refine⟨pl.isList.typeIs,fun a e=>?_⟩;cases e;obtain⟨o,n,e,c,hd,_⟩:=pl;exact⟨o,e,hd⟩
   .refine⟨⟨o,I.O8 p o hk,hc⟩,fun a e=>?_⟩;cases e;exact⟨o,I.O8 _ o hk,hd⟩
   . have z:∃o,s.heap.get? p=some o/\o.ExactDict:=by
      rcases hk with⟨kvs,hk⟩|⟨kvs,hk⟩;.obtain⟨_,_,_,_,o,_,_,e,ex,_⟩:=I.hok p _ hk;exact⟨o,e,ex⟩
      .obtain⟨_,_,_,_,o,_,_,e,ex,_⟩:=I.hok p _ hk;exact⟨o,e,ex⟩
     obtain⟨o,e,ex⟩:=z;refine⟨⟨o,e,ex.1⟩,fun a e2=>?_⟩;cases e2;exact⟨o,e,ex.2.1⟩
   .obtain⟨o,_,_,_,e,ex,_⟩:=I.hok p _ hk;refine⟨⟨o,e,ex.1⟩,fun a e2=>?_⟩;cases e2;exact⟨o,e,ex.2.1⟩|_=>exact False.elim ty
noncomputable def abt(K:PySem.W.Frag)(T:String)(r:V->List V->Hp->VK->Prop)(to:TE):TE:=fun σ H Q=>to σ H fun x H1=>tyV K T x H1/\r x [] H1 Q
noncomputable def tBM(K:PySem.W.Frag)(T:String)(r:V->List V->Hp->VK->Prop)(to:TE)(t:TA):TE:=fun σ H Q=>to σ H fun x H1=>tyV K T x H1/\t σ H1 fun xs H2=>r x xs H2 Q
variable{o e:Expr}{es:List Expr}{to:TE}{t:TA}{name:Str}{apos cpos:Pos}{T id:String}{r:V->List V->Hp->VK->Prop}
theorem R4(pa:PlainAttrs T)(slot:Slot T name id)(hty:typeOf (.builtin id)=pure (.type "method_descriptor"))(hm:ZV X id r)(ho:PE X o to)(hbase:attributeBase o name X.env (eval o X.env)=eval o X.env:=by rfl)(hline:(apos.endLine==cpos.line)=true:=by rfl):PE X (.Call (.Attribute o name apos) [] [] cpos) (abt X.K T r to):=by intro pins s σ H Q I h;refine wpAny_Call_method0_late hbase hline (cL (ho pins s σ H _ I h) fun v s1⟨x,H1,I1,r1,ty,q1⟩=>?_);obtain⟨h1,h2⟩:=Hu I1 r1 ty;exact⟨T,id,pa,slot,hty,h1,h2,Calls.callWith_builtin rfl (PySem.evalArgs_none (hm pins s1 σ H1 x [] v [] Q I1 r1 .nil q1))⟩
theorem Nm(pa:PlainAttrs T)(slot:Slot T name id)(hty:typeOf (.builtin id)=pure (.type "method_descriptor"))(hm:ZV X id r)(ho:PE X o to)(ha:PA X (e::es) t)(hbase:attributeBase o name X.env (eval o X.env)=eval o X.env:=by rfl)(hfew:((backTo cpos (starEach (e::es) X.env)).all (fun x=>!x.1)&&(backToKw cpos (keywordEach [] X.env)).all (fun x=>x.1.isSome)&&decide ((e::es).length+([]:List Keyword).length+(if([]:List Keyword).isEmpty then 0 else 1)<30))=true:=by rfl)(hline:(apos.endLine==cpos.line)=true:=by rfl)(hs:starEach (e::es) X.env=(false,eval e X.env)::starEach es X.env:=by rfl)(hplain:(backTo cpos (starEach es X.env)).any (·.1)=false:=by rfl):PE X (.Call (.Attribute o name apos) (e::es) [] cpos) (tBM X.K T r to t):=by intro pins s σ H Q I h;refine wpAny_Call_method_late hbase hfew hline rfl (cL (ho pins s σ H _ I h) fun v s1⟨x,H1,I1,r1,ty,q1⟩=>?_);obtain⟨h1,h2⟩:=Hu I1 r1 ty;refine⟨T,id,pa,slot,hty,h1,h2,?_⟩;have hA:=ha cpos pins s1 σ H1 _ I1 q1;rw[hs]at hA ⊢;refine Calls.callWith_builtin (by show(false||(backTo cpos (starEach es X.env)).any (·.1))=false;rw[hplain]<;>rfl) (Calls.evalArgs_plain ?_);exact cL hA fun us s2⟨vs,H2,I2,r2,q2⟩=>hm pins s2 σ H2 x vs v us Q I2 r1 r2 q2/-xs.append(e),list.index on a module's tuple..are ZV facts of 06m-/
end
end L2
namespace L2
open PySem PySem.Spec PyProof.Rows
noncomputable def MtM(X:Cx)(id:String)(r:V->List V->Hp->VK->Prop):Prop:=∀(pins:List (Addr × Obj))(s:Shared)(σ:St)(H:Hp)(x:V)(xs:List V)(v:Value)(us:List Value)(Q:VK),Inv X pins σ H s->RelV x v->Vals xs us->r x xs H Q->wpAny (model X.prog X.w) X.A (call (.builtin id) (v::us)) (EP X pins σ Q) X.xe s
theorem Vals.one:∀{x:V}{us:List Value},Vals [x] us->∃u,us=[u]/\RelV x u|_,_,.cons r .nil=>⟨_,rfl,r⟩
theorem Vals.two:∀{x y:V}{us:List Value},Vals [x,y] us->∃u v,us=[u,v]/\RelV x u/\RelV y v|_,_,_,.cons r (.cons q .nil)=>⟨_,_,rfl,r,q⟩
theorem Vals.zero:∀{us:List Value},Vals [] us->us=[]|_,.nil=>rfl
theorem Vals.reverse{xs:List V}{us:List Value}(h:Vals xs us):Vals xs.reverse us.reverse:=by induction h with|nil=>exact .nil|cons r t ih=>rw[List.reverse_cons,List.reverse_cons];exact Vals.append ih (.cons r .nil)
theorem Vals.rep{xs:List V}{us:List Value}(h:Vals xs us):∀k:Nat,Vals (List.replicate k xs).flatten (List.replicate k us).flatten|0=>.nil|k+1=>by rw[List.replicate_succ,List.replicate_succ,List.flatten_cons,List.flatten_cons];exact Vals.append h (Vals.rep h k)
theorem foldl_rep(its:List Value):∀(k:Nat)(acc:List Value),List.foldl (fun x1 x2=>x1++x2) acc.toArray (List.replicate k its.toArray)=(acc++(List.replicate k its).flatten).toArray
 |0,acc=>by simp|k+1,acc=>by
   have e:acc.toArray++its.toArray=(acc++its).toArray:=by simp
   have e2:(acc++its)++(List.replicate k its).flatten=acc++(List.replicate (k+1) its).flatten:=by rw[List.replicate_succ,List.flatten_cons,List.append_assoc]
   rw[<-e2,<-foldl_rep its k (acc++its),<-e,List.replicate_succ,List.foldl_cons]
section
variable{X:Cx}{pins:List (Addr×Obj)}{σ:St}{H:Hp}{s:Shared}{l b:Addr}{xs ys zs:List V}
theorem Inv.PL{its its':List Value}{n:Nat}{f:Array Value->Array Value}{t':Nat}(I:Inv X pins σ H s)(hH:H l=some (.lst xs))(e:s.heap.get? l=some {cls:=.type "list",data:=.seq its.toArray n})(hf:f its.toArray=its'.toArray)(hv:Vals ys its')(hz:ys.length<=sizeLine):Inv X pins σ (upd H l (.lst ys)) {s with heap:=s.heap.update l (Obj.mapSeq f),toks:=t'}:=by have q:=PySem.IsL.update e f;rw[hf]at q;refine I.write (x:=l) (e:=l) (by rw[hH];exact trivial) (.inl rfl) (fun b' u hb hu=>(Heap.get?_update_other s.heap (Obj.mapSeq f) (Ne.symm hb)).trans hu) ⟨_,q⟩ ?_;exact⟨hz,its',_,hv,q⟩
theorem Inv.Q6{its:List Value}{t':Nat}(I:Inv X pins σ H s)(hv:Vals ys its)(hz:ys.length<=sizeLine):Inv X pins σ (upd H s.heap.objs.size (.lst ys)) {s with heap:=s.heap.push {cls:=.type "list",data:=.seq its.toArray},toks:=t'}:=I.laid (fun _ _ q=>Heap.get?_push_of_some _ q) (Nat.le_refl _) ⟨hz,its,0,hv,Heap.get?_push_size _ rfl⟩
theorem Inv.fresh(I:Inv X pins σ H s):H s.heap.objs.size=none:=I.hok.fresh (Nat.le_refl _)
theorem Inv.Le(I:Inv X pins σ H s)(hH:H l=some (.lst xs)):xs.length<=sizeLine/\∃(its:List Value)(n:Nat),Vals xs its/\xs.length=its.length/\s.heap.get? l=some {cls:=.type "list",data:=.seq its.toArray n}:=by obtain⟨z,its,n,r,e⟩:=I.hok l _ hH;exact⟨z,its,n,r,r.length,e⟩
theorem wj{n:Nat}(h:n<=sizeLine):Builtin.List.listTooLong n=false:=by unfold Builtin.List.listTooLong;exact decide_eq_false (by omega)
end
section
variable{X:Cx}
noncomputable def Mi:V->List V->Hp->VK->Prop:=fun x vs H Q=>∃l xs y,x=.ref l/\vs=[y]/\H l=some (.lst xs)/\xs.length<sizeLine/\Q .non (upd H l (.lst (xs++[y])))
theorem rK:MtM X "list.append" Mi:=by intro pins s σ H x vs v us Q I rx rv h;obtain⟨l,xs,y,rfl,rfl,hH,hz,q⟩:=h;cases rx;obtain⟨u,rfl,ru⟩:=rv.one;obtain⟨z,its,n,r,hl,e⟩:=I.Le hH;refine call_meets F.slot_list_append ⟨_,e,rfl⟩ F.entry_list_append (F.args_list_append_2 _ _) (PySem.list_append l its.toArray n u (by rw[List.size_toArray];omega)) ⟨e,?_⟩;refine⟨.non,_,I.PL (its':=its++[u]) hH e (by simp) (r.append (.cons ru .nil)) ?_,rfl,q⟩;rw[List.length_append,List.length_singleton];omega
noncomputable def K4:V->List V->Hp->VK->Prop:=fun x vs H Q=>∃l b xs zs,x=.ref l/\vs=[.ref b]/\H l=some (.lst xs)/\H b=some (.lst zs)/\xs.length+zs.length<=sizeLine/\Q .non (upd H l (.lst (xs++zs)))
theorem Ds:MtM X "list.extend" K4:=by
 intro pins s σ H x vs v us Q I rx rv h;obtain⟨l,b,xs,zs,rfl,rfl,hH,hB,hz,q⟩:=h;cases rx;obtain⟨u,rfl,ru⟩:=rv.one;cases ru;obtain⟨z,its,n,r,hl,e⟩:=I.Le hH;obtain⟨z2,its2,n2,r2,hl2,e2⟩:=I.Le hB;have hsz:its.toArray.size+its2.toArray.size<=sizeLine:=by rw[List.size_toArray,List.size_toArray];omega
 have Yx:¬(!its.toArray.isEmpty&&Builtin.List.listTooLong (its.toArray.size+its2.toArray.size))=true:=by rw[wj hsz,Bool.and_false];exact Bool.false_ne_true
 refine call_meets F.slot_list_extend ⟨_,e,rfl⟩ F.entry_list_extend (F.args_list_extend_2 _ _) (AutoSeq1.list_extend_list_list_0 l its.toArray n b its2.toArray n2 Yx (by rw[List.size_toArray];omega) (by omega)) ⟨e,e2,?_⟩;refine⟨.non,_,I.PL (its':=its++its2) hH e (by simp) (r.append r2) ?_,rfl,q⟩;rw[List.length_append];omega
noncomputable def Hn:V->List V->Hp->VK->Prop:=fun x vs H Q=>∃l xs,x=.ref l/\vs=[]/\H l=some (.lst xs)/\Q .non (upd H l (.lst xs.reverse))
theorem yK:MtM X "list.reverse" Hn:=by intro pins s σ H x vs v us Q I rx rv h;obtain⟨l,xs,rfl,rfl,hH,q⟩:=h;cases rx;have hus:=rv.zero;subst hus;obtain⟨z,its,n,r,hl,e⟩:=I.Le hH;refine call_meets F.slot_list_reverse ⟨_,e,rfl⟩ F.entry_list_reverse (F.args_list_reverse_1 _) (AutoSeq1.list_reverse_list_0 l its.toArray n (by rw[List.size_toArray];omega)) ⟨e,?_⟩;refine⟨.non,_,I.PL (its':=its.reverse) hH e (by simp) r.reverse ?_,rfl,q⟩;rw[List.length_reverse];omega
theorem len_rep{α:Type}(xs:List α)(k:Nat):(List.replicate k xs).flatten.length=k*xs.length:=by induction k with|zero=>simp|succ k ih=>rw[List.replicate_succ,List.flatten_cons,List.length_append,ih,Nat.succ_mul,Nat.add_comm]
end
end L2
namespace Att
open PySem PySem.W PySem.Calls PyProof.Rows
theorem nR{P:Params}{h:Heap}:∀(ns:List Int)(vs:List Value),WellAll P h vs (ns.map WData.int)->IntsAre vs ns:=by intro ns;induction ns with|nil=>intro vs w;rw[List.map_nil]at w;cases w;exact .nil|cons n ns ih=>intro vs w;rw[List.map_cons]at w;cases w with|cons a b=>cases a;exact .cons _ _ (ih _ b)
theorem Cz{l:OpenLaw}{n:Nat}(hn:l.most=some n){P:Params}{h:Heap}{args:List WData}{vals:List Value}(hpre:l.row.toRowW.claim.pre args=true)(hwl:WellAll P h vals args):∃a vs ns,vals=[Value.ref a]/\args=[WData.list (ns.map WData.int)]/\h.get? a=some {cls:=.type "list",data:=.seq vs.toArray}/\IntsAre vs ns/\ns.length<=n:=by
 have hsh:WShape.hasAll [] args [.list .int]=true:=(pre_splitW hpre).1;have hc:l.pre.holds [] {args:=args}=true:=(pre_splitW hpre).2;obtain⟨d,r,rfl,h1,h2⟩:=hasAllW_cons hsh;obtain rfl:=hasAllW_nil h2;obtain⟨xs,rfl,h3⟩:=hasW_list h1;obtain⟨ns,rfl⟩:=items_int h3;have hlen:ns.length<=n:=by
  unfold OpenLaw.pre at hc;have h4:(WTm.not (.lt (.lit (.int (n:Int))) (.len (.arg 0)))).holds [] {args:=[.list (ns.map .int)]}=true:=by have h4:=(holds_andW hc).1;rw[hn]at h4;exact h4
  have h5:=condW_of h4 (w_not (w_lt w_lit (w_len_list (w_arg rfl))));rw[List.length_map]at h5;refine Nat.le_of_not_lt fun q=>?_;have q':(n:Int)<((ns.length:Nat):Int):=by omega
  first|(rw[decide_eq_true q']at h5;exact absurd h5 (by decide))|(simp at h5;omega)
 cases hwl with|cons w1 w2=>cases w2;cases w1 with|list ho hall=>exact⟨_,_,ns,rfl,rfl,ho,nR ns _ hall,hlen⟩
theorem DG(l:OpenLaw)(args:List WData):l.row.toRowW.claim.post args (.bool true) args=true:=postW_of (r:=l.row.toRowW) (X:=(true==true)) (show WShape.has [] (.bool true) .bool=true by first|rfl|decide|simp[WShape.has,WShape.arms,WShape.armsAll]) (show(WTm.eq .res (.lit (.bool true))).value [] {args:=args,res:=some (.bool true),after:=args}=some (.bool (true==true))from w_eq_bool (w_res rfl) w_lit) rfl
theorem wV{l:OpenLaw}{n:Nat}{q:Program}{loose:List Str}{XP:(Str->Option Value)->Heap->Prop}{YP:World->Heap->Prop}{d:DefRec}(hn:l.most=some n)(hdf:d.params.defaults=[])(call:∀(w:World)(s₀ s₁:Shared)(mg mb:Str->Option Value)(fa:Addr)(o:Obj)(pm cd doc:Value)(a:Addr)(vs:List Value)(ns:List Int),Ground q loose [] XP w s₀ mg mb s₁.heap->YP w s₁.heap->s₁.heap.get? fa=some o->o.data=.func (docDef d.name d.params d.body d.scope pm cd doc)->s₁.heap.CodeRec cd d.name->mg d.name=some (.ref fa)->s₁.heap.get? a=some {cls:=.type "list",data:=.seq vs.toArray}->IntsAre vs ns->ns.length<=n->s₁.gens=#[]->codeAny (model l.prog w) callerA (.call (.ref fa) ⟨[.ref a],[]⟩) (fun r s'=>r=.ok (.ret (.bool true))/\OldK s₁.heap s'.heap/\s'.os=s₁.os/\AllBare s'.gens) s₁):WalkO q loose XP YP l.row.toRowW d [] (fun f vs=>PySem.call f vs):=by intro w s₀ s₁ mg mb G Y fa o pm cd doc dV kV ho hd hcd hD hmg hg args vals as hpre hlay hrd hwl hlo;obtain rfl:dV=.none:=Dflts.none hD hdf;obtain rfl:kV=.none:=Dflts.noKw hD;obtain⟨a,vs,ns,rfl,rfl,hobj,hints,hlen⟩:=Cz hn hpre hwl;refine enter_call (codeAny_mono (call w s₀ s₁ mg mb fa o pm cd doc a vs ns G Y ho (fd_plain hd) hcd hmg hobj hints hlen hg) fun r s' hq=>?_);obtain⟨rfl,h2,h3,h4⟩:=hq;exact⟨.inl ⟨.bool true,.bool true,[],rfl,fun _=>rfl,.bool true,DG l _,fun _=>⟨List.Pairwise.nil,fun _ hm=>(nomatch hm)⟩⟩,h2,h3,h4⟩
end Att
namespace L2
open PySem PySem.Spec PyProof.Rows
theorem sH:∀{vs:List Value}{ns:List Int},IntsAre vs ns->Vals (ns.map V.int) vs|_,_,.nil=>.nil|_,_,.cons n t h=>.cons ⟨t,rfl⟩ (sH h)
noncomputable def Only(H:Hp):Prop:=∀b,H b=none\/∃o xs,H b=some (.fW o (.lst xs))
theorem HQ{P:Program}{w:World}{K:PySem.W.Frag}{mg mb:Str->Option Value}{CX:Ib}{k:Nat}{fa a:Addr}{fd:FuncData}{x:Str}{sp:Sp}{s₁:Shared}{vs:List Value}{ns:List Int}(KX:K.In s₁.heap)(hns:s₁.heap.Ns mainGlobals mg)(hb:s₁.heap.Ns builtinsNs mb)(hbb:∀x:Str,x≠"__name__"->mb x=bootBuiltins x)(hlim:s₁.heap.NoLimit)(hg:s₁.gens=#[])(ha:s₁.heap.get? a=some {cls:=.type "list",data:=.seq vs.toArray})(hi:IntsAre vs ns)(hl:ns.length<=sizeLine)(hr:jm k callerA)(F:∀base:Heap,K.In base->base.Ns mainGlobals mg->bV P w K mg base CX k fa fd [x] sp)(hbind:∀(s:Shared)(u:Value),BindsTo s fd ⟨[u],[]⟩ [(x,u)])(hsp:∀H:Hp,Only H->gA K H a (ns.map V.int)->sp [.ref a] H (fun v _=>v=.bl true) fun _ _ _=>False)(Yy:∀H e s',CX [] H s₁ (fun _ _ _=>False) e s'->False):codeAny (model P w) callerA (.call (.ref fa) ⟨[.ref a],[]⟩) (fun r s'=>r=.ok (.ret (.bool true))/\OldK s₁.heap s'.heap/\s'.os=s₁.os/\AllBare s'.gens) s₁:=by
 have rv:=sH hi;have lenV:=hi.length--from an abstract heap in which nothing but the script may be tracked
 have core:∀H:Hp,Only H->gA K H a (ns.map V.int)->lV P w H s₁.heap->(∀b,H b≠none->b=a)->(H a≠none->K.lookup a=none)->codeAny (model P w) callerA (.call (.ref fa) ⟨[.ref a],[]⟩) (fun r s'=>r=.ok (.ret (.bool true))/\OldK s₁.heap s'.heap/\s'.os=s₁.os/\AllBare s'.gens) s₁:=by
  intro H hO hS hok hA hK;have Ca:∀{b:Addr}{o:Obj},s₁.heap.get? b=some o->H b=none->(uv s₁.heap H).get? b=some o:=fun e n=>Gp e n;have Yw:∀{b:Addr}{o:Obj}{es:Array DictEntry}{ep:Nat},s₁.heap.get? b=some o->o.data=.dict es ep->H b=none:=fun{b o es ep}e d=>by cases q:H b with|none=>rfl|some u=>have e':b=a:=hA b (by rw[q];simp);subst e';rw[ha]at e;cases e;have d':Data.seq vs.toArray _=Data.dict es ep:=d;cases d'
  have nsK:∀{b:Addr}{m:Str->Option Value},s₁.heap.Ns b m->(uv s₁.heap H).Ns b m:=fun{b m}⟨o,es,ep,e,d,r⟩=>⟨o,es,ep,Ca e (Yw e d),d,r⟩;have hKb:K.In (uv s₁.heap H):=fun b o e=>Ca (KX b o e) (by cases q:H b with|none=>rfl|some u=>have e':b=a:=hA b (by rw[q];simp);subst e';rw[hK (by rw[q];simp)]at e;cases e);have hM:Mod K mg (uv s₁.heap H):=⟨hKb,nsK hns,⟨mb,nsK hb,hbb⟩,let⟨mc,h1,h2⟩:=hlim;⟨mc,nsK h1,h2⟩⟩;have e0:J0 P w K mg (uv s₁.heap H) callerA [] s₁ H:=⟨rfl,hM,fun b o e=>JQ e,Nat.le_of_eq (Cy _ _),trivial,fun b hb=>absurd (show b∈([]:List Addr)from hb) (by simp),hok,.of_eq hg⟩;refine codeAny_mono ((F _ hKb (nsK hns)).run callerA [] s₁ H ⟨[.ref a],[]⟩ [.ref a] [.ref a] _ _ hr e0 (hbind s₁ (.ref a)) (.cons rfl .nil) (hsp H hO hS)) fun r s' h=>?_;cases r with|error e=>exact(Yy H e s' h).elim|ok fl=>cases fl with|next=>exact False.elim h|brk=>exact False.elim h|cont=>exact False.elim h|ret u=>obtain⟨v,H',os,bare,un,hok',r',q⟩:=h;have q':v=.bl true:=q;subst q';obtain rfl:u=Value.bool true:=r';refine⟨rfl,OldK.of_keep fun b o e=>?_,os,bare⟩;cases q:H b with|none=>exact un.keep b o e q (by intro z;exact absurd (show b∈([]:List Addr)from z) (by simp)) (by simp)|some u=>
        rcases hO b with z|⟨ob,xs,z⟩;.rw[q]at z;cases z
        .have z2:=un.vd b ob _ z;obtain⟨e1,_⟩:=hok b _ z;obtain⟨e2,_⟩:=hok' b _ z2;rw[e]at e1;cases e1;exact e2
 cases hk:K.lookup a with|some o=>--the script is one of the module's own objects
   have e:=KX a o hk;rw[ha]at e;cases e;refine core (fun _=>none) (fun _=>.inl rfl) (.inr ⟨_,vs.toArray,_,hk,rfl,rfl,rfl,by rw[List.size_toArray,lenV];exact hl,by simpa using rv⟩) (fun b u z=>by have z':(none:Option HO)=some u:=z;cases z') (fun b z=>absurd rfl z) fun z=>absurd rfl z|none=>
   refine core (fun b=>if b=a then some (.fW {cls:=.type "list",data:=.seq vs.toArray} (.lst (ns.map V.int)))else none) (fun b=>?_) (.inl (.inr ⟨{cls:=.type "list",data:=.seq vs.toArray},if_pos rfl⟩)) (fun b u z=>?_) (fun b z=>?_) fun _=>hk
   . by_cases hb:b=a;.exact .inr ⟨_,_,if_pos hb⟩
     .exact .inl (if_neg hb)
   . by_cases hb:b=a;.have z':=(if_pos hb).symm.trans z;cases z';subst hb;exact⟨ha,by rw[List.length_map];exact hl,vs,_,rv,ha⟩
     .have z':=(if_neg hb).symm.trans z;cases z'
   . by_cases hb:b=a;.exact hb
     .exact absurd (if_neg hb) z
end L2
namespace L2
open PySem PySem.Spec PyProof.Rows
theorem Ln{l:PySem.W.OpenLaw}{n k:Nat}{q:Program}{loose:List Str}{XP:(Str->Option Value)->Heap->Prop}{YP:World->Heap->Prop}{d:DefRec}{K:Params->PySem.W.Frag}{CX:World->Ib}{sp:World->Sp}{x:Str}(hn:l.most=some n)(hn2:n<=sizeLine)(hdf:d.params.defaults=[])(hr:jm k callerA)(hY:∀(w:World)(h:Heap),YP w h->(K w.params).In h)(F:∀(w:World)(mg:Str->Option Value)(fa:Addr)(h:Heap),(K w.params).In h->h.Ns mainGlobals mg->mg d.name=some (.ref fa)->∃ fd:FuncData,(∀(s:Shared)(u:Value),BindsTo s fd ⟨[u],[]⟩ [(x,u)])/\∀base:Heap,(K w.params).In base->base.Ns mainGlobals mg->bV l.prog w (K w.params) mg base (CX w) k fa fd [x] (sp w))(hsp:∀(w:World)(H:Hp)(a:Addr)(ns:List Int),ns.length<=n->Only H->gA (K w.params) H a (ns.map V.int)->sp w [.ref a] H (fun v _=>v=.bl true) fun _ _ _=>False)(Yy:∀(w:World)(H:Hp)(s:Shared)(e:Value)(s':Shared),CX w [] H s (fun _ _ _=>False) e s'->False):PySem.W.WalkO q loose XP YP l.row.toRowW d [] (fun f vs=>PySem.call f vs):=by refine Att.wV hn hdf fun w s₀ s₁ mg mb fa o pm cd doc a vs ns G Y ho hd hcd hmg hobj hints hlen hg=>?_;have KX:=hY w _ Y;obtain⟨fd,hb,hF⟩:=F w mg fa _ KX G.T.g hmg;exact HQ KX G.T.g G.T.b G.T.builtins G.T.nolimit hg hobj hints (Nat.le_trans hlen hn2) hr hF hb (fun H hO hS=>hsp w H a ns hlen hO hS) fun H e s'=>Yy w H s₁ e s'
theorem Gb{l:PySem.W.OpenLaw}{n k:Nat}{q:Program}{loose:List Str}{XP:(Str->Option Value)->Heap->Prop}{YP:World->Heap->Prop}{d:DefRec}{K:Params->PySem.W.Frag}{CX:Ib}{sp:PySem.W.Frag->Sp}{x:Str}(hn:l.most=some n)(hn2:n<=sizeLine)(hdf:d.params.defaults=[])(hr:jm k callerA)(hY:∀(w:World)(h:Heap),YP w h->(K w.params).In h)(F:∀(w:World)(mg:Str->Option Value)(fa:Addr)(h:Heap),(K w.params).In h->h.Ns mainGlobals mg->mg d.name=some (.ref fa)->∃ fd:FuncData,(∀(s:Shared)(u:Value),BindsTo s fd ⟨[u],[]⟩ [(x,u)])/\∀base:Heap,(K w.params).In base->base.Ns mainGlobals mg->bV l.prog w (K w.params) mg base CX k fa fd [x] (sp (K w.params)))(hsp:∀(K:PySem.W.Frag)(H:Hp)(a:Addr)(ns:List Int),ns.length<=n->Only H->gA K H a (ns.map V.int)->sp K [.ref a] H (fun v _=>v=.bl true) fun _ _ _=>False)(Yy:∀(H:Hp)(s:Shared)(e:Value)(s':Shared),CX [] H s (fun _ _ _=>False) e s'->False):PySem.W.WalkO q loose XP YP l.row.toRowW d [] (fun f vs=>PySem.call f vs):=Ln (K:=K) (CX:=fun _=>CX) (sp:=fun w=>sp (K w.params)) hn hn2 hdf hr hY F (fun w H a ns h1 h2 h3=>hsp (K w.params) H a ns h1 h2 h3) fun _ H s e s'=>Yy H s e s'
end L2/-THE LAST THEOREM(shape;LID,My.*are aeD):My.Adr:a structure of the addresses that your layer names(classes,functions);My.Txt K t:a structure(Prop)of the equations over K;My.ac4:{K}{implicit addresses..}(e1:nsIn K mainGlobals"law"=some(some(.ref f)))(e2:K.lookup f=some⟨oc,od,.func(fnOf"law""law"params body scope dV kV doc pm an cdv ct),sl⟩)(e3:codeIn K cdv"law"=true)..:∃t,My.Txt K t;set_option maxRecDepth 100000 in;set_option maxHeartbeats 0 in(the tactic k_is has no namespace:write k_is)-/
namespace L2
open PySem PySem.Spec PyProof.Rows
noncomputable def iG(s:Stmt):Arguments:=match s with|.FunctionDef _ a _ _ _ _ _ _ _ _=>a|_=>{posonlyargs:=[],args:=[],vararg:=none,kwonlyargs:=[],kw_defaults:=[],kwarg:=none,defaults:=[]}
noncomputable def fM(s:Stmt):List Stmt:=match s with|.FunctionDef _ _ b _ _ _ _ _ _ _=>b|_=>[]
noncomputable def aB(s:Stmt):Scope:=match s with|.FunctionDef _ _ _ _ _ _ sc _ _ _=>sc|_=>{kind:=.function,names:=[],isGenerator:=false,isCoroutine:=false}
noncomputable abbrev fU:Ib:=fun _ _ _ _ _ _=>False
noncomputable abbrev E0:XK:=fun _ _ _=>False
theorem Yo{X:Cx}:Passes fU X E0:=fun _ _ _ _ _ _ _ h=>h.elim
structure gj(K:PySem.W.Frag)(x qual:Str)(st:Stmt)(f:Addr)(fd:FuncData):Prop where
 ex:∃(oc:Value)(od:Option Addr)(kV doc pm:Value)(an:Option Addr)(cdv ct:Value)(osl:Array (Option Value)),fd=PySem.W.fnOf x qual (iG st) (fM st) (aB st) .none kV doc pm an cdv ct/\K.lookup f=some ⟨oc,od,.func fd,osl⟩/\PySem.W.codeIn K cdv qual=true
 kp:PySem.W.keepIn K (.ref f)=true
section
variable{P:Program}{w:World}{K:PySem.W.Frag}{mg:Str->Option Value}{base:Heap}
theorem gj.ok{x qual:Str}{st:Stmt}{f:Addr}{fd:FuncData}{N ps:List Str}{k:Nat}{sp:Sp}(F:gj K x qual st f fd)(S:aK N ps (aB st))(len:∀vs H Q E,sp vs H Q E->vs.length=ps.length)(hbody:∀(cdv:Value)(A:Around)(outer:List Env)(s:Shared)(H:Hp)(vs:List V)(Q:VK)(E:XK),jm k (A.deeper (envOfC qual (aB st) s.heap.objs.size f cdv))->sp vs H Q E->∃t,Aa (yG fU P w K mg base N qual (aB st) f cdv A outer s H E).Vv (fM st) t/\t {nx:=fun _ H'=>Q .non H',rt:=Q} (start N vs) H):bV P w K mg base fU (k+1) f fd ps sp:=by obtain⟨oc,od,kV,doc,pm,an,cdv,ct,osl,rfl,lk,hcd⟩:=F.ex;refine Yh lk hcd S len fun A outer s H vs Q E hr hsp=>?_;obtain⟨t,h,q⟩:=hbody cdv A outer s H vs Q E hr hsp;exact⟨t,h.Vv,q⟩
theorem gj.binds{x qual:Str}{st:Stmt}{f:Addr}{fd:FuncData}{ps:List Str}(F:gj K x qual st f fd)(h:∀(kV doc pm:Value)(an:Option Addr)(cdv ct:Value)(us:List Value),us.length=ps.length->bindArgs (PySem.W.fnOf x qual (iG st) (fM st) (aB st) .none kV doc pm an cdv ct) ⟨us,[]⟩=pure (ps.zip us)):Binds K fd ps []:=by obtain⟨oc,od,kV,doc,pm,an,cdv,ct,osl,rfl,lk,hcd⟩:=F.ex;exact .all (h kV doc pm an cdv ct)
theorem Qh{x qual:Str}{st:Stmt}{f:Addr}{oc:Value}{od an:Option Addr}{osl:Array (Option Value)}{kV doc pm cdv ct:Value}(l:K.lookup f=some ⟨oc,od,.func (PySem.W.fnOf x qual (iG st) (fM st) (aB st) .none kV doc pm an cdv ct),osl⟩)(c:PySem.W.codeIn K cdv qual=true)(k:PySem.W.keepIn K (.ref f)=true):gj K x qual st f (PySem.W.fnOf x qual (iG st) (fM st) (aB st) .none kV doc pm an cdv ct):=⟨⟨oc,od,kV,doc,pm,an,cdv,ct,osl,rfl,l,c⟩,k⟩
end
noncomputable def aO(H H':Hp):Prop:=∀b o,H b=some o->H' b=some o
theorem aO.refl(H:Hp):aO H H:=fun _ _ h=>h
theorem aO.trans{H H1 H2:Hp}(a:aO H H1)(b:aO H1 H2):aO H H2:=fun c o h=>b c o (a c o h)
theorem aO.seq{K:PySem.W.Frag}{H H':Hp}{a:Addr}{xs:List V}(e:aO H H')(h:gA K H a xs):gA K H' a xs:=by
 rcases h with(h|⟨o,h⟩)|h;.exact .inl (.inl (e _ _ h))
 .exact .inl (.inr ⟨o,e _ _ h⟩)
 .exact .inr h
end L2
end
section
namespace HH
open PySem
inductive Dc where|k(kvs:List (Int×Int))|t(kvs:List (List Int×Int))deriving DecidableEq
inductive D where|non|bl(b:Bool)|int(i:Int)|str(s:Str)|tup(ds:List D)|lst(ds:List D)|cg(m:Dc)deriving Inhabited
mutual
noncomputable def iV:D->D->Bool|.non,.non=>true|.bl a,.bl b=>a==b|.bl a,.int i=>(if a then(1:Int)else 0)==i|.int i,.bl a=>i==(if a then(1:Int)else 0)|.int i,.int j=>i==j|.str a,.str b=>a==b|.tup xs,.tup ys=>fZ xs ys|.lst xs,.lst ys=>fZ xs ys|.cg a,.cg b=>decide (a=b)|_,_=>false
noncomputable def fZ:List D->List D->Bool|[],[]=>true|x::xs,y::ys=>iV x y&&fZ xs ys|_,_=>false
end
theorem pqi{i j}:iV (.int i) (.int j)=(i==j):=(rfl)
theorem pqt{x y}:iV (.tup x) (.tup y)=fZ x y:=(rfl)
theorem pql{x y}:iV (.lst x) (.lst y)=fZ x y:=(rfl)
noncomputable def du:Nat->D->Bool|_,.non=>true|_,.bl _=>true|_,.int _=>true|_,.str _=>true|0,.tup _=>false|0,.lst _=>false|_,.cg _=>false|n+1,.tup ds=>ds.all (du n)|n+1,.lst ds=>ds.all (du n)
inductive Sl where|aZ|val(b:Bool)(d:D)|own(b:Bool)(ds:List D)|lent(ds:List D)|cZ(m:Dc)deriving Inhabited
inductive R where|val(d:D)|own(ds:List D)deriving Inhabited
noncomputable def R.d:R->D|.val d=>d|.own ds=>.lst ds
inductive Res(α:Type)where|ok(a:α)(ρ:List Sl)|exc(k:Nat)(ρ:List Sl)|stuck deriving Inhabited
noncomputable def Res.bind{α β:Type}(f:α->List Sl->Res β):Res α->Res β|.ok a ρ=>f a ρ|.exc _ _=>.stuck|.stuck=>.stuck
noncomputable def lift{α:Type}(o:Option α)(ρ:List Sl):Res α:=match o with|some a=>.ok a ρ|none=>.stuck
inductive Op where|add|sub|mul|fdiv|mod|pow|shl|shr|band|Ja deriving DecidableEq
inductive Cm where|eq|ne|lt|le|gt|ge|isN|Yz|inn|YB|isT|Mv|Zu deriving DecidableEq
inductive Ty where|int|bool|str|tuple|list|none deriving DecidableEq
inductive Blt where|len|list|tuple|max2|sum|all|int|keys|xO|qI|Mw deriving DecidableEq
inductive P where|var(i:Nat)|con(d:D)|bin(o:Op)(a b:P)|neg(a:P)|not(a:P)|and(a b:P)|or(a b:P)|cmp(o:Cm)(a b:P)|chain(o o':Cm)(a b c:P)|YC(c a b:P)|tup(as:List P)|lst(as:List P)|idx(a i:P)|slice(a lo hi:P)|call(f:Nat)(as:List P)|blt(b:Blt)(as:List P)|inst(ts:List Ty)(a:P)|comp(src:P)(n:Nat)(is:List Nat)(one:Bool)(test:Option P)(elt:P)|qW(a b:P)|zip(a b:P)|Tg(x:Nat)(k d:P)|vw(x:Nat)|Th(x:Nat)(ks:List P)|zB(x:Nat)(ks:List P)(d:P)deriving Inhabited
noncomputable abbrev lim:Nat:=16777216
noncomputable def pW:D->D->Option R|.int i,.int j=>some (.val (.int (i+j)))|.lst xs,.lst ys=>if xs.length+ys.length<=lim then some (.own (xs++ys))else none|.tup xs,.tup ys=>if xs.length+ys.length<=lim then some (.val (.tup (xs++ys)))else none|.str x,.str y=>if x.length+y.length<=lim then some (.val (.str (x++y)))else none|_,_=>none
noncomputable def qm:D->D->Option R|.int i,.int j=>if((-18446744073709551616<i/\i<18446744073709551616)\/(-18446744073709551616<j/\j<18446744073709551616))then some (.val (.int (i*j)))else none|.lst xs,.int k=>if 0<=k/\0<xs.length/\xs.length*k.toNat<=lim then some (.own (List.replicate k.toNat xs).flatten)else none|.tup xs,.int k=>if 0<=k/\0<xs.length/\xs.length*k.toNat<=lim then some (.val (.tup (List.replicate k.toNat xs).flatten))else none|_,_=>none
noncomputable def xx:D->D->Option R|.int i,.int j=>some (.val (.int (i-j)))|_,_=>none
noncomputable def qt:D->D->Option R|.int i,.int j=>if 0<j/\j<1606938044258990275541962092341162602522202993782792835301376 then some (.val (.int (i/j)))else none|_,_=>none
noncomputable def wI:D->D->Option R|.int i,.int j=>if 0<j then some (.val (.int (i%j)))else none|_,_=>none
noncomputable def xn:D->D->Option R|.int i,.int j=>if 0<=j/\j<=1000/\i.natAbs<18446744073709551616 then some (.val (.int (i^j.toNat)))else none|_,_=>none
noncomputable def Gg:D->D->Option R|.int i,.int j=>if 0<=j/\j<=1000/\i.natAbs<18446744073709551616 then some (.val (.int (i*2^j.toNat)))else none|_,_=>none
noncomputable def Ha:D->D->Option R|.int i,.int j=>if 0<=j then some (.val (.int (i/2^j.toNat)))else none|_,_=>none
noncomputable def yw:D->D->Option R|.int i,.int j=>some (.val (.int (Builtin.bitAnd i j)))|_,_=>none
noncomputable def flat:D->Bool|.tup _=>false|.lst _=>false|.cg _=>false|_=>true
noncomputable def items:D->Option (List D)|.lst ds=>some ds|.tup ds=>some ds|_=>none
noncomputable def SJ:D->Option (List D)|.tup ds=>some ds|_=>none
noncomputable def Ip(x y:D):Option Bool:=if du 8 x&&du 8 y then some (iV x y)else none
noncomputable def yD(x y:D):Option Bool:=if du 8 x&&du 8 y then some (!iV x y)else none
noncomputable def Jf(f:Int->Int->Bool):D->D->Option Bool|.int i,.int j=>some (f i j)|_,_=>none
noncomputable def jQ:D->Bool|.non=>true|_=>false
noncomputable def cmN(neg:Bool)(x:D):D->Option Bool|.non=>some (if neg then !jQ x else jQ x)|_=>none
noncomputable def yz(neg:Bool)(x y:D):Option Bool:=(items y).bind fun ys=>if(flat x&&ys.all flat)=true then some (if neg then !(ys.any fun y=>iV y x)else ys.any fun y=>iV y x)else none
noncomputable def cmT(neg:Bool):D->D->Option Bool|.bl b,.bl true=>some (if neg then !b else b)|_,_=>none
noncomputable def bu:List Int->List Int->Bool|[],_::_=>true|i::is,j::js=>decide (i<j)||(decide (i=j)&&bu is js)|_,[]=>false
noncomputable def eZ:D->Int|.int i=>i|_=>0
noncomputable def bQ:D->List Int|.int i=>[i]|.tup ds=>ds.map eZ|_=>[]
noncomputable def dC:D->Bool|.int _=>true|_=>false
noncomputable def Dc.get:Dc->D->Option (Option Int)|.k kvs,.int i=>some ((kvs.find? fun kv=>decide (kv.1=i)).map (·.2))|_,_=>none
noncomputable def putD{κ:Type}[DecidableEq κ](kvs:List (κ×Int))(k:κ)(v:Int):List (κ×Int):=if(kvs.any fun kv=>decide (kv.1=k))=true then kvs.map (fun kv=>if kv.1=k then(kv.1,v)else kv)else kvs++[(k,v)]
noncomputable def Dc.put:Dc->D->Int->Option Dc|.k kvs,.int i,v=>if kvs.length<lim then some (.k (putD kvs i v))else none|_,_,_=>none
noncomputable def Dc.uJ:Dc->List D->Option (Option Int)|.t kvs,ds=>if ds.all dC=true then some ((kvs.find? fun kv=>decide (kv.1=ds.map eZ)).map (·.2))else none|_,_=>none
noncomputable def Dc.KQ:Dc->List D->Int->Option Dc|.t kvs,ds,v=>if ds.all dC=true/\kvs.length<lim then some (.t (putD kvs (ds.map eZ) v))else none|_,_,_=>none
noncomputable def qD:D->List D->Option R|.cg m,ks=>(m.uJ ks).bind fun o=>o.map fun v=>.val (.int v)|_,_=>none
noncomputable def sO:D->D->Option R|.cg m,k=>(m.get k).bind fun o=>o.map fun v=>.val (.int v)|_,_=>none
noncomputable def uD:Op->D->D->Option R|.add=>pW|.mul=>qm|.sub=>xx|.fdiv=>qt|.mod=>wI|.pow=>xn|.shl=>Gg|.shr=>Ha|.band=>yw|.Ja=>sO
noncomputable def Vq:D->D->Option Bool|.int i,.int j=>some (decide (i<j))|.tup xs,.tup ys=>if(xs.all dC&&ys.all dC)=true then some (bu (xs.map eZ) (ys.map eZ))else none|_,_=>none
noncomputable def acF:D->D->Option Bool|.int i,.int j=>some (decide (i<=j))|.tup xs,.tup ys=>if(xs.all dC&&ys.all dC)=true then some (!bu (ys.map eZ) (xs.map eZ))else none|_,_=>none
noncomputable def cm:Cm->D->D->Option Bool|.eq=>Ip|.ne=>yD|.lt=>Vq|.le=>Jf fun i j=>decide (i<=j)|.Zu=>acF|.gt=>Jf fun i j=>decide (j<i)|.ge=>Jf fun i j=>decide (j<=i)|.isN=>cmN false|.Yz=>cmN true|.inn=>yz false|.YB=>yz true|.isT=>cmT false|.Mv=>cmT true
noncomputable def lW(o:Cm)(x y:D):Option R:=(cm o x y).map fun k=>.val (.bl k)
noncomputable def stD(ks:List Int)(k:Int):List Int:=if ks.contains k=true then ks else ks++[k]
noncomputable def dedI(ns:List Int):List Int:=ns.foldl stD []
noncomputable def qz(n:Nat)(i:Int):Option Nat:=if 0<=i then(if i<n then some i.toNat else none)else if-(n:Int)<=i then some (i+n).toNat else none
noncomputable def at'{α:Type}(xs:List α)(i:Int):Option α:=(qz xs.length i).bind fun j=>xs[j]?
noncomputable def cX(n d:Nat):Option Int->Nat|none=>d|some i=>if 0<=i then min i.toNat n else(i+n).toNat
noncomputable def cut{α:Type}(xs:List α)(lo hi:Option Int):List α:=(xs.drop (cX xs.length 0 lo)).take (cX xs.length xs.length hi-cX xs.length 0 lo)
noncomputable def oh:D->Option Int|.int i=>some i|_=>none
noncomputable def ye:D->Option Bool|.bl b=>some b|_=>none
noncomputable def vB(x y:D):Option R:=(items x).bind fun ds=>(oh y).bind fun i=>(at' ds i).map .val
noncomputable def HD(x:D):Option R:=(oh x).map fun i=>.val (.int (-i))
noncomputable def FJ:P->Bool|.con .non=>true|_=>false
noncomputable def part(p:P)(d:D):Option (Option Int):=if FJ p then some none else(oh d).map some
noncomputable def JR:D->Option (Option Int)->Option (Option Int)->Option R|.lst xs,some lo,some hi=>some (.own (cut xs lo hi))|.tup xs,some lo,some hi=>some (.val (.tup (cut xs lo hi)))|_,_,_=>none
noncomputable def cG:Ty->D->Bool|.int,.int _=>true|.int,.bl _=>true|.bool,.bl _=>true|.str,.str _=>true|.tuple,.tup _=>true|.list,.lst _=>true|.none,.non=>true|_,_=>false
noncomputable def nW:D->Bool|.tup (x::xs)=>(x::xs).all dC|_=>false
noncomputable def sortable(ds:List D):Bool:=decide (ds.length<=16777216)&&(ds.all dC||ds.all nW)
noncomputable def jG(ds:List D):List D:=ds.mergeSort fun a b=>!bu (bQ b) (bQ a)
noncomputable def zq:D->Option (List D)|.lst ds=>some ds|_=>none
noncomputable def blt:Blt->List D->Option R|.len,[x]=>(items x).map fun ds=>.val (.int ds.length)|.list,[x]=>(items x).map fun ds=>.own ds|.tuple,[x]=>(items x).map fun ds=>.val (.tup ds)|.max2,[.int i,.int j]=>some (.val (.int (if i<j then j else i)))|.sum,[x]=>((items x).bind fun ds=>ds.mapM oh).map fun ns=>.val (.int ns.sum)|.all,[x]=>((zq x).bind fun ds=>ds.mapM ye).map fun bs=>.val (.bl (bs.all id))|.int,[.int i]=>some (.val (.int i))|.int,[.bl b]=>some (.val (.int (if b then 1 else 0)))|.keys,[.cg (.k kvs)]=>some (.val (.tup (kvs.map fun p=>.int p.1)))|.qI,[.cg (.t kvs)]=>if sortable (kvs.map fun p=>.tup (p.1.map D.int))then some (.own (jG (kvs.map fun p=>.tup (p.1.map D.int))))else none|.Mw,[.cg (.t kvs)]=>if sortable (kvs.map fun p=>.tup (p.1.map D.int))then some (.own (jG (kvs.map fun p=>.tup (p.1.map D.int))))else none|.xO,[.cg (.k kvs)]=>if sortable (kvs.map fun p=>.int p.1)then some (.own (jG (kvs.map fun p=>.int p.1)))else none|_,_=>none
noncomputable def pk(ρ:List Sl)(i:Nat):Option D:=match ρ[i]?with|some (.val _ d)=>some d|some (.own _ ds)=>some (.lst ds)|some (.lent ds)=>some (.lst ds)|_=>none
noncomputable def Ji(ρ:List Sl)(i:Nat):Option (List D):=match pk ρ i with|some (.lst ds)=>some ds|_=>none
noncomputable abbrev Ev:=List Sl->Res R
noncomputable def isVar:P->Option Nat|.var i=>some i|_=>none
noncomputable def dz(i:Option Nat)(e:Ev)(ρ:List Sl):Res D:=match i with|some i=>lift (pk ρ i) ρ|none=>(e ρ).bind fun r ρ=>.ok r.d ρ
noncomputable def gR(i:Option Nat)(e:Ev)(j:Option Nat)(f:Ev)(ρ:List Sl):Res (D×D):=match i with|some i=>(lift (pk ρ i) ρ).bind fun _ ρ=>(dz j f ρ).bind fun y ρ=>(lift (pk ρ i) ρ).bind fun x ρ=>.ok (x,y) ρ|none=>(dz none e ρ).bind fun x ρ=>(dz j f ρ).bind fun y ρ=>.ok (x,y) ρ
noncomputable def jM(e:Ev)(ρ:List Sl):Res Bool:=(e ρ).bind fun r ρ=>lift (ye r.d) ρ
inductive Arg where|dat(d:D)|tmp(ds:List D)|fJ(i:Nat)
noncomputable def xf:R->Arg|.val d=>.dat d|.own ds=>.tmp ds
noncomputable def bY(ρ:List Sl):List Arg->List Nat->Option (List Sl)|[],_=>some []|.dat d::r,used=>(bY ρ r used).map fun s=>.val false d::s|.tmp ds::r,used=>(bY ρ r used).map fun s=>.own false ds::s|.fJ i::r,used=>match ρ[i]?with|some (.val _ d)=>(bY ρ r used).map fun s=>.val false d::s|some (.own _ ds)=>if used.contains i then none else(bY ρ r (i::used)).map fun s=>.own true ds::s|some (.lent ds)=>if used.contains i then none else(bY ρ r (i::used)).map fun s=>.lent ds::s|_=>none
noncomputable def bh(i:Nat):List Arg->List Sl->Option Sl|.fJ k::as,s::ss=>if k=i then some s else bh i as ss|.dat _::as,_::ss=>bh i as ss|.tmp _::as,_::ss=>bh i as ss|_,_=>none
noncomputable def fj:Sl->Option Sl->Sl|.own b _,some (.own _ ds)=>.own b ds|.own b _,some (.val _ d)=>.val b d|s,_=>s
noncomputable def cQ(as:List Arg)(ss:List Sl):Nat->List Sl->List Sl|_,[]=>[]|i,s::ρ=>fj s (bh i as ss)::cQ as ss (i+1) ρ
noncomputable abbrev Call:=Nat->List Sl->Res R
noncomputable def pF(c:Call)(f:Nat)(as:List Arg)(ρ:List Sl):Res R:=match bY ρ as []with|none=>.stuck|some args=>match c f args with|.ok r args'=>.ok r (cQ as args' 0 ρ)|.exc _ _=>.stuck|.stuck=>.stuck
noncomputable def put(ρ:List Sl)(i:Nat)(s:Sl):Option (List Sl):=match ρ[i]?with|some .aZ=>some (ρ.set i s)|some (.val false _)=>some (ρ.set i s)|some (.own false _)=>some (ρ.set i s)|_=>none
noncomputable def putAll(ρ:List Sl):List Nat->List D->Option (List Sl)|[],[]=>some ρ|i::is,d::ds=>(put ρ i (.val false d)).bind fun ρ=>putAll ρ is ds|_,_=>none
noncomputable def cV(ρ:List Sl)(is:List Nat)(one:Bool)(d:D):Option (List Sl):=match one,is,d with|true,[i],d=>put ρ i (.val false d)|false,is,.tup ds=>putAll ρ is ds|_,_,_=>none
noncomputable def srcOf(i:Option Nat)(e:Ev)(ρ:List Sl):Res (List D):=match i with
 |some i=>match ρ[i]?with|some (.val _ d)=>lift (items d) ρ|some (.own _ ds)=>.ok ds (ρ.set i (.lent ds))|some (.lent ds)=>.ok ds ρ|_=>.stuck
 |none=>(e ρ).bind fun r ρ=>lift (items r.d) ρ
noncomputable def bH(ρ₀:List Sl)(i:Option Nat)(ρ:List Sl):List Sl:=match i with
 |some i=>match ρ₀[i]?with|some (.own b ds)=>ρ.set i (.own b ds)|_=>ρ
 |none=>ρ
noncomputable def turns(is:List Nat)(one:Bool)(test:List Sl->Res Bool)(elt:Ev):List D->List D->List Sl->Res (List D)|[],acc,ρ=>.ok acc ρ|d::r,acc,ρ=>match cV ρ is one d with|none=>.stuck|some ρ=>(test ρ).bind fun b ρ=>if b then(elt ρ).bind fun x ρ=>turns is one test elt r (acc++[x.d]) ρ else turns is one test elt r acc ρ
mutual
noncomputable def ev(c:Call):P->List Sl->Res R
 |.var i,ρ=>match ρ[i]?with|some (.val _ d)=>.ok (.val d) ρ|some (.own b ds)=>.ok (.val (.lst ds)) (ρ.set i (.val b (.lst ds)))|some (.cZ (.k kvs))=>.ok (.val (.cg (.k kvs))) (ρ.set i (.val false (.cg (.k kvs))))|_=>.stuck
 |.con d,ρ=>.ok (.val d) ρ|.bin o a b,ρ=>(gR (isVar a) (ev c a) (isVar b) (ev c b) ρ).bind fun xy ρ=>lift (uD o xy.1 xy.2) ρ|.neg a,ρ=>(dz (isVar a) (ev c a) ρ).bind fun x ρ=>lift (HD x) ρ|.not a,ρ=>(jM (ev c a) ρ).bind fun b ρ=>.ok (.val (.bl (!b))) ρ|.and a b,ρ=>(jM (ev c a) ρ).bind fun x ρ=>if x then(jM (ev c b) ρ).bind fun y ρ=>.ok (.val (.bl y)) ρ else .ok (.val (.bl false)) ρ|.or a b,ρ=>(jM (ev c a) ρ).bind fun x ρ=>if x then .ok (.val (.bl true)) ρ else(jM (ev c b) ρ).bind fun y ρ=>.ok (.val (.bl y)) ρ|.cmp o a b,ρ=>(gR (isVar a) (ev c a) (isVar b) (ev c b) ρ).bind fun xy ρ=>lift (lW o xy.1 xy.2) ρ|.chain o o' a b d,ρ=>(gR (isVar a) (ev c a) (isVar b) (ev c b) ρ).bind fun xy ρ=>(lift (if flat xy.2=true then cm o xy.1 xy.2 else none) ρ).bind fun k ρ=>if k then(dz (isVar d) (ev c d) ρ).bind fun z ρ=>lift (lW o' xy.2 z) ρ else .ok (.val (.bl false)) ρ|.YC t a b,ρ=>(jM (ev c t) ρ).bind fun k ρ=>if k then(ev c a ρ).bind fun r ρ=>.ok (.val r.d) ρ else(ev c b ρ).bind fun r ρ=>.ok (.val r.d) ρ|.tup as,ρ=>(evs c as ρ).bind fun ds ρ=>.ok (.val (.tup ds)) ρ|.lst as,ρ=>(evs c as ρ).bind fun ds ρ=>.ok (.own ds) ρ|.idx a i,ρ=>(gR (isVar a) (ev c a) (isVar i) (ev c i) ρ).bind fun xy ρ=>lift (vB xy.1 xy.2) ρ|.slice a l h,ρ=>match isVar a with|some i=>(lift (pk ρ i) ρ).bind fun _ ρ=>(dz (isVar l) (ev c l) ρ).bind fun y ρ=>(dz (isVar h) (ev c h) ρ).bind fun z ρ=>(lift (pk ρ i) ρ).bind fun x ρ=>lift (JR x (part l y) (part h z)) ρ|none=>(dz none (ev c a) ρ).bind fun x ρ=>(dz (isVar l) (ev c l) ρ).bind fun y ρ=>(dz (isVar h) (ev c h) ρ).bind fun z ρ=>lift (JR x (part l y) (part h z)) ρ
 |.call f as,ρ=>(xY c as ρ).bind fun xs ρ=>pF c f xs ρ|.blt b [a],ρ=>(dz (isVar a) (ev c a) ρ).bind fun x ρ=>lift (blt b [x]) ρ|.blt b as,ρ=>(evs c as ρ).bind fun ds ρ=>lift (blt b ds) ρ|.inst ts a,ρ=>(dz (isVar a) (ev c a) ρ).bind fun x ρ=>.ok (.val (.bl (ts.any fun t=>cG t x))) ρ|.comp src n is one test elt,ρ=>(srcOf (isVar src) (ev c src) ρ).bind fun ds ρ₁=>if ds.length<=lim then(turns is one (qO c test) (ev c elt) ds [] (ρ₁++List.replicate n .aZ)).bind fun xs ρ₂=>.ok (.own xs) (bH ρ (isVar src) (ρ₂.take ρ₁.length))else .stuck|.qW a b,ρ=>(gR (isVar a) (ev c a) (isVar b) (ev c b) ρ).bind fun xy ρ=>lift ((oh xy.1).bind fun i=>(oh xy.2).bind fun j=>if-1000000<=i/\i<=1000000000/\j<=1000000000/\-1000000000<=j then some (.val (.lst ((List.range (j-i).toNat).map fun(k:Nat)=>D.int (i+(k:Int)))))else none) ρ|.zip a b,ρ=>(ev c a ρ).bind fun x ρ=>(ev c b ρ).bind fun y ρ=>lift ((items x.d).bind fun ds=>(items y.d).map fun es=>.val (.lst ((ds.zip es).map fun p=>D.tup [p.1,p.2]))) ρ|.Tg x k d,ρ=>match ρ[x]?with
   |some (.cZ _)=>(dz (isVar k) (ev c k) ρ).bind fun kd ρ=>(dz (isVar d) (ev c d) ρ).bind fun dd ρ=>match ρ[x]?with|some (.cZ m)=>lift ((m.get kd).bind fun o=>(oh dd).map fun v=>.val (.int (o.getD v))) ρ|_=>.stuck
   |_=>.stuck
 |.vw x,ρ=>match ρ[x]?with|some (.cZ m)=>.ok (.val (.cg m)) (ρ.set x (.val false (.cg m)))|_=>.stuck
 |.Th x ks,ρ=>(lift (pk ρ x) ρ).bind fun _ ρ=>(evs c ks ρ).bind fun m8 ρ=>(lift (pk ρ x) ρ).bind fun dd ρ=>lift (qD dd m8) ρ|.zB x ks d,ρ=>match ρ[x]?with
   |some (.cZ _)=>(evs c ks ρ).bind fun m8 ρ=>(dz (isVar d) (ev c d) ρ).bind fun dd ρ=>match ρ[x]?with|some (.cZ m)=>lift ((m.uJ m8).bind fun o=>(oh dd).map fun v=>.val (.int (o.getD v))) ρ|_=>.stuck
   |_=>.stuck
noncomputable def evs(c:Call):List P->List Sl->Res (List D)|[],ρ=>.ok [] ρ|a::r,ρ=>(ev c a ρ).bind fun x ρ=>(evs c r ρ).bind fun xs ρ=>.ok (x.d::xs) ρ
noncomputable def xY(c:Call):List P->List Sl->Res (List Arg)|[],ρ=>.ok [] ρ|a::r,ρ=>match isVar a with|some i=>(lift (pk ρ i) ρ).bind fun _ ρ=>(xY c r ρ).bind fun xs ρ=>.ok (.fJ i::xs) ρ|none=>(ev c a ρ).bind fun x ρ=>(xY c r ρ).bind fun xs ρ=>.ok (xf x::xs) ρ
noncomputable def qO(c:Call):Option P->List Sl->Res Bool|none,ρ=>.ok true ρ|some t,ρ=>jM (ev c t) ρ
end
theorem E1{c i ρ}:ev c (.var i) ρ=match ρ[i]?with|some (.val _ d)=>.ok (.val d) ρ|some (.own b ds)=>.ok (.val (.lst ds)) (ρ.set i (.val b (.lst ds)))|some (.cZ (.k kvs))=>.ok (.val (.cg (.k kvs))) (ρ.set i (.val false (.cg (.k kvs))))|_=>.stuck:=(rfl)
theorem E2{c d ρ}:ev c (.con d) ρ=.ok (.val d) ρ:=(rfl)
theorem E3{c o a b ρ}:ev c (.bin o a b) ρ=(gR (isVar a) (ev c a) (isVar b) (ev c b) ρ).bind fun xy ρ=>lift (uD o xy.1 xy.2) ρ:=(rfl)
theorem E4{c a ρ}:ev c (.neg a) ρ=(dz (isVar a) (ev c a) ρ).bind fun x ρ=>lift (HD x) ρ:=(rfl)
theorem E5{c a ρ}:ev c (.not a) ρ=(jM (ev c a) ρ).bind fun b ρ=>.ok (.val (.bl (!b))) ρ:=(rfl)
theorem E6{c a b ρ}:ev c (.and a b) ρ=(jM (ev c a) ρ).bind fun x ρ=>if x then(jM (ev c b) ρ).bind fun y ρ=>.ok (.val (.bl y)) ρ else .ok (.val (.bl false)) ρ:=(rfl)
theorem E7{c a b ρ}:ev c (.or a b) ρ=(jM (ev c a) ρ).bind fun x ρ=>if x then .ok (.val (.bl true)) ρ else(jM (ev c b) ρ).bind fun y ρ=>.ok (.val (.bl y)) ρ:=(rfl)
theorem E8{c o a b ρ}:ev c (.cmp o a b) ρ=(gR (isVar a) (ev c a) (isVar b) (ev c b) ρ).bind fun xy ρ=>lift (lW o xy.1 xy.2) ρ:=(rfl)
theorem E9{c o o' a b d ρ}:ev c (.chain o o' a b d) ρ=(gR (isVar a) (ev c a) (isVar b) (ev c b) ρ).bind fun xy ρ=>(lift (if flat xy.2=true then cm o xy.1 xy.2 else none) ρ).bind fun k ρ=>if k then(dz (isVar d) (ev c d) ρ).bind fun z ρ=>lift (lW o' xy.2 z) ρ else .ok (.val (.bl false)) ρ:=(rfl)
theorem E10{c t a b ρ}:ev c (.YC t a b) ρ=(jM (ev c t) ρ).bind fun k ρ=>if k then(ev c a ρ).bind fun r ρ=>.ok (.val r.d) ρ else(ev c b ρ).bind fun r ρ=>.ok (.val r.d) ρ:=(rfl)
theorem E11{c as ρ}:ev c (.tup as) ρ=(evs c as ρ).bind fun ds ρ=>.ok (.val (.tup ds)) ρ:=(rfl)
theorem E12{c as ρ}:ev c (.lst as) ρ=(evs c as ρ).bind fun ds ρ=>.ok (.own ds) ρ:=(rfl)
theorem E13{c a i ρ}:ev c (.idx a i) ρ=(gR (isVar a) (ev c a) (isVar i) (ev c i) ρ).bind fun xy ρ=>lift (vB xy.1 xy.2) ρ:=(rfl)
theorem E14{c a l h ρ}:ev c (.slice a l h) ρ=match isVar a with|some i=>(lift (pk ρ i) ρ).bind fun _ ρ=>(dz (isVar l) (ev c l) ρ).bind fun y ρ=>(dz (isVar h) (ev c h) ρ).bind fun z ρ=>(lift (pk ρ i) ρ).bind fun x ρ=>lift (JR x (part l y) (part h z)) ρ|none=>(dz none (ev c a) ρ).bind fun x ρ=>(dz (isVar l) (ev c l) ρ).bind fun y ρ=>(dz (isVar h) (ev c h) ρ).bind fun z ρ=>lift (JR x (part l y) (part h z)) ρ:=(rfl)
theorem E15{c f as ρ}:ev c (.call f as) ρ=(xY c as ρ).bind fun xs ρ=>pF c f xs ρ:=(rfl)
theorem E16{c b a ρ}:ev c (.blt b [a]) ρ=(dz (isVar a) (ev c a) ρ).bind fun x ρ=>lift (blt b [x]) ρ:=(rfl)
theorem E17{c b x y r ρ}:ev c (.blt b (x::y::r)) ρ=(evs c (x::y::r) ρ).bind fun ds ρ=>lift (blt b ds) ρ:=(rfl)
theorem Wj{c b ρ}:ev c (.blt b []) ρ=(evs c [] ρ).bind fun ds ρ=>lift (blt b ds) ρ:=(rfl)
theorem E18{c ts a ρ}:ev c (.inst ts a) ρ=(dz (isVar a) (ev c a) ρ).bind fun x ρ=>.ok (.val (.bl (ts.any fun t=>cG t x))) ρ:=(rfl)
theorem E19{c src n is one test elt ρ}:ev c (.comp src n is one test elt) ρ=(srcOf (isVar src) (ev c src) ρ).bind fun ds ρ₁=>if ds.length<=lim then(turns is one (qO c test) (ev c elt) ds [] (ρ₁++List.replicate n .aZ)).bind fun xs ρ₂=>.ok (.own xs) (bH ρ (isVar src) (ρ₂.take ρ₁.length))else .stuck:=(rfl)
theorem E20{c a b ρ}:ev c (.qW a b) ρ=(gR (isVar a) (ev c a) (isVar b) (ev c b) ρ).bind fun xy ρ=>lift ((oh xy.1).bind fun i=>(oh xy.2).bind fun j=>if-1000000<=i/\i<=1000000000/\j<=1000000000/\-1000000000<=j then some (.val (.lst ((List.range (j-i).toNat).map fun(k:Nat)=>D.int (i+(k:Int)))))else none) ρ:=(rfl)
theorem E21{c a b ρ}:ev c (.zip a b) ρ=(ev c a ρ).bind fun x ρ=>(ev c b ρ).bind fun y ρ=>lift ((items x.d).bind fun ds=>(items y.d).map fun es=>.val (.lst ((ds.zip es).map fun p=>D.tup [p.1,p.2]))) ρ:=(rfl)
theorem E22{c x k d ρ}:ev c (.Tg x k d) ρ=match ρ[x]?with
 |some (.cZ _)=>(dz (isVar k) (ev c k) ρ).bind fun kd ρ=>(dz (isVar d) (ev c d) ρ).bind fun dd ρ=>match ρ[x]?with|some (.cZ m)=>lift ((m.get kd).bind fun o=>(oh dd).map fun v=>.val (.int (o.getD v))) ρ|_=>.stuck
 |_=>.stuck:=(rfl)
theorem E23{c x ρ}:ev c (.vw x) ρ=match ρ[x]?with|some (.cZ m)=>.ok (.val (.cg m)) (ρ.set x (.val false (.cg m)))|_=>.stuck:=(rfl)
theorem E24{c x ks ρ}:ev c (.Th x ks) ρ=(lift (pk ρ x) ρ).bind fun _ ρ=>(evs c ks ρ).bind fun m8 ρ=>(lift (pk ρ x) ρ).bind fun dd ρ=>lift (qD dd m8) ρ:=(rfl)
theorem E25{c x ks d ρ}:ev c (.zB x ks d) ρ=match ρ[x]?with
 |some (.cZ _)=>(evs c ks ρ).bind fun m8 ρ=>(dz (isVar d) (ev c d) ρ).bind fun dd ρ=>match ρ[x]?with|some (.cZ m)=>lift ((m.uJ m8).bind fun o=>(oh dd).map fun v=>.val (.int (o.getD v))) ρ|_=>.stuck
 |_=>.stuck:=(rfl)
inductive S where|pass|brk|cont|bad|expr(e:P)|asg(i:Nat)(e:P)|par(i j:Nat)(a b:P)|zE(x:Nat)(i e:P)|app(x:Nat)(e:P)|ret(e:P)|YD|ifs(c:P)(a b:List S)|fG(src:P)(i:List Nat)(one:Bool)(body:List S)|aug(x:Nat)(sub:Bool)(e:P)|Mx(x:Nat)(e:P)|vf(x:Nat)(t:Bool)|dput(x:Nat)(k e:P)|tu(x:Nat)(ks:List P)(e:P)|YF(x:Nat)deriving Inhabited
inductive Fl where|next|brk|cont|ret(r:R)deriving Inhabited
noncomputable def zm:R->Sl|.val d=>.val false d|.own ds=>.own false ds
noncomputable def j8(is:List Nat)(one:Bool)(body:List Sl->Res Fl):List D->List Sl->Res Fl|[],ρ=>.ok .next ρ|d::r,ρ=>match cV ρ is one d with|none=>.stuck|some ρ=>(body ρ).bind fun fl ρ=>match fl with|.next=>j8 is one body r ρ|.cont=>j8 is one body r ρ|.brk=>.ok .next ρ|.ret r=>.ok (.ret r) ρ
noncomputable def RN(is:List Nat)(one:Bool)(body:List Sl->Res Fl)(bx:List Sl->Option (Nat×List Sl)):List D->List Sl->Option (Nat×List Sl)|[],_=>none|d::r,ρ=>match cV ρ is one d with|none=>none|some ρ=>match bx ρ with|some x=>some x|none=>match body ρ with|.ok .next ρ1=>RN is one body bx r ρ1|.ok .cont ρ1=>RN is one body bx r ρ1|_=>none
noncomputable def Pq:P->P|.idx a _=>a|e=>e
noncomputable def unl:Sl->Bool|.aZ=>true|.val b _=>!b|.own b _=>!b|.lent _=>false|.cZ _=>true
noncomputable def Nq(c:Call)(e:P)(ρ:List Sl):Option (Nat×List Sl):=match Pq e with
 |.call f as=>match xY c as ρ with
   |.ok xs ρ1=>match bY ρ1 xs []with
     |some args=>match c f args with|.exc k args'=>some (k,cQ xs args' 0 ρ1)|_=>none
     |none=>none
   |_=>none
 |_=>none
mutual
noncomputable def ex(c:Call)(n:Nat):S->List Sl->Res Fl
 |.pass,ρ=>.ok .next ρ|.brk,ρ=>.ok .brk ρ|.cont,ρ=>.ok .cont ρ|.bad,_=>.stuck|.expr e,ρ=>(ev c e ρ).bind fun _ ρ=>.ok .next ρ|.asg i e,ρ=>(ev c e ρ).bind fun r ρ=>(lift (put ρ i (zm r)) ρ).bind fun ρ' _=>.ok .next ρ'|.par i j a b,ρ=>(ev c a ρ).bind fun x ρ=>(ev c b ρ).bind fun y ρ=>(lift ((put ρ i (.val false x.d)).bind fun ρ=>put ρ j (.val false y.d)) ρ).bind fun ρ' _=>.ok .next ρ'|.zE x i e,ρ=>(ev c e ρ).bind fun r ρ=>(lift (pk ρ x) ρ).bind fun _ ρ=>(dz (isVar i) (ev c i) ρ).bind fun k ρ=>match ρ[x]?,k with
   |some (.own b ds),.int k=>match qz ds.length k with|some j=>.ok .next (ρ.set x (.own b (ds.set j r.d)))|none=>.stuck
   |_,_=>.stuck
 |.app x e,ρ=>(lift (Ji ρ x) ρ).bind fun _ ρ=>(ev c e ρ).bind fun r ρ=>match ρ[x]?with|some (.own b ds)=>if ds.length<lim then .ok .next (ρ.set x (.own b (ds++[r.d])))else .stuck|_=>.stuck
 |.ret e,ρ=>match isVar e with
   |some i=>match ρ[i]?with|some (.own false ds)=>.ok (.ret (.own ds)) (ρ.set i .aZ)|_=>(ev c e ρ).bind fun r ρ=>.ok (.ret r) ρ
   |none=>(ev c e ρ).bind fun r ρ=>.ok (.ret r) ρ
 |.YD,ρ=>.ok (.ret (.val .non)) ρ|.ifs t a b,ρ=>(jM (ev c t) ρ).bind fun k ρ=>if k then jh c n a ρ else jh c n b ρ|.fG src is one body,ρ=>(srcOf (isVar src) (ev c src) ρ).bind fun ds ρ₁=>(j8 is one (jh c n body) ds ρ₁).bind fun fl ρ₂=>.ok fl (bH ρ (isVar src) ρ₂)|.aug x sub e,ρ=>(lift (pk ρ x) ρ).bind fun a ρ=>(dz (isVar e) (ev c e) ρ).bind fun b ρ=>match a,b with|.int i,.int j=>(lift (put ρ x (.val false (.int (if sub then i-j else i+j)))) ρ).bind fun ρ' _=>.ok .next ρ'|_,_=>.stuck
 |.Mx x e,ρ=>(lift (Ji ρ x) ρ).bind fun _ ρ=>(ev c e ρ).bind fun r ρ=>match ρ[x]?,r with|some (.own b ds),.own es=>if ds.length+es.length<=lim then .ok .next (ρ.set x (.own b (ds++es)))else .stuck|_,_=>.stuck
 |.vf x t,ρ=>match ρ[x]?with|some .aZ=>.ok .next (ρ.set x (.cZ (if t then .t []else .k [])))|_=>.stuck
 |.dput x k e,ρ=>(ev c e ρ).bind fun r ρ=>match ρ[x]?with
   |some (.cZ _)=>(dz (isVar k) (ev c k) ρ).bind fun kd ρ=>match ρ[x]?,r with
     |some (.cZ m),.val (.int v)=>match m.put kd v with|some m'=>.ok .next (ρ.set x (.cZ m'))|none=>.stuck
     |_,_=>.stuck
   |_=>.stuck
 |.tu x ks e,ρ=>(ev c e ρ).bind fun r ρ=>match ρ[x]?with
   |some (.cZ _)=>(evs c ks ρ).bind fun m8 ρ=>match ρ[x]?,r with
     |some (.cZ m),.val (.int v)=>match m.KQ m8 v with|some m'=>.ok .next (ρ.set x (.cZ m'))|none=>.stuck
     |_,_=>.stuck
   |_=>.stuck
 |.YF x,ρ=>(lift (Ji ρ x) ρ).bind fun _ ρ=>match ρ[x]?with|some (.own b ds)=>.ok .next (ρ.set x (.own b ds.reverse))|_=>.stuck
noncomputable def jh(c:Call)(n:Nat):List S->List Sl->Res Fl|[],ρ=>.ok .next ρ|s::r,ρ=>(ex c n s ρ).bind fun fl ρ=>match fl with|.next=>jh c n r ρ|fl=>.ok fl ρ
noncomputable def exX(c:Call)(n:Nat):S->List Sl->Option (Nat×List Sl)
 |.ifs t a b,ρ=>match jM (ev c t) ρ with|.ok x ρ1=>if x then Gv c n a ρ1 else Gv c n b ρ1|_=>none
 |.fG src is one body,ρ=>match srcOf (isVar src) (ev c src) ρ with|.ok ds ρ1=>(RN is one (jh c n body) (Gv c n body) ds ρ1).map fun x=>(x.1,bH ρ (isVar src) x.2)|_=>none
 |.asg _ e,ρ=>Nq c e ρ|.expr e,ρ=>Nq c e ρ|_,_=>none
noncomputable def Gv(c:Call)(n:Nat):List S->List Sl->Option (Nat×List Sl)|[],_=>none|s::r,ρ=>match exX c n s ρ with|some x=>some x|none=>match ex c n s ρ with|.ok .next ρ1=>Gv c n r ρ1|_=>none
end
theorem X1{c n ρ}:ex c n (.pass) ρ=.ok .next ρ:=(rfl)
theorem X2{c n ρ}:ex c n (.brk) ρ=.ok .brk ρ:=(rfl)
theorem X3{c n ρ}:ex c n (.cont) ρ=.ok .cont ρ:=(rfl)
theorem X4{c n ρ}:ex c n (.bad) ρ=.stuck:=(rfl)
theorem X5{c n e ρ}:ex c n (.expr e) ρ=(ev c e ρ).bind fun _ ρ=>.ok .next ρ:=(rfl)
theorem X6{c n i e ρ}:ex c n (.asg i e) ρ=(ev c e ρ).bind fun r ρ=>(lift (put ρ i (zm r)) ρ).bind fun ρ' _=>.ok .next ρ':=(rfl)
theorem X7{c n i j a b ρ}:ex c n (.par i j a b) ρ=(ev c a ρ).bind fun x ρ=>(ev c b ρ).bind fun y ρ=>(lift ((put ρ i (.val false x.d)).bind fun ρ=>put ρ j (.val false y.d)) ρ).bind fun ρ' _=>.ok .next ρ':=(rfl)
theorem X8{c n x i e ρ}:ex c n (.zE x i e) ρ=(ev c e ρ).bind fun r ρ=>(lift (pk ρ x) ρ).bind fun _ ρ=>(dz (isVar i) (ev c i) ρ).bind fun k ρ=>match ρ[x]?,k with
 |some (.own b ds),.int k=>match qz ds.length k with|some j=>.ok .next (ρ.set x (.own b (ds.set j r.d)))|none=>.stuck
 |_,_=>.stuck:=(rfl)
theorem X9{c n x e ρ}:ex c n (.app x e) ρ=(lift (Ji ρ x) ρ).bind fun _ ρ=>(ev c e ρ).bind fun r ρ=>match ρ[x]?with|some (.own b ds)=>if ds.length<lim then .ok .next (ρ.set x (.own b (ds++[r.d])))else .stuck|_=>.stuck:=(rfl)
theorem ZG{c n e ρ}:ex c n (.ret e) ρ=match isVar e with
 |some i=>match ρ[i]?with|some (.own false ds)=>.ok (.ret (.own ds)) (ρ.set i .aZ)|_=>(ev c e ρ).bind fun r ρ=>.ok (.ret r) ρ
 |none=>(ev c e ρ).bind fun r ρ=>.ok (.ret r) ρ:=(rfl)
theorem X11{c n ρ}:ex c n (.YD) ρ=.ok (.ret (.val .non)) ρ:=(rfl)
theorem Zj{c n t a b ρ}:ex c n (.ifs t a b) ρ=(jM (ev c t) ρ).bind fun k ρ=>if k then jh c n a ρ else jh c n b ρ:=(rfl)
theorem X13{c n src is one body ρ}:ex c n (.fG src is one body) ρ=(srcOf (isVar src) (ev c src) ρ).bind fun ds ρ₁=>(j8 is one (jh c n body) ds ρ₁).bind fun fl ρ₂=>.ok fl (bH ρ (isVar src) ρ₂):=(rfl)
theorem X14{c n x sub e ρ}:ex c n (.aug x sub e) ρ=(lift (pk ρ x) ρ).bind fun a ρ=>(dz (isVar e) (ev c e) ρ).bind fun b ρ=>match a,b with|.int i,.int j=>(lift (put ρ x (.val false (.int (if sub then i-j else i+j)))) ρ).bind fun ρ' _=>.ok .next ρ'|_,_=>.stuck:=(rfl)
theorem X15{c n x e ρ}:ex c n (.Mx x e) ρ=(lift (Ji ρ x) ρ).bind fun _ ρ=>(ev c e ρ).bind fun r ρ=>match ρ[x]?,r with|some (.own b ds),.own es=>if ds.length+es.length<=lim then .ok .next (ρ.set x (.own b (ds++es)))else .stuck|_,_=>.stuck:=(rfl)
theorem X16{c n x t ρ}:ex c n (.vf x t) ρ=match ρ[x]?with|some .aZ=>.ok .next (ρ.set x (.cZ (if t then .t []else .k [])))|_=>.stuck:=(rfl)
theorem X17{c n x k e ρ}:ex c n (.dput x k e) ρ=(ev c e ρ).bind fun r ρ=>match ρ[x]?with
 |some (.cZ _)=>(dz (isVar k) (ev c k) ρ).bind fun kd ρ=>match ρ[x]?,r with
   |some (.cZ m),.val (.int v)=>match m.put kd v with|some m'=>.ok .next (ρ.set x (.cZ m'))|none=>.stuck
   |_,_=>.stuck
 |_=>.stuck:=(rfl)
theorem X18{c n x ks e ρ}:ex c n (.tu x ks e) ρ=(ev c e ρ).bind fun r ρ=>match ρ[x]?with
 |some (.cZ _)=>(evs c ks ρ).bind fun m8 ρ=>match ρ[x]?,r with
   |some (.cZ m),.val (.int v)=>match m.KQ m8 v with|some m'=>.ok .next (ρ.set x (.cZ m'))|none=>.stuck
   |_,_=>.stuck
 |_=>.stuck:=(rfl)
theorem X19{c n x ρ}:ex c n (.YF x) ρ=(lift (Ji ρ x) ρ).bind fun _ ρ=>match ρ[x]?with|some (.own b ds)=>.ok .next (ρ.set x (.own b ds.reverse))|_=>.stuck:=(rfl)
structure Fd where
 np:Nat
 nn:Nat
 body:List S deriving Inhabited
noncomputable abbrev Tab:=Nat->Option Fd
noncomputable def enter(c:Call)(n:Nat)(d:Fd)(args:List Sl):Res R:=if args.length=d.np/\d.np<=d.nn then match jh c n d.body (args++List.replicate (d.nn-d.np) .aZ)with|.ok .next ρ=>.ok (.val .non) (ρ.take d.np)|.ok (.ret r) ρ=>.ok r (ρ.take d.np)|_=>match Gv c n d.body (args++List.replicate (d.nn-d.np) .aZ)with|some (k,ρ)=>.exc k (ρ.take d.np)|none=>.stuck else .stuck
noncomputable def run(Γ:Tab)(w:Nat):Nat->Call|0,_,_=>.stuck|n+1,f,args=>match Γ f with|some d=>enter (run Γ w n) w d args|none=>.stuck
end HH
end
section
namespace HH
open PySem L2
noncomputable def Dc.ho:Dc->HO|.k kvs=>.dK (kvs.map fun p=>(Sum.inl p.1,V.int p.2))|.t kvs=>.dT (kvs.map fun p=>(p.1.map Sum.inl,V.int p.2))
section
variable(K:PySem.W.Frag)
mutual
noncomputable def Rep(F:Hp):V->D->Prop|v,.non=>v=.non|v,.bl b=>v=.bl b|v,.int i=>v=.int i|v,.str x=>v=.str x|v,.tup ds=>∃a xs,v=.ref a/\jC K F a xs/\aH F xs ds|v,.lst ds=>∃a xs,v=.ref a/\gA K F a xs/\aH F xs ds|v,.cg m=>∃a o,v=.ref a/\F a=some (.fW o m.ho)noncomputable def aH(F:Hp):List V->List D->Prop|vs,[]=>vs=[]|vs,d::ds=>∃v r,vs=v::r/\Rep F v d/\aH F r ds
end
end
section
variable{K:PySem.W.Frag}{F F' H H':Hp}
theorem aO.jL{a:Addr}{xs:List V}(e:aO H H')(h:jC K H a xs):jC K H' a xs:=by
 rcases h with(h|⟨o,h⟩)|h;.exact .inl (.inl (e _ _ h))
 .exact .inl (.inr ⟨o,e _ _ h⟩)
 .exact .inr h
mutual
theorem Rep.mono(e:aO F F'):∀{d:D}{v:V},Rep K F v d->Rep K F' v d|.non,_,h=>by rw[Rep]at h ⊢;exact h|.bl _,_,h=>by rw[Rep]at h ⊢;exact h|.int _,_,h=>by rw[Rep]at h ⊢;exact h|.str _,_,h=>by rw[Rep]at h ⊢;exact h|.tup ds,_,h=>by rw[Rep]at h ⊢;obtain⟨a,xs,rfl,hs,r⟩:=h;exact⟨a,xs,rfl,aO.jL e hs,aH.mono e r⟩|.lst ds,_,h=>by rw[Rep]at h ⊢;obtain⟨a,xs,rfl,hs,r⟩:=h;exact⟨a,xs,rfl,e.seq hs,aH.mono e r⟩|.cg m,_,h=>by rw[Rep]at h ⊢;obtain⟨a,o,rfl,hs⟩:=h;exact⟨a,o,rfl,e _ _ hs⟩theorem aH.mono(e:aO F F'):∀{ds:List D}{vs:List V},aH K F vs ds->aH K F' vs ds|[],_,h=>by rw[aH]at h ⊢;exact h|d::ds,_,h=>by rw[aH]at h ⊢;obtain⟨v,r,rfl,h1,h2⟩:=h;exact⟨v,r,rfl,Rep.mono e h1,aH.mono e h2⟩end
theorem aH.nil:aH K F [] []:=by rw[aH]
theorem aH.cons{v:V}{d:D}{vs:List V}{ds:List D}(h:Rep K F v d)(t:aH K F vs ds):aH K F (v::vs) (d::ds):=by rw[aH];exact⟨v,vs,rfl,h,t⟩
theorem aH.cB{vs:List V}{d:D}{ds:List D}(h:aH K F vs (d::ds)):∃v r,vs=v::r/\Rep K F v d/\aH K F r ds:=by rw[aH]at h;exact h
theorem aH.fL{vs:List V}(h:aH K F vs []):vs=[]:=by rw[aH]at h;exact h
theorem aH.length:∀{ds:List D}{vs:List V},aH K F vs ds->vs.length=ds.length|[],_,h=>by rw[h.fL];rfl|d::ds,_,h=>by obtain⟨v,r,rfl,_,t⟩:=h.cB;simp[aH.length t]
theorem aH.get:∀{ds:List D}{vs:List V}{i:Nat}{d:D},aH K F vs ds->ds[i]?=some d->∃v,vs[i]?=some v/\Rep K F v d|[],_,_,_,h,e=>by simp at e|d::ds,_,0,_,h,e=>by obtain⟨v,r,rfl,h1,t⟩:=h.cB;simp at e;subst e;exact⟨v,rfl,h1⟩|d::ds,_,i+1,_,h,e=>by obtain⟨v,r,rfl,_,t⟩:=h.cB;simp at e;obtain⟨w,e1,e2⟩:=t.get e;exact⟨w,by simpa using e1,e2⟩
theorem aH.append:∀{ds es:List D}{vs us:List V},aH K F vs ds->aH K F us es->aH K F (vs++us) (ds++es)|[],_,_,_,h,h'=>by rw[h.fL];exact h'|d::ds,_,_,_,h,h'=>by obtain⟨v,r,rfl,h1,t⟩:=h.cB;exact .cons h1 (t.append h')
theorem aH.set{v:V}{d:D}(hr:Rep K F v d):∀{ds:List D}{vs:List V}(i:Nat),aH K F vs ds->aH K F (vs.set i v) (ds.set i d)|[],_,_,h=>by rw[h.fL];exact .nil|_::_,_,0,h=>by obtain⟨w,r,rfl,h1,t⟩:=h.cB;exact .cons hr t|_::_,_,i+1,h=>by obtain⟨w,r,rfl,h1,t⟩:=h.cB;exact .cons h1 (aH.set hr i t)
theorem aH.take:∀{ds:List D}{vs:List V}(n:Nat),aH K F vs ds->aH K F (vs.take n) (ds.take n)|[],_,n,h=>by rw[h.fL];simpa using aH.nil|_::_,_,0,h=>.nil|_::_,_,n+1,h=>by obtain⟨w,r,rfl,h1,t⟩:=h.cB;exact .cons h1 (t.take n)
theorem aH.drop:∀{ds:List D}{vs:List V}(n:Nat),aH K F vs ds->aH K F (vs.drop n) (ds.drop n)|[],_,n,h=>by rw[h.fL];simpa using aH.nil|_::_,_,0,h=>h|_::_,_,n+1,h=>by obtain⟨w,r,rfl,h1,t⟩:=h.cB;exact t.drop n
theorem aH.rep{ds:List D}{vs:List V}(h:aH K F vs ds):∀n,aH K F (List.replicate n vs).flatten (List.replicate n ds).flatten|0=>by simpa using aH.nil|n+1=>by simpa[List.replicate_succ]using h.append (aH.rep h n)
inductive Oc where|l(ds:List D)|d(m:Dc)
noncomputable def lst?:Sl->Option Oc|.own _ ds=>some (.l ds)|.lent ds=>some (.l ds)|.cZ m=>some (.d m)|_=>none
noncomputable def rQ(K:PySem.W.Frag)(F:Hp)(o:HO):Oc->Prop|.l ds=>∃xs,o=.lst xs/\aH K F xs ds|.d m=>o=m.ho
theorem rQ.mono{o:HO}{x:Oc}(e:aO F F')(h:rQ K F o x):rQ K F' o x:=by cases x with|l ds=>obtain⟨xs,e1,h⟩:=h;exact⟨xs,e1,h.mono e⟩|d m=>exact h
noncomputable def bR(ρ:List Sl)(σ:St)(i:Nat)(a:Addr):Prop:=(∃s ds,ρ[i]?=some s/\lst? s=some ds)/\σ[i]?=some (some (V.ref a))
noncomputable def Own(ρ:List Sl)(σ:St)(a:Addr):Prop:=∃i,bR ρ σ i a
structure GS(K:PySem.W.Frag)(F:Hp)(ρ:List Sl)(σ:St)(H:Hp):Prop where
 sub:aO F H
 len:ρ.length=σ.length
 val:∀(i:Nat)(b:Bool)(d:D),ρ[i]?=some (Sl.val b d)->∃v:V,σ[i]?=some (some v)/\Rep K F v d
 own:∀(i:Nat)(s:Sl)(ds:Oc),ρ[i]?=some s->lst? s=some ds->∃(a:Addr)(xs:HO),σ[i]?=some (some (V.ref a))/\H a=some xs/\F a=none/\rQ K F xs ds
 dis:∀(i j:Nat)(a:Addr),bR ρ σ i a->bR ρ σ j a->i=j
theorem GS.pg{ρ:List Sl}{σ:St}(g:GS K F ρ σ H)(i:Nat)(s:Sl)(ds:List D)(e:ρ[i]?=some s)(e':lst? s=some (.l ds)):∃(a:Addr)(xs:List V),σ[i]?=some (some (V.ref a))/\H a=some (.lst xs)/\F a=none/\aH K F xs ds:=by obtain⟨a,o,h1,h2,h3,xs,rfl,h4⟩:=g.own i s (.l ds) e e';exact⟨a,xs,h1,h2,h3,h4⟩
noncomputable def Jd:Sl->Bool|.val b _=>b|.own b _=>b|.lent _=>true|.aZ=>false|.cZ _=>false
noncomputable def mJ:Sl->Sl->Prop|.val true d,s=>s=.val true d|.own true _,s=>(∃ds,s=.own true ds)\/∃d,s=.val true d|.lent ds,s=>s=.lent ds|_,_=>True
theorem mJ.refl(s:Sl):mJ s s:=by unfold mJ;split<;>first|rfl|exact .inl ⟨_,rfl⟩|trivial
theorem mJ.Jd{s s':Sl}(h:mJ s s')(l:Jd s=true):HH.Jd s'=true:=by cases s with
 |aZ=>cases l|cZ _=>cases l|val b d=>cases b with|true=>cases h;rfl|false=>cases l
 |own b d=>cases b with|true=>rcases h with⟨_,rfl⟩|⟨_,rfl⟩<;>rfl|false=>cases l
 |lent d=>cases h;rfl
theorem mJ.trans{s s' s'':Sl}(l:HH.Jd s=true)(h:mJ s s')(h':mJ s' s''):mJ s s'':=by cases s with
 |aZ=>cases l|cZ _=>cases l|val b d=>cases b with|true=>cases h;exact h'|false=>cases l
 |own b d=>cases b with
   | true => rcases h with⟨_,rfl⟩|⟨d,rfl⟩;.exact h'
             .exact .inr ⟨d,h'⟩|false=>cases l
 |lent d=>cases h;exact h'
noncomputable def nt:Option HO->Option HO|some (.tup _)=>none|o=>o
theorem lN{o:Option HO}(h:o=none):nt o=none:=by rw[h];rfl
theorem IV{H:Hp}{b:Addr}{xs:List V}(h:H b=some (.lst xs))(z:nt (H b)=none):False:=by rw[h]at z;cases z
theorem Gq{o:HO}{x:Oc}(h:rQ K F o x)(z:nt (some o)=none):False:=by cases x with|l ds=>obtain⟨xs,rfl,_⟩:=h;cases z|d m=>cases m<;>(cases(show o=_ from h);cases z)
structure cA(K:PySem.W.Frag)(F:Hp)(ρ:List Sl)(σ:St)(H:Hp)(F':Hp)(ρ':List Sl)(σ':St)(H':Hp):Prop where
 gs:GS K F' ρ' σ' H'
 dm:aO F F'
 Eh:∀b,F b=none->F' b≠none->Own ρ σ b\/nt (H b)=none
 keep:∀b o,H b=some o->¬ Own ρ σ b->H' b=some o
 DY:∀b,Own ρ' σ' b->Own ρ σ b\/H b=none
 len:ρ'.length=ρ.length
 lk:∀(i:Nat)(s:Sl),ρ[i]?=some s->Jd s=true->σ'[i]?=σ[i]?/\∃s',ρ'[i]?=some s'/\mJ s s'
theorem cA.refl{ρ:List Sl}{σ:St}(g:GS K F ρ σ H):cA K F ρ σ H F ρ σ H:=⟨g,aO.refl _,fun b h h'=>absurd h h',fun _ _ h _=>h,fun _ h=>.inl h,rfl,fun i s h _=>⟨rfl,s,h,.refl s⟩⟩
theorem cA.trans{F1 F2 H1 H2:Hp}{ρ ρ1 ρ2:List Sl}{σ σ1 σ2:St}(a:cA K F ρ σ H F1 ρ1 σ1 H1)(b:cA K F1 ρ1 σ1 H1 F2 ρ2 σ2 H2):cA K F ρ σ H F2 ρ2 σ2 H2:=by
 have back:∀c,Own ρ1 σ1 c\/H1 c=none->Own ρ σ c\/H c=none:=fun c h=>by
  rcases h with h|h;.exact a.DY c h
  . by_cases ho:Own ρ σ c;.exact .inl ho
    .right;cases e:H c with|none=>rfl|some o=>rw[a.keep c o e ho]at h;cases h
 refine⟨b.gs,a.dm.trans b.dm,fun c h h'=>?_,fun c o h n=>?_,fun c h=>back c (b.DY c h),b.len.trans a.len,fun i s h l=>?_⟩
 . by_cases e:F1 c=none
   . by_cases ho:Own ρ σ c;.exact .inl ho
     . rcases b.Eh c e h' with z|z;.exact(back c (.inl z)).imp id lN
       .right;cases q:H c with|none=>rfl|some o=>rw[a.keep c o q ho]at z;exact z
   .exact a.Eh c h e
 . refine b.keep c o (a.keep c o h n) fun h'=>?_;rcases a.DY c h' with h'|h';.exact n h'
   .rw[h]at h';cases h'
 .obtain⟨e1,s1,h1,k1⟩:=a.lk i s h l;obtain⟨e2,s2,h2,k2⟩:=b.lk i s1 h1 (k1.Jd l);exact⟨e2.trans e1,s2,h2,.trans l k1 k2⟩
noncomputable def di(K:PySem.W.Frag)(F H:Hp)(v:V)(d:D):Prop:=Rep K F v d\/∃a xs ds,v=.ref a/\H a=some (.lst xs)/\aH K F xs ds/\d=.lst ds
noncomputable def cO(K:PySem.W.Frag)(F':Hp)(ρ':List Sl)(σ':St)(H':Hp)(ρ:List Sl)(σ:St)(H:Hp)(v:V):R->Prop|.val d=>Rep K F' v d|.own ds=>∃a xs,v=.ref a/\H' a=some (.lst xs)/\F' a=none/\aH K F' xs ds/\¬ Own ρ' σ' a/\(Own ρ σ a\/H a=none)
theorem aO.cN{F:Hp}{a:Addr}{o:HO}(h:F a=none):aO F (upd F a o):=fun b u e=>by
 have:b≠a:=by rintro rfl;rw[h]at e;cases e
 rw[aM this];exact e
theorem cA.fW{ρ ρ':List Sl}{σ σ':St}{v:V}{r:R}(s:cA K F ρ σ H F' ρ' σ' H')(h:cO K F' ρ' σ' H' ρ σ H v r):∃F'',cA K F ρ σ H F'' ρ' σ' H'/\aO F' F''/\Rep K F'' v r.d:=by cases r with|val d=>exact⟨F',s,.refl _,h⟩|own ds=>
   obtain⟨a,xs,rfl,h1,h2,h3,h4,h5⟩:=h;have sm:aO F' (upd F' a (.lst xs)):=aO.cN h2;refine⟨upd F' a (.lst xs),⟨⟨fun b o e=>?_,s.gs.len,fun i b d e=>?_,fun i sl ds' e e'=>?_,s.gs.dis⟩,s.dm.trans sm,fun b n n'=>?_,s.keep,s.DY,s.len,s.lk⟩,sm,?_⟩
   . by_cases hb:b=a;.subst hb;rw[bj]at e;cases e;exact h1
     .rw[aM hb]at e;exact s.gs.sub b o e
   .obtain⟨v,e1,e2⟩:=s.gs.val i b d e;exact⟨v,e1,e2.mono sm⟩
   . obtain⟨b,ys,e1,e2,e3,e4⟩:=s.gs.own i sl ds' e e';have hb:b≠a:=by rintro rfl;exact h4 ⟨i,⟨sl,ds',e,e'⟩,e1⟩
     exact⟨b,ys,e1,e2,by rw[aM hb];exact e3,e4.mono sm⟩
   . by_cases hb:b=a;.subst hb;exact h5.imp id lN
     .rw[aM hb]at n';exact s.Eh b n n'
   .show Rep K _ _ (.lst ds);rw[Rep];exact⟨a,xs,rfl,gA.of bj,h3.mono sm⟩
theorem GS.pk{ρ:List Sl}{σ:St}{i:Nat}{d:D}(g:GS K F ρ σ H)(e:HH.pk ρ i=some d):∃v:V,σ[i]?=some (some v)/\di K F H v d:=by
 unfold HH.pk at e;split at e;.rename_i b d' h;cases e;obtain⟨v,h1,h2⟩:=g.val i b d h;exact⟨v,h1,.inl h2⟩
 .rename_i b ds h;cases e;obtain⟨a,xs,h1,h2,h3,h4⟩:=g.pg i _ ds h rfl;exact⟨.ref a,h1,.inr ⟨a,xs,ds,rfl,h2,h4,rfl⟩⟩
 .rename_i ds h;cases e;obtain⟨a,xs,h1,h2,h3,h4⟩:=g.pg i _ ds h rfl;exact⟨.ref a,h1,.inr ⟨a,xs,ds,rfl,h2,h4,rfl⟩⟩
 .cases e
structure Ext(F H F' H':Hp):Prop where
 hs:aO H H'
 fs:aO F F'
 sub:aO F' H'
 gr:∀b,F b=none->F' b≠none->nt (H b)=none
theorem Ext.refl(h:aO F H):Ext F H F H:=⟨.refl _,.refl _,h,fun _ a b=>absurd a b⟩
theorem Ext.stp{ρ:List Sl}{σ:St}(g:GS K F ρ σ H)(e:Ext F H F' H'):cA K F ρ σ H F' ρ σ H':=by
 refine⟨⟨e.sub,g.len,fun i b d h=>?_,fun i s ds h h'=>?_,g.dis⟩,e.fs,fun b n n'=>.inr (e.gr b n n'),fun b o h _=>e.hs b o h,fun _ h=>.inl h,rfl,fun i s h _=>⟨rfl,s,h,.refl s⟩⟩;.obtain⟨v,h1,h2⟩:=g.val i b d h;exact⟨v,h1,h2.mono e.fs⟩
 .obtain⟨a,xs,h1,h2,h3,h4⟩:=g.own i s ds h h';refine⟨a,xs,h1,e.hs _ _ h2,?_,h4.mono e.fs⟩;cases q:F' a with|none=>rfl|some o=>have:=e.gr a h3 (by rw[q];simp);rw[h2]at this;exact(Gq h4 this).elim
noncomputable def cM(K:PySem.W.Frag)(F' H' H:Hp)(v:V):R->Prop|.val d=>Rep K F' v d|.own ds=>∃a xs,v=.ref a/\H' a=some (.lst xs)/\F' a=none/\aH K F' xs ds/\H a=none
theorem cM.pO{ρ:List Sl}{σ:St}{v:V}{r:R}(g:GS K F ρ σ H)(h:cM K F' H' H v r):cO K F' ρ σ H' ρ σ H v r:=by cases r with|val d=>exact h|own ds=>obtain⟨a,xs,rfl,h1,h2,h3,h4⟩:=h;refine⟨a,xs,rfl,h1,h2,h3,?_,.inr h4⟩;rintro⟨i,⟨s,ds',e,e'⟩,e2⟩;obtain⟨b,ys,q1,q2,_⟩:=g.own i s ds' e e';rw[e2]at q1;cases q1;rw[h4]at q2;cases q2
theorem cO.later{F1 H1 F2 H2:Hp}{ρ ρ1 ρ2:List Sl}{σ σ1 σ2:St}{v:V}{r:R}(a:cA K F ρ σ H F1 ρ1 σ1 H1)(h:cO K F2 ρ2 σ2 H2 ρ1 σ1 H1 v r):cO K F2 ρ2 σ2 H2 ρ σ H v r:=by cases r with|val d=>exact h|own ds=>
   obtain⟨b,xs,rfl,h1,h2,h3,h4,h5⟩:=h;refine⟨b,xs,rfl,h1,h2,h3,h4,?_⟩;rcases h5 with h5|h5;.exact a.DY b h5
   . by_cases ho:Own ρ σ b;.exact .inl ho
     .right;cases e:H b with|none=>rfl|some o=>rw[a.keep b o e ho]at h5;cases h5
end
end HH
end
section
namespace HH
open PySem L2 PySem.Spec PyProof.Rows
theorem ao{α β:Type}{x:Res α}{f:α->List Sl->Res β}{b:β}{ρ':List Sl}(h:x.bind f=.ok b ρ'):∃a ρ,x=.ok a ρ/\f a ρ=.ok b ρ':=by cases x with|ok a ρ=>exact⟨a,ρ,rfl,h⟩|exc _ _=>cases h|stuck=>cases h
theorem aF{α:Type}{o:Option α}{ρ ρ':List Sl}{a:α}(h:lift o ρ=.ok a ρ'):o=some a/\ρ=ρ':=by cases o with|none=>cases h|some b=>cases h;exact⟨rfl,rfl⟩
theorem map_some{α β:Type}{o:Option α}{f:α->β}{b:β}(h:o.map f=some b):∃a,o=some a/\f a=b:=by cases o with|none=>cases h|some a=>cases h;exact⟨a,rfl,rfl⟩
theorem dG{α β:Type}{o:Option α}{f:α->Option β}{b:β}(h:o.bind f=some b):∃a,o=some a/\f a=some b:=by cases o with|none=>cases h|some a=>exact⟨a,rfl,h⟩
theorem bw{α:Type}{c:Prop}[Decidable c]{a b:α}(h:(if c then some a else none)=some b):c/\a=b:=by
 split at h;.rename_i hc;cases h;exact⟨hc,rfl⟩
 .cases h
section
variable{X:Cx}{c:Call}{e a b:Expr}{p pa pb:P}{pos:Pos}
theorem dX{t t':TE}(h:PE X e t)(i:∀σ H Q,t' σ H Q->t σ H Q):PE X e t':=fun pins s σ H Q I q=>h pins s σ H Q I (i σ H Q q)
theorem Bo{t t':TT}(h:PT X e t)(i:∀σ H Q,t' σ H Q->t σ H Q):PT X e t':=fun pins s σ H Q I q=>h pins s σ H Q I (i σ H Q q)
theorem Nr{t t':TT}(h:PW X e t)(i:∀σ H Q,t' σ H Q->t σ H Q):PW X e t':=fun wh pins s σ H Q I q=>h wh pins s σ H Q I (i σ H Q q)
theorem wg{es:List Expr}{t t':TA}(h:PA X es t)(i:∀σ H Q,t' σ H Q->t σ H Q):PA X es t':=fun pos pins s σ H Q I q=>h pos pins s σ H Q I (i σ H Q q)
inductive Ff(K:PySem.W.Frag)(f:Ev)(σ:L2.St)(H:Hp)(Q:VK):Prop where|mk(F:Hp)(ρ:List Sl)(r:R)(ρ':List Sl)(g:GS K F ρ σ H)(e:f ρ=.ok r ρ')(k:∀v F' H',cA K F ρ σ H F' ρ' σ H'->cO K F' ρ' σ H' ρ σ H v r->Q v H')
inductive N5(K:PySem.W.Frag)(f:List Sl->Res Bool)(σ:L2.St)(H:Hp)(Q:Bool->Hp->Prop):Prop where|mk(F:Hp)(ρ:List Sl)(b:Bool)(ρ':List Sl)(g:GS K F ρ σ H)(e:f ρ=.ok b ρ')(k:∀F' H',cA K F ρ σ H F' ρ' σ H'->Q b H')
inductive abm(K:PySem.W.Frag)(f:List Sl->Res (List D))(σ:L2.St)(H:Hp)(Q:List V->Hp->Prop):Prop where|mk(F:Hp)(ρ:List Sl)(ds:List D)(ρ':List Sl)(g:GS K F ρ σ H)(e:f ρ=.ok ds ρ')(k:∀vs F' H',cA K F ρ σ H F' ρ' σ H'->aH K F' vs ds->Q vs H')
structure SX(X:Cx)(c:Call)(e:Expr)(p:P):Prop where ev:PE X e (Ff X.K (HH.ev c p))var:∀i,isVar p=some i->PE X e (Wf i)
noncomputable def SA(X:Cx)(c:Call)(es:List Expr)(ps:List P):Prop:=PA X es (abm X.K (evs c ps))/\ps.length=es.length
theorem SX.dz(h:SX X c e p):∃t,PE X e t/\∀{σ:L2.St}{H F:Hp}{ρ ρ':List Sl}{d:D}{Q:VK},GS X.K F ρ σ H->dz (isVar p) (HH.ev c p) ρ=.ok d ρ'->(∀v F' H',cA X.K F ρ σ H F' ρ' σ H'->di X.K F' H' v d->Q v H')->t σ H Q:=by cases hv:isVar p with|none=>refine⟨_,h.ev,fun{σ H F ρ ρ' d Q}g e k=>?_⟩;obtain⟨r,ρ1,e1,e2⟩:=ao e;cases e2;refine⟨F,ρ,r,_,g,e1,fun v F' H' s rr=>?_⟩;obtain⟨F'',s',_,rp⟩:=s.fW rr;exact k v F'' H' s' (.inl rp)|some i=>refine⟨_,h.var i hv,fun{σ H F ρ ρ' d Q}g e k=>?_⟩;obtain⟨e1,e2⟩:=aF e;subst e2;obtain⟨v,h1,h2⟩:=g.pk e1;exact⟨v,h1,k v F H (.refl g) h2⟩
theorem SX.gR(ha:SX X c a pa)(hb:SX X c b pb):∃ta tb,PE X a ta/\PE X b tb/\∀{σ:L2.St}{H F:Hp}{ρ ρ':List Sl}{xy:D×D}{R:V->V->Hp->Prop},GS X.K F ρ σ H->gR (isVar pa) (HH.ev c pa) (isVar pb) (HH.ev c pb) ρ=.ok xy ρ'->(∀v u F' H',cA X.K F ρ σ H F' ρ' σ H'->di X.K F' H' v xy.1->di X.K F' H' u xy.2->R v u H')->ta σ H fun x H1=>tb σ H1 fun y H2=>R x y H2:=by obtain⟨tb,hb1,hb2⟩:=hb.dz;cases hv:isVar pa with|none=>refine⟨_,tb,ha.ev,hb1,fun{σ H F ρ ρ' xy R}g e k=>?_⟩;obtain⟨x,ρ1,e1,e⟩:=ao e;obtain⟨y,ρ2,e2,e⟩:=ao e;cases e;obtain⟨r,ρ1',e1,e0⟩:=ao e1;cases e0;refine⟨F,ρ,r,_,g,e1,fun v F' H' s rr=>?_⟩;obtain⟨F1,s1,_,rp⟩:=s.fW rr;refine hb2 s1.gs e2 fun u F2 H2 s2 pu=>?_;exact k v u F2 H2 (s1.trans s2) (.inl (rp.mono s2.dm)) pu|some i=>refine⟨_,tb,ha.var i hv,hb1,fun{σ H F ρ ρ' xy R}g e k=>?_⟩;obtain⟨x0,ρ0,e0,e⟩:=ao e;obtain⟨YG,xP⟩:=aF e0;subst xP;obtain⟨y,ρ1,e1,e⟩:=ao e;obtain⟨x,ρ2,e2,e⟩:=ao e;cases e;have zz:=aF e2;clear e2;obtain⟨e2,e3⟩:=zz;subst e3;obtain⟨v,h1,_⟩:=g.pk YG;refine⟨v,h1,hb2 g e1 fun u F1 H1 s1 pu=>?_⟩;obtain⟨v',h1',pv⟩:=s1.gs.pk e2;rw[h1]at h1';cases h1';exact k v u F1 H1 s1 pv pu
inductive rD(K:PySem.W.Frag)(f:D->D->Option R)(x y:V)(H:Hp)(Q:VK):Prop where|mk(F:Hp)(d e:D)(r:R)(sm:aO F H)(px:di K F H x d)(py:di K F H y e)(he:f d e=some r)(k:∀v F' H',Ext F H F' H'->cM K F' H' H v r->Q v H')
inductive rD1(K:PySem.W.Frag)(f:D->Option R)(x:V)(H:Hp)(Q:VK):Prop where|mk(F:Hp)(d:D)(r:R)(sm:aO F H)(px:di K F H x d)(he:f d=some r)(k:∀v F' H',Ext F H F' H'->cM K F' H' H v r->Q v H')
theorem uB{E:Expr}{f:D->D->Option R}{q:P}(hp:∀{ta tb},PE X a ta->PE X b tb->PE X E (Vb (rD X.K f) ta tb))(ha:SX X c a pa)(hb:SX X c b pb)(hq:∀ρ,HH.ev c q ρ=(HH.gR (isVar pa) (HH.ev c pa) (isVar pb) (HH.ev c pb) ρ).bind fun xy ρ=>lift (f xy.1 xy.2) ρ)(hv:isVar q=none):SX X c E q:=by obtain⟨ta,tb,h1,h2,h3⟩:=ha.gR hb;refine⟨dX (hp h1 h2) ?_,fun i h=>by rw[hv]at h;cases h⟩;rintro σ H Q⟨F,ρ,r,ρ',g,e,k⟩;rw[hq]at e;obtain⟨xy,ρ1,e1,e2⟩:=ao e;have zz:=aF e2;clear e2;obtain⟨e2,e3⟩:=zz;subst e3;refine h3 g e1 fun v u F' H' s pv pu=>⟨F',xy.1,xy.2,r,s.gs.sub,pv,pu,e2,fun w F2 H2 x rn=>?_⟩;exact k w F2 H2 (s.trans (x.stp s.gs)) (.later s (rn.pO s.gs))
theorem Pr{E:Expr}{f:D->Option R}{q:P}(hp:∀{ta},PE X a ta->PE X E (tUn (rD1 X.K f) ta))(ha:SX X c a pa)(hq:∀ρ,HH.ev c q ρ=(HH.dz (isVar pa) (HH.ev c pa) ρ).bind fun x ρ=>lift (f x) ρ)(hv:isVar q=none):SX X c E q:=by obtain⟨ta,h1,h3⟩:=ha.dz;refine⟨dX (hp h1) ?_,fun i h=>by rw[hv]at h;cases h⟩;rintro σ H Q⟨F,ρ,r,ρ',g,e,k⟩;rw[hq]at e;obtain⟨x,ρ1,e1,e2⟩:=ao e;have zz:=aF e2;clear e2;obtain⟨e2,e3⟩:=zz;subst e3;refine h3 g e1 fun v F' H' s pv=>⟨F',x,r,s.gs.sub,pv,e2,fun w F2 H2 x rn=>?_⟩;exact k w F2 H2 (s.trans (x.stp s.gs)) (.later s (rn.pO s.gs))
theorem GS.freeze{K:PySem.W.Frag}{F H:Hp}{ρ:List Sl}{σ:L2.St}{i:Nat}{b:Bool}{ds:List D}(g:GS K F ρ σ H)(e:ρ[i]?=some (.own b ds)):∃v F',σ[i]?=some (some v)/\cA K F ρ σ H F' (ρ.set i (.val b (.lst ds))) σ H/\Rep K F' v (.lst ds):=by
 obtain⟨a,xs,h1,h2,h3,h4⟩:=g.pg i _ ds e rfl;have hi:i<ρ.length:=(List.getElem?_eq_some_iff.mp e).1;have sm:aO F (upd F a (.lst xs)):=aO.cN h3;have rp:Rep K (upd F a (.lst xs)) (.ref a) (.lst ds):=by rw[Rep];exact⟨a,xs,rfl,gA.of bj,h4.mono sm⟩
 have oa:Own ρ σ a:=⟨i,⟨_,_,e,rfl⟩,h1⟩;have old:∀j x,bR (ρ.set i (.val b (.lst ds))) σ j x->bR ρ σ j x/\j≠i:=fun j x⟨⟨s,ds',q1,q2⟩,q3⟩=>by
  by_cases hj:j=i;.subst hj;rw[List.getElem?_set_self hi]at q1;cases q1;cases q2
  .rw[List.getElem?_set_ne (Ne.symm hj)]at q1;exact⟨⟨⟨s,ds',q1,q2⟩,q3⟩,hj⟩
 refine⟨.ref a,upd F a (.lst xs),h1,⟨⟨fun x o q=>?_,by simpa using g.len,fun j b' d q=>?_,fun j s ds' q q'=>?_,fun j k x q q'=>g.dis j k x (old j x q).1 (old k x q').1⟩,sm,fun x n n'=>?_,fun _ _ q _=>q,fun x⟨j,q⟩=>.inl ⟨j,(old j x q).1⟩,by simp,fun j s q l=>⟨rfl,?_⟩⟩,rp⟩
 . by_cases hx:x=a;.subst hx;rw[bj]at q;cases q;exact h2
   .rw[aM hx]at q;exact g.sub x o q
 . by_cases hj:j=i;.subst hj;rw[List.getElem?_set_self hi]at q;cases q;exact⟨_,h1,rp⟩
   .rw[List.getElem?_set_ne (Ne.symm hj)]at q;obtain⟨v,q1,q2⟩:=g.val j b' d q;exact⟨v,q1,q2.mono sm⟩
 . by_cases hj:j=i;.subst hj;rw[List.getElem?_set_self hi]at q;cases q;cases q'
   . rw[List.getElem?_set_ne (Ne.symm hj)]at q;obtain⟨x,ys,q1,q2,q3,q4⟩:=g.own j s ds' q q';have hx:x≠a:=by rintro rfl;exact hj (g.dis j i x ⟨⟨s,ds',q,q'⟩,q1⟩ ⟨⟨_,_,e,rfl⟩,h1⟩)
     exact⟨x,ys,q1,q2,by rw[aM hx];exact q3,q4.mono sm⟩
 . by_cases hx:x=a;.subst hx;exact .inl oa
   .rw[aM hx]at n';exact absurd n n'
 . by_cases hj:j=i;.subst hj;rw[e]at q;cases q;refine⟨_,List.getElem?_set_self hi,?_⟩;cases b with|true=>exact .inr ⟨_,rfl⟩|false=>cases l
   .exact⟨s,by rw[List.getElem?_set_ne (Ne.symm hj)];exact q,.refl s⟩
theorem GS.Br{K:PySem.W.Frag}{F H:Hp}{ρ:List Sl}{σ:L2.St}{i:Nat}{m:Dc}(g:GS K F ρ σ H)(e:ρ[i]?=some (.cZ m)):∃a,σ[i]?=some (some (.ref a))/\H a=some m.ho/\∀ob,cA K F ρ σ H (upd F a (.fW ob m.ho)) (ρ.set i (.val false (.cg m))) σ (upd H a (.fW ob m.ho))/\Rep K (upd F a (.fW ob m.ho)) (.ref a) (.cg m):=by
 obtain⟨a,o0,h1,h2,h3,h4⟩:=g.own i _ _ e rfl;cases(show o0=m.ho from h4);have hi:i<ρ.length:=(List.getElem?_eq_some_iff.mp e).1;refine⟨a,h1,h2,fun ob=>?_⟩;have sm:aO F (upd F a (.fW ob m.ho)):=aO.cN h3;have rp:Rep K (upd F a (.fW ob m.ho)) (.ref a) (.cg m):=by rw[Rep];exact⟨a,ob,rfl,bj⟩
 have oa:Own ρ σ a:=⟨i,⟨_,_,e,rfl⟩,h1⟩;have old:∀j x,bR (ρ.set i (.val false (.cg m))) σ j x->bR ρ σ j x/\j≠i:=fun j x⟨⟨s,ds',q1,q2⟩,q3⟩=>by
  by_cases hj:j=i;.subst hj;rw[List.getElem?_set_self hi]at q1;cases q1;cases q2
  .rw[List.getElem?_set_ne (Ne.symm hj)]at q1;exact⟨⟨⟨s,ds',q1,q2⟩,q3⟩,hj⟩
 refine⟨⟨⟨fun x o q=>?_,by simpa using g.len,fun j b' d q=>?_,fun j s ds' q q'=>?_,fun j k x q q'=>g.dis j k x (old j x q).1 (old k x q').1⟩,sm,fun x n n'=>?_,fun x o q n=>?_,fun x⟨j,q⟩=>.inl ⟨j,(old j x q).1⟩,by simp,fun j s q l=>⟨rfl,?_⟩⟩,rp⟩
 . by_cases hx:x=a;.subst hx;rw[bj]at q ⊢;exact q
   .rw[aM hx]at q ⊢;exact g.sub x o q
 . by_cases hj:j=i;.subst hj;rw[List.getElem?_set_self hi]at q;cases q;exact⟨_,h1,rp⟩
   .rw[List.getElem?_set_ne (Ne.symm hj)]at q;obtain⟨v,q1,q2⟩:=g.val j b' d q;exact⟨v,q1,q2.mono sm⟩
 . by_cases hj:j=i;.subst hj;rw[List.getElem?_set_self hi]at q;cases q;cases q'
   . rw[List.getElem?_set_ne (Ne.symm hj)]at q;obtain⟨x,ys,q1,q2,q3,q4⟩:=g.own j s ds' q q';have hx:x≠a:=by rintro rfl;exact hj (g.dis j i x ⟨⟨s,ds',q,q'⟩,q1⟩ ⟨⟨_,_,e,rfl⟩,h1⟩)
     exact⟨x,ys,q1,by rw[aM hx];exact q2,by rw[aM hx];exact q3,q4.mono sm⟩
 . by_cases hx:x=a;.subst hx;exact .inl oa
   .rw[aM hx]at n';exact absurd n n'
 . have hx:x≠a:=by rintro rfl;exact n oa
   rw[aM hx];exact q
 . by_cases hj:j=i;.subst hj;rw[e]at q;cases q;cases l
   .exact⟨s,by rw[List.getElem?_set_ne (Ne.symm hj)];exact q,.refl s⟩
theorem Inv.Wh{X:Cx}{pins:List (Addr×Obj)}{σ:L2.St}{H:Hp}{s:Shared}{a:Addr}{kvs:List (Key×V)}(I:L2.Inv X pins σ H s)(h:H a=some (.dK kvs)):∃o,L2.Inv X pins σ (upd H a (.fW o (.dK kvs))) s:=by obtain⟨hz,hS,vs,r,dd⟩:=(show bL X.prog X.w H s.heap a (.dK kvs)from I.hok a _ h);obtain⟨o,ho,_⟩:=dd.typeIs;exact⟨o,I.write (h':=s.heap) (t':=s.toks) (by rw[h];exact trivial) (.inl rfl) (fun b u _ e=>e) ⟨o,ho⟩ ⟨ho,hz,hS,vs,r,dd⟩⟩
theorem RP{i:Nat}{x:Str}(hN:X.N[i]?=some x)(hv:xX X.env.scope x)(hd:(x==("__debug__":Str))=false:=by decide)(hcd:(x==("__classdict__":Str))=false:=by decide):SX X c (.Name x pos) (.var i):=by
 have h:=gb (X:=X) (pos:=pos) hN hv hd hcd;refine⟨?_,fun j hj=>by cases hj;exact h⟩;rintro pins s σ H Q I⟨F,ρ,r,ρ',g,e,k⟩;rw[HH.E1]at e;split at e;.rename_i b d q;cases e;obtain⟨v,h1,h2⟩:=g.val i b d q;exact h pins s σ H Q I ⟨v,h1,k v F H (.refl g) h2⟩
 .rename_i b ds q;cases e;obtain⟨v,F',h1,h2,h3⟩:=g.freeze q;exact h pins s σ H Q I ⟨v,h1,k v F' H h2 h3⟩
 .rename_i kvs q;cases e;obtain⟨a,h1,h2,h3⟩:=g.Br q;refine cL (h pins s σ H (fun v H'=>v=.ref a/\H'=H) I ⟨.ref a,h1,rfl,rfl⟩) fun u s1⟨v,H1,I1,r1,e1,e2⟩=>?_;subst e1 e2;obtain⟨o,I2⟩:=Inv.Wh I1 h2;exact⟨.ref a,_,I2,r1,k _ _ _ (h3 o).1 (h3 o).2⟩
 .cases e
theorem yp{d:D}{v:V}(h:PE X e (tC v))(hr:∀F,Rep X.K F v d):SX X c e (.con d):=⟨dX h fun σ H Q⟨F,ρ,r,ρ',g,e,k⟩=>by rw[HH.E2]at e;cases e;exact k v F H (.refl g) (hr F),fun i h=>by cases h⟩
theorem ak{i j}:SX X c (.Constant (.int i) j pos) (.con (.int i)):=yp Rc fun F=>by rw[Rep]
theorem fB{i j}:SX X c (.Constant (.bool i) j pos) (.con (.bl i)):=yp W2 fun F=>by rw[Rep]
theorem Q4{j}:SX X c (.Constant .none j pos) (.con .non):=yp Sd fun F=>by rw[Rep]
theorem di.int{K:PySem.W.Frag}{F H:Hp}{v:V}{i:Int}(h:di K F H v (.int i)):v=.int i:=by
 rcases h with h|⟨_,_,_,_,_,_,h⟩;.rw[Rep]at h;exact h
 .cases h
theorem di.bl{K:PySem.W.Frag}{F H:Hp}{v:V}{i:Bool}(h:di K F H v (.bl i)):v=.bl i:=by
 rcases h with h|⟨_,_,_,_,_,_,h⟩;.rw[Rep]at h;exact h
 .cases h
theorem di.str{K:PySem.W.Frag}{F H:Hp}{v:V}{i:Str}(h:di K F H v (.str i)):v=.str i:=by
 rcases h with h|⟨_,_,_,_,_,_,h⟩;.rw[Rep]at h;exact h
 .cases h
theorem di.non{K:PySem.W.Frag}{F H:Hp}{v:V}(h:di K F H v .non):v=.non:=by
 rcases h with h|⟨_,_,_,_,_,_,h⟩;.rw[Rep]at h;exact h
 .cases h
theorem di.tup{K:PySem.W.Frag}{F H:Hp}{v:V}{ds:List D}(s:aO F H)(h:di K F H v (.tup ds)):∃a xs,v=.ref a/\jC K H a xs/\aH K F xs ds/\Rep K F v (.tup ds):=by
 rcases h with h|⟨_,_,_,_,_,_,h⟩;.have h':=h;rw[Rep]at h;obtain⟨a,xs,rfl,h1,h2⟩:=h;exact⟨a,xs,rfl,aO.jL s h1,h2,h'⟩
 .cases h
theorem di.lst{K:PySem.W.Frag}{F H:Hp}{v:V}{ds:List D}(s:aO F H)(h:di K F H v (.lst ds)):∃a xs,v=.ref a/\gA K H a xs/\aH K F xs ds:=by
 rcases h with h|⟨a,xs,es,h1,h2,h3,h⟩;.rw[Rep]at h;obtain⟨a,xs,rfl,h1,h2⟩:=h;exact⟨a,xs,rfl,s.seq h1,h2⟩
 .cases h;exact⟨a,xs,h1,gA.of h2,h3⟩
theorem di.cg{K:PySem.W.Frag}{F H:Hp}{v:V}{m:Dc}(s:aO F H)(h:di K F H v (.cg m)):∃a o,v=.ref a/\H a=some (.fW o m.ho):=by
 rcases h with h|⟨_,_,_,_,_,_,h⟩;.rw[Rep]at h;obtain⟨a,o,rfl,h⟩:=h;exact⟨a,o,rfl,s _ _ h⟩
 .cases h
theorem Hd{X:Cx}{pins:List (Addr×Obj)}{σ:L2.St}{H:Hp}{s:Shared}{a:Addr}{ob:Obj}{m:Dc}(I:L2.Inv X pins σ H s)(h:H a=some (.fW ob m.ho)):∃o,s.heap.get? a=some o/\o.cls=.type "dict":=by have z:=(show bL X.prog X.w H s.heap a (.fW ob m.ho)from I.hok a _ h).2;cases m with|k kvs=>obtain⟨_,_,vs,_,d2⟩:=(show bL X.prog X.w H s.heap a (.dK _)from z);exact d2.typeIs|t kvs=>obtain⟨_,_,xs,_,o,es,ep,h1,h2,_⟩:=(show bL X.prog X.w H s.heap a (.dT _)from z);exact⟨o,h1,h2.1⟩
theorem di.items{K:PySem.W.Frag}{F H:Hp}{v:V}{d:D}{ds:List D}(s:aO F H)(h:di K F H v d)(e:items d=some ds):∃a xs,v=.ref a/\(gA K H a xs\/jC K H a xs)/\aH K F xs ds:=by cases d with|tup es=>cases e;obtain⟨a,xs,h1,h2,h3,_⟩:=h.tup s;exact⟨a,xs,h1,.inr h2,h3⟩|lst es=>cases e;obtain⟨a,xs,h1,h2,h3⟩:=h.lst s;exact⟨a,xs,h1,.inl h2,h3⟩|_=>cases e
theorem cM.eV{K:PySem.W.Frag}{F H:Hp}{Q:VK}{v:V}{d:D}(s:aO F H)(r:Rep K F v d)(k:∀v F' H',Ext F H F' H'->cM K F' H' H v (.val d)->Q v H'):Q v H:=k v F H (.refl s) r
theorem cJ{K:PySem.W.Frag}{F:Hp}(i:Int):Rep K F (.int i) (.int i):=by rw[Rep]
theorem iT{K:PySem.W.Frag}{F:Hp}(i:Bool):Rep K F (.bl i) (.bl i):=by rw[Rep]
theorem QK{K:PySem.W.Frag}{F:Hp}(i:Str):Rep K F (.str i) (.str i):=by rw[Rep]
theorem Sw{K:PySem.W.Frag}{F:Hp}:Rep K F .non .non:=by rw[Rep]
theorem wJ{K:PySem.W.Frag}{F H:Hp}{Q:VK}{xs:List V}{ds:List D}{p:Addr}(s:aO F H)(r:aH K F xs ds)(hp:H p=none)(k:∀v F' H',Ext F H F' H'->cM K F' H' H v (.own ds)->Q v H'):Q (.ref p) (upd H p (.lst xs)):=by
 have fp:F p=none:=by cases q:F p with|none=>rfl|some o=>rw[s p o q]at hp;cases hp
 exact k _ F _ ⟨aO.cN hp,.refl _,s.trans (aO.cN hp),fun _ a b=>absurd a b⟩ ⟨p,xs,rfl,bj,fp,r,hp⟩
theorem Dp{K:PySem.W.Frag}{F H:Hp}{Q:VK}{xs:List V}{ds:List D}{p:Addr}(s:aO F H)(r:aH K F xs ds)(hp:H p=none)(k:∀v F' H',Ext F H F' H'->cM K F' H' H v (.val (.tup ds))->Q v H'):Q (.ref p) (upd H p (.tup xs)):=by
 have fp:F p=none:=by cases q:F p with|none=>rfl|some o=>rw[s p o q]at hp;cases hp
 have sm:aO F (upd F p (.tup xs)):=aO.cN fp;refine k _ (upd F p (.tup xs)) _ ⟨aO.cN hp,sm,fun b o e=>?_,fun b n n'=>?_⟩ ?_
 . by_cases hb:b=p;.subst hb;rw[bj]at e ⊢;exact e
   .rw[aM hb]at e ⊢;exact s b o e
 . by_cases hb:b=p;.subst hb;exact lN hp
   .rw[aM hb]at n';exact absurd n n'
 .show Rep K _ _ (.tup ds);rw[Rep];exact⟨p,xs,rfl,jC.of bj,r.mono sm⟩
end
end HH
end
section
namespace HH
open PySem L2 PySem.Spec PyProof.Rows
theorem qQ(k:Int)(t:Tok)(l:Addr)(its:Array Value)(n:Nat)(dd:Option Addr)(sl:Array (Option Value)):Meets (Builtin.«int.__rmul__» ⟨[.int k t,.ref l],[]⟩) (fun _ R s=>s.heap.get? l=some ⟨.type "list",dd,.seq its n,sl⟩/\R (.ok (.ret Value.notImplemented)) s):=.of_wp fun prog w A R s h=>by obtain⟨hp,g,d,tk,os⟩:=s;obtain⟨hl,h⟩:=h;wp_walk;exact⟨_,rfl,h⟩
theorem DQ(l:Addr)(its:Array Value)(n:Nat)(dd:Option Addr)(sl:Array (Option Value))(k:Int)(t:Tok)(h0:¬(!Builtin.List.listFitsIndex k)=true)(h1:¬its.size*k.toNat>(2^63-1)/8)(h2:¬Builtin.List.listTooLong (its.size*k.toNat)=true):Meets (Builtin.«list.__mul__» ⟨[.ref l,.int k t],[]⟩) (fun _ R s=>s.heap.get? l=some ⟨.type "list",dd,.seq its n,sl⟩/\R (.ok (.ret (Value.ref s.heap.objs.size))) {s with heap:=s.heap.push {cls:=.type "list",data:=.seq (List.foldl (·++·) #[] (List.replicate (if its.isEmpty=true then 0 else k.toNat) its))}}):=.of_wp fun prog w A R s h=>by obtain⟨hp,g,d,tk,os⟩:=s;obtain⟨hl,h⟩:=h;have hz:=AutoListH.joined_fits h2;wp_walk using wpAny_loadPart' hl;refine wpAny_ite_false (decide_eq_false (Nat.not_lt.mpr hz)) ?_;wp_walk;exact⟨_,rfl,h⟩
section
variable{X:Cx}{c:Call}{e a b d:Expr}{p pa pb pd:P}{pos:Pos}
theorem Mq:fH X (binaryOp .Add) (fun x y H Q=>∃l b xs zs,x=.ref l/\y=.ref b/\gA X.K H l xs/\gA X.K H b zs/\xs.length+zs.length<=sizeLine/\∀p,H p=none->Q (.ref p) (upd H p (.lst (xs++zs)))):=by
 intro pins s σ H x y v u Q I rx ry h;obtain⟨l,b,xs,zs,rfl,rfl,hl,hb,hz,q⟩:=h;cases rx;cases ry;obtain⟨its,r,pl,_⟩:=I.list hl;obtain⟨its2,r2,Om,_⟩:=I.list hb;obtain⟨⟨cls,dd,data,sl⟩,ho,hc,n,hd⟩:=id pl.isList;obtain⟨⟨cls2,dd2,data2,sl2⟩,ho2,hc2,n2,hd2⟩:=id Om.isList;simp only at hc hd hc2 hd2;subst hc hd hc2 hd2;have e:its.toArray++its2.toArray=(its++its2).toArray:=by simp
 refine concat_meets ⟨_,ho,rfl⟩ ⟨_,ho2,rfl⟩ noFill_list_add seq_list_add PySem.F.slot_list_add PySem.F.entry_list_add (PySem.F.args_list_add_2 _ _) (list_addW l b its.toArray its2.toArray n n2 dd dd2 sl sl2 (by simp only[List.size_toArray];rw[<-r.length,<-r2.length];exact hz)) ⟨ho,ho2,?_⟩;rw[e];exact⟨.ref _,_,I.Q6 (t':=s.toks) (r.append r2) (by rw[List.length_append];exact hz),rfl,q _ I.fresh⟩
theorem IK:fH X (binaryOp .Add) (fun x y H Q=>∃a b ys,x=.ref a/\y=.ref b/\jC X.K H a []/\jC X.K H b ys/\Q (.ref b) H):=by intro pins s σ H x y v u Q I rx ry h;obtain⟨a,b,ys,rfl,rfl,ha,hb,q⟩:=h;cases rx;cases ry;obtain⟨its,r1,p1,_⟩:=I.tuple ha;obtain⟨its2,r2,p2,_⟩:=I.tuple hb;obtain⟨⟨cls,dd,data,sl⟩,ho,hc,n,hd⟩:=id p1;obtain⟨⟨cls2,dd2,data2,sl2⟩,ho2,hc2,n2,hd2⟩:=id p2;simp only at hc hd hc2 hd2;subst hc hd hc2 hd2;have e0:its=[]:=r1.oR.mpr rfl;subst e0;exact concat_meets ⟨_,ho,rfl⟩ ⟨_,ho2,rfl⟩ noFill_tuple_add seq_tuple_add PySem.F.slot_tuple_add PySem.F.entry_tuple_add (PySem.F.args_tuple_add_2 _ _) (tuple_addW0 a b _ its2.toArray n n2 dd dd2 sl sl2 (by simp)) ⟨ho,ho2,⟨.ref b,H,I,rfl,q⟩⟩
theorem bK:fH X (binaryOp .Add) (rD X.K (uD .add)):=by
 rintro pins s σ H x y v u Q I rx ry⟨F,d,e,r,sm,px,py,he,k⟩;replace he:pW d e=some r:=he;unfold pW at he;split at he;.cases he;rw[px.int]at rx;rw[py.int]at ry;exact R5 pins s σ H _ _ v u Q I rx ry ⟨_,_,rfl,rfl,cM.eV sm (cJ _) k⟩
 .rename_i xs ys;obtain⟨hl,he⟩:=bw he;subst he;obtain⟨a,vs,rfl,ha,ra⟩:=px.lst sm;obtain⟨b,us,rfl,hb,rb⟩:=py.lst sm;exact Mq pins s σ H _ _ v u Q I rx ry ⟨a,b,vs,us,rfl,rfl,ha,hb,by rw[ra.length,rb.length];exact hl,fun p hp=>wJ sm (ra.append rb) hp k⟩
 . rename_i xs ys;obtain⟨hl,he⟩:=bw he;subst he;obtain⟨a,vs,rfl,ha,ra,ta⟩:=px.tup sm;obtain⟨b,us,rfl,hb,rb,tb⟩:=py.tup sm;by_cases h0:vs=[]
   . subst h0;have e0:xs=[]:=by have:=ra.length;exact List.eq_nil_of_length_eq_zero this.symm
     subst e0;exact IK pins s σ H _ _ v u Q I rx ry ⟨a,b,us,rfl,rfl,ha,hb,cM.eV sm tb k⟩
   . refine Li pins s σ H _ _ v u Q I rx ry ⟨a,b,vs,us,rfl,rfl,ha,hb,h0,by rw[ra.length,rb.length];exact hl,fun e=>?_,fun _ p hp=>Dp sm (ra.append rb) hp k⟩;subst e;have e0:ys=[]:=by have:=rb.length;exact List.eq_nil_of_length_eq_zero this.symm
     subst e0;rw[List.append_nil]at k;exact cM.eV sm ta k
 .rename_i x1 y1;obtain⟨hl,he⟩:=bw he;subst he;rw[px.str]at rx;rw[py.str]at ry;exact yI pins s σ H _ _ v u Q I rx ry ⟨_,_,rfl,rfl,hl,cM.eV sm (QK _) k⟩
 .cases he
theorem dD:fH X (binaryOp .Sub) (rD X.K (uD .sub)):=by
 rintro pins s σ H x y v u Q I rx ry⟨F,d,e,r,sm,px,py,he,k⟩;replace he:xx d e=some r:=he;unfold xx at he;split at he;.cases he;rw[px.int]at rx;rw[py.int]at ry;exact Qk pins s σ H _ _ v u Q I rx ry ⟨_,_,rfl,rfl,cM.eV sm (cJ _) k⟩
 .cases he
theorem Kh:fH X (binaryOp .Mult) (fun x y H Q=>∃l k xs,x=.ref l/\y=.int k/\gA X.K H l xs/\-(2^63)<=k/\k<2^63/\xs.length*k.toNat<=sizeLine/\∀p,H p=none->Q (.ref p) (upd H p (.lst (List.replicate k.toNat xs).flatten))):=by
 intro pins s σ H x y v u Q I rx ry h;obtain⟨l,k,xs,rfl,rfl,hl,h1,h2,hz,q⟩:=h;cases rx;obtain⟨t,rfl⟩:=ry;obtain⟨its,r,pl,_⟩:=I.list hl;obtain⟨⟨cls,dd,data,sl⟩,ho,hc,n,hd⟩:=id pl.isList;simp only at hc hd;subst hc hd;have hlen:its.toArray.size*k.toNat<=sizeLine:=by rw[List.size_toArray,<-r.length];exact hz
 have ac5:¬ its.toArray.size*k.toNat>(2^63-1)/8:=by
  have:(sizeLine:Nat)<=(2^63-1)/8:=by decide
  omega
 have hnew:List.foldl (·++·) #[] (List.replicate (if its.toArray.isEmpty=true then 0 else k.toNat) its.toArray)=(List.replicate k.toNat its).flatten.toArray:=by
  have f0:∀m:Nat,List.foldl (·++·) #[] (List.replicate m its.toArray)=(List.replicate m its).flatten.toArray:=fun m=>by have:=foldl_rep its m [];rw[List.nil_append]at this;exact this
  rw[f0];cases its with|nil=>simp|cons a r'=>rw[if_neg (by simp)]
 refine wpAny_binaryOp_repeat_ref (T:="list") (U:="int") (by decide) ⟨_,ho,rfl⟩ (fun s'=>typeIs_int s' k t) noFill_list_mul F.fills_int_mul F.slot_int_rmul repeat_list F.slot_int_index.lookup ?_;refine call_meets F.slot_int_rmul (typeIs_int s k t) F.entry_int_rmul (F.args_int_rmul_2 _ _) (qQ k t l its.toArray n dd sl) ⟨ho,rfl,⟨_,ho,rfl⟩,?_⟩;refine call_meets F.slot_list_mul ⟨_,ho,rfl⟩ F.entry_list_mul (F.args_list_mul_2 _ _) (DQ l its.toArray n dd sl k t (by rw[fitsIndex_both h1 h2];exact Bool.false_ne_true) ac5 (by rw[wj hlen];exact Bool.false_ne_true)) ⟨ho,?_⟩;rw[hnew];exact⟨.ref _,_,I.Q6 (t':=s.toks) (r.rep k.toNat) (by rw[len_rep,Nat.mul_comm];exact hz),rfl,q _ I.fresh⟩
theorem mQ:fillsNumberSlot (.type "tuple") "mul"=pure false:=PySem.fillsNumberSlot_seq (id:="tuple.__mul__") (r:=some (.builtin "tuple.__rmul__")) PySem.F.slot_tuple_mul.lookup (by decide+kernel) PySem.F.slot_tuple_rmul.lookup (by decide+kernel)
theorem tK:seqRepeat? (.type "tuple")=pure (some (.builtin "tuple.__mul__")):=by unfold seqRepeat?;rw[PySem.seqSlot_of (T:="tuple") (name:="__mul__") (id:="tuple.__mul__") PySem.F.slot_tuple_mul.lookup (by decide+kernel),PySem.seqSlot_of (T:="tuple") (name:="__rmul__") (id:="tuple.__rmul__") PySem.F.slot_tuple_rmul.lookup (by decide+kernel)];rfl
theorem qF(k:Int)(t:Tok)(l:Addr)(its:Array Value)(n:Nat)(dd:Option Addr)(sl:Array (Option Value)):Meets (Builtin.«int.__rmul__» ⟨[.int k t,.ref l],[]⟩) (fun _ R s=>s.heap.get? l=some ⟨.type "tuple",dd,.seq its n,sl⟩/\R (.ok (.ret Value.notImplemented)) s):=.of_wp fun prog w A R s h=>by obtain⟨hp,g,d,tk,os⟩:=s;obtain⟨hl,h⟩:=h;wp_walk;exact⟨_,rfl,h⟩
theorem yF(l:Addr)(its:Array Value)(n:Nat)(dd:Option Addr)(sl:Array (Option Value))(k:Int)(t:Tok)(h0:0<=k)(h1:k<2^63)(hz:its.size*k.toNat<=sizeLine)(hne:0<its.size):Meets (Builtin.«tuple.__mul__» ⟨[.ref l,.int k t],[]⟩) (fun _ R s=>s.heap.get? l=some ⟨.type "tuple",dd,.seq its n,sl⟩/\(k=1->R (.ok (.ret (Value.ref l))) s)/\(k≠1->R (.ok (.ret (Value.ref s.heap.objs.size))) {s with heap:=s.heap.push {cls:=.type "tuple",data:=.seq (List.foldl (·++·) #[] (List.replicate k.toNat its))}})):=.of_wp fun prog w A R s h=>by
  obtain⟨hp,g,d,tk,os⟩:=s;obtain⟨hl,q1,q2⟩:=h;have hem:its.isEmpty=false:=by cases e:its.isEmpty with|false=>rfl|true=>rw[Array.isEmpty_iff_size_eq_zero]at e;omega
  show wpAny _ _ (asIndex (.int k t)>>=_) _ _ _;wp_walk using wpAny_loadPart' hl;have hI:IsTup hp l its:=⟨_,hl,rfl,n,rfl⟩;rw[if_neg (by simp;omega)];refine wpAny_bind (PyProof.Rows.tupleItemsOf_ hI ?_);try dsimp only
  by_cases e1:k=1;.rw[if_pos (by simp[e1])];wp_walk using wpAny_loadPart' hl;exact⟨_,rfl,q1 e1⟩
  . have q:=q2 e1;rw[if_neg (by simp[hem,e1])];by_cases e0:k=0;.subst e0;rw[if_pos (by simp)];unfold Builtin.Tuple.tupleExact;refine wpAny_bind (wpAny_newObj_type ?_);exact wpAny_pure ⟨_,rfl,q⟩
    . have hb:(its.size:Int)*k<=sizeLine:=by
       have:((its.size*k.toNat:Nat):Int)<=(sizeLine:Nat):=by exact_mod_cast hz
       rw[Int.natCast_mul,show((k.toNat:Nat):Int)=k by omega]at this;exact this
      have hs2:(sizeLine:Int)<=(2^63-1)/8:=by decide
      rw[if_neg (by simp[hem];omega),if_neg (by omega),if_neg (by simp[Builtin.Tuple.tupleTooMany];omega)];unfold Builtin.Tuple.tupleExact;refine wpAny_bind (wpAny_newObj_type ?_ ?_);.exact wpAny_pure ⟨_,rfl,q⟩
      .have:=foldl_rep its.toList k.toNat [];rw[List.nil_append,show its.toList.toArray=its by simp]at this;show(List.foldl (·++·) #[] (List.replicate k.toNat its)).size<=sizeLine;rw[show(#[]:Array Value)=([]:List Value).toArray from rfl,this,List.size_toArray,len_rep,Array.length_toList,Nat.mul_comm];exact hz
theorem Jt:fH X (binaryOp .Mult) (fun x y H Q=>∃l k xs,x=.ref l/\y=.int k/\jC X.K H l xs/\0<xs.length/\0<=k/\k<2^63/\xs.length*k.toNat<=sizeLine/\(k=1->Q (.ref l) H)/\(k≠1->∀p,H p=none->Q (.ref p) (upd H p (.tup (List.replicate k.toNat xs).flatten)))):=by
 intro pins s σ H x y v u Q I rx ry h;obtain⟨l,k,xs,rfl,rfl,hl,hne,h1,h2,hz,qa,qb⟩:=h;cases rx;obtain⟨t,rfl⟩:=ry;obtain⟨its,r,pl,_⟩:=I.tuple hl;obtain⟨⟨cls,dd,data,sl⟩,ho,hc,n,hd⟩:=id pl;simp only at hc hd;subst hc hd;have hlen:its.toArray.size*k.toNat<=sizeLine:=by rw[List.size_toArray,<-r.length];exact hz
 have hnew:List.foldl (·++·) #[] (List.replicate k.toNat its.toArray)=(List.replicate k.toNat its).flatten.toArray:=by have:=foldl_rep its k.toNat [];rw[List.nil_append]at this;exact this
 refine wpAny_binaryOp_repeat_ref (T:="tuple") (U:="int") (by decide) ⟨_,ho,rfl⟩ (fun s'=>typeIs_int s' k t) mQ F.fills_int_mul F.slot_int_rmul tK F.slot_int_index.lookup ?_;refine call_meets F.slot_int_rmul (typeIs_int s k t) F.entry_int_rmul (F.args_int_rmul_2 _ _) (qF k t l its.toArray n dd sl) ⟨ho,rfl,⟨_,ho,rfl⟩,?_⟩;refine call_meets PySem.F.slot_tuple_mul ⟨_,ho,rfl⟩ PySem.F.entry_tuple_mul (PySem.F.args_tuple_mul_2 _ _) (yF l its.toArray n dd sl k t h1 h2 hlen (by rw[List.size_toArray,<-r.length];exact hne)) ⟨ho,fun e=>⟨.ref l,H,I,rfl,qa e⟩,fun e=>?_⟩;rw[hnew];refine⟨.ref s.heap.objs.size,_,I.laid (t':=s.toks) (o:=.tup (List.replicate k.toNat xs).flatten) (fun b ob q=>Heap.get?_push_of_some _ q) (Nat.le_refl _) ?_,rfl,qb e _ (I.hok.fresh (Nat.le_refl _))⟩;exact⟨by rw[len_rep,Nat.mul_comm];exact hz,_,r.rep k.toNat,IsTup.new _ _⟩
theorem jD:fH X (binaryOp .Mult) (rD X.K (uD .mul)):=by
 rintro pins s σ H x y v u Q I rx ry⟨F,d,e,r,sm,px,py,he,k⟩;replace he:qm d e=some r:=he;unfold qm at he;split at he;.obtain⟨hc,he⟩:=bw he;subst he;rw[px.int]at rx;rw[py.int]at ry;exact QX pins s σ H _ _ v u Q I rx ry ⟨_,_,rfl,rfl,hc,cM.eV sm (cJ _) k⟩
 . rename_i xs i;obtain⟨⟨h1,h2,h3⟩,he⟩:=bw he;subst he;obtain⟨a,vs,rfl,ha,ra⟩:=px.lst sm;rw[py.int]at ry;have hk:i<2^63:=by have h4:=Nat.le_mul_of_pos_left i.toNat h2;have h5:i.toNat<=16777216:=Nat.le_trans h4 h3;omega
   exact Kh pins s σ H _ _ v u Q I rx ry ⟨a,i,vs,rfl,rfl,ha,by omega,hk,by rw[ra.length];exact h3,fun p hp=>wJ sm (ra.rep i.toNat) hp k⟩
 . rename_i xs i;obtain⟨⟨h1,h2,h3⟩,he⟩:=bw he;subst he;obtain⟨a,vs,rfl,ha,ra,rr⟩:=px.tup sm;rw[py.int]at ry;have hk:i<2^63:=by have h4:=Nat.le_mul_of_pos_left i.toNat h2;have h5:i.toNat<=16777216:=Nat.le_trans h4 h3;omega
   refine Jt pins s σ H _ _ v u Q I rx ry ⟨a,i,vs,rfl,rfl,ha,by rw[ra.length];exact h2,h1,hk,by rw[ra.length];exact h3,fun e=>?_,fun e p hp=>Dp sm (ra.rep i.toNat) hp k⟩;subst e;refine cM.eV sm ?_ k;have e1:(List.replicate (1:Int).toNat xs).flatten=xs:=by simp
   rw[e1];exact rr
 .cases he
theorem wN:fH X (binaryOp .FloorDiv) (rD X.K (uD .fdiv)):=by
 rintro pins s σ H x y v u Q I rx ry⟨F,d,e,r,sm,px,py,he,k⟩;replace he:qt d e=some r:=he;unfold qt at he;split at he
 . rename_i i j;obtain⟨⟨h1,h2⟩,he⟩:=bw he;subst he;rw[px.int]at rx;rw[py.int]at ry;obtain⟨t,rfl⟩:=rx;obtain⟨t',rfl⟩:=ry;have hl:j.natAbs.log2<9000:=by
    have:j.natAbs<2^200:=by
     have:(2:Nat)^200=1606938044258990275541962092341162602522202993782792835301376:=by decide
     omega
    have h3:=(Nat.log2_lt (by omega)).mpr this;omega
   exact floordiv_int (by omega) (by rw[Int.fdiv_eq_ediv_of_nonneg i (by omega)];exact⟨.int _,H,I.tok _,⟨_,rfl⟩,cM.eV sm (cJ _) k⟩) (.inl (PyProof.noPylong_of_log2 hl))
 .cases he
theorem fP:fH X (binaryOp .Mod) (rD X.K (uD .mod)):=by
 rintro pins s σ H x y v u Q I rx ry⟨F,d,e,r,sm,px,py,he,k⟩;replace he:wI d e=some r:=he;unfold wI at he;split at he;.obtain⟨h1,he⟩:=bw he;subst he;rw[px.int]at rx;rw[py.int]at ry;exact Q5 pins s σ H _ _ v u Q I rx ry ⟨_,_,rfl,rfl,h1,cM.eV sm (cJ _) k⟩
 .cases he
theorem Bf:fH X (binaryOp .Pow) (rD X.K (uD .pow)):=by
 rintro pins s σ H x y v u Q I rx ry⟨F,d,e,r,sm,px,py,he,k⟩;replace he:xn d e=some r:=he;unfold xn at he;split at he;.obtain⟨⟨h1,h2,h3⟩,he⟩:=bw he;subst he;rw[px.int]at rx;rw[py.int]at ry;exact Rf pins s σ H _ _ v u Q I rx ry ⟨_,_,rfl,rfl,⟨h1,by omega,h3⟩,cM.eV sm (cJ _) k⟩
 .cases he
theorem aL{o:Op}{op:Operator}(ho:fH X (binaryOp op) (rD X.K (uD o)))(ha:SX X c a pa)(hb:SX X c b pb):SX X c (.BinOp a op b pos) (.bin o pa pb):=uB (fun h1 h2=>We ho h1 h2) ha hb (fun ρ=>rfl) rfl
theorem my(ha:SX X c a pa):SX X c (.UnaryOp .USub a pos) (.neg pa):=by refine Pr (f:=HD) (fun h1=>Wk ?_ h1) ha (fun ρ=>rfl) rfl;rintro pins s σ H x v Q I rx⟨F,d,r,sm,px,he,k⟩;unfold HD at he;obtain⟨i,e1,e2⟩:=map_some he;subst e2;cases d<;>cases e1;rw[px.int]at rx;exact Qd pins s σ H _ v Q I rx ⟨_,rfl,cM.eV sm (cJ _) k⟩
theorem Ao{op:CmpOp}{f:Int->Int->Bool}(ho:fH X (compareOp op) (Je fun i j=>.bl (f i j))):fH X (compareOp op) (rD X.K fun x y=>(Jf f x y).map fun k=>.val (.bl k)):=by
 rintro pins s σ H x y v u Q I rx ry⟨F,d,e,r,sm,px,py,he,k⟩;obtain⟨t,e1,e2⟩:=map_some (show(Jf f d e).map _=some r from he);subst e2;unfold Jf at e1;split at e1;.cases e1;rw[px.int]at rx;rw[py.int]at ry;exact ho pins s σ H _ _ v u Q I rx ry ⟨_,_,rfl,rfl,cM.eV sm (iT _) k⟩
 .cases e1
theorem zg{op:CmpOp}{f:Int->Int->Bool}(ho:fH X (compareOp op) (Je fun i j=>.bl (f i j))){o:Cm}(hc:cm o=Jf f):fH X (compareOp op) (rD X.K (lW o)):=by
 have e:lW o=fun x y=>(Jf f x y).map fun k=>.val (.bl k):=by funext x y;unfold lW;rw[hc]
 rw[e];exact Ao ho
theorem Rr:fH X (compareOp .Lt) (rD X.K fun x y=>(Jf (fun i j=>decide (i<j)) x y).map fun k=>.val (.bl k)):=Ao Ys
theorem jo:fH X (compareOp .LtE) (rD X.K (lW .le)):=zg Wg rfl
theorem uA:fH X (compareOp .Gt) (rD X.K (lW .gt)):=zg WM rfl
theorem u9:fH X (compareOp .GtE) (rD X.K (lW .ge)):=zg VV rfl
theorem eG{o:Cm}{op:CmpOp}(ho:fH X (compareOp op) (rD X.K (lW o)))(ha:SX X c a pa)(hb:SX X c b pb)(hm:behindInMarks op b=false):SX X c (.Compare a [op] [b] pos) (.cmp o pa pb):=uB (fun h1 h2=>Kz ho h1 h2 hm) ha hb (fun ρ=>rfl) rfl
theorem vU{o o':Cm}{op op':CmpOp}(ho:fH X (compareOp op) (rD X.K (lW o)))(ho':fH X (compareOp op') (rD X.K (lW o')))(ha:SX X c a pa)(hb:SX X c b pb)(hd:SX X c d pd)(hm:lastMarks [op,op'] [b,d]=false:=by with_unfolding_all rfl):SX X c (.Compare a [op,op'] [b,d] pos) (.chain o o' pa pb pd):=by
 obtain⟨ta,tb,h1,h2,h3⟩:=ha.gR hb;obtain⟨td,h4,h5⟩:=hd.dz;refine⟨dX (Gk ho ho' h1 h2 h4 hm) ?_,fun i h=>by cases h⟩;rintro σ H Q⟨F,ρ,r,ρ',g,e,k⟩;rw[HH.E9]at e;obtain⟨xy,ρ1,e1,e⟩:=ao e;obtain⟨t,ρ2,e2,e⟩:=ao e;have zz:=aF e2;clear e2;obtain⟨e2,e3⟩:=zz;subst e3;have hfl:flat xy.2=true/\cm o xy.1 xy.2=some t:=by
  split at e2;.rename_i hf;exact⟨hf,e2⟩
  .cases e2
 obtain⟨hfl,e2⟩:=hfl;refine h3 g e1 fun v u F' H' s pv pu=>⟨F',xy.1,xy.2,.val (.bl t),s.gs.sub,pv,pu,by unfold lW;rw[e2];rfl,fun w F2 H2 x rn=>?_⟩;have s2:=s.trans (x.stp s.gs);have rn:Rep X.K F2 w (.bl t):=rn;rw[Rep]at rn;subst rn;refine⟨t,rfl,?_⟩;cases t with|false=>rw[if_neg Bool.false_ne_true]at e ⊢;cases e;exact k _ F2 H2 s2 (show Rep X.K F2 _ _ from iT _)|true=>
   rw[if_pos rfl]at e ⊢;obtain⟨z,ρ3,e3,e⟩:=ao e;obtain⟨e4,e5⟩:=aF e;subst e5;refine h5 s2.gs e3 fun w F3 H3 s3 pw=>⟨F3,xy.2,z,r,s3.gs.sub,?_,pw,e4,fun w' F4 H4 x4 rn=>?_⟩
   . have x1:=x.fs;have x2:=s3.dm;rcases pu with pu|⟨_,_,_,_,_,_,h⟩;.exact .inl ((pu.mono x1).mono x2)
     .rw[h]at hfl;cases hfl
   .have s4:=s2.trans s3;exact k w' F4 H4 (s4.trans (x4.stp s4.gs)) (.later s4 (rn.pO s4.gs))
end
end HH
end
section
namespace HH
open PySem L2 PySem.Spec PyProof.Rows
section
variable{X:Cx}{c:Call}{e a b d:Expr}{p pa pb pd:P}{pos:Pos}{rest:List Expr}
theorem qH{x:D}{k:Bool}(h:ye x=some k):x=.bl k:=by cases x<;>cases h;rfl
theorem eY{x:D}{k:Int}(h:oh x=some k):x=.int k:=by cases x<;>cases h;rfl
theorem cO.bool{K:PySem.W.Frag}{F' H' H:Hp}{ρ' ρ:List Sl}{σ' σ:L2.St}{v:V}{r:R}{k:Bool}(h:cO K F' ρ' σ' H' ρ σ H v r)(e:r.d=.bl k):v=.bl k:=by cases r with|val d=>cases(show d=.bl k from e);have h:Rep K F' v (.bl k):=h;rw[Rep]at h;exact h|own ds=>cases e
noncomputable def ST(X:Cx)(c:Call)(e:Expr)(p:P):Prop:=PT X e (N5 X.K (jM (HH.ev c p)))
noncomputable def SW(X:Cx)(c:Call)(e:Expr)(p:P):Prop:=PW X e (N5 X.K (jM (HH.ev c p)))
theorem SW.st(h:SW X c e p):ST X c e p:=PW.pt h
theorem tM{t:TE}{Q:Bool->Hp->Prop}{σ:L2.St}{H:Hp}(hi:∀Q,Ff X.K (HH.ev c p) σ H Q->t σ H Q)(h:N5 X.K (jM (HH.ev c p)) σ H Q):t σ H fun x H1=>∃k,x=.bl k/\Q k H1:=by obtain⟨F,ρ,k,ρ',g,e,q⟩:=h;obtain⟨r,ρ1,e1,e2⟩:=ao e;have zz:=aF e2;clear e2;obtain⟨e2,e3⟩:=zz;subst e3;exact hi _ ⟨F,ρ,r,ρ1,g,e1,fun v F' H' s rr=>⟨k,rr.bool (qH e2),q F' H' s⟩⟩
theorem dN(h:SX X c e p)(he:∀whole,isTrue e X.env whole=(do let v<-whole;standAt e.pos;holding [v] (truthy v)):=by intro _;rfl):ST X c e p:=Bo (SN h.ev he) fun σ H Q q=>tM (fun _ z=>z) q
theorem bG{o:Cm}{op:CmpOp}(ho:fH X (compareOp op) (rD X.K (lW o)))(ha:SX X c a pa)(hb:SX X c b pb)(hm:behindInMarks op b=false):ST X c (.Compare a [op] [b] pos) (.cmp o pa pb):=by obtain⟨ta,tb,h1,h2,h3⟩:=ha.gR hb;refine Bo (LK ho h1 h2 hm) fun σ H Q q=>tM (t:=Vb (rD X.K (lW o)) ta tb) (fun Q z=>?_) q;obtain⟨F,ρ,r,ρ',g,e,k⟩:=z;rw[HH.E8]at e;obtain⟨xy,ρ1,e1,e2⟩:=ao e;have zz:=aF e2;clear e2;obtain⟨e2,e3⟩:=zz;subst e3;refine h3 g e1 fun v u F' H' s pv pu=>⟨F',xy.1,xy.2,r,s.gs.sub,pv,pu,e2,fun w F2 H2 x rn=>?_⟩;exact k w F2 H2 (s.trans (x.stp s.gs)) (.later s (rn.pO s.gs))
theorem fK(ha:ST X c a pa):ST X c (.UnaryOp .Not a pos) (.not pa):=by
 refine Bo (RT ha) ?_;rintro σ H Q⟨F,ρ,k,ρ',g,e,q⟩;unfold jM at e;rw[HH.E5]at e;obtain⟨r,ρ1,e1,e2⟩:=ao e;obtain⟨k',ρ2,e3,e4⟩:=ao e1;cases e4;have zz:=aF e2;clear e2;obtain⟨e2,e5⟩:=zz;subst e5;have e2:(!k')=k:=by cases e2;rfl
 exact⟨F,ρ,k',_,g,e3,fun F' H' s=>by show Q (!k') H';rw[e2];exact q F' H' s⟩
theorem KZ(ρ:List Sl):jM (HH.ev c (.and pa pb)) ρ=(jM (HH.ev c pa) ρ).bind fun x ρ=>if x then jM (HH.ev c pb) ρ else .ok false ρ:=by unfold jM;rw[HH.E6];unfold jM;cases HH.ev c pa ρ with|exc _ _=>rfl|stuck=>rfl|ok r ρ1=>simp only[Res.bind];cases h:ye r.d with|none=>rfl|some k=>cases k with|false=>rfl|true=>simp only[lift,if_true];cases HH.ev c pb ρ1 with|exc _ _=>rfl|stuck=>rfl|ok r2 ρ2=>simp only[Res.bind];cases h2:ye r2.d with|none=>rfl|some k2=>rfl
theorem Qg(ρ:List Sl):jM (HH.ev c (.or pa pb)) ρ=(jM (HH.ev c pa) ρ).bind fun x ρ=>if x then .ok true ρ else jM (HH.ev c pb) ρ:=by unfold jM;rw[HH.E7];unfold jM;cases HH.ev c pa ρ with|exc _ _=>rfl|stuck=>rfl|ok r ρ1=>simp only[Res.bind];cases h:ye r.d with|none=>rfl|some k=>cases k with|true=>rfl|false=>simp only[lift,Bool.false_eq_true,if_false];cases HH.ev c pb ρ1 with|exc _ _=>rfl|stuck=>rfl|ok r2 ρ2=>simp only[Res.bind];cases h2:ye r2.d with|none=>rfl|some k2=>rfl
theorem uH(ha:ST X c a pa):SW X c (.BoolOp .And [a] pos) pa:=JS ha
theorem jg(ha:ST X c a pa):SW X c (.BoolOp .Or [a] pos) pa:=Qc ha
theorem yE(ha:ST X c a pa)(hb:SW X c (.BoolOp .And (b::rest) pos) pb):SW X c (.BoolOp .And (a::b::rest) pos) (.and pa pb):=by refine Nr (Pk ha hb) ?_;rintro σ H Q⟨F,ρ,k,ρ',g,e,q⟩;rw[KZ]at e;obtain⟨x,ρ1,e1,e⟩:=ao e;refine⟨F,ρ,x,ρ1,g,e1,fun F1 H1 s1=>?_⟩;cases x with|true=>rw[if_pos rfl]at e ⊢;exact⟨F1,ρ1,k,ρ',s1.gs,e,fun F2 H2 s2=>q F2 H2 (s1.trans s2)⟩|false=>rw[if_neg Bool.false_ne_true]at e ⊢;cases e;exact q F1 H1 s1
theorem jO(ha:ST X c a pa)(hb:SW X c (.BoolOp .Or (b::rest) pos) pb):SW X c (.BoolOp .Or (a::b::rest) pos) (.or pa pb):=by refine Nr (Vn ha hb) ?_;rintro σ H Q⟨F,ρ,k,ρ',g,e,q⟩;rw[Qg]at e;obtain⟨x,ρ1,e1,e⟩:=ao e;refine⟨F,ρ,x,ρ1,g,e1,fun F1 H1 s1=>?_⟩;cases x with|true=>rw[if_pos rfl]at e ⊢;cases e;exact q F1 H1 s1|false=>rw[if_neg Bool.false_ne_true]at e ⊢;exact⟨F1,ρ1,k,ρ',s1.gs,e,fun F2 H2 s2=>q F2 H2 (s1.trans s2)⟩
theorem oF{op}(ha:SX X c a pa):PE X (.BoolOp op [a] pos) (Ff X.K (HH.ev c pa)):=RW ha.ev
theorem mH(ha:SX X c a pa)(hb:PE X (.BoolOp .And (b::rest) pos) (Ff X.K (HH.ev c pb))):SX X c (.BoolOp .And (a::b::rest) pos) (.and pa pb):=by refine⟨dX (O3 ha.ev hb) ?_,fun i h=>by cases h⟩;rintro σ H Q⟨F,ρ,r,ρ',g,e,k⟩;rw[HH.E6]at e;obtain⟨x,ρ1,e1,e⟩:=ao e;refine tM (c:=c) (fun _ z=>z) (Q:=fun x H1=>if x=true then Ff X.K (HH.ev c pb) σ H1 Q else Q (.bl false) H1) ⟨F,ρ,x,ρ1,g,e1,fun F1 H1 s1=>?_⟩;cases x with|true=>rw[if_pos rfl]at e ⊢;obtain⟨y,ρ2,e2,e3⟩:=ao e;cases e3;obtain⟨r2,ρ3,e4,e5⟩:=ao e2;have zz:=aF e5;clear e5;obtain⟨e5,e6⟩:=zz;subst e6;refine⟨F1,ρ1,r2,_,s1.gs,e4,fun v F2 H2 s2 rr=>?_⟩;rw[rr.bool (qH e5)];exact k _ F2 H2 (s1.trans s2) (show Rep X.K F2 _ _ from iT _)|false=>rw[if_neg Bool.false_ne_true]at e ⊢;cases e;exact k _ F1 H1 s1 (show Rep X.K F1 _ _ from iT _)
theorem Rt(hc:ST X c e p)(ha:SX X c a pa)(hb:SX X c b pb):SX X c (.IfExp e a b pos) (.YC p pa pb):=by refine⟨dX (G8 hc ha.ev hb.ev) ?_,fun i h=>by cases h⟩;rintro σ H Q⟨F,ρ,r,ρ',g,e,k⟩;rw[HH.E10]at e;obtain⟨x,ρ1,e1,e⟩:=ao e;refine⟨F,ρ,x,ρ1,g,e1,fun F1 H1 s1=>?_⟩;cases x with|true=>rw[if_pos rfl]at e ⊢;obtain⟨r2,ρ2,e2,e3⟩:=ao e;cases e3;refine⟨F1,ρ1,r2,_,s1.gs,e2,fun v F2 H2 s2 rr=>?_⟩;obtain⟨F3,s3,_,rp⟩:=s2.fW rr;exact k v F3 H2 (s1.trans s3) rp|false=>rw[if_neg Bool.false_ne_true]at e ⊢;obtain⟨r2,ρ2,e2,e3⟩:=ao e;cases e3;refine⟨F1,ρ1,r2,_,s1.gs,e2,fun v F2 H2 s2 rr=>?_⟩;obtain⟨F3,s3,_,rp⟩:=s2.fW rr;exact k v F3 H2 (s1.trans s3) rp
theorem jJ:∀{ps:List P}{ρ ρ':List Sl}{ds:List D},evs c ps ρ=.ok ds ρ'->ds.length=ps.length|[],_,_,_,h=>by rw[evs]at h;cases h;rfl|p::ps,_,_,_,h=>by rw[evs]at h;obtain⟨r,ρ1,_,h⟩:=ao h;obtain⟨xs,ρ2,h2,h⟩:=ao h;cases h;simp[jJ h2]
theorem aQ:SA X c [] []:=⟨wg gD fun σ H Q⟨F,ρ,ds,ρ',g,e,k⟩=>by rw[evs]at e;cases e;exact k [] F H (.refl g) .nil,rfl⟩
theorem oK{es:List Expr}{ps:List P}(ha:SX X c a pa)(hr:SA X c es ps)(hs:starEach (a::es) X.env=(false,eval a X.env)::starEach es X.env:=by rfl):SA X c (a::es) (pa::ps):=by refine⟨wg (cR ha.ev hr.1 hs) ?_,by simp[hr.2]⟩;rintro σ H Q⟨F,ρ,ds,ρ',g,e,k⟩;rw[evs]at e;obtain⟨r,ρ1,e1,e⟩:=ao e;obtain⟨xs,ρ2,e2,e⟩:=ao e;cases e;refine⟨F,ρ,r,ρ1,g,e1,fun v F' H' s rr=>?_⟩;obtain⟨F1,s1,_,rp⟩:=s.fW rr;refine⟨F1,ρ1,xs,_,s1.gs,e2,fun vs F2 H2 s2 rs=>?_⟩;exact k _ F2 H2 (s1.trans s2) (.cons (rp.mono s2.dm) rs)
theorem Ext.K6{K:PySem.W.Frag}{F H:Hp}{ρ ρ':List Sl}{σ:L2.St}{H0 F0:Hp}{Q:VK}{xs:List V}{ds:List D}(s:cA K F0 ρ σ H0 F ρ' σ H)(r:aH K F xs ds)(k:∀v F' H',cA K F0 ρ σ H0 F' ρ' σ H'->cO K F' ρ' σ H' ρ σ H0 v (.val (.tup ds))->Q v H')(p:Addr)(hp:H p=none):Q (.ref p) (upd H p (.tup xs)):=Dp s.gs.sub r hp fun v F' H' x rn=>k v F' H' (s.trans (x.stp s.gs)) rn
theorem dO{es:List Expr}{ps:List P}{x1}(h:SA X c es ps)(hz:ps.length<=sizeLine:=by decide):SX X c (.Tuple es x1 pos) (.tup ps):=by refine⟨dX (ug h.1) ?_,fun i h=>by cases h⟩;rintro σ H Q⟨F,ρ,r,ρ',g,e,k⟩;rw[HH.E11]at e;obtain⟨ds,ρ1,e1,e⟩:=ao e;cases e;exact⟨F,ρ,ds,_,g,e1,fun vs F' H' s rs=>⟨by rw[rs.length,jJ e1];exact hz,fun p hp=>Ext.K6 s rs k p hp⟩⟩
theorem cW{es:List Expr}{ps:List P}(h:SA X c es ps)(hz:ps.length<=sizeLine:=by decide):SX X c (.List es pos) (.lst ps):=by refine⟨dX (Rx h.1) ?_,fun i h=>by cases h⟩;rintro σ H Q⟨F,ρ,r,ρ',g,e,k⟩;rw[HH.E12]at e;obtain⟨ds,ρ1,e1,e⟩:=ao e;cases e;exact⟨F,ρ,ds,_,g,e1,fun vs F' H' s rs=>⟨by rw[rs.length,jJ e1];exact hz,fun p hp=>wJ s.gs.sub rs hp fun v F2 H2 x rn=>k v F2 H2 (s.trans (x.stp s.gs)) (.later s (rn.pO s.gs))⟩⟩
theorem O1{ds:List D}{i:Int}{d:D}(h:at' ds i=some d):∃j,L2.qz ds.length i=some j/\ds[j]?=some d:=dG h
theorem abX:Y6 X (rD X.K vB):=by
 rintro value slice pins s σ H x y v u Q I rx ry⟨F,d,e,r,sm,px,py,he,k⟩hs;unfold vB at he;obtain⟨ds,e1,he⟩:=dG he;obtain⟨i,e2,he⟩:=dG he;obtain⟨z,e3,he⟩:=map_some he;subst he;cases eY e2;rw[py.int]at ry;obtain⟨p,xs,rfl,hq,rs⟩:=px.items sm e1;obtain⟨j,h1,h2⟩:=O1 e3;obtain⟨w,h3,h4⟩:=rs.get h2;have hat:Uk xs i=some w:=by unfold Uk;rw[rs.length,h1];exact h3
 rcases hq with hq|hq;.exact Kl value slice pins s σ H _ _ v u Q I rx ry ⟨p,xs,i,w,rfl,rfl,hq,hat,cM.eV sm h4 k⟩ hs
 .exact Rg value slice pins s σ H _ _ v u Q I rx ry ⟨p,xs,i,w,rfl,rfl,hq,hat,cM.eV sm h4 k⟩ hs
theorem az(ha:SX X c a pa)(hb:SX X c b pb)(hs:Ae b:=by intro _ _;rfl):SX X c (.Subscript a b pos) (.idx pa pb):=uB (f:=vB) (fun h1 h2=>Xj abX h1 h2 hs) ha hb (fun ρ=>rfl) rfl
noncomputable def N6(K:PySem.W.Frag)(f:D->Option R):List V->Hp->VK->Prop:=fun xs H Q=>∃x,xs=[x]/\rD1 K f x H Q
theorem pZ{E:Expr}{f:D->Option R}{q:P}(hp:∀{t},PA X [a] t->PE X E (tCB (N6 X.K f) t))(ha:SX X c a pa)(hq:∀ρ,HH.ev c q ρ=(HH.dz (isVar pa) (HH.ev c pa) ρ).bind fun x ρ=>lift (f x) ρ)(hv:isVar q=none)(hs:starEach [a] X.env=(false,eval a X.env)::starEach [] X.env:=by rfl):SX X c E q:=by obtain⟨ta,h1,h3⟩:=ha.dz;refine⟨dX (hp (cR h1 gD hs)) ?_,fun i h=>by rw[hv]at h;cases h⟩;rintro σ H Q⟨F,ρ,r,ρ',g,e,k⟩;rw[hq]at e;obtain⟨x,ρ1,e1,e2⟩:=ao e;have zz:=aF e2;clear e2;obtain⟨e2,e3⟩:=zz;subst e3;refine h3 g e1 fun v F' H' s pv=>⟨v,rfl,F',x,r,s.gs.sub,pv,e2,fun w F2 H2 x rn=>?_⟩;exact k w F2 H2 (s.trans (x.stp s.gs)) (.later s (rn.pO s.gs))
theorem Xz:fc X (.builtin "len") (N6 X.K fun x=>blt .len [x]):=by rintro pins s σ H xs us Q I r⟨x,hx,F,d,r',sm,px,he,k⟩;obtain⟨ds,e1,he⟩:=map_some (show(items d).map _=some r' from he);subst he;obtain⟨p,ys,rfl,hq,rs⟩:=px.items sm e1;exact uR pins s σ H xs us Q I r ⟨p,ys,hx,hq,by rw[rs.length];exact cM.eV sm (cJ _) k⟩
theorem RB:fc X (.type "list") (N6 X.K fun x=>blt .list [x]):=by rintro pins s σ H xs us Q I r⟨x,hx,F,d,r',sm,px,he,k⟩;obtain⟨ds,e1,he⟩:=map_some (show(items d).map _=some r' from he);subst he;obtain⟨p,ys,rfl,hq,rs⟩:=px.items sm e1;exact tR pins s σ H xs us Q I r ⟨p,ys,hx,hq,fun l hl=>wJ sm rs hl k⟩
theorem Kd:fc X (.type "tuple") (N6 X.K fun x=>blt .tuple [x]):=by rintro pins s σ H xs us Q I r⟨x,hx,F,d,r',sm,px,he,k⟩;obtain⟨ds,e1,he⟩:=map_some (show(items d).map _=some r' from he);subst he;cases d with|tup es=>cases e1;obtain⟨a,ys,rfl,hq,rs,rt⟩:=px.tup sm;exact jR pins s σ H xs us Q I r ⟨a,ys,hx,.inr ⟨hq,cM.eV sm rt k⟩⟩|lst es=>cases e1;obtain⟨a,ys,rfl,hq,rs⟩:=px.lst sm;exact jR pins s σ H xs us Q I r ⟨a,ys,hx,.inl ⟨hq,fun l hl=>Dp sm rs hl k⟩⟩|_=>cases e1
theorem gO{x:Str}{p':Pos}(hx:x="len")(hg:Gl X x)(hm:X.mg x=none)(ha:SX X c a pa)(hs:starEach [a] X.env=(false,eval a X.env)::starEach [] X.env:=by rfl):SX X c (.Call (.Name x p') [a] [] pos) (.blt .len [pa]):=by subst hx;exact pZ (fun h=>fu Xz hg hm PySem.boot_len h (he:=hs)) ha (fun ρ=>rfl) rfl hs
theorem uK{x:Str}{p':Pos}(hx:x="list")(hg:Gl X x)(hm:X.mg x=none)(ha:SX X c a pa)(hs:starEach [a] X.env=(false,eval a X.env)::starEach [] X.env:=by rfl):SX X c (.Call (.Name x p') [a] [] pos) (.blt .list [pa]):=by subst hx;exact pZ (fun h=>rO RB hg hm (by decide+kernel) h (he:=hs)) ha (fun ρ=>rfl) rfl hs
theorem kJ{x:Str}{p':Pos}(hx:x="tuple")(hg:Gl X x)(hm:X.mg x=none)(ha:SX X c a pa)(hs:starEach [a] X.env=(false,eval a X.env)::starEach [] X.env:=by rfl):SX X c (.Call (.Name x p') [a] [] pos) (.blt .tuple [pa]):=by subst hx;exact pZ (fun h=>rO Kd hg hm (by decide+kernel) h (he:=hs)) ha (fun ρ=>rfl) rfl hs
end
end HH
end
section
namespace HH
open PySem L2 PySem.Spec PyProof.Rows
noncomputable def gn(K:PySem.W.Frag)(np:Nat)(f:List Sl->Res R):Sp:=fun vs H Q _=>vs.length=np/\∃F args r args',GS K F args (vs.map some) H/\f args=.ok r args'/\∀v F' σ' H',cA K F args (vs.map some) H F' args' σ' H'->cO K F' args' σ' H' args (vs.map some) H v r->Q v H'
section
variable{K:PySem.W.Frag}
noncomputable def yf(K:PySem.W.Frag)(F:Hp)(ρ:List Sl)(σ:L2.St)(H:Hp)(ρ₀:List Sl)(H₀:Hp)(v:V):Arg->Prop|.dat d=>Rep K F v d|.tmp ds=>∃x xs,v=.ref x/\H x=some (.lst xs)/\F x=none/\aH K F xs ds/\¬ Own ρ σ x/\(Own ρ₀ σ x\/H₀ x=none)|.fJ i=>σ[i]?=some (some v)
structure wK(K:PySem.W.Frag)(F:Hp)(ρ:List Sl)(σ:L2.St)(H:Hp)(ρ₀:List Sl)(H₀:Hp)(as:List Arg)(vs:List V):Prop where
 len:as.length=vs.length
 one:∀(j:Nat)(a:Arg)(v:V),as[j]?=some a->vs[j]?=some v->yf K F ρ σ H ρ₀ H₀ v a
 dis:∀(j k:Nat)(ds es:List D)(x:Addr),as[j]?=some (.tmp ds)->as[k]?=some (.tmp es)->vs[j]?=some (.ref x)->vs[k]?=some (.ref x)->j=k
theorem yf.later{F F' H H' H₀:Hp}{ρ ρ' ρ₀:List Sl}{σ:L2.St}{v:V}{a:Arg}(s:cA K F ρ σ H F' ρ' σ H')(h:yf K F ρ σ H ρ₀ H₀ v a):yf K F' ρ' σ H' ρ₀ H₀ v a:=by cases a with|dat d=>exact Rep.mono s.dm h|fJ i=>exact h|tmp ds=>
   obtain⟨x,xs,h1,h2,h3,h4,h5,h6⟩:=h;refine⟨x,xs,h1,s.keep x _ h2 h5,?_,h4.mono s.dm,fun o=>?_,h6⟩;.cases q:F' x with|none=>rfl|some o=>
       rcases s.Eh x h3 (by rw[q];simp)with z|z;.exact absurd z h5
       .exact(IV h2 z).elim
   . rcases s.DY x o with z|z;.exact h5 z
     .rw[h2]at z;cases z
theorem wK.nil{F H H₀:Hp}{ρ ρ₀:List Sl}{σ:L2.St}:wK K F ρ σ H ρ₀ H₀ [] []:=⟨rfl,fun j a v h=>by simp at h,fun j k ds es x h=>by simp at h⟩
theorem wK.cons{F H H₀:Hp}{ρ ρ₀:List Sl}{σ:L2.St}{a:Arg}{v:V}{as:List Arg}{vs:List V}(h:yf K F ρ σ H ρ₀ H₀ v a)(t:wK K F ρ σ H ρ₀ H₀ as vs)(hd:∀ds x,a=.tmp ds->v=.ref x->∀(k:Nat)es,as[k]?=some (.tmp es)->vs[k]?≠some (.ref x)):wK K F ρ σ H ρ₀ H₀ (a::as) (v::vs):=by
 refine⟨by simp[t.len],fun j b u h1 h2=>?_,fun j k ds es x h1 h2 h3 h4=>?_⟩;.cases j with|zero=>simp at h1 h2;subst h1;subst h2;exact h|succ j=>exact t.one j b u (by simpa using h1) (by simpa using h2)
 .cases j with
   |zero=>cases k with|zero=>rfl|succ k=>simp at h1 h3;exact absurd (by simpa using h4) (hd ds x h1 h3 k es (by simpa using h2))
   |succ j=>cases k with|zero=>simp at h2 h4;exact absurd (by simpa using h3) (hd es x h2 h4 j ds (by simpa using h1))|succ k=>rw[t.dis j k ds es x (by simpa using h1) (by simpa using h2) (by simpa using h3) (by simpa using h4)]
noncomputable def HS(ρ:List Sl):Arg->Sl->Prop|.dat d,s=>s=.val false d|.tmp ds,s=>s=.own false ds|.fJ i,s=>(∃b d,ρ[i]?=some (.val b d)/\s=.val false d)\/(∃b ds,ρ[i]?=some (.own b ds)/\s=.own true ds)\/∃ds,ρ[i]?=some (.lent ds)/\s=.lent ds
theorem pG{ρ:List Sl}:∀{as:List Arg}{used:List Nat}{args:List Sl},bY ρ as used=some args->args.length=as.length/\(∀(j:Nat)(a:Arg)(s:Sl),as[j]?=some a->args[j]?=some s->HS ρ a s)/\(∀(j:Nat)(i:Nat)(s:Sl)ds,as[j]?=some (.fJ i)->args[j]?=some s->lst? s=some ds->i∉used)/\(∀(j k:Nat)(i:Nat)(s t:Sl)ds es,as[j]?=some (.fJ i)->as[k]?=some (.fJ i)->args[j]?=some s->args[k]?=some t->lst? s=some ds->lst? t=some es->j=k)
 |[],used,args,h=>by rw[bY]at h;cases h;exact⟨rfl,fun j a s h=>by simp at h,fun j i s ds h=>by simp at h,fun j k i s t ds es h=>by simp at h⟩|a::as,used,args,h=>by--the ac6 slot,the ac7
   have key:∃s0 r xQ,args=s0::r/\bY ρ as xQ=some r/\HS ρ a s0/\((∃i ds,a=.fJ i/\lst? s0=some ds/\xQ=i::used/\i∉used)\/((∀i ds,a=.fJ i->lst? s0≠some ds)/\xQ=used)):=by cases a with|dat d=>rw[bY]at h;obtain⟨r,e1,e2⟩:=map_some h;exact⟨_,r,used,e2.symm,e1,rfl,.inr ⟨fun i ds z=>(by cases z),rfl⟩⟩|tmp d=>rw[bY]at h;obtain⟨r,e1,e2⟩:=map_some h;exact⟨_,r,used,e2.symm,e1,rfl,.inr ⟨fun i ds z=>(by cases z),rfl⟩⟩|fJ i=>
      rw[bY]at h;split at h;.rename_i b d q;obtain⟨r,e1,e2⟩:=map_some h;exact⟨_,r,used,e2.symm,e1,.inl ⟨b,d,q,rfl⟩,.inr ⟨fun _ _ _ z=>(by cases z),rfl⟩⟩
      . rename_i b ds q;split at h;.cases h
        .rename_i hu;obtain⟨r,e1,e2⟩:=map_some h;exact⟨_,r,_,e2.symm,e1,.inr (.inl ⟨b,ds,q,rfl⟩),.inl ⟨i,_,rfl,rfl,rfl,by simpa using hu⟩⟩
      . rename_i ds q;split at h;.cases h
        .rename_i hu;obtain⟨r,e1,e2⟩:=map_some h;exact⟨_,r,_,e2.symm,e1,.inr (.inr ⟨ds,q,rfl⟩),.inl ⟨i,_,rfl,rfl,rfl,by simpa using hu⟩⟩
      .cases h
   obtain⟨s0,r,xQ,rfl,hr,hs0,hu⟩:=key;obtain⟨l1,l2,l3,l4⟩:=pG hr;have sub:∀i,i∉xQ->i∉used:=fun i hi hm=>by
    rcases hu with⟨_,_,_,_,rfl,_⟩|⟨_,rfl⟩;.exact hi (List.mem_cons_of_mem _ hm)
    .exact hi hm
   refine⟨by simp[l1],fun j b s h1 h2=>?_,fun j i s ds h1 h2 h3=>?_,fun j k i s t ds es h1 h2 h3 h4 h5 h6=>?_⟩;.cases j with|zero=>simp at h1 h2;subst h1;subst h2;exact hs0|succ j=>exact l2 j b s (by simpa using h1) (by simpa using h2)
   .cases j with|zero=>
       simp at h1 h2;subst h1;subst h2;rcases hu with⟨i',_,e,_,_,hn⟩|⟨hn,_⟩;.cases e;exact hn
       .exact absurd h3 (hn i ds rfl)|succ j=>exact sub i (l3 j i s ds (by simpa using h1) (by simpa using h2) h3)
   . have z0:∀(k:Nat)(t:Sl)es,a=.fJ i->lst? s0=some ds->(as[k]?=some (.fJ i))->r[k]?=some t->lst? t=some es->False:=fun k t es ea e0 hk ht he=>by
      rcases hu with⟨i',_,e,_,rfl,hn⟩|⟨hn,_⟩;.rw[ea]at e;cases e;exact l3 k i t es hk ht he List.mem_cons_self
      .exact hn i ds ea e0
     have z1:∀(k:Nat)(t:Sl)es,a=.fJ i->lst? s0=some es->(as[k]?=some (.fJ i))->r[k]?=some t->lst? t=some ds->False:=fun k t es ea e0 hk ht he=>by
      rcases hu with⟨i',_,e,_,rfl,hn⟩|⟨hn,_⟩;.rw[ea]at e;cases e;exact l3 k i t ds hk ht he List.mem_cons_self
      .exact hn i es ea e0
     cases j with
     |zero=>cases k with|zero=>rfl|succ k=>simp at h1 h3;subst h3;exact(z0 k t es h1 h5 (by simpa using h2) (by simpa using h4) h6).elim
     |succ j=>cases k with|zero=>simp at h2 h4;subst h4;exact(z1 j s es h2 h6 (by simpa using h1) (by simpa using h3) h5).elim|succ k=>rw[l4 j k i s t ds es (by simpa using h1) (by simpa using h2) (by simpa using h3) (by simpa using h4) h5 h6]
theorem wK.get{F H H₀:Hp}{ρ ρ₀:List Sl}{σ:L2.St}{as:List Arg}{vs:List V}(A:wK K F ρ σ H ρ₀ H₀ as vs){args:List Sl}{j:Nat}{s:Sl}(hl:args.length=as.length)(h:args[j]?=some s):∃a v,as[j]?=some a/\vs[j]?=some v/\yf K F ρ σ H ρ₀ H₀ v a:=by
 have hj:j<args.length:=(List.getElem?_eq_some_iff.mp h).1;have h1:j<as.length:=by omega
 have h2:j<vs.length:=by rw[<-A.len];exact h1
 exact⟨as[j],vs[j],by simp[h1],by simp[h2],A.one j _ _ (by simp[h1]) (by simp[h2])⟩
theorem args_gs{F H H₀:Hp}{ρ ρ₀:List Sl}{σ:L2.St}{as:List Arg}{vs:List V}{args:List Sl}(g:GS K F ρ σ H)(A:wK K F ρ σ H ρ₀ H₀ as vs)(h:bY ρ as []=some args):GS K F args (vs.map some) H:=by
 obtain⟨l1,l2,l3,l4⟩:=pG h;have up:∀{j:Nat}{v:V},vs[j]?=some v->(vs.map some)[j]?=some (some v):=fun e=>by rw[List.getElem?_map,e];rfl
 have dn:∀{j:Nat}{v:V},(vs.map some)[j]?=some (some v)->vs[j]?=some v:=fun{j v}e=>by rw[List.getElem?_map]at e;cases q:vs[j]?with|none=>rw[q]at e;cases e|some w=>rw[q]at e;cases e;rfl
 refine⟨g.sub,by rw[l1,A.len,List.length_map],fun j b d e=>?_,fun j s ds e e'=>?_,fun j k x⟨⟨s,ds,e1,e2⟩,e3⟩⟨⟨t,es,f1,f2⟩,f3⟩=>?_⟩;.obtain⟨a,v,h1,h2,h3⟩:=A.get l1 e;have h4:=l2 j a _ h1 e;refine⟨v,up h2,?_⟩;cases a with|dat d'=>cases h4;exact h3|tmp ds=>cases h4|fJ i=>
     rcases h4 with⟨b',d',q1,q2⟩|⟨_,_,_,q2⟩|⟨_,_,q2⟩;.cases q2;obtain⟨w,q3,q4⟩:=g.val i b' d q1;have h3:σ[i]?=some (some v):=h3;rw[h3]at q3;cases q3;exact q4
     .cases q2
     .cases q2
 .obtain⟨a,v,h1,h2,h3⟩:=A.get l1 e;have h4:=l2 j a _ h1 e;cases a with|dat d'=>cases h4;cases e'|tmp es=>cases h4;cases e';obtain⟨x,xs,rfl,q2,q3,q4,_⟩:=h3;exact⟨x,_,up h2,q2,q3,xs,rfl,q4⟩|fJ i=>
     have h3:σ[i]?=some (some v):=h3;rcases h4 with⟨b',d',q1,q2⟩|⟨b',es,q1,q2⟩|⟨es,q1,q2⟩;.cases q2;cases e'
     .cases q2;cases e';obtain⟨x,xs,q3,q4⟩:=g.own i _ _ q1 rfl;rw[h3]at q3;cases q3;exact⟨x,xs,up h2,q4⟩
     .cases q2;cases e';obtain⟨x,xs,q3,q4⟩:=g.own i _ _ q1 rfl;rw[h3]at q3;cases q3;exact⟨x,xs,up h2,q4⟩
 . obtain⟨a,v,h1,h2,h3⟩:=A.get l1 e1;obtain⟨a',v',h1',h2',h3'⟩:=A.get l1 f1;have e3:=dn e3;have f3:=dn f3;rw[h2]at e3;cases e3;rw[h2']at f3;cases f3;have s1:=l2 j a _ h1 e1;have s2:=l2 k a' _ h1' f1;have nm:∀{i:Nat}{s:Sl}{ds:Oc},lst? s=some ds->HS ρ (.fJ i) s->∃s' ds',ρ[i]?=some s'/\lst? s'=some ds':=fun{i s ds}l z=>by
    rcases z with⟨_,_,_,z⟩|⟨b,es,q,_⟩|⟨es,q,_⟩;.subst z;cases l
    .exact⟨_,_,q,rfl⟩
    .exact⟨_,_,q,rfl⟩
   cases a with
   |dat d=>cases s1;cases e2|tmp Ti=>cases a' with|dat d=>cases s2;cases f2|tmp Mz=>exact A.dis j k Ti Mz x h1 h1' h2 h2'|fJ i=>obtain⟨y,_,q1,_,_,_,q2,_⟩:=h3;cases q1;obtain⟨s',ds',q3,q4⟩:=nm f2 s2;exact absurd ⟨i,⟨s',ds',q3,q4⟩,h3'⟩ q2
   |fJ i=>obtain⟨s',ds',q3,q4⟩:=nm e2 s1;cases a' with|dat d=>cases s2;cases f2|tmp Mz=>obtain⟨y,_,q1,_,_,_,q2,_⟩:=h3';cases q1;exact absurd ⟨i,⟨s',ds',q3,q4⟩,h3⟩ q2|fJ i'=>obtain⟨s'',ac8,q5,q6⟩:=nm f2 s2;have:=g.dis i i' x ⟨⟨s',ds',q3,q4⟩,h3⟩ ⟨⟨s'',ac8,q5,q6⟩,h3'⟩;subst this;exact l4 j k i s t ds es h1 h1' e1 f1 e2 f2
theorem m5{as:List Arg}{ss:List Sl}:∀(ρ:List Sl)(n i:Nat),(cQ as ss n ρ)[i]?=(ρ[i]?).map fun s=>fj s (bh (n+i) as ss)
 |[],n,i=>by simp[cQ]|s::ρ,n,0=>by simp[cQ]|s::ρ,n,i+1=>by
   rw[cQ];simp only[List.getElem?_cons_succ];rw[m5 ρ (n+1) i];have:n+1+i=n+(i+1):=by omega
   rw[this]
theorem mG{as:List Arg}{ss:List Sl}:∀(ρ:List Sl)(n:Nat),(cQ as ss n ρ).length=ρ.length|[],n=>rfl|s::ρ,n=>by rw[cQ];simp[mG ρ]
theorem iD{i:Nat}:∀{as:List Arg}{ss:List Sl}{t:Sl},bh i as ss=some t->∃j:Nat,as[j]?=some (.fJ i)/\ss[j]?=some t
 |[],_,_,h=>by simp[bh]at h|a::as,[],_,h=>by cases a<;>simp[bh]at h|a::as,s::ss,t,h=>by
   have tl:bh i as ss=some t->∃j:Nat,(a::as)[j]?=some (.fJ i)/\(s::ss)[j]?=some t:=fun h=>by obtain⟨j,h1,h2⟩:=iD h;exact⟨j+1,by simpa using h1,by simpa using h2⟩
   cases a with|dat d=>exact tl (by simpa[bh]using h)|tmp d=>exact tl (by simpa[bh]using h)|fJ k=>
     rw[bh]at h;split at h;.rename_i hk;cases h;subst hk;exact⟨0,rfl,rfl⟩
     .exact tl h
theorem j9{i:Nat}:∀{as:List Arg}{ss:List Sl},as.length=ss.length->bh i as ss=none->∀j:Nat,as[j]?≠some (.fJ i)
 |[],_,_,_=>fun j h=>by simp at h|a::as,[],hl,_=>by simp at hl|a::as,s::ss,hl,h=>fun j hj=>by
   have hl':as.length=ss.length:=by simpa using hl
   have tl:bh i as ss=none/\a≠.fJ i:=by cases a with|dat d=>exact⟨by simpa[bh]using h,by simp⟩|tmp d=>exact⟨by simpa[bh]using h,by simp⟩|fJ k=>
      rw[bh]at h;split at h;.cases h
      .rename_i hk;exact⟨h,fun e=>hk (by cases e;rfl)⟩
   cases j with|zero=>simp at hj;exact tl.2 hj|succ j=>exact j9 hl' tl.1 j (by simpa using hj)
theorem FP{F₀ H₀ F H F' H':Hp}{ρ₀ ρ args args':List Sl}{σ σ':L2.St}{as:List Arg}{vs:List V}(s0:cA K F₀ ρ₀ σ H₀ F ρ σ H)(A:wK K F ρ σ H ρ₀ H₀ as vs)(hb:bY ρ as []=some args)(s:cA K F args (vs.map some) H F' args' σ' H'):cA K F₀ ρ₀ σ H₀ F' (cQ as args' 0 ρ) σ H'/\∀v r,cO K F' args' σ' H' args (vs.map some) H v r->cO K F' (cQ as args' 0 ρ) σ H' ρ₀ σ H₀ v r:=by
 have g:=s0.gs;obtain⟨l1,l2,l3,l4⟩:=pG hb;have up:∀{j:Nat}{v:V},vs[j]?=some v->(vs.map some)[j]?=some (some v):=fun e=>by rw[List.getElem?_map,e];rfl
 have dn:∀{j:Nat}{v:V},(vs.map some)[j]?=some (some v)->vs[j]?=some v:=fun{j v}e=>by rw[List.getElem?_map]at e;cases q:vs[j]?with|none=>rw[q]at e;cases e|some w=>rw[q]at e;cases e;rfl
 have la:as.length=args'.length:=by rw[s.len,l1]--whose are the lists that the callee holds
 have own:∀b,Own args (vs.map some) b->(∃(j:Nat)(ds:List D),as[j]?=some (Arg.tmp ds)/\vs[j]?=some (V.ref b)/\¬ Own ρ σ b/\(Own ρ₀ σ b\/H₀ b=none))\/Own ρ σ b:=fun b⟨j,⟨sl,ds,e1,e2⟩,e3⟩=>by obtain⟨a,v,h1,h2,h3⟩:=A.get l1 e1;have s1:=l2 j a _ h1 e1;have e3:=dn e3;rw[h2]at e3;cases e3;cases a with|dat d=>cases s1;cases e2|tmp es=>obtain⟨x,_,q1,_,_,_,q2,q3⟩:=h3;cases q1;exact .inl ⟨j,es,h1,h2,q2,q3⟩|fJ i=>
    right;rcases s1 with⟨_,_,_,z⟩|⟨b',es,q,_⟩|⟨es,q,_⟩;.subst z;cases e2
    .exact⟨i,⟨_,_,q,rfl⟩,h3⟩
    .exact⟨i,⟨_,_,q,rfl⟩,h3⟩
 have back:∀b,Own ρ σ b\/H b=none->Own ρ₀ σ b\/H₀ b=none:=fun b h=>by
  rcases h with h|h;.exact s0.DY b h
  . by_cases ho:Own ρ₀ σ b;.exact .inl ho
    .right;cases e:H₀ b with|none=>rfl|some o=>rw[s0.keep b o e ho]at h;cases h
 have own':∀b,Own args (vs.map some) b->Own ρ₀ σ b\/H₀ b=none:=fun b h=>by
  rcases own b h with⟨_,_,_,_,_,z⟩|z;.exact z
  .exact back b (.inl z)--a name's slot behind the call
 have slot:∀{i:Nat}{t:Sl},(cQ as args' 0 ρ)[i]?=some t->∃s1,ρ[i]?=some s1/\t=fj s1 (bh i as args'):=fun{i t}h=>by rw[m5]at h;obtain⟨s1,e1,e2⟩:=map_some h;exact⟨s1,e1,by rw[<-e2,Nat.zero_add]⟩
 have YH:∀{i:Nat}{s1:Sl},ρ[i]?=some s1->(cQ as args' 0 ρ)[i]?=some (fj s1 (bh i as args')):=fun{i s1}h=>by rw[m5,h,Nat.zero_add];rfl--what the callee left of a list that was lent to it
 have lent:∀{i j:Nat}{s1 t:Sl}{ds:List D},ρ[i]?=some s1->lst? s1=some (.l ds)->as[j]?=some (.fJ i)->args'[j]?=some t->∃v s2,σ[i]?=some (some v)/\σ'[j]?=some (some v)/\args[j]?=some s2/\mJ s2 t/\((∃b,s1=.own b ds/\s2=.own true ds)\/(s1=.lent ds/\s2=.lent ds)):=fun{i j s1 t ds}h1 h2 h3 h4=>by
  have hj:j<args.length:=by rw[l1];exact(List.getElem?_eq_some_iff.mp h3).1
  have e1:args[j]?=some args[j]:=by simp[hj]
  obtain⟨a,v,q1,q2,q3⟩:=A.get l1 e1;rw[h3]at q1;cases q1;have q4:=l2 j _ _ h3 e1;have kind:(∃b,s1=.own b ds/\args[j]=.own true ds)\/(s1=.lent ds/\args[j]=.lent ds):=by
   rcases q4 with⟨_,_,z,_⟩|⟨b,es,z,z'⟩|⟨es,z,z'⟩;.rw[h1]at z;cases z;cases h2
   .rw[h1]at z;cases z;cases h2;exact .inl ⟨b,rfl,z'⟩
   .rw[h1]at z;cases z;cases h2;exact .inr ⟨rfl,z'⟩
  have lk:Jd args[j]=true:=by rcases kind with⟨_,_,z⟩|⟨_,z⟩<;>rw[z]<;>rfl
  obtain⟨z1,s',z2,z3⟩:=s.lk j _ e1 lk;rw[h4]at z2;cases z2;exact⟨v,_,q3,by rw[z1];exact up q2,e1,z3,kind⟩
 have MF:∀{i:Nat}{x:Addr},bR (cQ as args' 0 ρ) σ i x->bR ρ σ i x:=fun{i x}⟨⟨t,ds,e1,e2⟩,e3⟩=>by obtain⟨s1,q1,q2⟩:=slot e1;refine⟨?_,e3⟩;cases s1 with|aZ=>subst q2;cases e2|val b d=>subst q2;cases e2|own b es=>exact⟨_,_,q1,rfl⟩|lent es=>exact⟨_,_,q1,rfl⟩|cZ m=>exact⟨_,_,q1,rfl⟩
 refine⟨?_,fun v r h=>?_⟩;rotate_left;.cases r with|val d=>exact h|own ds=>
     obtain⟨x,xs,h1,h2,h3,h4,h5,h6⟩:=h;refine⟨x,xs,h1,h2,h3,h4,fun⟨i,h⟩=>?_,?_⟩
     . have hO:=MF h;obtain⟨⟨s1,Ti,q1,q2⟩,q3⟩:=hO;obtain⟨x',xs',w1,w2,_⟩:=g.own i s1 Ti q1 q2;rw[q3]at w1;cases w1;rcases h6 with h6|h6
       . rcases own x h6 with⟨_,_,_,_,z,_⟩|_;.exact z ⟨i,⟨s1,Ti,q1,q2⟩,q3⟩
         .--a name was lent
           obtain⟨j,⟨sl,es,w3,w4⟩,w5⟩:=h6;obtain⟨a',v',y1,y2,y3⟩:=A.get l1 w3;have sa:=l2 j a' _ y1 w3;have w5:=dn w5;rw[y2]at w5;cases w5;cases a' with|dat d=>cases sa;cases w4|tmp es'=>obtain⟨_,_,u1,_,_,_,u2,_⟩:=y3;cases u1;exact u2 ⟨i,⟨s1,Ti,q1,q2⟩,q3⟩|fJ i'=>
             have ex:∃s' ds',ρ[i']?=some s'/\lst? s'=some ds':=by
              rcases sa with⟨_,_,_,z⟩|⟨b,es,q,_⟩|⟨es,q,_⟩;.subst z;cases w4
              .exact⟨_,_,q,rfl⟩
              .exact⟨_,_,q,rfl⟩
             have:=g.dis i i' x ⟨⟨s1,Ti,q1,q2⟩,q3⟩ ⟨ex,y3⟩;subst this;have hk:∃Mz,Ti=.l Mz:=by
              rcases sa with⟨_,_,_,z⟩|⟨b,es,q,_⟩|⟨es,q,_⟩;.subst z;cases w4
              .rw[q1]at q;cases q;cases q2;exact⟨_,rfl⟩
              .rw[q1]at q;cases q;cases q2;exact⟨_,rfl⟩
             obtain⟨Mz,rfl⟩:=hk;have hj:j<args'.length:=by rw[<-la];exact(List.getElem?_eq_some_iff.mp y1).1
             have e':args'[j]?=some args'[j]:=by simp[hj]
             obtain⟨v2,s2,u1,u2,u3,u4,u5⟩:=lent q1 q2 y1 e';rw[q3]at u1;cases u1--the slot behind the call is a list's
             obtain⟨⟨t,dt,t1,t2⟩,_⟩:=h;obtain⟨s3,t3,t4⟩:=slot t1;rw[q1]at t3;cases t3;have lo:∃t5,bh i as args'=some t5:=by cases hl:bh i as args' with|none=>exact absurd y1 (j9 la hl j)|some t5=>exact⟨t5,rfl⟩
             obtain⟨t5,hl⟩:=lo;obtain⟨j2,t6,t7⟩:=iD hl;have hj2:j2<args.length:=by rw[l1];exact(List.getElem?_eq_some_iff.mp t6).1
             obtain⟨_,s6,_,v2',v3',v4',v5'⟩:=lent q1 q2 t6 t7;have l4':j2=j:=by
              have a1:lst? s6=some (.l Mz):=by rcases v5' with⟨_,_,z⟩|⟨_,z⟩<;>rw[z]<;>rfl
              have a2:lst? s2=some (.l Mz):=by rcases u5 with⟨_,_,z⟩|⟨_,z⟩<;>rw[z]<;>rfl
              exact l4 j2 j i s6 s2 _ _ t6 y1 v3' u3 a1 a2
             subst l4';rw[e']at t7;cases t7;rw[hl]at t4;refine h5 ⟨j2,?_,u2⟩;rcases u5 with⟨b,z1,z2⟩|⟨z1,z2⟩
             . subst z1;subst z2;rcases u4 with⟨d2,z⟩|⟨d2,z⟩;.exact⟨_,.l d2,e',by rw[z];rfl⟩
               .rw[z]at t4;subst t4;cases t2
             .subst z1;subst z2;exact⟨_,.l Mz,e',by rw[show args'[j2]=.lent Mz from u4];rfl⟩
       .rw[w2]at h6;cases h6
     . rcases h6 with h6|h6;.exact own' x h6
       .exact back x (.inr h6)
 refine⟨⟨s.gs.sub,by rw[mG];exact g.len,fun i b d e=>?_,fun i t ds e e'=>?_,fun i j x h1 h2=>g.dis i j x (MF h1) (MF h2)⟩,s0.dm.trans s.dm,fun b n n'=>?_,fun b o h n=>?_,fun b⟨i,h⟩=>back b (.inl ⟨i,MF h⟩),by rw[mG];exact s0.len,fun i s1 h l=>?_⟩;.--data
   obtain⟨s1,q1,q2⟩:=slot e;cases s1 with|aZ=>cases q2|lent es=>cases q2|cZ _=>cases q2|val b' d'=>cases q2;obtain⟨v,z1,z2⟩:=g.val i b d q1;exact⟨v,z1,z2.mono s.dm⟩|own b' es=>cases hl:bh i as args' with|none=>rw[hl]at q2;cases q2|some t=>rw[hl]at q2;obtain⟨j,z1,z2⟩:=iD hl;obtain⟨v,s2,y1,y2,y3,y4,y5⟩:=lent q1 rfl z1 z2;cases t with|aZ=>cases q2|own _ _=>cases q2|lent _=>cases q2|cZ _=>cases q2|val b2 d2=>cases q2;obtain⟨w,x1,x2⟩:=s.gs.val j b2 d z2;rw[y2]at x1;cases x1;exact⟨v,y1,x2⟩
 .--lists
   obtain⟨s1,q1,q2⟩:=slot e--a list that was not lent
   have stay:∀es,lst? s1=some es->(∀j:Nat,as[j]?≠some (.fJ i))->t=s1->∃(a:Addr)(xs:HO),σ[i]?=some (some (V.ref a))/\H' a=some xs/\F' a=none/\rQ K F' xs ds:=fun es he hn ht=>by
    subst ht;rw[he]at e';cases e';obtain⟨a,xs,z1,z2,z3,z4⟩:=g.own i _ ds q1 he;have no:¬ Own args (vs.map some) a:=fun h=>by obtain⟨j,⟨sl,es,w1,w2⟩,w3⟩:=h;obtain⟨a',v,h1,h2,h3⟩:=A.get l1 w1;have sa:=l2 j a' _ h1 w1;have w3:=dn w3;rw[h2]at w3;cases w3;cases a' with|dat d=>cases sa;cases w2|tmp es=>obtain⟨x,_,y1,_,_,_,y2,_⟩:=h3;cases y1;exact y2 ⟨i,⟨_,ds,q1,he⟩,z1⟩|fJ i'=>
       have:∃s' ds',ρ[i']?=some s'/\lst? s'=some ds':=by
        rcases sa with⟨_,_,_,z⟩|⟨b,es,q,_⟩|⟨es,q,_⟩;.subst z;cases w2
        .exact⟨_,_,q,rfl⟩
        .exact⟨_,_,q,rfl⟩
       have:=g.dis i i' a ⟨⟨_,ds,q1,he⟩,z1⟩ ⟨this,h3⟩;subst this;exact hn j h1
    refine⟨a,xs,z1,s.keep a _ z2 no,?_,z4.mono s.dm⟩;cases q:F' a with|none=>rfl|some o=>
      rcases s.Eh a z3 (by rw[q];simp)with z|z;.exact absurd z no
      .rw[z2]at z;exact(Gq z4 z).elim
   cases hl:bh i as args' with
   |none=>have hn:=j9 la hl;rw[hl]at q2;cases s1 with|aZ=>subst q2;cases e'|val b' d'=>subst q2;cases e'|own b' es=>exact stay _ rfl hn q2|lent es=>exact stay _ rfl hn q2|cZ m=>exact stay _ rfl hn q2
   |some t2=>rw[hl]at q2;obtain⟨j,z1,z2⟩:=iD hl;cases s1 with
     |aZ=>subst q2;cases e'|val b' d'=>subst q2;cases e'|cZ m=>
       have hj:j<args.length:=by rw[l1];exact(List.getElem?_eq_some_iff.mp z1).1
       rcases l2 j _ _ z1 (show args[j]?=some args[j]by simp[hj])with⟨_,_,z,_⟩|⟨_,_,z,_⟩|⟨_,z,_⟩<;>(rw[q1]at z;cases z)|own b' es=>
       obtain⟨v,s2,y1,y2,y3,y4,y5⟩:=lent q1 rfl z1 z2;have:t2≠.aZ/\∀x,t2≠.lent x:=by
        rcases y5 with⟨_,_,y5⟩|⟨y5,_⟩;.subst y5;rcases y4 with⟨_,rfl⟩|⟨_,rfl⟩<;>simp
        .cases y5
       cases t2 with
       |aZ=>exact absurd rfl this.1|cZ x=>
         rcases y5 with⟨_,_,y5⟩|⟨y5,_⟩;.subst y5;rcases y4 with⟨_,h⟩|⟨_,h⟩<;>cases h
         .cases y5|lent x=>exact absurd rfl (this.2 x)|val b2 d2=>subst q2;cases e'|own b2 es2=>subst q2;cases e';obtain⟨a,xs,x1,x2⟩:=s.gs.own j _ _ z2 rfl;rw[y2]at x1;cases x1;exact⟨a,xs,y1,x2⟩
     |lent es=>
       obtain⟨v,s2,y1,y2,y3,y4,y5⟩:=lent q1 rfl z1 z2;have ht:t=.lent es:=by rw[q2];cases t2<;>rfl
       subst ht;cases e';rcases y5 with⟨_,y5,_⟩|⟨_,y5⟩;.cases y5
       .subst y5;cases(show t2=.lent es from y4);obtain⟨a,xs,x1,x2⟩:=s.gs.own j _ _ z2 rfl;rw[y2]at x1;cases x1;exact⟨a,xs,y1,x2⟩
 . by_cases q:F b=none
   . rcases s.Eh b q n' with z|z;.exact(own' b z).imp id lN
     . by_cases ho:Own ρ₀ σ b;.exact .inl ho
       .right;cases q2:H₀ b with|none=>rfl|some o=>rw[s0.keep b o q2 ho]at z;exact z
   .exact s0.Eh b n q
 . refine s.keep b o (s0.keep b o h n) fun z=>?_;rcases own' b z with z|z;.exact n z
   .rw[h]at z;cases z
 .obtain⟨e1,s2,h2,k2⟩:=s0.lk i s1 h l;refine⟨e1,_,YH h2,?_⟩;have l2':=k2.Jd l;refine mJ.trans l k2 ?_;cases s2 with
   |aZ=>cases l2'|cZ _=>cases l2'|val b d=>exact mJ.refl _|lent es=>cases bh i as args' with|none=>rfl|some t=>cases t<;>rfl
   |own b es=>cases b with|false=>cases l2'|true=>cases bh i as args' with|none=>exact .inl ⟨_,rfl⟩|some t=>cases t with|aZ=>exact .inl ⟨_,rfl⟩|lent _=>exact .inl ⟨_,rfl⟩|cZ _=>exact .inl ⟨_,rfl⟩|own _ ds=>exact .inl ⟨_,rfl⟩|val _ d=>exact .inr ⟨_,rfl⟩
theorem wK.rebase{F1 H1 F2 H2 F H:Hp}{ρ ρ1 ρ2:List Sl}{σ:L2.St}{as:List Arg}{vs:List V}(a:cA K F ρ σ H F1 ρ1 σ H1)(A:wK K F2 ρ2 σ H2 ρ1 H1 as vs):wK K F2 ρ2 σ H2 ρ H as vs:=by refine⟨A.len,fun j b v h1 h2=>?_,A.dis⟩;have h:=A.one j b v h1 h2;cases b with|dat d=>exact h|fJ i=>exact h|tmp ds=>
   obtain⟨x,xs,q1,q2,q3,q4,q5,q6⟩:=h;refine⟨x,xs,q1,q2,q3,q4,q5,?_⟩;rcases q6 with q6|q6;.exact a.DY x q6
   . by_cases ho:Own ρ σ x;.exact .inl ho
     .right;cases e:H x with|none=>rfl|some o=>rw[a.keep x o e ho]at q6;cases q6
theorem wK.Yi{F1 H1 F2 H2 F H:Hp}{ρ ρ1 ρ2:List Sl}{σ:L2.St}{as:List Arg}{vs:List V}{v:V}{r:R}(s1:cA K F ρ σ H F1 ρ1 σ H1)(rr:cO K F1 ρ1 σ H1 ρ σ H v r)(s2:cA K F1 ρ1 σ H1 F2 ρ2 σ H2)(A:wK K F2 ρ2 σ H2 ρ1 H1 as vs):wK K F2 ρ2 σ H2 ρ H (xf r::as) (v::vs):=by
 have h1:yf K F1 ρ1 σ H1 ρ H v (xf r):=by cases r with|val d=>exact rr|own ds=>exact rr
 refine .cons (h1.later s2) (A.rebase s1) fun ds x ea ev k es ek evk=>?_;cases r with|val d=>cases ea|own ds'=>
   obtain⟨y,xs,q1,q2,q3,q4,q5,q6⟩:=rr;rw[ev]at q1;cases q1;have h:=A.one k _ _ ek evk;obtain⟨z,zs,w1,_,_,_,_,w6⟩:=h;cases w1;rcases w6 with w6|w6;.exact q5 w6
   .rw[q2]at w6;cases w6
end
end HH
end
section
namespace HH
open PySem L2 PySem.Spec PyProof.Rows
section
variable{K:PySem.W.Frag}{F F1 H H1:Hp}{ρ ρ1 ρ2:List Sl}{σ σ1:L2.St}
theorem j6{i:Nat}{s:Sl}(h:put ρ i s=some ρ1):∃s0,ρ[i]?=some s0/\Jd s0=false/\ρ1=ρ.set i s:=by
 unfold put at h;split at h;.rename_i q;cases h;exact⟨_,q,rfl,rfl⟩
 .rename_i q;cases h;exact⟨_,q,rfl,rfl⟩
 .rename_i q;cases h;exact⟨_,q,rfl,rfl⟩
 .cases h
theorem cA.put{i:Nat}{v:V}{r:R}(s:cA K F ρ σ H F1 ρ1 σ1 H1)(rr:cO K F1 ρ1 σ1 H1 ρ σ H v r)(h:HH.put ρ1 i (zm r)=some ρ2):cA K F ρ σ H F1 ρ2 (σ1.set i (some v)) H1:=by
 obtain⟨s0,h0,hl,rfl⟩:=j6 h;have hi:i<ρ1.length:=(List.getElem?_eq_some_iff.mp h0).1;have hi':i<σ1.length:=by rw[<-s.gs.len];exact hi
 have old:∀{j:Nat}{a:Addr},j≠i->bR (ρ1.set i (zm r)) (σ1.set i (some v)) j a->bR ρ1 σ1 j a:=fun{j a}hj⟨⟨t,ds,e1,e2⟩,e3⟩=>by rw[List.getElem?_set_ne (Ne.symm hj)]at e1 e3;exact⟨⟨t,ds,e1,e2⟩,e3⟩
 have new:∀{a:Addr},bR (ρ1.set i (zm r)) (σ1.set i (some v)) i a->¬ Own ρ1 σ1 a/\(Own ρ σ a\/H a=none):=fun{a}⟨⟨t,ds,e1,e2⟩,e3⟩=>by rw[List.getElem?_set_self hi]at e1;rw[List.getElem?_set_self hi']at e3;cases e1;cases e3;cases r with|val d=>cases e2|own es=>obtain⟨x,xs,q1,q2,q3,q4,q5,q6⟩:=rr;cases q1;exact⟨q5,q6⟩
 refine⟨⟨s.gs.sub,by simp[s.gs.len],fun j b d e=>?_,fun j t ds e e'=>?_,fun j k a h1 h2=>?_⟩,s.dm,s.Eh,s.keep,fun a⟨j,hj⟩=>?_,by simp[s.len],fun j t e l=>?_⟩
 . by_cases hj:j=i;.subst hj;rw[List.getElem?_set_self hi]at e;cases r with|own es=>cases e|val d'=>cases e;exact⟨v,List.getElem?_set_self hi',rr⟩
   .rw[List.getElem?_set_ne (Ne.symm hj)]at e ⊢;exact s.gs.val j b d e
 . by_cases hj:j=i;.subst hj;rw[List.getElem?_set_self hi]at e;cases r with|val d'=>cases e;cases e'|own es=>cases e;cases e';obtain⟨x,xs,rfl,q2,q3,q4,_⟩:=rr;exact⟨x,_,List.getElem?_set_self hi',q2,q3,xs,rfl,q4⟩
   .rw[List.getElem?_set_ne (Ne.symm hj)]at e ⊢;exact s.gs.own j t ds e e'
 . by_cases hj:j=i
   . by_cases hk:k=i;.rw[hj,hk]
     .subst hj;exact absurd ⟨k,old hk h2⟩ (new h1).1
   . by_cases hk:k=i;.subst hk;exact absurd ⟨j,old hj h1⟩ (new h2).1
     .exact s.gs.dis j k a (old hj h1) (old hk h2)
 . by_cases hji:j=i;.subst hji;exact(new hj).2
   .exact s.DY a ⟨j,old hji hj⟩
 . obtain⟨e1,t1,e2,e3⟩:=s.lk j t e l;have hj:j≠i:=by rintro rfl;rw[h0]at e2;cases e2;rw[e3.Jd l]at hl;cases hl
   exact⟨by rw[List.getElem?_set_ne (Ne.symm hj)];exact e1,t1,by rw[List.getElem?_set_ne (Ne.symm hj)];exact e2,e3⟩
theorem GS.mut{x:Nat}{b:Bool}{ds es:List D}{a:Addr}{ys:List V}(g:GS K F ρ σ H)(e:ρ[x]?=some (.own b ds))(hx:σ[x]?=some (some (.ref a)))(r:aH K F ys es):cA K F ρ σ H F (ρ.set x (.own b es)) σ (upd H a (.lst ys)):=by
 have hi:x<ρ.length:=(List.getElem?_eq_some_iff.mp e).1;have oa:bR ρ σ x a:=⟨⟨_,_,e,rfl⟩,hx⟩;obtain⟨a',xs,h1,h2,h3,h4⟩:=g.pg x _ ds e rfl;rw[hx]at h1;cases h1;have old:∀{j:Nat}{c:Addr},bR (ρ.set x (.own b es)) σ j c->bR ρ σ j c:=fun{j c}⟨⟨t,dt,q1,q2⟩,q3⟩=>by
  by_cases hj:j=x;.subst hj;exact⟨⟨_,_,e,rfl⟩,q3⟩
  .rw[List.getElem?_set_ne (Ne.symm hj)]at q1;exact⟨⟨t,dt,q1,q2⟩,q3⟩
 refine⟨⟨fun c o q=>?_,by simp[g.len],fun j b' d q=>?_,fun j t dt q q'=>?_,fun j k c q1 q2=>g.dis j k c (old q1) (old q2)⟩,.refl _,fun c n n'=>absurd n n',fun c o q n=>?_,fun c⟨j,q⟩=>.inl ⟨j,old q⟩,by simp,fun j t q l=>⟨rfl,?_⟩⟩
 . have:c≠a:=by rintro rfl;rw[h3]at q;cases q
   rw[aM this];exact g.sub c o q
 . by_cases hj:j=x;.subst hj;rw[List.getElem?_set_self hi]at q;cases q
   .rw[List.getElem?_set_ne (Ne.symm hj)]at q;exact g.val j b' d q
 . by_cases hj:j=x;.subst hj;rw[List.getElem?_set_self hi]at q;cases q;cases q';exact⟨a,_,hx,bj,h3,ys,rfl,r⟩
   . rw[List.getElem?_set_ne (Ne.symm hj)]at q;obtain⟨c,zs,w1,w2,w3,w4⟩:=g.own j t dt q q';have:c≠a:=by rintro rfl;exact hj (g.dis j x c ⟨⟨t,dt,q,q'⟩,w1⟩ oa)
     exact⟨c,zs,w1,by rw[aM this];exact w2,w3,w4⟩
 . have:c≠a:=by rintro rfl;exact n ⟨x,oa⟩
   rw[aM this];exact q
 . by_cases hj:j=x;.subst hj;rw[e]at q;cases q;refine⟨_,List.getElem?_set_self hi,?_⟩;cases b with|true=>exact .inl ⟨_,rfl⟩|false=>cases l
   .exact⟨t,by rw[List.getElem?_set_ne (Ne.symm hj)];exact q,.refl t⟩
theorem GS.lend{i:Nat}{b:Bool}{ds:List D}(g:GS K F ρ σ H)(e:ρ[i]?=some (.own b ds)):GS K F (ρ.set i (.lent ds)) σ H:=by
 have hi:i<ρ.length:=(List.getElem?_eq_some_iff.mp e).1;have old:∀{j:Nat}{c:Addr},bR (ρ.set i (.lent ds)) σ j c->bR ρ σ j c:=fun{j c}⟨⟨t,dt,q1,q2⟩,q3⟩=>by
  by_cases hj:j=i;.subst hj;exact⟨⟨_,_,e,rfl⟩,q3⟩
  .rw[List.getElem?_set_ne (Ne.symm hj)]at q1;exact⟨⟨t,dt,q1,q2⟩,q3⟩
 refine⟨g.sub,by simp[g.len],fun j b' d q=>?_,fun j t dt q q'=>?_,fun j k c q1 q2=>g.dis j k c (old q1) (old q2)⟩
 . by_cases hj:j=i;.subst hj;rw[List.getElem?_set_self hi]at q;cases q
   .rw[List.getElem?_set_ne (Ne.symm hj)]at q;exact g.val j b' d q
 . by_cases hj:j=i;.subst hj;rw[List.getElem?_set_self hi]at q;cases q;cases q';exact g.own j _ _ e rfl
   .rw[List.getElem?_set_ne (Ne.symm hj)]at q;exact g.own j t dt q q'
theorem cA.bH{i:Nat}{b:Bool}{ds:List D}(g:GS K F ρ σ H)(e:ρ[i]?=some (.own b ds))(s:cA K F (ρ.set i (.lent ds)) σ H F1 ρ1 σ1 H1):cA K F ρ σ H F1 (ρ1.set i (.own b ds)) σ1 H1/\∀v r,cO K F1 ρ1 σ1 H1 (ρ.set i (.lent ds)) σ H v r->cO K F1 (ρ1.set i (.own b ds)) σ1 H1 ρ σ H v r:=by
 have hi:i<ρ.length:=(List.getElem?_eq_some_iff.mp e).1;have h1:(ρ.set i (.lent ds))[i]?=some (.lent ds):=List.getElem?_set_self hi;obtain⟨z1,s',z2,z3⟩:=s.lk i _ h1 rfl;cases(show s'=.lent ds from z3);have hi1:i<ρ1.length:=(List.getElem?_eq_some_iff.mp z2).1;have o1:∀{j:Nat}{c:Addr},bR (ρ.set i (.lent ds)) σ j c->bR ρ σ j c:=fun{j c}⟨⟨t,dt,q1,q2⟩,q3⟩=>by
  by_cases hj:j=i;.subst hj;exact⟨⟨_,_,e,rfl⟩,q3⟩
  .rw[List.getElem?_set_ne (Ne.symm hj)]at q1;exact⟨⟨t,dt,q1,q2⟩,q3⟩
 have o1':∀{c:Addr},Own ρ σ c->Own (ρ.set i (.lent ds)) σ c:=fun{c}⟨j,⟨t,dt,q1,q2⟩,q3⟩=>by
  by_cases hj:j=i;.subst hj;exact⟨j,⟨_,_,h1,rfl⟩,q3⟩
  .exact⟨j,⟨t,dt,by rw[List.getElem?_set_ne (Ne.symm hj)];exact q1,q2⟩,q3⟩
 have o2:∀{j:Nat}{c:Addr},bR (ρ1.set i (.own b ds)) σ1 j c->bR ρ1 σ1 j c:=fun{j c}⟨⟨t,dt,q1,q2⟩,q3⟩=>by
  by_cases hj:j=i;.subst hj;exact⟨⟨_,_,z2,rfl⟩,q3⟩
  .rw[List.getElem?_set_ne (Ne.symm hj)]at q1;exact⟨⟨t,dt,q1,q2⟩,q3⟩
 have w:∀{c:Addr}{h:Hp},Own (ρ.set i (.lent ds)) σ c\/h c=none->Own ρ σ c\/h c=none:=fun{c h}q=>q.imp (fun⟨j,q⟩=>⟨j,o1 q⟩) id;have w':∀{c:Addr}{h:Hp},Own (ρ.set i (.lent ds)) σ c\/nt (h c)=none->Own ρ σ c\/nt (h c)=none:=fun{c h}q=>q.imp (fun⟨j,q⟩=>⟨j,o1 q⟩) id;refine⟨⟨⟨s.gs.sub,by simp[s.gs.len],fun j b' d q=>?_,fun j t dt q q'=>?_,fun j k c q1 q2=>s.gs.dis j k c (o2 q1) (o2 q2)⟩,s.dm,fun c n n'=>w' (s.Eh c n n'),fun c o q n=>s.keep c o q fun⟨j,x⟩=>n ⟨j,o1 x⟩,fun c⟨j,q⟩=>w (s.DY c ⟨j,o2 q⟩),by simpa using s.len,fun j t q l=>?_⟩,fun v r h=>?_⟩
 . by_cases hj:j=i;.subst hj;rw[List.getElem?_set_self hi1]at q;cases q
   .rw[List.getElem?_set_ne (Ne.symm hj)]at q;exact s.gs.val j b' d q
 . by_cases hj:j=i;.subst hj;rw[List.getElem?_set_self hi1]at q;cases q;cases q';exact s.gs.own j _ _ z2 rfl
   .rw[List.getElem?_set_ne (Ne.symm hj)]at q;exact s.gs.own j t dt q q'
 . by_cases hj:j=i;.subst hj;rw[e]at q;cases q;refine⟨z1,_,List.getElem?_set_self hi1,?_⟩;cases b with|true=>exact .inl ⟨_,rfl⟩|false=>cases l
   .obtain⟨y1,t',y2,y3⟩:=s.lk j t (by rw[List.getElem?_set_ne (Ne.symm hj)];exact q) l;exact⟨y1,t',by rw[List.getElem?_set_ne (Ne.symm hj)];exact y2,y3⟩
 .cases r with|val d=>exact h|own es=>obtain⟨x,xs,q1,q2,q3,q4,q5,q6⟩:=h;exact⟨x,xs,q1,q2,q3,q4,fun⟨j,q⟩=>q5 ⟨j,o2 q⟩,w q6⟩
theorem GS.give{i:Nat}{ds:List D}(g:GS K F ρ σ H)(e:ρ[i]?=some (.own false ds)):∃v,σ[i]?=some (some v)/\cA K F ρ σ H F (ρ.set i .aZ) σ H/\cO K F (ρ.set i .aZ) σ H ρ σ H v (.own ds):=by
 have hi:i<ρ.length:=(List.getElem?_eq_some_iff.mp e).1;obtain⟨a,xs,h1,h2,h3,h4⟩:=g.pg i _ ds e rfl;have old:∀{j:Nat}{c:Addr},bR (ρ.set i .aZ) σ j c->bR ρ σ j c/\j≠i:=fun{j c}⟨⟨t,dt,q1,q2⟩,q3⟩=>by
  by_cases hj:j=i;.subst hj;rw[List.getElem?_set_self hi]at q1;cases q1;cases q2
  .rw[List.getElem?_set_ne (Ne.symm hj)]at q1;exact⟨⟨⟨t,dt,q1,q2⟩,q3⟩,hj⟩
 have oa:bR ρ σ i a:=⟨⟨_,_,e,rfl⟩,h1⟩;refine⟨.ref a,h1,⟨⟨g.sub,by simp[g.len],fun j b' d q=>?_,fun j t dt q q'=>?_,fun j k c q1 q2=>g.dis j k c (old q1).1 (old q2).1⟩,.refl _,fun c n n'=>absurd n n',fun _ _ q _=>q,fun c⟨j,q⟩=>.inl ⟨j,(old q).1⟩,by simp,fun j t q l=>⟨rfl,?_⟩⟩,a,xs,rfl,h2,h3,h4,fun⟨j,q⟩=>?_,.inl ⟨i,oa⟩⟩
 . by_cases hj:j=i;.subst hj;rw[List.getElem?_set_self hi]at q;cases q
   .rw[List.getElem?_set_ne (Ne.symm hj)]at q;exact g.val j b' d q
 . by_cases hj:j=i;.subst hj;rw[List.getElem?_set_self hi]at q;cases q;cases q'
   .rw[List.getElem?_set_ne (Ne.symm hj)]at q;exact g.own j t dt q q'
 . by_cases hj:j=i;.subst hj;rw[e]at q;cases q;cases l
   .exact⟨t,by rw[List.getElem?_set_ne (Ne.symm hj)];exact q,.refl t⟩
 .exact(old q).2 (g.dis j i a (old q).1 oa)
theorem GS.more{n:Nat}{τ:List (Option V)}(g:GS K F ρ σ H)(hn:τ.length=n):GS K F (ρ++List.replicate n .aZ) (σ++τ) H:=by
 have get:∀{j:Nat}{t:Sl},(ρ++List.replicate n Sl.aZ)[j]?=some t->t≠.aZ->ρ[j]?=some t/\j<ρ.length:=fun{j t}q ne=>by
  by_cases hj:j<ρ.length;.rw[List.getElem?_append_left hj]at q;exact⟨q,hj⟩
  . rw[List.getElem?_append_right (by omega),List.getElem?_replicate]at q;split at q;.cases q;exact absurd rfl ne
    .cases q
 have up:∀{j:Nat}{v:Option V},j<ρ.length->(σ[j]?=some v↔(σ++τ)[j]?=some v):=fun{j v}hj=>by rw[List.getElem?_append_left (by rw[<-g.len];exact hj)]
 have old:∀{j:Nat}{c:Addr},bR (ρ++List.replicate n .aZ) (σ++τ) j c->bR ρ σ j c:=fun{j c}⟨⟨t,dt,q1,q2⟩,q3⟩=>by obtain⟨h1,h2⟩:=get q1 (by rintro rfl;cases q2);exact⟨⟨t,dt,h1,q2⟩,(up h2).mpr q3⟩
 refine⟨g.sub,by simp[g.len,hn],fun j b d q=>?_,fun j t dt q q'=>?_,fun j k c q1 q2=>g.dis j k c (old q1) (old q2)⟩;.obtain⟨h1,h2⟩:=get q (by simp);obtain⟨v,e1,e2⟩:=g.val j b d h1;exact⟨v,(up h2).mp e1,e2⟩
 .obtain⟨h1,h2⟩:=get q (by rintro rfl;cases q');obtain⟨a,xs,e1,e2⟩:=g.own j t dt h1 q';exact⟨a,xs,(up h2).mp e1,e2⟩
theorem cA.less{n:Nat}{τ:List (Option V)}{m:Nat}(hm:m=ρ.length)(g:GS K F ρ σ H)(hn:τ.length=n)(s:cA K F (ρ++List.replicate n .aZ) (σ++τ) H F1 ρ1 σ1 H1):cA K F ρ σ H F1 (ρ1.take m) (σ1.take m) H1/\∀v r,cO K F1 ρ1 σ1 H1 (ρ++List.replicate n .aZ) (σ++τ) H v r->cO K F1 (ρ1.take m) (σ1.take m) H1 ρ σ H v r:=by
 subst hm;have l1:ρ.length<=ρ1.length:=by rw[s.len];simp
 have l2:ρ.length<=σ1.length:=by rw[<-s.gs.len];exact l1
 have tk:∀{α:Type}{l:List α}{j:Nat}{x:α},(l.take ρ.length)[j]?=some x->l[j]?=some x/\j<ρ.length:=fun{α l j x}q=>by
  rw[List.getElem?_take]at q;split at q;.exact⟨q,by assumption⟩
  .cases q
 have kt:∀{α:Type}{l:List α}{j:Nat}{x:α},j<ρ.length->l[j]?=some x->(l.take ρ.length)[j]?=some x:=fun{α l j x}hj q=>by rw[List.getElem?_take,if_pos hj];exact q
 have oN:∀{c:Addr},Own (ρ++List.replicate n .aZ) (σ++τ) c->Own ρ σ c:=fun{c}⟨j,⟨t,dt,q1,q2⟩,q3⟩=>by
  by_cases hj:j<ρ.length;.rw[List.getElem?_append_left hj]at q1;rw[List.getElem?_append_left (by rw[<-g.len];exact hj)]at q3;exact⟨j,⟨t,dt,q1,q2⟩,q3⟩
  . rw[List.getElem?_append_right (by omega),List.getElem?_replicate]at q1;split at q1;.cases q1;cases q2
    .cases q1
 have oN':∀{c:Addr},Own ρ σ c->Own (ρ++List.replicate n .aZ) (σ++τ) c:=fun{c}⟨j,⟨t,dt,q1,q2⟩,q3⟩=>by have hj:j<ρ.length:=(List.getElem?_eq_some_iff.mp q1).1;exact⟨j,⟨t,dt,by rw[List.getElem?_append_left hj];exact q1,q2⟩,by rw[List.getElem?_append_left (by rw[<-g.len];exact hj)];exact q3⟩
 have o1:∀{j:Nat}{c:Addr},bR (ρ1.take ρ.length) (σ1.take ρ.length) j c->bR ρ1 σ1 j c:=fun{j c}⟨⟨t,dt,q1,q2⟩,q3⟩=>⟨⟨t,dt,(tk q1).1,q2⟩,(tk q3).1⟩;have w:∀{c:Addr}{h:Hp},Own (ρ++List.replicate n .aZ) (σ++τ) c\/h c=none->Own ρ σ c\/h c=none:=fun{c h}q=>q.imp oN id;have w':∀{c:Addr}{h:Hp},Own (ρ++List.replicate n .aZ) (σ++τ) c\/nt (h c)=none->Own ρ σ c\/nt (h c)=none:=fun{c h}q=>q.imp oN id;refine⟨⟨⟨s.gs.sub,by simp only[List.length_take];omega,fun j b d q=>?_,fun j t dt q q'=>?_,fun j k c q1 q2=>s.gs.dis j k c (o1 q1) (o1 q2)⟩,s.dm,fun c a b=>w' (s.Eh c a b),fun c o q n=>s.keep c o q fun x=>n (oN x),fun c⟨j,q⟩=>w (s.DY c ⟨j,o1 q⟩),by simp only[List.length_take];omega,fun j t q l=>?_⟩,fun v r h=>?_⟩;.obtain⟨h1,h2⟩:=tk q;obtain⟨v,e1,e2⟩:=s.gs.val j b d h1;exact⟨v,kt h2 e1,e2⟩
 .obtain⟨h1,h2⟩:=tk q;obtain⟨a,xs,e1,e2⟩:=s.gs.own j t dt h1 q';exact⟨a,xs,kt h2 e1,e2⟩
 .have hj:j<ρ.length:=(List.getElem?_eq_some_iff.mp q).1;obtain⟨y1,t',y2,y3⟩:=s.lk j t (by rw[List.getElem?_append_left hj];exact q) l;rw[List.getElem?_append_left (by rw[<-g.len];exact hj)]at y1;refine⟨?_,t',kt hj y2,y3⟩;rw[List.getElem?_take,if_pos hj];exact y1
 .cases r with|val d=>exact h|own es=>obtain⟨x,xs,q1,q2,q3,q4,q5,q6⟩:=h;exact⟨x,xs,q1,q2,q3,q4,fun⟨j,q⟩=>q5 ⟨j,o1 q⟩,w q6⟩
end
end HH
end
section
namespace HH
open PySem L2 PySem.Spec PyProof.Rows
section
variable{X:Cx}{c:Call}{n:Nat}{e a b d:Expr}{p pa pb pd:P}{pos:Pos}{es:List Expr}{ps:List P}
inductive aaS(K:PySem.W.Frag)(f:List Sl->Res (List Arg))(σ:L2.St)(H:Hp)(Q:List V->Hp->Prop):Prop where|mk(F:Hp)(ρ:List Sl)(as:List Arg)(ρ':List Sl)(g:GS K F ρ σ H)(e:f ρ=.ok as ρ')(k:∀vs F' H',cA K F ρ σ H F' ρ' σ H'->wK K F' ρ' σ H' ρ H as vs->Q vs H')
noncomputable def SG(X:Cx)(c:Call)(es:List Expr)(ps:List P):Prop:=PA X es (aaS X.K (xY c ps))
theorem aD:SG X c [] []:=wg gD fun σ H Q⟨F,ρ,as,ρ',g,e,k⟩=>by rw[xY]at e;cases e;exact k [] F H (.refl g) .nil
theorem Lj(ha:SX X c a pa)(hr:SG X c es ps)(hs:starEach (a::es) X.env=(false,eval a X.env)::starEach es X.env:=by rfl):SG X c (a::es) (pa::ps):=by cases hv:isVar pa with|none=>refine wg (cR ha.ev hr hs) ?_;rintro σ H Q⟨F,ρ,as,ρ',g,e,k⟩;rw[xY,hv]at e;obtain⟨r,ρ1,e1,e⟩:=ao e;obtain⟨xs,ρ2,e2,e⟩:=ao e;cases e;refine⟨F,ρ,r,ρ1,g,e1,fun v F1 H1 s1 rr=>⟨F1,ρ1,xs,_,s1.gs,e2,fun vs F2 H2 s2 A=>k _ F2 H2 (s1.trans s2) (wK.Yi s1 rr s2 A)⟩⟩|some i=>refine wg (cR (ha.var i hv) hr hs) ?_;rintro σ H Q⟨F,ρ,as,ρ',g,e,k⟩;rw[xY,hv]at e;obtain⟨x0,ρ0,e0,e⟩:=ao e;obtain⟨YG,xP⟩:=aF e0;subst xP;obtain⟨xs,ρ2,e2,e⟩:=ao e;cases e;obtain⟨v,h1,_⟩:=g.pk YG;exact⟨v,h1,F,ρ,xs,_,g,e2,fun vs F2 H2 s2 A=>k _ F2 H2 s2 (.cons h1 A fun ds x z=>by cases z)⟩
theorem J6{k f:Nat}{fa:Addr}{fd:FuncData}{qs:List Str}{x:Str}{p':Pos}(Fn:bV X.prog X.w X.K X.mg X.base fU k fa fd qs (gn X.K qs.length (c f)))(hr:jm k X.A)(hg:Gl X x)(hm:X.mg x=some (.ref fa))(hk:PySem.W.keepIn X.K (.ref fa)=true)(hb:Binds X.K fd qs [])(ha:SG X c (e::es) ps)(hl:(e::es).length=qs.length)(hdb:(x==("__debug__":Str))=false:=by decide)(he:starEach (e::es) X.env=(false,eval e X.env)::starEach es X.env:=by rfl)(hpl:(backTo pos (starEach es X.env)).any (·.1)=false:=by rfl)(hl2:ps.length=(e::es).length:=by rfl):SX X c (.Call (.Name x p') (e::es) [] pos) (.call f ps):=by
 refine⟨dX (J7 (E:=E0) Fn hr hg hm hk hb .nil Yo ha hdb he hpl) ?_,fun i h=>by cases h⟩;rintro σ H Q⟨F,ρ,r,ρ',g,e,k⟩;rw[HH.E15]at e;obtain⟨as,ρ1,e1,e⟩:=ao e;unfold pF at e;split at e;.cases e
 . rename_i args hb';split at e
   . rename_i r' args' hc;cases e;refine⟨F,ρ,as,ρ1,g,e1,fun vs F1 H1 s1 A=>?_⟩;have hlen:vs.length=qs.length:=by
      have:∀{ps:List P}{ρ ρ':List Sl}{as:List Arg},xY c ps ρ=.ok as ρ'->as.length=ps.length:=by intro ps;induction ps with|nil=>intro ρ ρ' as h;rw[xY]at h;cases h;rfl|cons q qs ih=>
         intro ρ ρ' as h;rw[xY]at h;split at h;.obtain⟨_,_,_,h⟩:=ao h;obtain⟨xs,ρ2,h2,h⟩:=ao h;cases h;simp[ih h2]
         .obtain⟨_,_,_,h⟩:=ao h;obtain⟨xs,ρ2,h2,h⟩:=ao h;cases h;simp[ih h2]
      rw[<-A.len,this e1,hl2,hl]
     show gn X.K qs.length (c f) (vs++[]) H1 Q E0;rw[List.append_nil];refine⟨hlen,F1,args,r,args',args_gs s1.gs A hb',hc,fun v F' σ' H' s rr=>?_⟩;obtain⟨z1,z2⟩:=FP s1 A hb' s;exact k v F' H' z1 (z2 v r rr)
   .cases e
   .cases e
noncomputable def VH(K:PySem.W.Frag)(D:Ends)(F':Hp)(ρ':List Sl)(σ':L2.St)(H':Hp)(ρ:List Sl)(σ:L2.St)(H:Hp)(fl:Fl):Prop:=match fl with|.next=>D.nx σ' H'|.brk=>D.bk σ' H'|.cont=>D.ct σ' H'|.ret r=>∀v,cO K F' ρ' σ' H' ρ σ H v r->D.rt v H'
inductive tEx(K:PySem.W.Frag)(f:List Sl->Res Fl)(D:Ends)(σ:L2.St)(H:Hp):Prop where|mk(F:Hp)(ρ:List Sl)(fl:Fl)(ρ':List Sl)(g:GS K F ρ σ H)(e:f ρ=.ok fl ρ')(k:∀F' σ' H',cA K F ρ σ H F' ρ' σ' H'->VH K D F' ρ' σ' H' ρ σ H fl)
noncomputable def SS(X:Cx)(c:Call)(n:Nat)(st:Stmt)(s:S):Prop:=PS X st (tEx X.K (ex c n s))
noncomputable def SB(X:Cx)(c:Call)(n:Nat)(st:List Stmt)(s:List S):Prop:=Aa X st (tEx X.K (jh c n s))
theorem eU{st:Stmt}{t t':TS}(h:PS X st t)(i:∀D σ H,t' D σ H->t D σ H):PS X st t':=fun pins s σ H D I q=>h pins s σ H D I (i D σ H q)
theorem Hj{st:List Stmt}{t t':TS}(h:Aa X st t)(i:∀D σ H,t' D σ H->t D σ H):Aa X st t':=fun pins s σ H D I q=>h pins s σ H D I (i D σ H q)
theorem au:SB X c n [] []:=Hj Mp fun D σ H⟨F,ρ,fl,ρ',g,e,k⟩=>by rw[jh]at e;cases e;exact k F σ H (.refl g)
theorem aj{st:Stmt}{s:S}{sts:List Stmt}{ss:List S}(h1:SS X c n st s)(h2:SB X c n sts ss):SB X c n (st::sts) (s::ss):=by refine Hj (Hh h1 h2) ?_;rintro D σ H⟨F,ρ,fl,ρ',g,e,k⟩;rw[jh]at e;obtain⟨f1,ρ1,e1,e⟩:=ao e;cases f1 with
 |next=>refine⟨F,ρ,.next,ρ1,g,e1,fun F1 σ1 H1 s1=>⟨F1,ρ1,fl,ρ',s1.gs,e,fun F2 σ2 H2 s2=>?_⟩⟩;have q:=k F2 σ2 H2 (s1.trans s2);cases fl with|next=>exact q|brk=>exact q|cont=>exact q|ret r=>exact fun v rr=>q v (rr.later s1)
 |brk=>cases e;exact⟨F,ρ,.brk,_,g,e1,k⟩|cont=>cases e;exact⟨F,ρ,.cont,_,g,e1,k⟩|ret r=>cases e;exact⟨F,ρ,.ret r,_,g,e1,k⟩
theorem GK{st:Stmt}:SS X c n st .bad:=eU Ht fun D σ H⟨F,ρ,fl,ρ',g,e,k⟩=>by rw[HH.X4]at e;cases e
theorem Mj(he:SX X c e p)(hs:swapsWith e none pos.line X.env=pure false:=by rfl):SS X c n (.Expr e pos) (.expr p):=by refine eU (oG he.ev hs) ?_;rintro D σ H⟨F,ρ,fl,ρ',g,e,k⟩;rw[HH.X5]at e;obtain⟨r,ρ1,e1,e⟩:=ao e;cases e;exact⟨F,ρ,r,_,g,e1,fun v F1 H1 s1 rr=>k F1 σ H1 s1⟩
theorem Yt{t1 t2:TE}(h1:PE X e t1)(h2:PE X e t2):PE X e (fun σ H Q=>t1 σ H Q\/t2 σ H Q):=fun pins s σ H Q I h=>h.elim (h1 pins s σ H Q I) (h2 pins s σ H Q I)
theorem aJ(he:SX X c e p):SS X c n (.Return (some e) pos) (.ret p):=by
 have plain:∀(D:Ends)(σ:L2.St)(H:Hp),(∃F ρ fl ρ',GS X.K F ρ σ H/\((HH.ev c p ρ).bind fun r ρ=>.ok (Fl.ret r) ρ)=.ok fl ρ'/\∀F' σ' H',cA X.K F ρ σ H F' ρ' σ' H'->(match fl with|.next=>D.nx σ' H'|.brk=>D.bk σ' H'|.cont=>D.ct σ' H'|.ret r=>∀v,cO X.K F' ρ' σ' H' ρ σ H v r->D.rt v H'))->Ff X.K (HH.ev c p) σ H D.rt:=fun D σ H⟨F,ρ,fl,ρ',g,e,k⟩=>by obtain⟨r,ρ1,e1,e⟩:=ao e;cases e;exact⟨F,ρ,r,_,g,e1,fun v F1 H1 s1 rr=>k F1 σ H1 s1 v rr⟩
 cases hv:isVar p with|none=>refine eU (Ij he.ev) fun D σ H⟨F,ρ,fl,ρ',g,e,k⟩=>plain D σ H ⟨F,ρ,fl,ρ',g,?_,k⟩;rw[HH.ZG,hv]at e;exact e|some i=>--by the name itself:its own list is handed back,else its data
   have hp:p=.var i:=by cases p<;>cases hv;rfl
   subst hp;refine eU (Ij (Yt (he.var i hv) he.ev)) ?_;rintro D σ H⟨F,ρ,fl,ρ',g,e,k⟩;rw[HH.ZG,hv]at e;dsimp only at e;split at e;.rename_i ds q;cases e;obtain⟨v,h1,h2,h3⟩:=g.give q;exact .inl ⟨v,h1,k F σ H h2 v h3⟩
   .exact .inr (plain D σ H ⟨F,ρ,fl,ρ',g,e,k⟩)
theorem cH{sa sb:List Stmt}{ta tb:List S}(hc:ST X c e p)(ha:SB X c n sa ta)(hb:SB X c n sb tb):SS X c n (.If e sa sb pos) (.ifs p ta tb):=by refine eU (W5 hc ha hb) ?_;rintro D σ H⟨F,ρ,fl,ρ',g,e,k⟩;rw[HH.Zj]at e;obtain⟨x,ρ1,e1,e⟩:=ao e;refine⟨F,ρ,x,ρ1,g,e1,fun F1 H1 s1=>?_⟩;have go:∀{f:List Sl->Res Fl},f ρ1=.ok fl ρ'->tEx X.K f D σ H1:=fun{f}h=>⟨F1,ρ1,fl,ρ',s1.gs,h,fun F2 σ2 H2 s2=>by have q:=k F2 σ2 H2 (s1.trans s2);cases fl with|next=>exact q|brk=>exact q|cont=>exact q|ret r=>exact fun v rr=>q v (rr.later s1)⟩;cases x with|true=>rw[if_pos rfl]at e;exact go e|false=>rw[if_neg Bool.false_ne_true]at e;exact go e
theorem mq{i:Nat}{x:Str}{pos':Pos}(hN:X.N.Nodup)(hi:X.N[i]?=some x)(hx:Loc X.env.scope x)(he:SX X c e p)(hs:swapsWith e (some (.Name x pos')) pos.line X.env=pure false:=by rfl)(hf:X.fn x=true\/X.env.scope.names.lookup x=some .local:=by first|exact .inl rfl|exact .inr rfl|assumption):SS X c n (.Assign [.Name x pos'] e pos) (.asg i p):=by refine eU (yN hN hi hx he.ev hs hf) ?_;rintro D σ H⟨F,ρ,fl,ρ',g,e,k⟩;rw[HH.X6]at e;obtain⟨r,ρ1,e1,e⟩:=ao e;obtain⟨ρ2,ρ3,e2,e⟩:=ao e;cases e;have zz:=aF e2;clear e2;obtain⟨e2,e3⟩:=zz;exact⟨F,ρ,r,ρ1,g,e1,fun v F1 H1 s1 rr=>k F1 _ H1 (s1.put rr e2)⟩
end
end HH
end
section
namespace L2
open PySem PySem.Spec PyProof.Rows
noncomputable def vI(X:Cx)(scope:Scope)(N':List Str)(cl:List (Str×Addr))(C:Addr)(s₀:Shared)(H₀:Hp)(ex:List Addr):Cx:={X with N:=N',s₀:=s₀,H₀:=H₀,env:=compEnvC scope cl C X.env,outer:=X.stack,stack:=X.stack,ex:=ex,fn:=fun x=>scope.names.lookup x==some .cell,pn:=[],xe:=fun _ _=>False}
theorem yx{env:Env}(l:List (Str×NameKind)):∀(cs:List (Str×Addr)),(∀n,(n,NameKind.free)∈l->∃c,env.cells.lookup n=some c)->(∀n c,cs.lookup n=some c->env.cells.lookup n=some c)->∃ cl,(forIn l cs (fun(x:Str × NameKind)(r:List (Str × Addr))=>(if(x.2==NameKind.free)=true then(do let a<-cellOf env x.1;pure (ForInStep.yield ((x.1,a)::r)))else pure (ForInStep.yield r):Sem (ForInStep (List (Str × Addr))))):Sem (List (Str × Addr)))=pure cl/\(∀n c,cl.lookup n=some c->env.cells.lookup n=some c)/\(∀n,((n,NameKind.free)∈l\/(cs.lookup n).isSome)->(cl.lookup n).isSome):=by induction l with|nil=>intro cs _ h;exact⟨cs,rfl,h,fun n hn=>by rcases hn with hn|hn;cases hn;exact hn⟩|cons y l ih=>
   obtain⟨n,k⟩:=y;intro cs hl hc;rw[List.forIn_cons];by_cases hk:k=.free
   . subst hk;obtain⟨a,ha⟩:=hl n List.mem_cons_self;obtain⟨cl,e,h1,h2⟩:=ih ((n,a)::cs) (fun m hm=>hl m (List.mem_cons_of_mem _ hm)) fun m c hm=>by
      rw[List.lookup_cons]at hm;split at hm;.rename_i q;have q:=eq_of_beq q;subst q;cases hm;exact ha
      .exact hc m c hm
     refine⟨cl,?_,h1,fun m hm=>h2 m ?_⟩
     . rw[<-e];have:cellOf env n=pure a:=by unfold cellOf;rw[ha]
       simp only[beq_self_eq_true,if_true,this];rfl
     . rcases hm with hm|hm
       . rcases List.mem_cons.mp hm with hm|hm;.cases hm;right;simp[List.lookup_cons]
         .exact .inl hm
       . right;rw[List.lookup_cons];split;.rfl
         .exact hm
   . obtain⟨cl,e,h1,h2⟩:=ih cs (fun m hm=>hl m (List.mem_cons_of_mem _ hm)) hc;refine⟨cl,?_,h1,fun m hm=>h2 m ?_⟩
     . rw[<-e];have:(k==NameKind.free)=false:=by simpa using hk
       simp only[this,Bool.false_eq_true,if_false];rfl
     . rcases hm with hm|hm
       . rcases List.mem_cons.mp hm with hm|hm;.cases hm;exact absurd rfl hk
         .exact .inl hm
       .exact .inr hm
theorem yU{env:Env}{scope:Scope}(hl:∀n,(n,NameKind.free)∈scope.names->∃c,env.cells.lookup n=some c):∃cl,closureFor scope env=pure cl/\(∀n c,cl.lookup n=some c->env.cells.lookup n=some c)/\∀n,(n,NameKind.free)∈scope.names->(cl.lookup n).isSome:=by obtain⟨cl,e,h1,h2⟩:=yx (env:=env) scope.names [] hl (by simp);refine⟨cl,?_,h1,fun n hn=>h2 n (.inl hn)⟩;unfold closureFor;exact(congrArg (fun t=>t>>=fun r=>pure r) e).trans rfl
theorem dM{env:Env}:∀(names:List (Str×NameKind))(x:Str),(names.map fun(n,k)=>if(k==NameKind.free&&env.scope.kind==.function&&env.kindOf n==some .cell)then(n,NameKind.cell)else(n,k)).lookup x=(names.lookup x).map fun k=>if(k==NameKind.free&&env.scope.kind==.function&&env.kindOf x==some .cell)=true then NameKind.cell else k
 |[],x=>rfl|(n,k)::r,x=>by
   have ih:=dM (env:=env) r x;show List.lookup x ((if(k==NameKind.free&&env.scope.kind==.function&&env.kindOf n==some .cell)=true then(n,NameKind.cell)else(n,k))::_)=_;by_cases hc:(k==NameKind.free&&env.scope.kind==.function&&env.kindOf n==some .cell)=true;.rw[if_pos hc,List.lookup_cons,List.lookup_cons];cases hx:x==n with|true=>have:=eq_of_beq hx;subst this;show some NameKind.cell=some (if _ then _ else _);rw[if_pos hc]|false=>exact ih
   .rw[if_neg hc,List.lookup_cons,List.lookup_cons];cases hx:x==n with|true=>have:=eq_of_beq hx;subst this;show some k=some (if _ then _ else _);rw[if_neg hc]|false=>exact ih
noncomputable def WR(N N':List Str)(sc:Scope):Bool:=(N.zip N').all fun p=>(p.1==p.2&&sc.names.lookup p.2==some .free)||(sc.names.lookup p.2!=some .local&&sc.names.lookup p.2!=some .cell&&sc.names.lookup p.2!=some .free)
structure gk(X:Cx)(scope:Scope)(N':List Str)(n:Nat):Prop where
 kind:scope.kind=.function
 cons:∀y∈scope.names,scope.names.lookup y.1=some y.2
 names:∀y∈scope.names,y.2=.local->scope.names.lookup y.1=some .local
 cap:∀y∈scope.names,y.2=.free->X.env.scope.names.lookup y.1=some .cell\/X.env.scope.names.lookup y.1=some .free
 len:N'.length=X.N.length+n
 same:WR X.N N' scope=true
theorem gk.get{X:Cx}{scope:Scope}{N':List Str}{n:Nat}(c:gk X scope N' n){i:Nat}{x:Str}(hi:i<X.N.length)(h:N'[i]?=some x)(hv:xX (relabel scope X.env) x):X.N[i]?=some x/\scope.names.lookup x=some .free:=by
 have hz:(X.N.zip N')[i]?=some (X.N[i],x):=by rw[List.getElem?_zip_eq_some];exact⟨by simp[hi],h⟩
 have:=(List.all_eq_true.mp c.same) _ (List.mem_of_getElem? hz);simp only[Bool.or_eq_true,Bool.and_eq_true]at this;rcases this with⟨h1,h2⟩|⟨⟨h1,h2⟩,h3⟩;.have h1:=eq_of_beq h1;have h2:=eq_of_beq h2;exact⟨by simp[hi,h1],h2⟩
 . exfalso;have h1:scope.names.lookup x≠some .local:=by simpa using h1
   have h2:scope.names.lookup x≠some .cell:=by simpa using h2
   have h3:scope.names.lookup x≠some .free:=by simpa using h3
   have e:=dM (env:=X.env) scope.names x;have hv:(relabel scope X.env).names.lookup x=some .local\/(relabel scope X.env).names.lookup x=some .cell\/(relabel scope X.env).names.lookup x=some .free:=hv;rw[show(relabel scope X.env).names.lookup x=_ from e]at hv;cases q:scope.names.lookup x with|none=>rw[q]at hv;simp at hv|some k=>
     rw[q]at hv h1 h2 h3;have hk:(k==NameKind.free)=false:=by cases k<;>first|rfl|exact absurd rfl h3
     simp only[Option.map_some,hk,Bool.false_and,Bool.false_eq_true,if_false,Option.some.injEq]at hv;rcases hv with rfl|rfl|rfl;.exact h1 rfl
     .exact h2 rfl
     .exact h3 rfl
end L2
namespace L2
open PySem PySem.Spec PyProof.Rows
structure CI(cl:List (Str×Addr))(z:Nat)(h:Heap)(acc:List (Str×Addr)):Prop where from':∀n c,acc.lookup n=some c->cl.lookup n=some c\/(z<=c/\h.IsCell c none)inj:∀n n' c,acc.lookup n=some c->acc.lookup n'=some c->n=n'
theorem HY{cl:List (Str×Addr)}{z:Nat}(hcl:∀n c,cl.lookup n=some c->c<z):∀(names:List (Str×NameKind))(h:Heap)(acc:List (Str×Addr)),z<=h.objs.size->CI cl z h acc->CI cl z (pushCells h names) (cellsFrom h.objs.size names acc)/\(∀n,(acc.lookup n).isSome->((cellsFrom h.objs.size names acc).lookup n).isSome)/\(∀n,((∃c,acc.lookup n=some c/\z<=c)\/(n,NameKind.cell)∈names)->∃c,(cellsFrom h.objs.size names acc).lookup n=some c/\z<=c)/\(∀n c,(n,NameKind.cell)∉names->(cellsFrom h.objs.size names acc).lookup n=some c->acc.lookup n=some c)
 |[],h,acc,hz,x=>by
   refine⟨x,fun _ q=>q,fun n q=>?_,fun _ _ _ q=>q⟩;rcases q with q|q;.exact q
   .cases q|(name,kind)::r,h,acc,hz,x=>by
   unfold pushCells cellsFrom;by_cases hk:kind=.cell
   . subst hk;rw[if_pos (by rfl),if_pos (by rfl)];have hx:CI cl z (h.push {cls:=.type "cell",data:=.cell none}) ((name,h.objs.size)::acc):=by
      have lt:∀n c,acc.lookup n=some c->c<h.objs.size:=fun n c e=>by
       rcases x.from' n c e with q|q;.exact Nat.lt_of_lt_of_le (hcl n c q) hz
       .exact q.2.lt
      refine⟨fun n c e=>?_,fun n n' c e e'=>?_⟩
      . rw[List.lookup_cons]at e;split at e;.cases e;exact .inr ⟨hz,_,Heap.get?_push_size _ rfl,rfl⟩
        . rcases x.from' n c e with q|q;.exact .inl q
          .exact .inr ⟨q.1,q.2.keeps fun b o e=>Heap.get?_push_of_some _ e⟩
      . rw[List.lookup_cons]at e e';split at e<;>split at e';.rename_i _ a _ b;rw[eq_of_beq a,eq_of_beq b]
        .cases e;exact absurd (lt n' _ e') (Nat.lt_irrefl _)
        .cases e';exact absurd (lt n _ e) (Nat.lt_irrefl _)
        .exact x.inj n n' c e e'
     have ih:=HY hcl r (h.push {cls:=.type "cell",data:=.cell none}) ((name,h.objs.size)::acc) (by rw[Heap.size_push];omega) hx;rw[Heap.size_push]at ih;refine⟨ih.1,fun n q=>ih.2.1 n ?_,fun n q=>ih.2.2.1 n ?_,fun n c q e=>?_⟩
     . rw[List.lookup_cons];split;.rfl
       .exact q
     . rcases q with⟨c,e,hc⟩|q
       . left;rw[List.lookup_cons];split;.exact⟨_,rfl,hz⟩
         .exact⟨c,e,hc⟩
       . rcases List.mem_cons.mp q with q|q;.cases q;left;exact⟨_,by simp[List.lookup_cons],hz⟩
         .exact .inr q
     . have:=ih.2.2.2 n c (fun z=>q (List.mem_cons_of_mem _ z)) e;rw[List.lookup_cons]at this;split at this;.rename_i a;exact absurd (by rw[eq_of_beq a];exact List.mem_cons_self) q
       .exact this
   . have hk':(kind==NameKind.cell)=false:=by simpa using hk
     rw[if_neg (by rw[hk'];decide),if_neg (by rw[hk'];decide)];have ih:=HY hcl r h acc hz x;refine⟨ih.1,ih.2.1,fun n q=>ih.2.2.1 n ?_,fun n c q e=>ih.2.2.2 n c (fun z=>q (List.mem_cons_of_mem _ z)) e⟩;rcases q with q|q;.exact .inl q
     . rcases List.mem_cons.mp q with q|q;.cases q;exact absurd rfl hk
       .exact .inr q
structure Gj(X:Cx)(scope:Scope)(z:Nat)(h:Heap)(cs:List (Str×Addr)):Prop where
 from':∀n c,cs.lookup n=some c->X.env.cells.lookup n=some c\/(z<c/\h.IsCell c none)inj:∀n n' c,cs.lookup n=some c->cs.lookup n'=some c->n=n'
 has:∀n,(scope.names.lookup n=some .free\/scope.names.lookup n=some .cell)->∃c,cs.lookup n=some c
 fre:∀n c,scope.names.lookup n=some .free->cs.lookup n=some c->X.env.cells.lookup n=some c
 own:∀n c,scope.names.lookup n=some .cell->cs.lookup n=some c->z<c
theorem Cj{M:Model}{A:Around}{E:Value->Shared->Prop}{X:Cx}{s:Shared}{scope:Scope}{N':List Str}{n:Nat}{cl:List (Str×Addr)}{Q:Env->Shared->Prop}(ok:gk X scope N' n)(hlt:∀n c,X.env.cells.lookup n=some c->c<s.heap.objs.size)(hinj:∀x y c,X.env.cells.lookup x=some c->X.env.cells.lookup y=some c->x=y)(hcl:∀n c,cl.lookup n=some c->X.env.cells.lookup n=some c)(zF:∀n,(n,NameKind.free)∈scope.names->(cl.lookup n).isSome)(hQ:∀ cs h',h'.Ns s.heap.objs.size (fun _=>none)->(∀ b o,s.heap.get? b=some o->h'.get? b=some o)->Gj X scope s.heap.objs.size h' cs->Q {scope:=scope,locals:=s.heap.objs.size,globals:=X.env.globals,cells:=cs,qual:=X.env.qual,func:=none,code:=X.env.code,frame:=X.env.frame,builtins:=X.env.builtins} {s with heap:=h'}):wpAny M A (newFunctionEnv scope X.env.globals cl [] X.env.qual none .none (some X.env)) Q E s:=by
 simp only[newFunctionEnv,Option.isSome_some,if_true];refine wpAny_bind (wpAny_alloc ?_);refine wpAny_bind (wpAny_layCells _ (fun name kind cells=>by cases hkc:kind==NameKind.cell<;>simp[hkc]) _ _ _ _ ?_);have ck:=HY (cl:=cl) (z:=s.heap.objs.size+1) (fun n c e=>Nat.lt_succ_of_lt (hlt n c (hcl n c e))) scope.names (s.heap.push {cls:=.type "dict",data:=.dict #[]}) cl (by rw[Heap.size_push];exact Nat.le_refl _) ⟨fun n c e=>.inl e,fun n n' c e e'=>hinj n n' c (hcl n c e) (hcl n' c e')⟩;obtain⟨c1,c2,c3,c4⟩:=ck;rw[show({s with heap:=s.heap.push {cls:=.type "dict",data:=.dict #[]}}:Shared).heap.objs.size=(s.heap.push {cls:=.type "dict",data:=.dict #[]}).objs.size from rfl];refine wpAny_bind ?_;rw[List.forIn_nil];refine wpAny_pure (wpAny_pure (hQ _ _ ((Heap.Ns.new s.heap (.type "dict")).keeps (pushCells_keeps _ _)) (fun b o e=>pushCells_keeps _ _ b o (Heap.get?_push_of_some _ e)) ⟨fun n c e=>?_,c1.inj,fun n q=>?_,fun n c q e=>?_,fun n c q e=>?_⟩))
 . rcases c1.from' n c e with z|z;.exact .inl (hcl n c z)
   .exact .inr ⟨z.1,z.2⟩
 . rcases q with q|q;.exact Option.isSome_iff_exists.mp (c2 n (zF n (PySem.mem_of_lookup q)))
   .obtain⟨c,e,_⟩:=c3 n (.inr (PySem.mem_of_lookup q));exact⟨c,e⟩
 .refine hcl n c (c4 n c (fun z=>?_) e);have:=ok.cons _ z;rw[q]at this;cases this
 .obtain⟨c',e',hc'⟩:=c3 n (.inr (PySem.mem_of_lookup q));rw[e]at e';cases e';exact hc'
section
variable{X:Cx}{pins:List (Addr×Obj)}{σ:L2.St}{H:Hp}{s:Shared}{scope:Scope}{N':List Str}{n:Nat}{fp:List Addr}{cl:List (Str×Addr)}
theorem Fx{h1:Heap}{m:Str->Option Value}{t:Nat}{cs:List (Str×Addr)}(ok:gk X scope N' n)(I:Inv X pins σ H s)(hf:∀b∈fp,mR X pins H b/\b<s.heap.objs.size)(bc:Gj X scope s.heap.objs.size h1 cs)(hn:h1.Ns s.heap.objs.size m)(old:∀b u,s.heap.get? b=some u->h1.get? b=some u):Inv (vI X scope N' cs s.heap.objs.size s H fp) [] (σ++List.replicate n none) H {s with heap:=h1,toks:=t}:=by
 have YJ:∀x,scope.names.lookup x=some .free->(relabel scope X.env).names.lookup x=some .cell\/(relabel scope X.env).names.lookup x=some .free:=fun x h=>by
  have e:=dM (env:=X.env) scope.names x;rw[h]at e;have e':(relabel scope X.env).names.lookup x=_:=e;rw[e'];simp only[Option.map_some];split;.exact .inl rfl
  .exact .inr rfl
 refine⟨⟨I.ok.mod,ok.kind,I.ok.glob,I.ok.blt,Nat.le_refl _,fun x y c h1 h2=>bc.inj x y c h1 h2,fun x hx=>?_,fun x c h e=>Nat.le_of_lt (bc.own x c (eq_of_beq (show(scope.names.lookup x==some NameKind.cell)=true from h)) e),I.ok.hd,I.ok.frames,.inl rfl,fun b hb=>?_,I.bs,Nat.le_trans I.ok.Jl I.sz,fun b u e hb=>?_,fun b hb hfs=>?_,I.stack,I.Aq⟩,rfl,I.bare,Un.kept old,⟨m,hn,fun i x v e1 e2 hv=>?_⟩,fun x c e=>?_,I.hok.fresh (Nat.le_refl _),fun x c e=>?_,fun p hp=>(by cases hp),I.hok.kept old,?_⟩;.--a YK name has its cell
   have hx:(relabel scope X.env).names.lookup x=some .cell\/(relabel scope X.env).names.lookup x=some .free:=hx;have e:=dM (env:=X.env) scope.names x;have e':(relabel scope X.env).names.lookup x=_:=e;rw[e']at hx;refine bc.has x ?_;cases q:scope.names.lookup x with|none=>rw[q]at hx;simp at hx|some k=>
     rw[q]at hx;by_cases hk:k=.free;.rw[hk];exact .inl rfl
     . have hk':(k==NameKind.free)=false:=by simpa using hk
       simp only[Option.map_some,hk',Bool.false_and,Bool.false_eq_true,if_false,Option.some.injEq]at hx;rcases hx with rfl|rfl;.exact .inr rfl
       .exact absurd rfl hk
 . obtain⟨f,lt⟩:=hf b hb;refine⟨Nat.ne_of_lt lt,fun x c e=>?_⟩;rcases bc.from' x c e with e|e;.exact f.2.2.2.2.1 x c e
   .rintro rfl;exact absurd (Nat.lt_trans e.1 lt) (Nat.lt_irrefl _)
 . obtain⟨f,lt⟩:=hf b hb;rcases f.2.2.2.1 with h|h;.exact I.ok.zy b u e h
   .have this:b<X.base.objs.size:=Heap.lt_size e;exact absurd (Nat.lt_of_lt_of_le this (Nat.le_trans I.ok.Jl h)) (Nat.lt_irrefl _)
 . obtain⟨f,lt⟩:=hf b hb;rcases List.mem_cons.mp (I.uU b hfs)with h|h;.exact f.2.1 h
   .exact f.2.2.1 h
 .--the names
   have hi:i<σ.length:=by
    by_cases hi:i<σ.length;.exact hi
    .rw[List.getElem?_append_right (by omega),List.getElem?_replicate]at e2;split at e2<;>cases e2
   rw[List.getElem?_append_left hi]at e2;obtain⟨h1',h2'⟩:=ok.get (by rw[<-I.len];exact hi) e1 hv;have hk:=ok.cap (x,.free) (PySem.mem_of_lookup h2') rfl;obtain⟨m0,hn0,hl⟩:=I.loc;obtain⟨u,r,l⟩:=hl i x v h1' e2 (.inr hk);refine⟨u,r,.inr ⟨YJ x h2',?_⟩⟩;rcases l with⟨hk',_⟩|⟨_,c,hc,hcell⟩;.have hk':X.env.scope.names.lookup x=some .local:=hk';rcases hk with hk|hk<;>(rw[hk']at hk;cases hk)
   .obtain⟨c',hc'⟩:=bc.has x (.inl h2');have:=bc.fre x c' h2' hc';rw[hc]at this;cases this;refine⟨c,hc',?_⟩;obtain⟨oc,e3,e4⟩:=hcell;exact⟨oc,old c oc e3,e4⟩
 . rcases bc.from' x c e with e|e;.obtain⟨v,oc,e3,e4⟩:=I.cell x c e;exact⟨v,oc,old c oc e3,e4⟩
   .exact⟨_,e.2⟩
 . rcases bc.from' x c e with e|e;.exact I.iU x c e
   .exact I.hok.fresh (Nat.le_of_lt e.1)
 .show(σ++List.replicate n none).length=N'.length;rw[List.length_append,List.length_replicate,I.len,ok.len]
theorem ur{prog:Program}{w:World}{A:Around}{R:Result->Shared->Prop}{elt target iter:Expr}{ifs:List Expr}{scope:Scope}{pos:Pos}{it acc:Value}{env:Env}(I:Nat->Shared->Prop)(turn:∀ n s,I n s->wpAny (model prog w) A (pyNext it) (fun r s₁=>match r with|none=>R (.ok .next) s₁|some v=>wpAny (model prog w) A (letOwnedTupleGo target it v) (fun _ s₁=>wpAny (model prog w) A (assign target env v) (fun _ s₂=>wpAny (model prog w) A (forIn ifs true fun c r=>if r=true then do let ok<-isTrue c env (eval c env);pure (ForInStep.yield ok)else pure (ForInStep.yield r)) (fun ok s₃=>if ok=true then wpAny (model prog w) A (eval elt env) (fun x s₄=>wpAny (model prog w) A (call (.builtin "list.append") [acc,x]) (fun _ s₅=>∃m,m<n/\I m s₅) (notedBy (model prog w) A env fun e s'=>R (.error e) s') s₄) (notedBy (model prog w) A env fun e s'=>R (.error e) s') s₃ else ∃m,m<n/\I m s₃) (notedBy (model prog w) A env fun e s'=>R (.error e) s') s₂) (notedBy (model prog w) A env fun e s'=>R (.error e) s') s₁) (notedBy (model prog w) A env fun e s'=>R (.error e) s') s₁) (notedBy (model prog w) A env fun e s'=>R (.error e) s') s)(n:Nat){s:Shared}(h:I n s):codeAny (model prog w) A (.compLoop (.ListComp elt [⟨target,iter,ifs,0⟩] scope pos) 0 it acc env) R s:=by refine codeAny_loop rfl I (fun n s hI=>?_) n h;show wpAny _ A ((compTurn (.ListComp elt [⟨target,iter,ifs,0⟩] scope pos) 0 it acc env).onRaise (fun x=>do noteFrame x env;theTreesLotGoes x)) _ _ s;refine wpAny_noted ?_;rw[compTurn_list];refine wpAny_bind (wpAny_standAt (wpAny_bind (wpAny_mono (turn n s hI) (fun r s₁ h₁=>?_) fun _ _ h'=>h')));cases r with|none=>exact wpAny_pure h₁|some v=>refine wpAny_bind (wpAny_mono h₁ (fun _ s₁ h₁=>?_) fun _ _ h'=>h');refine wpAny_bind (wpAny_mono h₁ (fun _ s₂ h₂=>wpAny_bind (wpAny_mono h₂ (fun ok s₃ h₃=>?_) fun _ _ h'=>h')) fun _ _ h'=>h');cases ok with|false=>exact wpAny_pure ⟨rfl,h₃⟩|true=>exact wpAny_bind (wpAny_bind (wpAny_mono h₃ (fun x s₄ h₄=>wpAny_bind (wpAny_mono h₄ (fun _ s₅ h₅=>wpAny_pure (wpAny_pure ⟨rfl,h₅⟩)) fun _ _ h'=>h')) fun _ _ h'=>h'))
noncomputable def R3(X:Cx)(ifs:List Expr)(t:TT):Prop:=∀(pins:List (Addr × Obj))(s:Shared)(σ:L2.St)(H:Hp)(Q:Bool->Hp->Prop),Inv X pins σ H s->t σ H Q->wpAny (model X.prog X.w) X.A (forIn ifs true fun c r=>if r=true then do let ok<-isTrue c X.env (eval c X.env);pure (ForInStep.yield ok)else pure (ForInStep.yield r)) (TP X pins σ Q) X.xe s
theorem KC{X:Cx}:R3 X [] (fun _ H Q=>Q true H):=fun pins s σ H Q I h=>wpAny_tests_nil ⟨H,I,h⟩
theorem Ko{X:Cx}{c:Expr}{t:TT}(h:PT X c t):R3 X [c] t:=fun pins s σ H Q I q=>wpAny_tests_one (h pins s σ H Q I q)
noncomputable def MP(J:It)(g:TG)(tt:TT)(te:TE)(D:Addr)(Q:Hp->Prop)(W:Nat->Nat->List V->L2.St->Hp->Prop):Prop:=∀ i m ys σ H,W i m ys σ H->H D=some (.lst ys)/\((J.stop i H/\Q H)\/(J.go i H/\∀ x H2,J.Oj i H x H2->g x σ H2 fun σ3 H3=>tt σ3 H3 fun b H4=>if b=true then te σ3 H4 fun y H5=>H5 D=some (.lst ys)/\ys.length<sizeLine/\∃m',m'<m/\W (i+1) m' (ys++[y]) σ3 (upd H5 D (.lst (ys++[y])))else ∃m',m'<m/\W (i+1) m' ys σ3 H4))
theorem rT{E:Value->Shared->Prop}{elt target iter:Expr}{ifs:List Expr}{pos:Pos}{it:Addr}{tn:Nat->Heap->Prop}{J:It}{g:TG}{tt:TT}{te:TE}{Q:Addr->Hp->Prop}{RR:Value->Addr->Result->Shared->Prop}(hc:X.calm=true)(ok:gk X scope N' n)(I:Inv X pins σ H s)(hcl:∀n c,cl.lookup n=some c->X.env.cells.lookup n=some c)(zF:∀n,(n,NameKind.free)∈scope.names->(cl.lookup n).isSome)(T:Turn X.prog X.w X.K target J fp it tn)(h0:tn 0 s.heap)(hf:∀b∈fp,mR X pins H b)(hg:∀cl C s₀ H₀ ex,PG (vI X scope N' cl C s₀ H₀ ex) target g)(ht:∀cl C s₀ H₀ ex,R3 (vI X scope N' cl C s₀ H₀ ex) ifs tt)(he:∀cl C s₀ H₀ ex,PE (vI X scope N' cl C s₀ H₀ ex) elt te)(hw:∀D,H D=none->∃W,(∃m,W 0 m [] (σ++List.replicate n none) (upd H D (.lst [])))/\MP J g tt te D (Q D) W)(hRR:∀D C s' H',Q D H'->(∃m,s'.heap.Ns C m)->mR X pins H' C->Inv X pins σ H' s'->RR (.ref D) C (.ok .next) s'):wpAny (model X.prog X.w) X.A (newList []) (fun acc s₃=>wpAny (model X.prog X.w) X.A (newFunctionEnv scope X.env.globals cl [] X.env.qual none .none (some X.env)) (fun cenv s₄=>codeAny (model X.prog X.w) X.A (.compStart (.ListComp elt [⟨target,iter,ifs,0⟩] scope pos) 0 (.ref it) acc {cenv with scope:=relabel scope X.env}) (RR acc cenv.locals) s₄) E s₃) E s:=by
 refine wpAny_newObj_type (Cj ok (fun x c e=>?lt) I.ok.inj hcl zF (fun cs h₁ hns hold bc=>?_));case lt=>obtain⟨v,z⟩:=I.cell x c e;exact Nat.lt_of_lt_of_le z.lt (by show _<=(s.heap.push _).objs.size;rw[Heap.size_push];exact Nat.le_succ _)
 dsimp only at hns hold bc ⊢--the new list,tracked
 have I3:Inv X pins σ (upd H s.heap.objs.size (.lst [])) {s with heap:=s.heap.push {cls:=.type "list",data:=.seq ([]:List Value).toArray}}:=I.Q6 (t':=s.toks) .nil (Nat.zero_le _);generalize hs3:({s with heap:=s.heap.push {cls:=.type "list",data:=.seq ([]:List Value).toArray}}:Shared)=s3 at I3;have hsz:s3.heap.objs.size=s.heap.objs.size+1:=by rw[<-hs3];exact Heap.size_push _ _
 have Oo:s3.heap=s.heap.push {cls:=.type "list",data:=.seq ([]:List Value).toArray}:=by rw[<-hs3]
 obtain⟨W,⟨m0,w0⟩,turn⟩:=hw s.heap.objs.size I.fresh;have tnK:∀{h':Heap},(∀b o,s.heap.get? b=some o->h'.get? b=some o)->tn 0 h':=fun k=>T.keep _ _ _ h0 fun b hb o e=>k b o e;have fp3:∀b∈fp,mR X pins (upd H s.heap.objs.size (.lst [])) b/\b<s3.heap.objs.size:=fun b hb=>by obtain⟨o,e,_⟩:=T.obj 0 _ h0 b hb;have lt:=Heap.lt_size e;obtain⟨f1,f2⟩:=hf b hb;exact⟨⟨by rw[aM (Nat.ne_of_lt lt)];exact f1,f2⟩,by rw[hsz];exact Nat.lt_succ_of_lt lt⟩
 rw[<-Oo]at hns hold bc ⊢;have I4:=Fx (t:=s3.toks) ok I3 fp3 bc hns hold;have YL:∀b o,s.heap.get? b=some o->h₁.get? b=some o:=fun b o e=>hold b o (by rw[Oo];exact Heap.get?_push_of_some _ e);generalize hX:vI X scope N' cs s3.heap.objs.size s3 (upd H s.heap.objs.size (.lst [])) fp=X' at I4;have hA:X'.A=X.A:=by rw[<-hX];rfl
 have hpr:X'.prog=X.prog:=by rw[<-hX];rfl
 have hwr:X'.w=X.w:=by rw[<-hX];rfl
 have hKK:X'.K=X.K:=by rw[<-hX];rfl
 have hcalm:X'.calm=true:=by rw[<-hX];exact hc
 have hxe:X'.xe=fun _ _=>False:=by rw[<-hX];rfl
 have henv:X'.env=compEnvC scope cs s3.heap.objs.size X.env:=by rw[<-hX];rfl
 have hg':PG X' target g:=by rw[<-hX];exact hg _ _ _ _ _
 have ht':R3 X' ifs tt:=by rw[<-hX];exact ht _ _ _ _ _
 have he':PE X' elt te:=by rw[<-hX];exact he _ _ _ _ _
 have ff:∀{H':Hp}{b:Addr},b∈fp->H' b=none->mR X' [] H' b:=fun{H' b}hb hn=>by
  obtain⟨f,lt⟩:=fp3 b hb;rw[<-hX];refine⟨hn,Nat.ne_of_lt lt,fun hfs=>?_,.inl hb,fun x c e=>?_,fun p hp=>by cases hp⟩
  . rcases List.mem_cons.mp (I3.uU b hfs)with h|h;.exact f.2.1 h
    .exact f.2.2.1 h
  . rcases bc.from' x c e with e|e;.exact f.2.2.2.2.1 x c e
    .rintro rfl;exact absurd (Nat.lt_trans e.1 lt) (Nat.lt_irrefl _)--behind the block
 have fin:∀{σ':L2.St}{H':Hp}{s':Shared},Inv X' [] σ' H' s'->Q s.heap.objs.size H'->RR (.ref s.heap.objs.size) s3.heap.objs.size (.ok .next) s':=fun{σ' H' s'}J' q=>by
  rw[<-hX]at J';have hC:H' s3.heap.objs.size=none:=J'.free;obtain⟨hh,gg,dd,tt',os'⟩:=s';have eos:os'=s3.os:=J'.os;subst eos;refine hRR _ _ _ H' q (let⟨m,hm,_⟩:=J'.loc;⟨m,hm⟩) ?_ (I3.call (h':=hh) (g':=gg) (d':=dd) (t':=tt') (ch:=fp) J'.base J'.hok J'.bare fun b hb=>?_);.exact I3.De (Nat.le_refl _) hC
  .obtain⟨f,lt⟩:=fp3 b hb;exact⟨f.2.2.2.1,f.2.1,f.2.2.2.2.1,f.2.2.2.2.2⟩
 have main:codeAny (model X.prog X.w) X.A (.compLoop (.ListComp elt [⟨target,iter,ifs,0⟩] scope pos) 0 (.ref it) (.ref s.heap.objs.size) X'.env) (RR (.ref s.heap.objs.size) s3.heap.objs.size) {s3 with heap:=h₁,toks:=s3.toks}:=by
  refine ur (fun k s'=>∃i ys σ' H',Inv X' [] σ' H' s'/\tn i s'.heap/\(∀b∈fp,H' b=none)/\W i k ys σ' H') (fun k s5 hI=>?_) m0 ⟨0,[],_,_,I4,tnK YL,fun b hb=>(fp3 b hb).1.1,w0⟩;obtain⟨i,ys,σ5,H5,I5,t5,f5,w5⟩:=hI;obtain⟨hD,hturn⟩:=turn i k ys σ5 H5 w5;have noE:∀{Z:Value->Shared->Prop},∀(e:Value)(s':Shared),X'.xe e s'->Z e s':=fun e s' z=>by rw[hxe]at z;exact False.elim z
  rcases hturn with⟨stop,q⟩|⟨go,step⟩;.have z:=T.done X' hpr hwr hKK hcalm i [] s5 σ5 H5 (fun _ _=>False) I5 (fun b hb=>ff hb (f5 b hb)) t5 stop;rw[hA]at z;refine wpAny_mono z (?_) fun _ _ z=>False.elim z;rintro r s6⟨hr,I6⟩;subst hr;exact fin I6 q
  . have z:=T.item X' hpr hwr hKK hcalm i [] s5 σ5 H5 (fun _ _=>False) I5 (fun b hb=>ff hb (f5 b hb)) t5 go;rw[hA]at z;refine wpAny_mono z (?_) fun _ _ z=>False.elim z;rintro r s6⟨u,hr,z6⟩;subst hr;refine wpAny_mono z6 (?_) fun _ _ z=>False.elim z;rintro _ s7⟨x,H7,I7,r7,y7,t7,f7⟩;have I7':=I7.pinned (fun b hb=>ff hb (f7 b hb)) (T.obj _ _ t7)--what the pins keep
    have back:∀{σ':L2.St}{H':Hp}{s':Shared},Inv X' ([]++pQ fp s7.heap) σ' H' s'->Inv X' [] σ' H' s'/\tn (i+1) s'.heap/\∀b∈fp,H' b=none:=fun{σ' H' s'}J'=>by refine⟨J'.lA,T.keep _ _ _ t7 fun b hb o e=>(J'.pin (b,o) (List.mem_append_right _ (List.mem_append_right _ (iB hb e)))).1,fun b hb=>?_⟩;obtain⟨o,e,_⟩:=T.obj _ _ t7 b hb;exact(J'.pin (b,o) (List.mem_append_right _ (List.mem_append_right _ (iB hb e)))).2.1
    have z7:=hg' _ s7 σ5 H7 x u _ I7' r7 (step x H7 y7);rw[hA,hpr,hwr]at z7;refine wpAny_mono z7 (?_) noE;rintro _ s8⟨σ8,H8,I8,q8⟩;have z8:=ht' _ s8 σ8 H8 _ I8 q8;rw[hA,hpr,hwr]at z8;refine wpAny_mono z8 (?_) noE;rintro b s9⟨H9,I9,q9⟩;cases b with|false=>rw[if_neg Bool.false_ne_true]at q9 ⊢;obtain⟨m',hm,w'⟩:=q9;obtain⟨b1,b2,b3⟩:=back I9;exact⟨m',hm,i+1,ys,σ8,H9,b1,b2,b3,w'⟩|true=>rw[if_pos rfl]at q9 ⊢;have z9:=he' _ s9 σ8 H9 _ I9 q9;rw[hA,hpr,hwr]at z9;refine wpAny_mono z9 (?_) noE;rintro y W0⟨yv,H10,I10,r10,adb,hlen,m',hm,w'⟩;have z10:=rK _ W0 σ8 H10 (.ref s.heap.objs.size) [yv] (.ref s.heap.objs.size) [y] (fun v H11=>H11=upd H10 s.heap.objs.size (.lst (ys++[yv]))) I10 rfl (.cons r10 .nil) ⟨_,ys,yv,rfl,rfl,adb,hlen,rfl⟩;rw[hA,hpr,hwr]at z10;refine wpAny_mono z10 (?_) noE;rintro _ Y8⟨_,H11,I11,_,e11⟩;subst e11;obtain⟨b1,b2,b3⟩:=back I11;exact⟨m',hm,i+1,ys++[yv],σ8,_,b1,b2,b3,w'⟩
 have e3:({s3 with heap:=h₁,toks:=s3.toks}:Shared)={s with heap:=h₁}:=by rw[<-hs3]
 rw[henv,e3]at main;exact codeAny_compStart_list main (T.self _ 0 _ _ _ (tnK YL) main)
end
end L2
end
section
namespace L2
open PySem PySem.Spec PyProof.Rows
section
variable{X:Cx}{elt target iter:Expr}{ifs:List Expr}{scope:Scope}{pos:Pos}{N':List Str}{n:Nat}{wi:TI}{g:TG}{tt:TT}{te:TE}
noncomputable def Ab(n:Nat)(wi:TI)(g:TG)(tt:TT)(te:TE):TE:=fun σ H Q=>wi σ H fun J H1=>∀D,H1 D=none->∃W,(∃m,W 0 m [] (σ++List.replicate n none) (upd H1 D (.lst [])))/\MP J g tt te D (fun H'=>Q (.ref D) H') W
theorem lG{pins:List (Addr×Obj)}{σ:L2.St}{H:Hp}{s:Shared}(I:Inv X pins σ H s)(ok:gk X scope N' n):∃cl,closureFor scope X.env=pure cl/\(∀n c,cl.lookup n=some c->X.env.cells.lookup n=some c)/\∀n,(n,NameKind.free)∈scope.names->(cl.lookup n).isSome:=yU fun m hm=>I.ok.has m (ok.cap (m,.free) hm rfl)
theorem JH(hc:X.calm=true)(ok:gk X scope N' n)(hi:PI X target iter wi)(hg:∀cl C s₀ H₀ ex,PG (vI X scope N' cl C s₀ H₀ ex) target g)(ht:∀cl C s₀ H₀ ex,R3 (vI X scope N' cl C s₀ H₀ ex) ifs tt)(he:∀cl C s₀ H₀ ex,PE (vI X scope N' cl C s₀ H₀ ex) elt te)(hs:∀x,foldedSetIterable iter X.env x=pure x:=by intro _;rfl):PE X (.ListComp elt [⟨target,iter,ifs,0⟩] scope pos) (Ab n wi g tt te):=by intro pins s σ H Q I h;obtain⟨cl,hclos,hcl,zF⟩:=lG I ok;rw[eval_ListComp];refine wpAny_comprehension_free (use:=none) rfl hs hclos ok.kind ok.names (cL (hi pins s σ H _ I h) fun v s1 h1=>cL h1 fun itv s2 h2=>?_);obtain⟨it,fp,tn,J,H2,rfl,I2,T,t0,f2,hw⟩:=h2;refine rT (Q:=fun D H'=>Q (.ref D) H') (RR:=fun acc C=>compPost (model X.prog X.w) X.A X.xe none (EP X pins σ Q) acc C) hc ok I2 hcl zF T t0 f2 hg ht he hw fun D C s' H' q hm Ea I'=>?_;obtain⟨m,hm⟩:=hm;refine⟨m,hm,fun h' hs'=>⟨.ref D,H',?_,rfl,q⟩⟩;exact I'.turned (t':=s'.toks) (fun b o hb e=>hs'.extBut b o hb e) Ea.1 Ea.2.1 Ea.2.2.2.1 Ea.2.2.2.2.1 Ea.2.2.2.2.2
theorem Ms{i:Nat}{x:Str}{pos' spos:Pos}(hc:X.calm=true)(hN:X.N.Nodup)(hx0:X.N[i]?=some x)(hx:Loc X.env.scope x)(ok:gk X scope N' n)(hi:PI X target iter wi)(hg:∀cl C s₀ H₀ ex,PG (vI X scope N' cl C s₀ H₀ ex) target g)(ht:∀cl C s₀ H₀ ex,R3 (vI X scope N' cl C s₀ H₀ ex) ifs tt)(he:∀cl C s₀ H₀ ex,PE (vI X scope N' cl C s₀ H₀ ex) elt te)(hsw:swapsWith (.ListComp elt [⟨target,iter,ifs,0⟩] scope pos) (some (.Name x pos')) spos.line X.env=pure true)(hs:∀x,foldedSetIterable iter X.env x=pure x:=by intro _;rfl)(hf:X.fn x=true\/X.env.scope.names.lookup x=some .local:=by first|exact .inl rfl|exact .inr rfl|assumption):PS X (.Assign [.Name x pos'] (.ListComp elt [⟨target,iter,ifs,0⟩] scope pos) spos) (O4 (Ab n wi g tt te) (o9 i)):=by
 intro pins s σ H D I h;obtain⟨cl,hclos,hcl,zF⟩:=lG I ok;rw[exec_Assign_Name_used _ _ _ _ hsw];refine wpAny_bind (wpAny_standAt (wpAny_bind ?_));show wpAny _ X.A (do let _<-comprehension (.ListComp elt [⟨target,iter,ifs,0⟩] scope pos) scope X.env _ (newList []) false (eval iter X.env) (some (assign (.Name x pos') X.env))) _ _ s;refine wpAny_bind (wpAny_mono (wpAny_comprehension_free (use:=some (assign (.Name x pos') X.env)) (Q:=fun _ s'=>SP X pins D .next s') rfl hs hclos ok.kind ok.names (cL (hi pins s σ H _ I h) fun v s1 h1=>cL h1 fun itv s2 h2=>?_)) (fun _ s' hq=>wpAny_pure (wpAny_pure hq)) fun _ _ e=>e);obtain⟨it,fp,tn,J,H2,rfl,I2,T,t0,f2,hw⟩:=h2;refine rT (Q:=fun Da H'=>D.nx (σ.set i (some (.ref Da))) H') (RR:=fun acc C=>compPost (model X.prog X.w) X.A X.xe (some (assign (.Name x pos') X.env)) (fun _ s'=>SP X pins D .next s') acc C) hc ok I2 hcl zF T t0 f2 hg ht he hw fun Da C s' H' q hm Ea I'=>?_;obtain⟨m,hm⟩:=hm;show wpAny _ X.A (assign (.Name x pos') X.env (.ref Da)) _ _ _;refine wpAny_assign_Name (sY I' hN hx0 hx (show RelV (.ref Da) (.ref Da)from rfl) (?_) hf);rintro s'' I''⟨a,sb,ha⟩;have hCa:C≠a:=by
  rcases ha with rfl|ha;.exact Ea.2.1
  .exact fun z=>Ea.2.2.2.2.1 x a ha z.symm
 refine⟨m,hm.sameBut sb hCa,fun h' hs'=>⟨_,H',?_,q⟩⟩;exact I''.turned (t':=s''.toks) (fun b o hb e=>hs'.extBut b o hb e) Ea.1 Ea.2.1 Ea.2.2.2.1 Ea.2.2.2.2.1 Ea.2.2.2.2.2
noncomputable def aa4(K:PySem.W.Frag)(tl:TE):TI:=fun σ H R=>tl σ H fun x H1=>∃a,x=.ref a/\(((∃xs,gA K H1 a xs)/\R (Px K a) H1)\/((∃xs,jC K H1 a xs)/\R (Ut K a) H1))
theorem Ez{tg l:Expr}{tl:TE}(hl:PE X l tl):PI X tg l (aa4 X.K tl):=by
 intro pins s σ H R I h;refine cL (hl pins s σ H _ I h) ?_;rintro v s1⟨x,H1,I1,r1,q1⟩;obtain⟨a,e,q1⟩:=q1;subst e;cases r1;rcases q1 with⟨⟨xs,hq⟩,q⟩|⟨⟨xs,hq⟩,q⟩
 . obtain⟨its,rv,p,hz⟩:=I1.list hq;refine wpAny_pyIter_list p.isList ?_;refine⟨s1.heap.objs.size,[s1.heap.objs.size],_,_,H1,rfl,I1.kept (t':=s1.toks) fun b o e=>Heap.get?_push_of_some _ e,DN a _,⟨_,Heap.get?_push_size _ rfl,rfl,rfl⟩,fun b hb=>?_,q⟩;have e:b=s1.heap.objs.size:=by simpa using hb
   subst e;exact I1.De (Nat.le_refl _) (I1.hok.fresh (Nat.le_refl _))
 . obtain⟨its,rv,p,hz⟩:=I1.tuple hq;refine wpAny_pyIter_tuple (show s1.heap.IsTuple a its.toArray from p) ?_;refine⟨s1.heap.objs.size,[s1.heap.objs.size],_,_,H1,rfl,I1.kept (t':=s1.toks) fun b o e=>Heap.get?_push_of_some _ e,zx a _,⟨_,Heap.get?_push_size _ rfl,rfl,rfl⟩,fun b hb=>?_,q⟩;have e:b=s1.heap.objs.size:=by simpa using hb
   subst e;exact I1.De (Nat.le_refl _) (I1.hok.fresh (Nat.le_refl _))
end
end L2
end
section
namespace HH
open PySem L2 PySem.Spec PyProof.Rows
structure Walk(K:PySem.W.Frag)(F:Hp)(ρ:List Sl)(σ:L2.St)(H:Hp)(ul:List Sl->List Sl)(J:It)(ds:List D)(F1:Hp)(ρ1:List Sl)(H1:Hp):Prop where
 gs:GS K F1 ρ1 σ H1
 src:∀(n k:Nat)(F':Hp)(ρ':List Sl)(σ':L2.St)(H':Hp),cA K F1 (ρ1++List.replicate n .aZ) (σ++List.replicate n none) H1 F' ρ' σ' H'->(∀d,ds[k]?=some d->J.go k H'/\∀x qP,J.Oj k H' x qP->∃F'',Ext F' H' F'' qP/\Rep K F'' x d)/\(ds.length<=k->J.stop k H')fin:∀F2 ρ2 σ2 H2,cA K F1 ρ1 σ H1 F2 ρ2 σ2 H2->cA K F ρ σ H F2 (ul ρ2) σ2 H2/\∀v r,cO K F2 ρ2 σ2 H2 ρ1 σ H1 v r->cO K F2 (ul ρ2) σ2 H2 ρ σ H v r
inductive tIt(K:PySem.W.Frag)(iv:Option Nat)(f:Ev)(σ:L2.St)(H:Hp)(R:It->Hp->Prop):Prop where|mk(F:Hp)(ρ:List Sl)(ds:List D)(ρ1:List Sl)(g:GS K F ρ σ H)(e:srcOf iv f ρ=.ok ds ρ1)(k:∀J F1 H1,Walk K F ρ σ H (bH ρ iv) J ds F1 ρ1 H1->R J H1)
section
variable{K:PySem.W.Frag}{F F1 H H1:Hp}{ρ ρ1:List Sl}{σ:L2.St}{ds:List D}{a:Addr}
theorem JW{xs:List V}{F' H':Hp}(hq:jC K H' a xs)(r:aH K F' xs ds)(s:aO F' H')(k:Nat):(∀d,ds[k]?=some d->(Ut K a).go k H'/\∀x qP,(Ut K a).Oj k H' x qP->∃F'',Ext F' H' F'' qP/\Rep K F'' x d)/\(ds.length<=k->(Ut K a).stop k H'):=by refine⟨fun d hd=>?_,fun h=>⟨xs,hq,by rw[r.length];exact h⟩⟩;obtain⟨w,h1,h2⟩:=r.get hd;refine⟨⟨xs,w,hq,h1⟩,?_⟩;rintro x qP⟨e,y⟩;subst e;have:=y xs hq;rw[h1]at this;cases this;exact⟨F',.refl s,h2⟩
theorem wX{xs:List V}{F' H':Hp}(hq:gA K H' a xs)(r:aH K F' xs ds)(s:aO F' H')(k:Nat):(∀d,ds[k]?=some d->(Px K a).go k H'/\∀x qP,(Px K a).Oj k H' x qP->∃F'',Ext F' H' F'' qP/\Rep K F'' x d)/\(ds.length<=k->(Px K a).stop k H'):=by refine⟨fun d hd=>?_,fun h=>⟨xs,hq,by rw[r.length];exact h⟩⟩;obtain⟨w,h1,h2⟩:=r.get hd;refine⟨⟨xs,w,hq,h1⟩,?_⟩;rintro x qP⟨e,y⟩;subst e;have:=y xs hq;rw[h1]at this;cases this;exact⟨F',.refl s,h2⟩
theorem vN{ul:List Sl->List Sl}{v:V}{d:D}(s:cA K F ρ σ H F1 ρ1 σ H1)(r:Rep K F1 v d)(hi:items d=some ds)(fin:∀F2 ρ2 σ2 H2,cA K F1 ρ1 σ H1 F2 ρ2 σ2 H2->cA K F ρ σ H F2 (ul ρ2) σ2 H2/\∀v r,cO K F2 ρ2 σ2 H2 ρ1 σ H1 v r->cO K F2 (ul ρ2) σ2 H2 ρ σ H v r):∃a,v=.ref a/\(((∃xs,gA K H1 a xs)/\Walk K F ρ σ H ul (Px K a) ds F1 ρ1 H1)\/((∃xs,jC K H1 a xs)/\Walk K F ρ σ H ul (Ut K a) ds F1 ρ1 H1)):=by cases d with|tup es=>cases hi;rw[Rep]at r;obtain⟨a,xs,rfl,h1,h2⟩:=r;exact⟨a,rfl,.inr ⟨⟨xs,aO.jL s.gs.sub h1⟩,s.gs,fun n k F' ρ' σ' H' s'=>JW (aO.jL s'.gs.sub (aO.jL s'.dm h1)) (h2.mono s'.dm) s'.gs.sub k,fin⟩⟩|lst es=>cases hi;rw[Rep]at r;obtain⟨a,xs,rfl,h1,h2⟩:=r;exact⟨a,rfl,.inl ⟨⟨xs,s.gs.sub.seq h1⟩,s.gs,fun n k F' ρ' σ' H' s'=>wX (s'.gs.sub.seq (s'.dm.seq h1)) (h2.mono s'.dm) s'.gs.sub k,fin⟩⟩|_=>cases hi
theorem rW{i:Nat}{ul:List Sl->List Sl}(g:GS K F ρ1 σ H)(e:ρ1[i]?=some (.lent ds))(fin:∀F2 ρ2 σ2 H2,cA K F ρ1 σ H F2 ρ2 σ2 H2->cA K F ρ σ H F2 (ul ρ2) σ2 H2/\∀v r,cO K F2 ρ2 σ2 H2 ρ1 σ H v r->cO K F2 (ul ρ2) σ2 H2 ρ σ H v r):∃a,σ[i]?=some (some (.ref a))/\(∃xs,gA K H a xs)/\Walk K F ρ σ H ul (Px K a) ds F ρ1 H:=by obtain⟨a,xs,h1,h2,h3,h4⟩:=g.pg i _ ds e rfl;have hi:i<ρ1.length:=(List.getElem?_eq_some_iff.mp e).1;refine⟨a,h1,⟨xs,gA.of h2⟩,g,fun n k F' ρ' σ' H' s'=>?_,fin⟩;obtain⟨z1,t,z2,z3⟩:=s'.lk i _ (by rw[List.getElem?_append_left hi];exact e) rfl;cases(show t=.lent ds from z3);rw[List.getElem?_append_left (by rw[<-g.len];exact hi),h1]at z1;obtain⟨a',ys,w1,w2,w3,w4⟩:=s'.gs.pg i _ ds z2 rfl;rw[z1]at w1;cases w1;exact wX (gA.of w2) w4 s'.gs.sub k
end
section
variable{X:Cx}{c:Call}{n:Nat}{e a b d tg:Expr}{p pa pb pd:P}{pos:Pos}
theorem rJ{t t':TI}(h:PI X tg e t)(i:∀σ H R,t' σ H R->t σ H R):PI X tg e t':=fun pins s σ H R I q=>h pins s σ H R I (i σ H R q)
noncomputable def SI(X:Cx)(c:Call)(tg e:Expr)(p:P):Prop:=PI X tg e (tIt X.K (isVar p) (HH.ev c p))
theorem bD(h:SX X c e p):SI X c tg e p:=by unfold SI;cases hv:isVar p with|none=>refine rJ (Ez h.ev) ?_;rintro σ H R⟨F,ρ,ds,ρ1,g,e,k⟩;obtain⟨r,ρ2,e1,e2⟩:=ao e;have zz:=aF e2;clear e2;obtain⟨e2,e3⟩:=zz;subst e3;refine⟨F,ρ,r,_,g,e1,fun v F' H' s rr=>?_⟩;obtain⟨F2,s2,_,rp⟩:=s.fW rr;obtain⟨a,ha,hw⟩:=vN (ul:=bH ρ none) s2 rp e2 fun F3 ρ3 σ3 H3 s3=>⟨s2.trans s3,fun v r rr=>rr.later s2⟩;exact⟨a,ha,hw.imp (fun⟨z,w⟩=>⟨z,k _ _ _ w⟩) (fun⟨z,w⟩=>⟨z,k _ _ _ w⟩)⟩|some i=>
   refine rJ (Ez (h.var i hv)) ?_;rintro σ H R⟨F,ρ,ds,ρ1,g,e,k⟩;unfold srcOf at e;dsimp only at e;split at e
   . rename_i b d q;have zz:=aF e;clear e;obtain⟨e2,e3⟩:=zz;subst e3;obtain⟨v,h1,h2⟩:=g.val i b d q;have fin:∀F2 ρ2 σ2 H2,cA X.K F ρ σ H F2 ρ2 σ2 H2->cA X.K F ρ σ H F2 (bH ρ (some i) ρ2) σ2 H2/\∀v r,cO X.K F2 ρ2 σ2 H2 ρ σ H v r->cO X.K F2 (bH ρ (some i) ρ2) σ2 H2 ρ σ H v r:=fun F2 ρ2 σ2 H2 s=>by unfold bH;dsimp only;rw[q];exact⟨s,fun _ _ z=>z⟩
     obtain⟨a,ha,hw⟩:=vN (ul:=bH ρ (some i)) (.refl g) h2 e2 fin;exact⟨v,h1,a,ha,hw.imp (fun⟨z,w⟩=>⟨z,k _ _ _ w⟩) (fun⟨z,w⟩=>⟨z,k _ _ _ w⟩)⟩
   . rename_i b ds' q;cases e;have hi:i<ρ.length:=(List.getElem?_eq_some_iff.mp q).1;have fin:∀F2 ρ2 σ2 H2,cA X.K F (ρ.set i (.lent ds)) σ H F2 ρ2 σ2 H2->cA X.K F ρ σ H F2 (bH ρ (some i) ρ2) σ2 H2/\∀v r,cO X.K F2 ρ2 σ2 H2 (ρ.set i (.lent ds)) σ H v r->cO X.K F2 (bH ρ (some i) ρ2) σ2 H2 ρ σ H v r:=fun F2 ρ2 σ2 H2 s=>by unfold bH;dsimp only;rw[q];exact cA.bH g q s
     obtain⟨a,h1,hx,w⟩:=rW (ul:=bH ρ (some i)) (g.lend q) (List.getElem?_set_self hi) fin;exact⟨_,h1,a,rfl,.inl ⟨hx,k _ _ _ w⟩⟩
   . rename_i ds' q;cases e;have fin:∀F2 ρ2 σ2 H2,cA X.K F ρ σ H F2 ρ2 σ2 H2->cA X.K F ρ σ H F2 (bH ρ (some i) ρ2) σ2 H2/\∀v r,cO X.K F2 ρ2 σ2 H2 ρ σ H v r->cO X.K F2 (bH ρ (some i) ρ2) σ2 H2 ρ σ H v r:=fun F2 ρ2 σ2 H2 s=>by unfold bH;dsimp only;rw[q];exact⟨s,fun _ _ z=>z⟩
     obtain⟨a,h1,hx,w⟩:=rW (ul:=bH ρ (some i)) g q fin;exact⟨_,h1,a,rfl,.inl ⟨hx,k _ _ _ w⟩⟩
   .cases e
theorem wU{K:PySem.W.Frag}{F F1 H H1:Hp}{ρ ρ1:List Sl}{σ:L2.St}(s:cA K F ρ σ H F1 ρ1 σ H1)(i j:Int):Walk K F ρ σ H (bH ρ none) (WY i (j-i).toNat) ((List.range (j-i).toNat).map fun(k:Nat)=>D.int (i+(k:Int))) F1 ρ1 H1:=by
 refine⟨s.gs,fun n k F' ρ' σ' H' s'=>⟨fun d hd=>?_,fun h=>?_⟩,fun F3 ρ3 σ3 H3 s3=>⟨s.trans s3,fun v r rr=>rr.later s⟩⟩;.rw[List.getElem?_map]at hd;obtain⟨m,e1,e2⟩:=map_some hd;obtain⟨h1,h2⟩:=List.getElem?_eq_some_iff.mp e1;rw[List.getElem_range]at h2;subst h2;subst e2;rw[List.length_range]at h1;refine⟨h1,?_⟩;rintro x qP⟨q1,q2⟩;subst q1;subst q2;exact⟨F',.refl s'.gs.sub,cJ _⟩
 .rw[List.length_map,List.length_range]at h;exact h
theorem fO{x:Str}{p':Pos}(hx:x="range")(hg:Gl X x)(hm:X.mg x=none)(ha:SX X c a pa)(hs:starEach [a] X.env=[(false,eval a X.env)]:=by rfl):SI X c tg (.Call (.Name x p') [a] [] pos) (.qW (.con (.int 0)) pa):=by
 subst hx;obtain⟨ta,h1,h2⟩:=ha.dz;refine rJ (CN hg hm (cR h1 gD hs) hs) ?_;rintro σ H R⟨F,ρ,ds,ρ1,g,e,k⟩;obtain⟨r,ρ2,e1,e2⟩:=ao e;have zz:=aF e2;clear e2;obtain⟨e2,e3⟩:=zz;subst e3;rw[HH.E20]at e1;obtain⟨xy,ρ3,e4,e5⟩:=ao e1;have zz:=aF e5;clear e5;obtain⟨e5,e6⟩:=zz;subst e6;obtain⟨y0,ρ5,e9,e10⟩:=ao e4;cases e10;obtain⟨i,f1,e5⟩:=dG e5;obtain⟨j,f2,e5⟩:=dG e5;obtain⟨⟨b1,b2,b3,b4⟩,e5⟩:=bw e5;have f1:i=0:=by cases f1;rfl
 subst f1;subst e5;cases e2;cases eY f2;refine h2 g e9 fun v F' H' s pv=>⟨j,by rw[pv.int],by omega,by omega,?_⟩;have:=wU s 0 j;rw[Int.sub_zero]at this;refine k _ F' H' ?_;rw[Int.sub_zero];exact this
theorem uI{x:Str}{p':Pos}(hx:x="range")(hg:Gl X x)(hm:X.mg x=none)(ha:SX X c a pa)(hb:SX X c b pb)(hs:starEach [a,b] X.env=[(false,eval a X.env),(false,eval b X.env)]:=by rfl)(hs2:starEach [b] X.env=[(false,eval b X.env)]:=by rfl):SI X c tg (.Call (.Name x p') [a,b] [] pos) (.qW pa pb):=by subst hx;obtain⟨ta,tb,h1,h2,h3⟩:=ha.gR hb;refine rJ (Dj hg hm (cR h1 (cR h2 gD hs2) (by rw[hs,hs2])) hs hs2) ?_;rintro σ H R⟨F,ρ,ds,ρ1,g,e,k⟩;obtain⟨r,ρ2,e1,e2⟩:=ao e;have zz:=aF e2;clear e2;obtain⟨e2,e3⟩:=zz;subst e3;rw[HH.E20]at e1;obtain⟨xy,ρ3,e4,e5⟩:=ao e1;have zz:=aF e5;clear e5;obtain⟨e5,e6⟩:=zz;subst e6;obtain⟨i,f1,e5⟩:=dG e5;obtain⟨j,f2,e5⟩:=dG e5;obtain⟨⟨b1,b2,b3,b4⟩,e5⟩:=bw e5;subst e5;cases e2;refine h3 g e4 fun v u F' H' s pv pu=>⟨i,j,?_,by omega,k _ F' H' (wU s i j)⟩;have e1:=eY f1;have e2:=eY f2;rw[e1]at pv;rw[e2]at pu;rw[pv.int,pu.int]
end
end HH
end
section
namespace HH
open PySem L2 PySem.Spec PyProof.Rows
section
variable{X:Cx}{c:Call}{n:Nat}{e a b d tg iter:Expr}{p pa pb pd:P}{pos:Pos}{body:List Stmt}{ss:List S}
noncomputable def Qo(K:PySem.W.Frag)(bd:List Sl->D->Option (List Sl))(g:TG):Prop:=∀(x:V)(d:D)(F:Hp)(ρ ρ':List Sl)(σ:L2.St)(H:Hp)(Q:L2.St->Hp->Prop),GS K F ρ σ H->Rep K F x d->bd ρ d=some ρ'->(∀σ',cA K F ρ σ H F ρ' σ' H->Q σ' H)->g x σ H Q
theorem Ly{K:PySem.W.Frag}(i:Nat):Qo K (fun ρ d=>put ρ i (.val false d)) (o9 i):=fun x d F ρ ρ' σ H Q g r h k=>k _ (cA.put (r:=.val d) (.refl g) r h)
theorem dq{K:PySem.W.Frag}:∀(is:List Nat)(gs:Ed),(∀(xs:List V)(ds:List D)(F:Hp)(ρ ρ':List Sl)(σ:L2.St)(H:Hp)(Q:L2.St->Hp->Prop),GS K F ρ σ H->aH K F xs ds->putAll ρ is ds=some ρ'->(∀σ',cA K F ρ σ H F ρ' σ' H->Q σ' H)->gs xs σ H Q)->∀i,∀(xs:List V)(ds:List D)(F:Hp)(ρ ρ':List Sl)(σ:L2.St)(H:Hp)(Q:L2.St->Hp->Prop),GS K F ρ σ H->aH K F xs ds->putAll ρ (i::is) ds=some ρ'->(∀σ',cA K F ρ σ H F ρ' σ' H->Q σ' H)->HJ (o9 i) gs xs σ H Q:=by intro is gs ih i xs ds F ρ ρ' σ H Q g r h k;cases ds with|nil=>simp[putAll]at h|cons d ds=>obtain⟨v,vs,rfl,h1,h2⟩:=r.cB;rw[putAll]at h;obtain⟨ρ1,e1,e2⟩:=dG h;have s1:=cA.put (r:=.val d) (.refl g) h1 e1;refine⟨v,vs,rfl,ih vs ds F ρ1 ρ' _ H _ s1.gs h2 e2 fun σ' s2=>k σ' (s1.trans s2)⟩
theorem lO{K:PySem.W.Frag}:∀(xs:List V)(ds:List D)(F:Hp)(ρ ρ':List Sl)(σ:L2.St)(H:Hp)(Q:L2.St->Hp->Prop),GS K F ρ σ H->aH K F xs ds->putAll ρ [] ds=some ρ'->(∀σ',cA K F ρ σ H F ρ' σ' H->Q σ' H)->Qn xs σ H Q:=by intro xs ds F ρ ρ' σ H Q g r h k;cases ds with|nil=>rw[putAll]at h;cases h;exact⟨r.fL,k σ (.refl g)⟩|cons d ds=>simp[putAll]at h
theorem jZ:∀{is:List Nat}{ds:List D}{ρ ρ':List Sl},putAll ρ is ds=some ρ'->ds.length=is.length|[],[],_,_,_=>rfl|[],_::_,_,_,h=>by simp[putAll]at h|_::_,[],_,_,h=>by simp[putAll]at h|i::is,d::ds,ρ,ρ',h=>by rw[putAll]at h;obtain⟨ρ1,e1,e2⟩:=dG h;simp[jZ e2]
theorem pX{K:PySem.W.Frag}{is:List Nat}{gs:Ed}{m:Nat}(hm:m=is.length)(h:∀(xs:List V)(ds:List D)(F:Hp)(ρ ρ':List Sl)(σ:L2.St)(H:Hp)(Q:L2.St->Hp->Prop),GS K F ρ σ H->aH K F xs ds->putAll ρ is ds=some ρ'->(∀σ',cA K F ρ σ H F ρ' σ' H->Q σ' H)->gs xs σ H Q):Qo K (fun ρ d=>cV ρ is false d) (Qz K m gs):=by intro x d F ρ ρ' σ H Q g r hb k;replace hb:cV ρ is false d=some ρ':=hb;cases d with|tup ds=>replace hb:putAll ρ is ds=some ρ':=hb;rw[Rep]at r;obtain⟨a,xs,rfl,h1,h2⟩:=r;exact⟨a,xs,rfl,aO.jL g.sub h1,by rw[h2.length,jZ hb,hm],h xs _ F ρ ρ' σ H Q g h2 hb k⟩|_=>cases hb
theorem lY{g:TG}{is:List Nat}{one:Bool}(hp:PassesOwn (model X.prog X.w) X.A X.env X.xe)(hc:X.calm=true)(hi:SI X c tg iter p)(hg:PG X tg g)(hgo:Qo X.K (fun ρ d=>cV ρ is one d) g)(hb:SB X c n body ss)(hs:∀x,foldedSetIterable iter X.env x=pure x:=by intro _;rfl):SS X c n (.For tg iter body [] pos) (.fG p is one ss):=by
 refine eU (QL hp hc hi hg hb hs) ?_;rintro D σ H⟨F,ρ,fl,ρ',g0,e,k⟩;rw[HH.X13]at e;obtain⟨ds,ρ1,e1,e⟩:=ao e;obtain⟨fl',ρ2,e2,e⟩:=ao e;cases e;refine⟨F,ρ,ds,ρ1,g0,e1,fun J F1 H1 w=>?_⟩;have src:∀(i:Nat)(F':Hp)(ρ':List Sl)(σ':L2.St)(H':Hp),cA X.K F1 ρ1 σ H1 F' ρ' σ' H'->(∀d,ds[i]?=some d->J.go i H'/\∀x qP,J.Oj i H' x qP->∃F'',Ext F' H' F'' qP/\Rep X.K F'' x d)/\(ds.length<=i->J.stop i H'):=fun i F' ρ' σ' H' s=>w.src 0 i F' ρ' σ' H' (by simpa using s);refine⟨fun i m σi Hi=>∃Fi ρi,cA X.K F1 ρ1 σ H1 Fi ρi σi Hi/\m=ds.length-i/\i<=ds.length/\j8 is one (jh c n ss) (ds.drop i) ρi=.ok fl ρ2,⟨_,F1,ρ1,.refl w.gs,rfl,Nat.zero_le _,e2⟩,?_⟩;rintro i m σi Hi⟨Fi,ρi,si,rfl,hle,ei⟩;obtain⟨s1,s2⟩:=src i Fi ρi σi Hi si;by_cases hlt:i<ds.length
 . right;have hd:ds[i]?=some ds[i]:=by simp[hlt]
   obtain⟨go,step⟩:=s1 _ hd;refine⟨go,fun σ' H'=>∃m',m'<ds.length-i/\∃Fi ρi,cA X.K F1 ρ1 σ H1 Fi ρi σ' H'/\m'=ds.length-(i+1)/\i+1<=ds.length/\j8 is one (jh c n ss) (ds.drop (i+1)) ρi=.ok fl ρ2,fun σ' H' z=>z,fun x H' y=>?_⟩;obtain⟨F2,ext,rx⟩:=step x H' y;have si2:=si.trans (ext.stp si.gs);rw[List.drop_eq_getElem_cons hlt,j8]at ei;cases hbd:cV ρi is one ds[i]with|none=>rw[hbd]at ei;cases ei|some ρb=>rw[hbd]at ei;obtain⟨flb,ρc,eb,ei⟩:=ao ei;refine hgo x _ F2 ρi ρb σi H' _ si2.gs rx hbd fun σ2 sb=>?_;have si3:=si2.trans sb;refine⟨F2,ρb,flb,ρc,si3.gs,eb,fun F4 σ4 H4 s4=>?_⟩;have si4:=si3.trans s4;cases flb with|next=>exact⟨_,by omega,F4,ρc,si4,rfl,hlt,ei⟩|cont=>exact⟨_,by omega,F4,ρc,si4,rfl,hlt,ei⟩|brk=>cases ei;exact k F4 σ4 H4 (w.fin _ _ _ _ si4).1|ret r=>cases ei;intro v rr;obtain⟨z1,z2⟩:=w.fin _ _ _ _ si4;exact k F4 σ4 H4 z1 v (z2 v r (rr.later si3))
 . left;have hdr:ds.drop i=[]:=by rw[List.drop_eq_nil_iff];omega
   rw[hdr,j8]at ei;cases ei;exact⟨s2 (by omega),k Fi σi Hi (w.fin _ _ _ _ si).1⟩
theorem Dt(i:Nat):(fun(ρ:List Sl)(d:D)=>cV ρ [i] true d)=fun ρ d=>put ρ i (.val false d):=by funext ρ d;rfl
theorem cT{i:Nat}{x:Str}{pos':Pos}(hp:PassesOwn (model X.prog X.w) X.A X.env X.xe)(hc:X.calm=true)(hN:X.N.Nodup)(hx0:X.N[i]?=some x)(hx:Loc X.env.scope x)(hi:SI X c (.Name x pos') iter p)(hb:SB X c n body ss)(hs:∀x,foldedSetIterable iter X.env x=pure x:=by intro _;rfl)(hf:X.fn x=true\/X.env.scope.names.lookup x=some .local:=by first|exact .inl rfl|exact .inr rfl|assumption):SS X c n (.For (.Name x pos') iter body [] pos) (.fG p [i] true ss):=lY hp hc hi (aC hN hx0 hx hf) (by rw[Dt];exact Ly i) hb hs
end
end HH
end
section
namespace HH
open PySem L2 PySem.Spec PyProof.Rows
section
variable{X:Cx}{c:Call}{n:Nat}{e elt tg iter:Expr}{p ps pe:P}{pos:Pos}{scope:Scope}{N':List Str}{ifs:List Expr}
theorem Qt{t t':TE}(h:PE X e t)(i:∀σ H Q,σ.length=X.N.length->t' σ H Q->t σ H Q):PE X e t':=fun pins s σ H Q I q=>h pins s σ H Q I (i σ H Q I.len q)
theorem Sv{st:Stmt}{t t':TS}(h:PS X st t)(i:∀D σ H,σ.length=X.N.length->t' D σ H->t D σ H):PS X st t':=fun pins s σ H D I q=>h pins s σ H D I (i D σ H I.len q)
noncomputable def sW(K:PySem.W.Frag)(m:Nat)(is:List Nat)(one:Bool)(g:TG):Prop:=∀(x:V)(d:D)(F:Hp)(ρ ρ':List Sl)(σ:L2.St)(H:Hp)(Q:L2.St->Hp->Prop),GS K F ρ σ H->Rep K F x d->cV ρ is one d=some ρ'->(∀σ',cA K F ρ σ H F ρ' σ' H->σ'.take m=σ.take m->Q σ' H)->g x σ H Q
theorem take_set{α:Type}{l:List α}{i m:Nat}{a:α}(h:m<=i):(l.set i a).take m=l.take m:=by rw[List.take_set_of_le h]
theorem cz{K:PySem.W.Frag}{i m:Nat}(h:m<=i):sW K m [i] true (o9 i):=fun x d F ρ ρ' σ H Q g r hb k=>k _ (cA.put (r:=.val d) (.refl g) r hb) (take_set h)
noncomputable def Kf(K:PySem.W.Frag)(m:Nat)(is:List Nat)(gs:Ed):Prop:=∀(xs:List V)(ds:List D)(F:Hp)(ρ ρ':List Sl)(σ:L2.St)(H:Hp)(Q:L2.St->Hp->Prop),GS K F ρ σ H->aH K F xs ds->putAll ρ is ds=some ρ'->(∀σ',cA K F ρ σ H F ρ' σ' H->σ'.take m=σ.take m->Q σ' H)->gs xs σ H Q
theorem aW{K:PySem.W.Frag}{m i:Nat}{is:List Nat}{gs:Ed}(hi:m<=i)(ih:Kf K m is gs):Kf K m (i::is) (HJ (o9 i) gs):=by intro xs ds F ρ ρ' σ H Q g r h k;cases ds with|nil=>simp[putAll]at h|cons d ds=>obtain⟨v,vs,rfl,h1,h2⟩:=r.cB;rw[putAll]at h;obtain⟨ρ1,e1,e2⟩:=dG h;have s1:=cA.put (r:=.val d) (.refl g) h1 e1;exact⟨v,vs,rfl,ih vs ds F ρ1 ρ' _ H _ s1.gs h2 e2 fun σ' s2 z=>k σ' (s1.trans s2) (z.trans (take_set hi))⟩
theorem dJ{K:PySem.W.Frag}{m:Nat}:Kf K m [] Qn:=by intro xs ds F ρ ρ' σ H Q g r h k;cases ds with|nil=>rw[putAll]at h;cases h;exact⟨r.fL,k σ (.refl g) rfl⟩|cons d ds=>simp[putAll]at h
theorem dF{K:PySem.W.Frag}{is:List Nat}{gs:Ed}{m l:Nat}(hm:l=is.length)(h:Kf K m is gs):sW K m is false (Qz K l gs):=by intro x d F ρ ρ' σ H Q g r hb k;cases d with|tup ds=>replace hb:putAll ρ is ds=some ρ':=hb;rw[Rep]at r;obtain⟨a,xs,rfl,h1,h2⟩:=r;exact⟨a,xs,rfl,aO.jL g.sub h1,by rw[h2.length,jZ hb,hm],h xs _ F ρ ρ' σ H Q g h2 hb k⟩|_=>cases hb
noncomputable def SQ(X:Cx)(c:Call)(ifs:List Expr)(t:Option P):Prop:=R3 X ifs (N5 X.K (qO c t))
theorem bM:SQ X c [] none:=fun pins s σ H Q I⟨F,ρ,k,ρ',g,e,q⟩=>by rw[qO]at e;cases e;exact KC pins s σ H Q I (q F H (.refl g))
theorem oM(h:ST X c e p):SQ X c [e] (some p):=fun pins s σ H Q I⟨F,ρ,k,ρ',g,e,q⟩=>by rw[qO]at e;exact Ko h pins s σ H Q I ⟨F,ρ,k,ρ',g,e,q⟩
theorem cA.Yr{K:PySem.W.Frag}{F H F1 H1:Hp}{ρ ρ1:List Sl}{σ σ1:L2.St}{Da:Addr}{o:HO}(s:cA K F ρ σ H F1 ρ1 σ1 H1)(h:H Da=none)(hf:F1 Da=none)(ho:¬ Own ρ1 σ1 Da):cA K F ρ σ H F1 ρ1 σ1 (upd H1 Da o):=by
 refine⟨⟨fun b u e=>?_,s.gs.len,s.gs.val,fun i t ds e e'=>?_,s.gs.dis⟩,s.dm,s.Eh,fun b u e n=>?_,s.DY,s.len,s.lk⟩
 . have:b≠Da:=by rintro rfl;rw[hf]at e;cases e
   rw[aM this];exact s.gs.sub b u e
 . obtain⟨a,xs,q1,q2,q3,q4⟩:=s.gs.own i t ds e e';have:a≠Da:=by rintro rfl;exact ho ⟨i,⟨t,ds,e,e'⟩,q1⟩
   exact⟨a,xs,q1,by rw[aM this];exact q2,q3,q4⟩
 . have:b≠Da:=by rintro rfl;rw[h]at e;cases e
   rw[aM this];exact s.keep b u e n
theorem Ii{K:PySem.W.Frag}{F H:Hp}{ρ ρ1 ρ2:List Sl}{σ:L2.St}{ul:List Sl->List Sl}{ti:TI}{is:List Nat}{one:Bool}{test:List Sl->Res Bool}{el:Ev}{g:TG}{Q:VK}{ds xs:List D}{m:Nat}(hm:σ.length=m)(hgo:sW K m is one g)(hti:∀R:It->Hp->Prop,(∀J F1 H1,Walk K F ρ σ H ul J ds F1 ρ1 H1->R J H1)->ti σ H R)(hlim:ds.length<=lim)(e2:turns is one test el ds [] (ρ1++List.replicate n .aZ)=.ok xs ρ2)(k:∀v F' H',cA K F ρ σ H F' (ul (ρ2.take ρ1.length)) σ H'->cO K F' (ul (ρ2.take ρ1.length)) σ H' ρ σ H v (.own xs)->Q v H'):Ab n ti g (N5 K test) (Ff K el) σ H Q:=by
 refine hti _ fun J F1 H1 w Da Vd=>?_;have hl1:ρ1.length=σ.length:=w.gs.len;have gm:=w.gs.more (n:=n) (τ:=List.replicate n none) (by simp);have fD:F1 Da=none:=by cases q:F1 Da with|none=>rfl|some o=>rw[w.gs.sub Da o q]at Vd;cases Vd
 have nO:¬ Own (ρ1++List.replicate n .aZ) (σ++List.replicate n none) Da:=fun⟨i,⟨t,dt,q1,q2⟩,q3⟩=>by obtain⟨a,ys,z1,z2,_⟩:=gm.own i t dt q1 q2;rw[q3]at z1;cases z1;rw[Vd]at z2;cases z2
 refine⟨fun i mm ys σi Hi=>∃Fi ρi acc,cA K F1 (ρ1++List.replicate n .aZ) (σ++List.replicate n none) H1 Fi ρi σi Hi/\σi.take m=σ/\Hi Da=some (.lst ys)/\Fi Da=none/\¬ Own ρi σi Da/\aH K Fi ys acc/\acc.length<=i/\mm=ds.length-i/\i<=ds.length/\turns is one test el (ds.drop i) acc ρi=.ok xs ρ2,⟨_,F1,_,[],(cA.refl gm).Yr Vd fD nO,by rw[List.take_append_of_le_length (by omega),List.take_of_length_le (by omega)],bj,fD,nO,.nil,Nat.zero_le _,rfl,Nat.zero_le _,e2⟩,?_⟩;rintro i mm ys σi Hi⟨Fi,ρi,acc,si,hσ,hD,hF,hO,rs,hacc,rfl,hle,ei⟩;refine⟨hD,?_⟩--what stays of the new list through a step
 have stay:∀{F2 H2:Hp}{ρ3:List Sl}{σ2:L2.St},cA K Fi ρi σi Hi F2 ρ3 σ2 H2->H2 Da=some (.lst ys)/\F2 Da=none/\¬ Own ρ3 σ2 Da:=fun{F2 H2 ρ3 σ2}s=>by
  refine⟨s.keep Da _ hD hO,?_,fun o=>?_⟩;.cases q:F2 Da with|none=>rfl|some o=>
      rcases s.Eh Da hF (by rw[q];simp)with z|z;.exact absurd z hO
      .exact(IV hD z).elim
  . rcases s.DY Da o with z|z;.exact hO z
    .rw[hD]at z;cases z
 obtain⟨s1,s2⟩:=w.src n i Fi ρi σi Hi si;by_cases hlt:i<ds.length
 . right;have hd:ds[i]?=some ds[i]:=by simp[hlt]
   obtain⟨go,step⟩:=s1 _ hd;refine⟨go,fun x H2 y=>?_⟩;obtain⟨F2,ext,rx⟩:=step x H2 y;have t2:=ext.stp si.gs;rw[List.drop_eq_getElem_cons hlt,turns]at ei;cases hbd:cV ρi is one ds[i]with|none=>rw[hbd]at ei;cases ei|some ρb=>rw[hbd]at ei;obtain⟨bb,ρc,eb,ei⟩:=ao ei;refine hgo x _ F2 ρi ρb σi H2 _ t2.gs rx hbd fun σ2 sb htk=>?_;have t3:=t2.trans sb;refine⟨F2,ρb,bb,ρc,t3.gs,eb,fun F4 H4 s4=>?_⟩;have t4:=t3.trans s4;cases bb with|false=>rw[if_neg Bool.false_ne_true]at ei;obtain⟨y1,y2,y3⟩:=stay t4;exact⟨_,by omega,F4,ρc,acc,si.trans t4,htk.trans hσ,y1,y2,y3,rs.mono t4.dm,by omega,rfl,hlt,ei⟩|true=>
       rw[if_pos rfl]at ei;obtain⟨re,ρe,ee,ei⟩:=ao ei;refine(show Ff K el σ2 H4 _ from⟨F4,ρc,re,ρe,t4.gs,ee,fun v F5 H5 s5 rr=>?_⟩);obtain⟨F6,s6,_,rp⟩:=s5.fW rr;have t6:=t4.trans s6;obtain⟨y1,y2,y3⟩:=stay t6;have hlen:ys.length<sizeLine:=by have h1:=rs.length;have h2:lim=sizeLine:=rfl;omega
       exact⟨y1,hlen,_,by omega,F6,ρe,acc++[re.d],(si.trans t6).Yr Vd y2 y3,htk.trans hσ,bj,y2,y3,(rs.mono t6.dm).append (.cons rp .nil),by simp;omega,rfl,hlt,ei⟩
 . left;have hdr:ds.drop i=[]:=by rw[List.drop_eq_nil_iff];omega
   rw[hdr,turns]at ei;cases ei;refine⟨s2 (by omega),?_⟩;obtain⟨l1,l2⟩:=cA.less (m:=ρ1.length) rfl w.gs (by simp) si;have hst:σi.take ρ1.length=σ:=by rw[hl1,hm];exact hσ
   rw[hst]at l1;have rr:cO K Fi ρ2 σi Hi (ρ1++List.replicate n .aZ) (σ++List.replicate n none) H1 (.ref Da) (.own xs):=⟨Da,ys,rfl,hD,hF,rs,hO,.inr Vd⟩;have rr2:=l2 _ _ rr;rw[hst]at rr2;obtain⟨z1,z2⟩:=w.fin _ _ _ _ l1;exact k _ Fi Hi z1 (z2 _ _ rr2)
theorem Al{K:PySem.W.Frag}{F H:Hp}{ρ:List Sl}{σ:L2.St}{iv:Option Nat}{f:Ev}{is:List Nat}{one:Bool}{test:List Sl->Res Bool}{el:Ev}{g:TG}{Q:VK}{r:R}{ρ':List Sl}{m:Nat}(hm:σ.length=m)(hgo:sW K m is one g)(g0:GS K F ρ σ H)(e:((srcOf iv f ρ).bind fun ds ρ₁=>if ds.length<=lim then(turns is one test el ds [] (ρ₁++List.replicate n .aZ)).bind fun xs ρ₂=>Res.ok (R.own xs) (bH ρ iv (ρ₂.take ρ₁.length))else .stuck)=.ok r ρ')(k:∀v F' H',cA K F ρ σ H F' ρ' σ H'->cO K F' ρ' σ H' ρ σ H v r->Q v H'):Ab n (tIt K iv f) g (N5 K test) (Ff K el) σ H Q:=by
 obtain⟨ds,ρ1,e1,e⟩:=ao e;split at e;.rename_i hlim;obtain⟨xs,ρ2,e2,e⟩:=ao e;cases e;exact Ii hm hgo (fun R h=>⟨F,ρ,ds,ρ1,g0,e1,h⟩) hlim e2 k
 .cases e
theorem bB{g:TG}{is:List Nat}{one:Bool}{t:Option P}(hc:X.calm=true)(ok:gk X scope N' n)(hi:SI X c tg iter ps)(hg:∀cl C s₀ H₀ ex,PG (vI X scope N' cl C s₀ H₀ ex) tg g)(hgo:sW X.K X.N.length is one g)(ht:∀cl C s₀ H₀ ex,SQ (vI X scope N' cl C s₀ H₀ ex) c ifs t)(he:∀cl C s₀ H₀ ex,SX (vI X scope N' cl C s₀ H₀ ex) c elt pe)(hs:∀x,foldedSetIterable iter X.env x=pure x:=by intro _;rfl):SX X c (.ListComp elt [⟨tg,iter,ifs,0⟩] scope pos) (.comp ps n is one t pe):=by refine⟨Qt (JH (tt:=N5 X.K (qO c t)) (te:=Ff X.K (HH.ev c pe)) hc ok hi hg ht (fun cl C s₀ H₀ ex=>(he cl C s₀ H₀ ex).ev) hs) ?_,fun i h=>by cases h⟩;rintro σ H Q hl⟨F,ρ,r,ρ',g0,e,k⟩;rw[HH.E19]at e;exact Al hl hgo g0 e k
theorem LR{i:Nat}{x:Str}{pos' spos:Pos}{nn:Nat}{g:TG}{is:List Nat}{one:Bool}{t:Option P}(hc:X.calm=true)(hN:X.N.Nodup)(hx0:X.N[i]?=some x)(hx:Loc X.env.scope x)(ok:gk X scope N' n)(hi:SI X c tg iter ps)(hg:∀cl C s₀ H₀ ex,PG (vI X scope N' cl C s₀ H₀ ex) tg g)(hgo:sW X.K X.N.length is one g)(ht:∀cl C s₀ H₀ ex,SQ (vI X scope N' cl C s₀ H₀ ex) c ifs t)(he:∀cl C s₀ H₀ ex,SX (vI X scope N' cl C s₀ H₀ ex) c elt pe)(hsw:swapsWith (.ListComp elt [⟨tg,iter,ifs,0⟩] scope pos) (some (.Name x pos')) spos.line X.env=pure true:=by rfl)(hs:∀x,foldedSetIterable iter X.env x=pure x:=by intro _;rfl)(hf:X.fn x=true\/X.env.scope.names.lookup x=some .local:=by first|exact .inl rfl|exact .inr rfl|assumption):SS X c nn (.Assign [.Name x pos'] (.ListComp elt [⟨tg,iter,ifs,0⟩] scope pos) spos) (.asg i (.comp ps n is one t pe)):=by refine Sv (Ms (tt:=N5 X.K (qO c t)) (te:=Ff X.K (HH.ev c pe)) hc hN hx0 hx ok hi hg ht (fun cl C s₀ H₀ ex=>(he cl C s₀ H₀ ex).ev) hsw hs hf) ?_;rintro D σ H hl⟨F,ρ,fl,ρ',g0,e,k⟩;rw[HH.X6]at e;obtain⟨r,ρ1,e1,e⟩:=ao e;obtain⟨ρ2,ρ3,e2,e⟩:=ao e;cases e;have zz:=aF e2;clear e2;obtain⟨e2,e3⟩:=zz;rw[HH.E19]at e1;exact Al hl hgo g0 e1 fun v F1 H1 s1 rr=>k F1 _ H1 (s1.put rr e2)
end
end HH
end
section
namespace HH
open PySem L2 PySem.Spec PyProof.Rows
section
variable{X:Cx}{c:Call}{n:Nat}{e a b d:Expr}{p pa pb pd:P}{pos:Pos}{es:List Expr}{ps:List P}
noncomputable def tyN:D->String|.non=>"NoneType"|.bl _=>"bool"|.int _=>"int"|.str _=>"str"|.tup _=>"tuple"|.lst _=>"list"|.cg _=>"dict"
noncomputable def Wx:Ty->String|.none=>"NoneType"|.bool=>"bool"|.int=>"int"|.str=>"str"|.tuple=>"tuple"|.list=>"list"
theorem Wb(K:PySem.W.Frag)(t:Ty)(d:D):PySem.W.kitOne K (.type (tyN d)) (.type (Wx t))=some (cG t d):=by cases t<;>cases d<;>rfl
theorem Xg{pins:List (Addr×Obj)}{σ:L2.St}{H F:Hp}{s:Shared}{x:V}{u:Value}{dt:D}(I:L2.Inv X pins σ H s)(sm:aO F H)(px:di X.K F H x dt)(rx:RelV x u):(∃Hq,PySem.W.KitX X.K u (.type (tyN dt)) Hq/\Hq s.heap)/\u≠.builtin "__main__.__loader__#opaque":=by cases dt with|non=>rw[px.non]at rx;cases rx;exact⟨⟨_,PySem.W.kitx_none,trivial⟩,nofun⟩|bl y=>rw[px.bl]at rx;cases rx;exact⟨⟨_,PySem.W.kitx_bool,trivial⟩,nofun⟩|int i=>rw[px.int]at rx;obtain⟨t,rfl⟩:=rx;exact⟨⟨_,PySem.W.kitx_int,trivial⟩,nofun⟩|str y=>rw[px.str]at rx;obtain⟨t,rfl⟩:=rx;exact⟨⟨_,PySem.W.kitx_str,trivial⟩,nofun⟩|tup ds=>obtain⟨q,xs,rfl,hq,_⟩:=px.tup sm;cases rx;obtain⟨its,_,⟨o,h1,h2,_⟩,_⟩:=I.tuple hq;exact⟨⟨_,PySem.W.kitx_tuple,⟨o,h1,h2⟩⟩,nofun⟩|lst ds=>obtain⟨q,xs,rfl,hq,_⟩:=px.lst sm;cases rx;obtain⟨its,_,pl,_⟩:=I.list hq;obtain⟨o,h1,h2,_⟩:=pl.isList;exact⟨⟨_,PySem.W.kitx_list,⟨o,h1,h2⟩⟩,nofun⟩|cg m=>obtain⟨q,_,rfl,hq⟩:=px.cg sm;cases rx;obtain⟨o,h1,h2⟩:=Hd I hq;exact⟨⟨_,PySem.W.kitx_dict,⟨o,h1,h2⟩⟩,nofun⟩
theorem R8(t:Ty):fc X (.builtin "isinstance") (fun xs H Q=>∃x F dt,xs=[x,.ty (Wx t)]/\aO F H/\di X.K F H x dt/\Q (.bl (cG t dt)) H):=by rintro pins s σ H xs us Q I r⟨x,F,dt,hx,sm,px,q⟩;subst hx;obtain⟨u,w',rfl,rx,rt⟩:=r.two;cases(show w'=Value.type (Wx t)from rt);obtain⟨⟨Hq,Z,hz⟩,hne⟩:=Xg I sm px rx;exact PySem.W.kia_one Z I.O8 hz (Wb _ t dt) hne fun tk=>⟨.bl _,H,I.tok tk,rfl,q⟩
theorem Gn:bootBuiltins "isinstance"=some (.builtin "isinstance"):=by decide+kernel
theorem vK{x y:Str}{p' p2:Pos}(t:Ty)(hx:x="isinstance")(hg:Gl X x)(hm:X.mg x=none)(ha:SX X c a pa)(hgy:Gl X y)(hmy:X.mg y=none)(hy:bootBuiltins y=some (.type (Wx t)))(hny:y≠"__name__":=by decide)(hdy:(y==("__debug__":Str))=false:=by decide)(hs:starEach [a,.Name y p2] X.env=(false,eval a X.env)::starEach [.Name y p2] X.env:=by rfl):SX X c (.Call (.Name x p') [a,.Name y p2] [] pos) (.inst [t] pa):=by subst hx;obtain⟨ta,h1,h2⟩:=ha.dz;refine⟨dX (fu (R8 t) hg hm Gn (cR h1 (cR (K5 (v:=.ty (Wx t)) hgy hmy hy rfl hny hdy) gD) hs) (he:=hs)) ?_,fun i h=>by cases h⟩;rintro σ H Q⟨F,ρ,r,ρ',g,e,k⟩;rw[HH.E18]at e;obtain⟨dt,ρ1,e1,e⟩:=ao e;cases e;refine h2 g e1 fun v F' H' s pv=>⟨v,F',dt,rfl,s.gs.sub,pv,k _ F' H' s ?_⟩;show Rep X.K F' _ _;rw[List.any_cons,List.any_nil,Bool.or_false];exact iT _
inductive rBn(K:PySem.W.Frag)(f:List D->Option R)(xs:List V)(H:Hp)(Q:VK):Prop where|mk(F:Hp)(ds:List D)(r:R)(sm:aO F H)(rs:aH K F xs ds)(he:f ds=some r)(k:∀v F' H',Ext F H F' H'->cM K F' H' H v r->Q v H')
theorem Vz{E:Expr}{f:List D->Option R}{q:P}(hp:∀{t},PA X es t->PE X E (tCB (rBn X.K f) t))(ha:SA X c es ps)(hq:∀ρ,HH.ev c q ρ=(evs c ps ρ).bind fun ds ρ=>lift (f ds) ρ)(hv:isVar q=none):SX X c E q:=by refine⟨dX (hp ha.1) ?_,fun i h=>by rw[hv]at h;cases h⟩;rintro σ H Q⟨F,ρ,r,ρ',g,e,k⟩;rw[hq]at e;obtain⟨ds,ρ1,e1,e2⟩:=ao e;have zz:=aF e2;clear e2;obtain⟨e2,e3⟩:=zz;subst e3;exact⟨F,ρ,ds,ρ1,g,e1,fun vs F' H' s rs=>⟨F',ds,r,s.gs.sub,rs,e2,fun w F2 H2 x rn=>k w F2 H2 (s.trans (x.stp s.gs)) (.later s (rn.pO s.gs))⟩⟩
theorem Xd{K:PySem.W.Frag}{F:Hp}{xs:List V}{i j:Int}(h:aH K F xs [.int i,.int j]):xs=[.int i,.int j]:=by obtain⟨v,r,rfl,h1,h2⟩:=h.cB;obtain⟨u,r2,rfl,h3,h4⟩:=h2.cB;rw[Rep]at h1 h3;rw[h1,h3,h4.fL]
theorem inv2{f:Blt}{g:Int->Int->Int}{ds:List D}{r:R}(h0:blt f []=none)(h1:∀a,blt f [a]=none)(h3:∀a b c l,blt f (a::b::c::l)=none)(hn:∀a b,dC a=false->blt f [a,b]=none)(hm:∀i b,dC b=false->blt f [.int i,b]=none)(hi:∀i j,blt f [.int i,.int j]=some (.val (.int (g i j))))(he:blt f ds=some r):∃i j,ds=[.int i,.int j]/\r=.val (.int (g i j)):=by
 rcases ds with _|⟨a,_|⟨b,_|⟨c,l⟩⟩⟩;.rw[h0]at he;cases he
 .rw[h1]at he;cases he
 . by_cases ha:dC a=true
   . obtain⟨i,rfl⟩:∃i,a=.int i:=by cases a<;>first|exact⟨_,rfl⟩|cases ha
     by_cases hb:dC b=true
     . obtain⟨j,rfl⟩:∃j,b=.int j:=by cases b<;>first|exact⟨_,rfl⟩|cases hb
       rw[hi]at he;cases he;exact⟨i,j,rfl,rfl⟩
     .rw[hm i b (by simpa using hb)]at he;cases he
   .rw[hn a b (by simpa using ha)]at he;cases he
 .rw[h3]at he;cases he
theorem S9(hc:X.calm=true):fc X (.builtin "max") (rBn X.K (blt .max2)):=by rintro pins s σ H xs us Q I r⟨F,ds,r',sm,rs,he,k⟩;obtain⟨i,j,rfl,rfl⟩:=inv2 (g:=fun i j=>if i<j then j else i) rfl (fun a=>by cases a<;>rfl) (fun a b c l=>by cases a<;>first|rfl|(cases b<;>rfl)) (fun a b h=>by cases a<;>first|rfl|cases h) (fun i b h=>by cases b<;>first|rfl|cases h) (fun _ _=>rfl) he;rw[Xd rs]at r;exact Cu hc pins s σ H _ us Q I r ⟨_,_,rfl,cM.eV sm (cJ _) k⟩
theorem boot_max:bootBuiltins "max"=some (.builtin "max"):=by decide+kernel
theorem Bd{x:Str}{p':Pos}(hx:x="max")(hc:X.calm=true)(hg:Gl X x)(hm:X.mg x=none)(ha:SA X c [a,b] [pa,pb])(hs:starEach [a,b] X.env=(false,eval a X.env)::starEach [b] X.env:=by rfl)(hpl:(backTo pos (starEach [b] X.env)).any (·.1)=false:=by rfl):SX X c (.Call (.Name x p') [a,b] [] pos) (.blt .max2 [pa,pb]):=by subst hx;exact Vz (fun h=>fu (S9 hc) hg hm boot_max h (he:=hs) (hpl:=hpl)) ha (fun ρ=>rfl) rfl
end
end HH
end
section
namespace HH
open PySem L2 PySem.Spec PyProof.Rows
section
variable{X:Cx}{c:Call}{n:Nat}{e a b d:Expr}{p pa pb pd:P}{pos:Pos}{es:List Expr}{ps:List P}
theorem tQ{K:PySem.W.Frag}{F H:Hp}{ρ:List Sl}{σ:L2.St}{i:Nat}{ds:List D}(g:GS K F ρ σ H)(h:Ji ρ i=some ds):∃a xs,σ[i]?=some (some (V.ref a))/\gA K H a xs:=by
 unfold Ji at h;split at h;.rename_i q;cases h;obtain⟨v,h1,h2⟩:=g.pk q;obtain⟨a,xs,rfl,h3,_⟩:=h2.lst g.sub;exact⟨a,xs,h1,h3⟩
 .cases h
theorem oY{x:Str}{k:Nat}{px tpos:Pos}(hN:X.N[k]?=some x)(hv:xX X.env.scope x)(hi:SX X c b pb)(he:SX X c e p)(ha:∀ v,assign (.Subscript (.Name x px) b tpos) X.env v=(do
  let ov<-holding [v] (eval (.Name x px) X.env)let iv<-holding [v,ov] (eval b X.env)standAt tpos
  holding [v,ov,iv] (setItem ov iv v)release [v,ov,iv] []):=by intro _;rfl)(hs:swapsWithSole [.Subscript (.Name x px) b tpos] e pos.line X.env=pure false:=by rfl)(hw:swappedStores [.Subscript (.Name x px) b tpos] e X.env=pure none:=by rfl)(h1:(assignEach [.Subscript (.Name x px) b tpos] X.env).map (·.2)=[assign (.Subscript (.Name x px) b tpos) X.env]:=by rfl)(hd:(x==("__debug__":Str))=false:=by decide)(hcd:(x==("__classdict__":Str))=false:=by decide):SS X c n (.Assign [.Subscript (.Name x px) b tpos] e pos) (.zE k pb p):=by
 obtain⟨ti,hi1,hi2⟩:=hi.dz;refine eU (Qx he.ev (Qi (gb hN hv hd hcd) hi1 set_list ha) hs hw h1) ?_;rintro D σ H⟨F,ρ,fl,ρ',g,e,kk⟩;rw[HH.X8]at e;obtain⟨r,ρ1,e1,e⟩:=ao e;obtain⟨x0,ρ1',e0,e⟩:=ao e;have zz:=aF e0;clear e0;obtain⟨e0,xP⟩:=zz;subst xP;obtain⟨dk,ρ2,e2,e⟩:=ao e;refine⟨F,ρ,r,ρ1,g,e1,fun v F1 H1 s1 rr=>?_⟩;obtain⟨F2,s2,_,rp⟩:=s1.fW rr;obtain⟨o,ho,_⟩:=s2.gs.pk e0;refine⟨o,ho,hi2 s2.gs e2 fun vi F3 H3 s3 pi=>?_⟩;split at e
 . rename_i bb ds kk' q;split at e;.rename_i j hj;cases e;obtain⟨ad,xs,q1,q2,q3,q4⟩:=s3.gs.pg k _ ds q rfl;rw[ho]at q1;cases q1;refine⟨ad,xs,kk',j,rfl,pi.int,q2,by rw[q4.length];exact hj,?_⟩;exact kk F3 σ _ ((s2.trans s3).trans (s3.gs.mut q ho (q4.set (rp.mono s3.dm) j)))
   .cases e
 .cases e
theorem cI{x:Str}{k:Nat}{px apos cpos:Pos}(hN:X.N[k]?=some x)(hv:xX X.env.scope x)(he:SX X c e p)(hline:(apos.endLine==cpos.line)=true:=by rfl)(hs:starEach [e] X.env=(false,eval e X.env)::starEach [] X.env:=by rfl)(hbase:attributeBase (.Name x px) "append" X.env (eval (.Name x px) X.env)=eval (.Name x px) X.env:=by rfl)(hfew:((backTo cpos (starEach [e] X.env)).all (fun x=>!x.1)&&(backToKw cpos (keywordEach [] X.env)).all (fun x=>x.1.isSome)&&decide ([e].length+([]:List Keyword).length+(if([]:List Keyword).isEmpty then 0 else 1)<30))=true:=by rfl)(hsw:swapsWith (.Call (.Attribute (.Name x px) "append" apos) [e] [] cpos) none pos.line X.env=pure false:=by rfl)(hd:(x==("__debug__":Str))=false:=by decide)(hcd:(x==("__classdict__":Str))=false:=by decide):SS X c n (.Expr (.Call (.Attribute (.Name x px) "append" apos) [e] [] cpos) pos) (.app k p):=by
 refine eU (oG (Nm PySem.F.plainAttrs_list PySem.F.slot_list_append PySem.F.type_list_append rK (gb hN hv hd hcd) (cR he.ev gD hs) hbase hfew hline hs) hsw) ?_;rintro D σ H⟨F,ρ,fl,ρ',g,e,kk⟩;rw[HH.X9]at e;obtain⟨d0,ρ0,e0,e⟩:=ao e;have zz:=aF e0;clear e0;obtain⟨e0,xP⟩:=zz;subst xP;obtain⟨r,ρ1,e1,e⟩:=ao e;obtain⟨a,xs,h1,h2⟩:=tQ g e0;refine⟨.ref a,h1,.inl ⟨rfl,xs,h2⟩,F,ρ,r,ρ1,g,e1,fun v F1 H1 s1 rr=>?_⟩;obtain⟨F2,s2,_,rp⟩:=s1.fW rr;split at e
 . rename_i bb ds q;split at e;.rename_i hlt;cases e;obtain⟨ad,ys,q1,q2,q3,q4⟩:=s2.gs.pg k _ ds q rfl;rw[h1]at q1;cases q1;exact⟨_,ys,v,rfl,rfl,q2,by rw[q4.length];exact hlt,kk F2 σ _ (s2.trans (s2.gs.mut q h1 (q4.append (.cons rp .nil))))⟩
   .cases e
 .cases e
theorem Im{i j:Nat}{x y:Str}{px py pt:Pos}{kt k2 Te}(hc:X.calm=true)(hN:X.N.Nodup)(hi:X.N[i]?=some x)(hj:X.N[j]?=some y)(hij:i≠j)(hx:X.env.scope.names.lookup x=some .local)(hy:X.env.scope.names.lookup y=some .local)(ha:SX X c a pa)(hb:SX X c b pb)(hw:swappedStores [.Tuple [.Name x px,.Name y py] kt pt] (.Tuple [a,b] k2 Te) X.env=pure (some [x,y]):=by rfl)(hs:swapsWithSole [.Tuple [.Name x px,.Name y py] kt pt] (.Tuple [a,b] k2 Te) pos.line X.env=pure false:=by rfl)(h1:starEach [a,b] X.env=(false,eval a X.env)::starEach [b] X.env:=by rfl)(h2:starEach [b] X.env=(false,eval b X.env)::starEach [] X.env:=by rfl):SS X c n (.Assign [.Tuple [.Name x px,.Name y py] kt pt] (.Tuple [a,b] k2 Te) pos) (.par i j pa pb):=by refine eU (L2.PJ hc hN hi hj hij hx hy (cR ha.ev (cR hb.ev gD h2) h1) hw hs) ?_;rintro D σ H⟨F,ρ,fl,ρ',g,e,k⟩;rw[HH.X7]at e;obtain⟨r,ρ1,e1,e⟩:=ao e;obtain⟨r2,ρ2,e2,e⟩:=ao e;obtain⟨ρ3,ρ4,e3,e⟩:=ao e;cases e;have zz:=aF e3;clear e3;obtain⟨e3,e4⟩:=zz;obtain⟨ρ5,e5,e6⟩:=dG e3;refine⟨F,ρ,r,ρ1,g,e1,fun v F1 H1 s1 rr=>?_⟩;obtain⟨F2,s2,_,rp⟩:=s1.fW rr;refine⟨F2,ρ1,r2,ρ2,s2.gs,e2,fun u F3 H3 s3 rr3=>?_⟩;obtain⟨F4,s4,_,rp4⟩:=s3.fW rr3;refine⟨v,u,rfl,?_⟩;have t4:=s2.trans s4;have t5:=t4.put (r:=.val r.d) (v:=v) (rp.mono s4.dm) e5;exact k F4 _ H3 (t5.put (r:=.val r2.d) (v:=u) rp4 e6)
theorem HR{ds:List D}{bs:List Bool}(h:ds.mapM ye=some bs):ds=bs.map D.bl:=by induction ds generalizing bs with|nil=>simp at h;subst h;rfl|cons d ds ih=>rw[List.mapM_cons]at h;cases hd:ye d with|none=>rw[hd]at h;cases h|some k=>rw[hd]at h;cases hr:ds.mapM ye with|none=>rw[hr]at h;cases h|some r=>rw[hr]at h;cases h;rw[List.map_cons,<-ih hr,qH hd]
theorem zV{K:PySem.W.Frag}{F:Hp}:∀{bs:List Bool}{xs:List V},aH K F xs (bs.map D.bl)->xs=bs.map V.bl|[],_,h=>h.fL|k::bs,_,h=>by obtain⟨v,r,rfl,h1,h2⟩:=h.cB;rw[Rep]at h1;rw[h1,zV h2];rfl
theorem Aw:∀{bs:List Bool}{us:List Value},Vals (bs.map V.bl) us->us=bs.map Value.bool|[],_,h=>h.zero|k::bs,_,.cons r t=>by rw[List.map_cons,<-Aw t,show _=_ from r]
theorem Ju{id:String}{f:List Bool->Bool}(hc:X.calm=true)(rule:∀{x:Value}{Q:Value->Shared->Prop}{s:Shared},wpAny (model X.prog X.w) X.A.in1 (pyIter x) (fun it s₂=>∃ I fp wr n P St tr,it=.ref I/\Walks X.prog X.w X.A.in1 I fp wr n P St/\St 0 s₂.heap/\TruthOf X.prog X.w X.A.in1 P tr/\∀h' tk,(∀b o,b∉wr->s₂.heap.get? b=some o->h'.get? b=some o)->Q (.bool (f ((List.range n).map tr))) {s₂ with heap:=h',toks:=tk}) X.xe s->wpAny (model X.prog X.w) X.A (call (.builtin id) [x]) Q X.xe s):fc X (.builtin id) (fun xs H Q=>∃p ys bs,xs=[.ref p]/\gA X.K H p ys/\ys=bs.map V.bl/\Q (.bl (f bs)) H):=by
 rintro pins s σ H xs us Q I r⟨p,ys,bs,hx,hq,hy,k⟩;subst hx;subst hy;obtain⟨u,rfl,rx⟩:=r.one;cases rx;obtain⟨its,rv,pl,hz⟩:=I.list hq;have hits:=Aw rv;subst hits;refine rule (wpAny_pyIter_list pl.isList ?_);have hne:p≠s.heap.objs.size:=by obtain⟨o,h1,_⟩:=pl.isList;exact Nat.ne_of_lt (Heap.lt_size h1)
 refine⟨s.heap.objs.size,_,_,_,_,_,fun i=>bs.getD i false,rfl,Walks.list (prog:=X.prog) (w:=X.w) (A:=X.A.in1) (show X.A.in1.handled=none from I.ok.hd hc) s.heap.objs.size p hne (bs.map Value.bool).toArray,⟨⟨_,Heap.get?_push_size _ rfl,rfl,rfl⟩,?_⟩,?_,fun h' tk kp=>?_⟩;.obtain⟨o,h1,h2⟩:=pl.isList;exact⟨o,Heap.get?_push_of_some _ h1,h2⟩
 . intro i v s' Q' E' hP hQ;have hv:v=.bool (bs.getD i false):=by
    have hP:(bs.map Value.bool)[i]?=some v:=by simpa using hP
    rw[List.getElem?_map]at hP;obtain⟨k',e1,e2⟩:=map_some hP;rw[<-e2,List.getD_eq_getElem?_getD,e1];rfl
   subst hv;exact wpAny_truthy_bool hQ
 . have e:f ((List.range (bs.map Value.bool).toArray.size).map fun i=>bs.getD i false)=f bs:=by
    congr 1;apply List.ext_getElem;.simp
    .intro i h1 h2;simp at h1;simp[h1]
   rw[e];exact⟨.bl _,H,I.kept (fun b o z=>kp b o (by simp;exact Nat.ne_of_lt (Heap.lt_size z)) (Heap.get?_push_of_some _ z)),rfl,k⟩
theorem Wd(hc:X.calm=true):fc X (.builtin "all") (N6 X.K fun x=>blt .all [x]):=by rintro pins s σ H xs us Q I r⟨x,hx,F,d,r',sm,px,he,k⟩;obtain⟨bs,e1,he⟩:=map_some (show((zq d).bind fun ds=>ds.mapM ye).map _=some r' from he);subst he;obtain⟨ds,e2,e3⟩:=dG e1;have e4:=HR e3;cases d with|lst es=>cases e2;obtain⟨p,ys,rfl,hq,rs⟩:=px.lst sm;rw[e4]at rs;refine Ju (f:=fun bs=>bs.all id) hc (fun h=>call_all_walk (wpAny_mono h (fun it s₂⟨I,fp,wr,n,P,Sx,tr,h1,h2,h3,h4,h5⟩=>⟨I,fp,wr,n,P,Sx,tr,h1,h2,h3,h4,fun h' tk kp=>?_⟩) fun _ _ z=>z)) pins s σ H xs us Q I r ⟨p,ys,bs,hx,hq,zV rs,cM.eV sm (iT _) k⟩;have z:=h5 h' tk kp;rw[List.all_map]at z;exact z|_=>cases e2
theorem boot_all:bootBuiltins "all"=some (.builtin "all"):=by decide+kernel
theorem gG{x:Str}{p':Pos}(hx:x="all")(hc:X.calm=true)(hg:Gl X x)(hm:X.mg x=none)(ha:SX X c a pa)(hs:starEach [a] X.env=(false,eval a X.env)::starEach [] X.env:=by rfl):SX X c (.Call (.Name x p') [a] [] pos) (.blt .all [pa]):=by subst hx;exact pZ (fun h=>fu (Wd hc) hg hm boot_all h (he:=hs)) ha (fun ρ=>rfl) rfl hs
end
end HH
end
section
namespace HH
open PySem L2 PySem.Spec PyProof.Rows
section
variable{K:PySem.W.Frag}
theorem jk:∀{xs ys:List D},xs.length≠ys.length->fZ xs ys=false|[],[],h=>absurd rfl h|[],_::_,_=>by simp[fZ]|_::_,[],_=>by simp[fZ]|x::xs,y::ys,h=>by rw[fZ,jk (xs:=xs) (ys:=ys) (by simpa using h),Bool.and_false]
theorem gf:∀{xs ys:List D},xs.length=ys.length->fZ xs ys=(List.range xs.length).all fun j=>iV (xs.getD j .non) (ys.getD j .non)|[],[],_=>by rw[fZ];rfl|[],_::_,h=>by simp at h|_::_,[],h=>by simp at h|x::xs,y::ys,h=>by rw[fZ,gf (xs:=xs) (ys:=ys) (by simpa using h),List.length_cons,List.range_succ_eq_map,List.all_cons,List.all_map];rfl
mutual
theorem lB:∀d:D,iV d d=true|.non=>rfl|.bl _=>by exact beq_self_eq_true _|.int _=>by exact beq_self_eq_true _|.str _=>by exact beq_self_eq_true _|.tup ds=>by exact mW ds|.lst ds=>by exact mW ds|.cg _=>by exact decide_eq_true rfl
theorem mW:∀ds:List D,fZ ds ds=true|[]=>by rw[fZ]|d::ds=>by rw[fZ,lB d,mW ds];rfl
end
theorem fC{F:Hp}{d e:D}{v:V}(hf:flat d=true)(h1:Rep K F v d)(h2:Rep K F v e):d=e:=by cases d with
 |tup _=>cases hf|lst _=>cases hf|cg _=>cases hf|non=>rw[Rep]at h1;subst h1;cases e with|non=>rfl|tup _=>rw[Rep]at h2;obtain⟨_,_,q,_⟩:=h2;cases q|lst _=>rw[Rep]at h2;obtain⟨_,_,q,_⟩:=h2;cases q|cg _=>rw[Rep]at h2;obtain⟨_,_,q,_⟩:=h2;cases q|_=>rw[Rep]at h2;cases h2
 |bl k=>rw[Rep]at h1;subst h1;cases e with|bl _=>rw[Rep]at h2;cases h2;rfl|tup _=>rw[Rep]at h2;obtain⟨_,_,q,_⟩:=h2;cases q|lst _=>rw[Rep]at h2;obtain⟨_,_,q,_⟩:=h2;cases q|cg _=>rw[Rep]at h2;obtain⟨_,_,q,_⟩:=h2;cases q|_=>rw[Rep]at h2;cases h2
 |int k=>rw[Rep]at h1;subst h1;cases e with|int _=>rw[Rep]at h2;cases h2;rfl|tup _=>rw[Rep]at h2;obtain⟨_,_,q,_⟩:=h2;cases q|lst _=>rw[Rep]at h2;obtain⟨_,_,q,_⟩:=h2;cases q|cg _=>rw[Rep]at h2;obtain⟨_,_,q,_⟩:=h2;cases q|_=>rw[Rep]at h2;cases h2
 |str k=>rw[Rep]at h1;subst h1;cases e with|str _=>rw[Rep]at h2;cases h2;rfl|tup _=>rw[Rep]at h2;obtain⟨_,_,q,_⟩:=h2;cases q|lst _=>rw[Rep]at h2;obtain⟨_,_,q,_⟩:=h2;cases q|cg _=>rw[Rep]at h2;obtain⟨_,_,q,_⟩:=h2;cases q|_=>rw[Rep]at h2;cases h2
theorem Lb{X:Cx}{pins:List (Addr×Obj)}{σ:L2.St}{H F:Hp}{s:Shared}(I:L2.Inv X pins σ H s)(sm:aO F H):∀n:Nat,(∀d:D,du n d=true->∀(v:V)(e:D),Rep X.K F v d->Rep X.K F v e->d=e):=by
 have tl:∀{a:Addr}{xs ys:List V},jC X.K F a xs->gA X.K F a ys->False:=fun{a xs ys}h1 h2=>by obtain⟨_,_,⟨o,q1,q2,_⟩,_⟩:=I.tuple (aO.jL sm h1);obtain⟨_,_,pl,_⟩:=I.list (sm.seq h2);obtain⟨o',q3,q4,_⟩:=pl.isList;rw[q1]at q3;cases q3;rw[q2]at q4;exact absurd q4 (by decide)
 have dd:∀{a:Addr}{kvs:Dc},Rep X.K F (.ref a) (.cg kvs)->∃o,s.heap.get? a=some o/\o.cls=.type "dict":=fun{a kvs}h=>by rw[Rep]at h;obtain⟨a',_,q,hq⟩:=h;cases q;exact Hd I (sm _ _ hq)
 have td:∀{a:Addr}{xs:List V}{kvs:Dc},jC X.K F a xs->Rep X.K F (.ref a) (.cg kvs)->False:=fun{a xs kvs}h1 h2=>by obtain⟨_,_,⟨o,q1,q2,_⟩,_⟩:=I.tuple (aO.jL sm h1);obtain⟨o',q3,q4⟩:=dd h2;rw[q1]at q3;cases q3;rw[q2]at q4;exact absurd q4 (by decide)
 have ld:∀{a:Addr}{xs:List V}{kvs:Dc},gA X.K F a xs->Rep X.K F (.ref a) (.cg kvs)->False:=fun{a xs kvs}h1 h2=>by obtain⟨_,_,pl,_⟩:=I.list (sm.seq h1);obtain⟨o,q1,q2,_⟩:=pl.isList;obtain⟨o',q3,q4⟩:=dd h2;rw[q1]at q3;cases q3;rw[q2]at q4;exact absurd q4 (by decide)
 intro n;induction n with
 |zero=>intro d hd v e h1 h2;cases d with|tup _=>simp[du]at hd|lst _=>simp[du]at hd|cg _=>simp[du]at hd|non=>exact fC rfl h1 h2|bl k=>exact fC rfl h1 h2|int k=>exact fC rfl h1 h2|str k=>exact fC rfl h1 h2
 |succ n ih=>
   have all:∀{xs:List V}{ds es:List D},ds.all (du n)=true->aH X.K F xs ds->aH X.K F xs es->ds=es:=fun{xs ds}=>by induction ds generalizing xs with|nil=>intro es _ h1 h2;rw[h1.fL]at h2;have:=h2.length;exact(List.eq_nil_of_length_eq_zero this.symm).symm|cons d ds ih2=>intro es ha h1 h2;rw[List.all_cons,Bool.and_eq_true]at ha;obtain⟨v,r,rfl,q1,q2⟩:=h1.cB;cases es with|nil=>cases h2.fL|cons e es=>obtain⟨v',r',q0,q3,q4⟩:=h2.cB;cases q0;rw[ih d ha.1 v e q1 q3,ih2 ha.2 q2 q4]
   intro d hd v e h1 h2;cases d with
   |cg _=>simp[du]at hd|tup ds=>
     have ha:ds.all (du n)=true:=by simpa[du]using hd
     rw[Rep]at h1;obtain⟨a,xs,rfl,z1,z2⟩:=h1;cases e with|tup es=>rw[Rep]at h2;obtain⟨a',ys,q,w1,w2⟩:=h2;cases q;have:=I.mV (aO.jL sm z1) (aO.jL sm w1);subst this;rw[all ha z2 w2]|lst es=>rw[Rep]at h2;obtain⟨a',ys,q,w1,w2⟩:=h2;cases q;exact(tl z1 w1).elim|cg _=>exact(td z1 h2).elim|_=>rw[Rep]at h2;cases h2
   |lst ds=>
     have ha:ds.all (du n)=true:=by simpa[du]using hd
     rw[Rep]at h1;obtain⟨a,xs,rfl,z1,z2⟩:=h1;cases e with|lst es=>rw[Rep]at h2;obtain⟨a',ys,q,w1,w2⟩:=h2;cases q;have:=I.qe (sm.seq z1) (sm.seq w1);subst this;rw[all ha z2 w2]|tup es=>rw[Rep]at h2;obtain⟨a',ys,q,w1,w2⟩:=h2;cases q;exact(tl w1 z1).elim|cg _=>exact(ld z1 h2).elim|_=>rw[Rep]at h2;cases h2
   |non=>exact fC rfl h1 h2|bl k=>exact fC rfl h1 h2|int k=>exact fC rfl h1 h2|str k=>exact fC rfl h1 h2
theorem Az{A:Around}{s:Shared}{F:Hp}{d e:D}{v u:V}{v' u':Value}(hd:flat d=true)(he:flat e=true)(h1:Rep K F v d)(h2:Rep K F u e)(r1:RelV v v')(r2:RelV u u'):SeqAt.EqAt A s v' u' (iV d e):=by cases d with
 |tup _=>cases hd|lst _=>cases hd|cg _=>cases hd|non=>rw[Rep]at h1;subst h1;cases(show v'=.none from r1);cases e with|tup _=>cases he|lst _=>cases he|cg _=>cases he|non=>rw[Rep]at h2;subst h2;cases(show u'=.none from r2);exact SeqAt.EqAt.same _|bl _=>rw[Rep]at h2;subst h2;cases(show u'=.bool _ from r2);exact SeqAt.EqAt.none_bool _|int _=>rw[Rep]at h2;subst h2;obtain⟨t,rfl⟩:=r2;exact SeqAt.EqAt.none_int _ _|str _=>rw[Rep]at h2;subst h2;obtain⟨t,rfl⟩:=r2;exact SeqAt.EqAt.none_str _ _
 |bl _=>rw[Rep]at h1;subst h1;cases(show v'=.bool _ from r1);cases e with|tup _=>cases he|lst _=>cases he|cg _=>cases he|non=>rw[Rep]at h2;subst h2;cases(show u'=.none from r2);exact SeqAt.EqAt.bool_none _|bl _=>rw[Rep]at h2;subst h2;cases(show u'=.bool _ from r2);exact SeqAt.EqAt.bool_bool _ _|int _=>rw[Rep]at h2;subst h2;obtain⟨t,rfl⟩:=r2;exact SeqAt.EqAt.bool_int _ _ _|str _=>rw[Rep]at h2;subst h2;obtain⟨t,rfl⟩:=r2;exact SeqAt.EqAt.bool_str _ _ _
 |int _=>rw[Rep]at h1;subst h1;obtain⟨t0,rfl⟩:=r1;cases e with|tup _=>cases he|lst _=>cases he|cg _=>cases he|non=>rw[Rep]at h2;subst h2;cases(show u'=.none from r2);exact SeqAt.EqAt.int_none _ _|bl _=>rw[Rep]at h2;subst h2;cases(show u'=.bool _ from r2);exact SeqAt.EqAt.int_bool _ _ _|int _=>rw[Rep]at h2;subst h2;obtain⟨t,rfl⟩:=r2;exact SeqAt.EqAt.int_int _ _ _ _|str _=>rw[Rep]at h2;subst h2;obtain⟨t,rfl⟩:=r2;exact SeqAt.EqAt.int_str _ _ _ _
 |str _=>rw[Rep]at h1;subst h1;obtain⟨t0,rfl⟩:=r1;cases e with|tup _=>cases he|lst _=>cases he|cg _=>cases he|non=>rw[Rep]at h2;subst h2;cases(show u'=.none from r2);exact SeqAt.EqAt.str_none _ _|bl _=>rw[Rep]at h2;subst h2;cases(show u'=.bool _ from r2);exact SeqAt.EqAt.str_bool _ _ _|int _=>rw[Rep]at h2;subst h2;obtain⟨t,rfl⟩:=r2;exact SeqAt.EqAt.str_int _ _ _ _|str _=>rw[Rep]at h2;subst h2;obtain⟨t,rfl⟩:=r2;exact SeqAt.EqAt.str_str _ _ _ _
theorem lM{A:Around}{s:Shared}{F:Hp}{ds:List D}{e:D}{u:V}{u':Value}{a:Addr}{its:Array Value}(ht:s.heap.IsTuple a its)(hu:A.units<cLine)(he:flat e=true)(h2:Rep K F u e)(r2:RelV u u'):SeqAt.EqAt A s (.ref a) u' (iV (.tup ds) e)/\SeqAt.EqAt A s u' (.ref a) (iV e (.tup ds)):=by cases e with|tup _=>cases he|lst _=>cases he|cg _=>cases he|non=>rw[Rep]at h2;subst h2;cases(show u'=.none from r2);exact⟨SeqAt.EqAt.tuple_none ht hu,SeqAt.EqAt.none_tuple ht hu⟩|bl _=>rw[Rep]at h2;subst h2;cases(show u'=.bool _ from r2);exact⟨SeqAt.EqAt.tuple_bool _ ht hu,SeqAt.EqAt.bool_tuple _ ht hu⟩|int _=>rw[Rep]at h2;subst h2;obtain⟨t,rfl⟩:=r2;exact⟨SeqAt.EqAt.tuple_int _ _ ht hu,SeqAt.EqAt.int_tuple _ _ ht hu⟩|str _=>rw[Rep]at h2;subst h2;obtain⟨t,rfl⟩:=r2;exact⟨SeqAt.EqAt.tuple_str _ _ ht hu,SeqAt.EqAt.str_tuple _ _ ht hu⟩
theorem lH{A:Around}{s:Shared}{F:Hp}{ds:List D}{e:D}{u:V}{u':Value}{a:Addr}{its:Array Value}(ht:s.heap.IsList a its)(hu:A.units<cLine)(he:flat e=true)(h2:Rep K F u e)(r2:RelV u u'):SeqAt.EqAt A s (.ref a) u' (iV (.lst ds) e)/\SeqAt.EqAt A s u' (.ref a) (iV e (.lst ds)):=by cases e with|tup _=>cases he|lst _=>cases he|cg _=>cases he|non=>rw[Rep]at h2;subst h2;cases(show u'=.none from r2);exact⟨SeqAt.EqAt.list_none ht hu,SeqAt.EqAt.none_list ht hu⟩|bl _=>rw[Rep]at h2;subst h2;cases(show u'=.bool _ from r2);exact⟨SeqAt.EqAt.list_bool _ ht hu,SeqAt.EqAt.bool_list _ ht hu⟩|int _=>rw[Rep]at h2;subst h2;obtain⟨t,rfl⟩:=r2;exact⟨SeqAt.EqAt.list_int _ _ ht hu,SeqAt.EqAt.int_list _ _ ht hu⟩|str _=>rw[Rep]at h2;subst h2;obtain⟨t,rfl⟩:=r2;exact⟨SeqAt.EqAt.list_str _ _ ht hu,SeqAt.EqAt.str_list _ _ ht hu⟩
theorem wY{n:Nat}{d:D}(h:du n d=true)(h0:n=0):flat d=true:=by subst h0;cases d<;>first|rfl|simp[du]at h
theorem abu{X:Cx}{pins:List (Addr×Obj)}{σ:L2.St}{H F:Hp}{s:Shared}(I:L2.Inv X pins σ H s)(sm:aO F H):∀(n:Nat)(A:Around),A.units+n<cLine->∀(d e:D),du n d=true->du n e=true->∀(v u:V)(v' u':Value),Rep X.K F v d->Rep X.K F u e->RelV v v'->RelV u u'->SeqAt.EqAt A s v' u' (iV d e):=by intro n;induction n with|zero=>intro A hu d e hd he v u v' u' h1 h2 r1 r2;exact Az (wY hd rfl) (wY he rfl) h1 h2 r1 r2|succ n ih=>
   intro A hu d e hd he v u v' u' h1 h2 r1 r2;have hu0:A.units<cLine:=by omega
   have hu1:A.in1.units+n<cLine:=by show A.units+1+n<cLine;omega--items by place
   have at_:∀{xs ys:List V}{us ws:List Value}{ds es:List D}{j:Nat}(k1:j<us.toArray.size)(k2:j<ws.toArray.size),ds.all (du n)=true->es.all (du n)=true->Vals xs us->Vals ys ws->aH X.K F xs ds->aH X.K F ys es->SeqAt.EqAt A.in1 s us.toArray[j] ws.toArray[j] (iV (ds.getD j .non) (es.getD j .non)):=fun{xs ys us ws ds es j}k1 k2 a1 a2 v1 v2 p1 p2=>by
    have k1:j<us.length:=by simpa using k1
    have k2:j<ws.length:=by simpa using k2
    have l1:j<ds.length:=by rw[<-p1.length,v1.length];exact k1
    have l2:j<es.length:=by rw[<-p2.length,v2.length];exact k2
    obtain⟨x,g1,g2⟩:=p1.get (show ds[j]?=some ds[j]by simp[l1]);obtain⟨y,g3,g4⟩:=p2.get (show es[j]?=some es[j]by simp[l2]);obtain⟨x',g5,g6⟩:=v1.get g1;obtain⟨y',g7,g8⟩:=v2.get g3;have e1:us.toArray[j]=x':=by have:=(List.getElem?_eq_some_iff.mp g5).2;simpa using this
    have e2:ws.toArray[j]=y':=by have:=(List.getElem?_eq_some_iff.mp g7).2;simpa using this
    have e3:ds.getD j .non=ds[j]:=by simp[List.getD,l1]
    have e4:es.getD j .non=es[j]:=by simp[List.getD,l2]
    rw[e1,e2,e3,e4];exact ih A.in1 hu1 _ _ (List.all_eq_true.mp a1 _ (List.getElem_mem l1)) (List.all_eq_true.mp a2 _ (List.getElem_mem l2)) x y x' y' g2 g4 g6 g8--the same object
   have same:∀{a:Addr},v=.ref a->u=.ref a->SeqAt.EqAt A s v' u' (iV d e):=fun{a}q1 q2=>by subst q1;subst q2;have:=Lb I sm (n+1) d hd _ e h1 h2;subst this;rw[lB];cases r1;cases r2;exact SeqAt.EqAt.same _
   cases d with
   |cg _=>simp[du]at hd|tup ds=>
     have ha:ds.all (du n)=true:=by simpa[du]using hd
     have h1':=h1;rw[Rep]at h1';obtain⟨a,xs,rfl,z1,z2⟩:=h1';cases r1;obtain⟨us,v1,p1,_⟩:=I.tuple (aO.jL sm z1)
     cases e with|cg _=>simp[du]at he|tup es=>
       have hb:es.all (du n)=true:=by simpa[du]using he
       have h2':=h2;rw[Rep]at h2';obtain⟨b,ys,rfl,w1,w2⟩:=h2';by_cases hab:a=b;.subst hab;exact same rfl rfl
       . cases r2;obtain⟨ws,v2,p2,_⟩:=I.tuple (aO.jL sm w1);refine .of_refs hab ?_;have z:=SeqAt.RcAt.tuples (A:=A) (e:=fun j=>iV (ds.getD j .non) (es.getD j .non)) p1 p2 hu0 fun j k1 k2=>at_ k1 k2 ha hb v1 v2 z2 w2;have l1:us.toArray.size=ds.length:=by rw[List.size_toArray,<-v1.length,z2.length]
         have l2:ws.toArray.size=es.length:=by rw[List.size_toArray,<-v2.length,w2.length]
         rw[l1,l2]at z;have e0:iV (.tup ds) (.tup es)=((List.range (min ds.length es.length)).all (fun j=>iV (ds.getD j .non) (es.getD j .non))&&ds.length==es.length):=by
          rw[pqt];by_cases hl:ds.length=es.length;.rw[gf hl,hl];simp
          . rw[jk hl];have:(ds.length==es.length)=false:=by simpa using hl
            rw[this,Bool.and_false]
         rw[e0];exact z|lst es=>rw[Rep]at h2;obtain⟨b,ys,rfl,w1,w2⟩:=h2;cases r2;obtain⟨ws,v2,p2,_⟩:=I.list (sm.seq w1);exact SeqAt.EqAt.tuple_list p1 p2.isList hu0|non=>exact(lM p1 hu0 rfl h2 r2).1|bl _=>exact(lM p1 hu0 rfl h2 r2).1|int _=>exact(lM p1 hu0 rfl h2 r2).1|str _=>exact(lM p1 hu0 rfl h2 r2).1
   |lst ds=>
     have ha:ds.all (du n)=true:=by simpa[du]using hd
     have h1':=h1;rw[Rep]at h1'
     obtain⟨a,xs,rfl,z1,z2⟩:=h1';cases r1;obtain⟨us,v1,p1,_⟩:=I.list (sm.seq z1);cases e with|cg _=>simp[du]at he|lst es=>
       have hb:es.all (du n)=true:=by simpa[du]using he
       have h2':=h2;rw[Rep]at h2';obtain⟨b,ys,rfl,w1,w2⟩:=h2';by_cases hab:a=b;.subst hab;exact same rfl rfl
       . cases r2;obtain⟨ws,v2,p2,_⟩:=I.list (sm.seq w1);refine .of_refs hab ?_;have l1:us.toArray.size=ds.length:=by rw[List.size_toArray,<-v1.length,z2.length]
         have l2:ws.toArray.size=es.length:=by rw[List.size_toArray,<-v2.length,w2.length]
         rw[pql];by_cases hl:ds.length=es.length;.have z:=SeqAt.RcAt.lists (A:=A) (e:=fun j=>iV (ds.getD j .non) (es.getD j .non)) p1.isList p2.isList (by rw[l1,l2,hl]) hu0 fun j k1 k2=>at_ k1 k2 ha hb v1 v2 z2 w2;rw[l1]at z;rw[gf hl];exact z
         .rw[jk hl];exact SeqAt.RcAt.lists_lengths p1.isList p2.isList (by rw[l1,l2];simpa using hl) hu0|tup es=>rw[Rep]at h2;obtain⟨b,ys,rfl,w1,w2⟩:=h2;cases r2;obtain⟨ws,v2,p2,_⟩:=I.tuple (aO.jL sm w1);exact SeqAt.EqAt.list_tuple p1.isList p2 hu0|non=>exact(lH p1.isList hu0 rfl h2 r2).1|bl _=>exact(lH p1.isList hu0 rfl h2 r2).1|int _=>exact(lH p1.isList hu0 rfl h2 r2).1|str _=>exact(lH p1.isList hu0 rfl h2 r2).1
   |non|bl _|int _|str _=>cases e with|cg _=>simp[du]at he|tup es=>rw[Rep]at h2;obtain⟨b,ys,rfl,w1,w2⟩:=h2;cases r2;obtain⟨ws,v2,p2,_⟩:=I.tuple (aO.jL sm w1);exact(lM p2 hu0 rfl h1 r1).2|lst es=>rw[Rep]at h2;obtain⟨b,ys,rfl,w1,w2⟩:=h2;cases r2;obtain⟨ws,v2,p2,_⟩:=I.list (sm.seq w1);exact(lH p2.isList hu0 rfl h1 r1).2|_=>exact Az rfl rfl h1 h2 r1 r2
end
end HH
end
section
namespace HH
open PySem L2 PySem.Spec PyProof.Rows
section
variable{X:Cx}{pins:List (Addr×Obj)}{σ:L2.St}{H F:Hp}{s:Shared}{A:Around}
noncomputable abbrev RC(A:Around)(s:Shared)(v u:Value)(k:Bool):Prop:=SeqAt.RcAt A s v u k/\SeqAt.RcNeAt A s v u (!k)
inductive Top(X:Cx)(F H:Hp)(s:Shared):Value->D->Prop where|non:Top X F H s .none .non|bl(b:Bool):Top X F H s (.bool b) (.bl b)|int(i:Int)(t:Tok):Top X F H s (.int i t) (.int i)|str(x:Str)(t:Tok):Top X F H s (.str x t) (.str x)|tup{a:Addr}{us:List Value}{xs:List V}{ds:List D}(ht:s.heap.IsTuple a us.toArray)(hv:Vals xs us)(hr:aH X.K F xs ds):Top X F H s (.ref a) (.tup ds)|lst{a:Addr}{us:List Value}{xs:List V}{ds:List D}(ht:s.heap.IsList a us.toArray)(hv:Vals xs us)(hr:aH X.K F xs ds):Top X F H s (.ref a) (.lst ds)
theorem tV(I:L2.Inv X pins σ H s)(sm:aO F H){v:V}{v':Value}{d:D}(hd:du 8 d=true)(h:di X.K F H v d)(r:RelV v v'):Top X F H s v' d:=by cases d with|cg _=>simp[du]at hd|non=>rw[h.non]at r;cases r;exact .non|bl b=>rw[h.bl]at r;cases r;exact .bl b|int i=>rw[h.int]at r;obtain⟨t,rfl⟩:=r;exact .int i t|str x=>rw[h.str]at r;obtain⟨t,rfl⟩:=r;exact .str x t|tup ds=>obtain⟨a,xs,rfl,h1,h2,_⟩:=h.tup sm;cases r;obtain⟨us,v1,p1,_⟩:=I.tuple h1;exact .tup p1 v1 h2|lst ds=>obtain⟨a,xs,rfl,h1,h2⟩:=h.lst sm;cases r;obtain⟨us,v1,p1,_⟩:=I.list h1;exact .lst p1.isList v1 h2
theorem WW(I:L2.Inv X pins σ H s)(sm:aO F H){n:Nat}(hu:A.units+(n+1)<cLine){d e:D}(hd:du (n+1) d=true)(he:du (n+1) e=true){v' u':Value}(h1:Top X F H s v' d)(h2:Top X F H s u' e):RC A s v' u' (iV d e):=by
 have hu0:A.units<cLine:=by omega
 have hu1:A.in1.units+n<cLine:=by show A.units+1+n<cLine;omega
 have at_:∀{xs ys:List V}{us ws:List Value}{ds es:List D}{j:Nat}(k1:j<us.toArray.size)(k2:j<ws.toArray.size),ds.all (du n)=true->es.all (du n)=true->Vals xs us->Vals ys ws->aH X.K F xs ds->aH X.K F ys es->SeqAt.EqAt A.in1 s us.toArray[j] ws.toArray[j] (iV (ds.getD j .non) (es.getD j .non)):=fun{xs ys us ws ds es j}k1 k2 a1 a2 v1 v2 p1 p2=>by
  have k1:j<us.length:=by simpa using k1
  have k2:j<ws.length:=by simpa using k2
  have l1:j<ds.length:=by rw[<-p1.length,v1.length];exact k1
  have l2:j<es.length:=by rw[<-p2.length,v2.length];exact k2
  obtain⟨x,g1,g2⟩:=p1.get (show ds[j]?=some ds[j]by simp[l1]);obtain⟨y,g3,g4⟩:=p2.get (show es[j]?=some es[j]by simp[l2]);obtain⟨x',g5,g6⟩:=v1.get g1;obtain⟨y',g7,g8⟩:=v2.get g3;have e1:us.toArray[j]=x':=by have:=(List.getElem?_eq_some_iff.mp g5).2;simpa using this
  have e2:ws.toArray[j]=y':=by have:=(List.getElem?_eq_some_iff.mp g7).2;simpa using this
  have e3:ds.getD j .non=ds[j]:=by simp[List.getD,l1]
  have e4:es.getD j .non=es[j]:=by simp[List.getD,l2]
  rw[e1,e2,e3,e4];exact abu I sm n A.in1 hu1 _ _ (List.all_eq_true.mp a1 _ (List.getElem_mem l1)) (List.all_eq_true.mp a2 _ (List.getElem_mem l2)) x y x' y' g2 g4 g6 g8
 cases h1 with
 |non=>cases h2 with|non=>exact⟨SeqAt.RcAt.none_none,SeqAt.RcNeAt.none_none⟩|bl b=>exact⟨SeqAt.RcAt.none_bool _,SeqAt.RcNeAt.none_bool _⟩|int i t=>exact⟨SeqAt.RcAt.none_int _ _,SeqAt.RcNeAt.none_int _ _⟩|str i t=>exact⟨SeqAt.RcAt.none_str _ _,SeqAt.RcNeAt.none_str _ _⟩|tup ht _ _=>exact⟨SeqAt.RcAt.none_tuple ht hu0,SeqAt.RcNeAt.none_tuple ht hu0⟩|lst ht _ _=>exact⟨SeqAt.RcAt.none_list ht hu0,SeqAt.RcNeAt.none_list ht hu0⟩
 |bl b0=>cases h2 with|non=>exact⟨SeqAt.RcAt.bool_none _,SeqAt.RcNeAt.bool_none _⟩|bl b=>exact⟨SeqAt.RcAt.bool_bool _ _,SeqAt.RcNeAt.bool_bool _ _⟩|int i t=>exact⟨SeqAt.RcAt.bool_int _ _ _,SeqAt.RcNeAt.bool_int _ _ _⟩|str i t=>exact⟨SeqAt.RcAt.bool_str _ _ _,SeqAt.RcNeAt.bool_str _ _ _⟩|tup ht _ _=>exact⟨SeqAt.RcAt.bool_tuple _ ht hu0,SeqAt.RcNeAt.bool_tuple _ ht hu0⟩|lst ht _ _=>exact⟨SeqAt.RcAt.bool_list _ ht hu0,SeqAt.RcNeAt.bool_list _ ht hu0⟩
 |int i0 t0=>cases h2 with|non=>exact⟨SeqAt.RcAt.int_none _ _,SeqAt.RcNeAt.int_none _ _⟩|bl b=>exact⟨SeqAt.RcAt.int_bool _ _ _,SeqAt.RcNeAt.int_bool _ _ _⟩|int i t=>exact⟨SeqAt.RcAt.int_int _ _ _ _,SeqAt.RcNeAt.int_int _ _ _ _⟩|str i t=>exact⟨SeqAt.RcAt.int_str _ _ _ _,SeqAt.RcNeAt.int_str _ _ _ _⟩|tup ht _ _=>exact⟨SeqAt.RcAt.int_tuple _ _ ht hu0,SeqAt.RcNeAt.int_tuple _ _ ht hu0⟩|lst ht _ _=>exact⟨SeqAt.RcAt.int_list _ _ ht hu0,SeqAt.RcNeAt.int_list _ _ ht hu0⟩
 |str i0 t0=>cases h2 with|non=>exact⟨SeqAt.RcAt.str_none _ _,SeqAt.RcNeAt.str_none _ _⟩|bl b=>exact⟨SeqAt.RcAt.str_bool _ _ _,SeqAt.RcNeAt.str_bool _ _ _⟩|int i t=>exact⟨SeqAt.RcAt.str_int _ _ _ _,SeqAt.RcNeAt.str_int _ _ _ _⟩|str i t=>exact⟨SeqAt.RcAt.str_str _ _ _ _,SeqAt.RcNeAt.str_str _ _ _ _⟩|tup ht _ _=>exact⟨SeqAt.RcAt.str_tuple _ _ ht hu0,SeqAt.RcNeAt.str_tuple _ _ ht hu0⟩|lst ht _ _=>exact⟨SeqAt.RcAt.str_list _ _ ht hu0,SeqAt.RcNeAt.str_list _ _ ht hu0⟩
 |@tup a us xs ds ht hv hr=>
   have ha:ds.all (du n)=true:=by simpa[du]using hd
   cases h2 with|non=>exact⟨SeqAt.RcAt.tuple_none ht hu0,SeqAt.RcNeAt.tuple_none ht hu0⟩|bl b=>exact⟨SeqAt.RcAt.tuple_bool _ ht hu0,SeqAt.RcNeAt.tuple_bool _ ht hu0⟩|int i t=>exact⟨SeqAt.RcAt.tuple_int _ _ ht hu0,SeqAt.RcNeAt.tuple_int _ _ ht hu0⟩|str i t=>exact⟨SeqAt.RcAt.tuple_str _ _ ht hu0,SeqAt.RcNeAt.tuple_str _ _ ht hu0⟩|lst Eb _ _=>exact⟨SeqAt.RcAt.tuple_list ht Eb hu0,SeqAt.RcNeAt.tuple_list ht Eb hu0⟩|@tup b ws ys es Eb hv2 hr2=>
     have hb:es.all (du n)=true:=by simpa[du]using he
     have l1:us.toArray.size=ds.length:=by rw[List.size_toArray,<-hv.length,hr.length]
     have l2:ws.toArray.size=es.length:=by rw[List.size_toArray,<-hv2.length,hr2.length]
     have z1:=SeqAt.RcAt.tuples (A:=A) (e:=fun j=>iV (ds.getD j .non) (es.getD j .non)) ht Eb hu0 fun j k1 k2=>at_ k1 k2 ha hb hv hv2 hr hr2;have z2:=SeqAt.RcNeAt.tuples (A:=A) (e:=fun j=>iV (ds.getD j .non) (es.getD j .non)) ht Eb hu0 fun j k1 k2=>at_ k1 k2 ha hb hv hv2 hr hr2;rw[l1,l2]at z1 z2;have e0:iV (.tup ds) (.tup es)=((List.range (min ds.length es.length)).all (fun j=>iV (ds.getD j .non) (es.getD j .non))&&ds.length==es.length):=by
      rw[pqt];by_cases hl:ds.length=es.length;.rw[gf hl,hl];simp
      . rw[jk hl];have:(ds.length==es.length)=false:=by simpa using hl
        rw[this,Bool.and_false]
     rw[e0];exact⟨z1,z2⟩
 |@lst a us xs ds ht hv hr=>
   have ha:ds.all (du n)=true:=by simpa[du]using hd
   cases h2 with|non=>exact⟨SeqAt.RcAt.list_none ht hu0,SeqAt.RcNeAt.list_none ht hu0⟩|bl b=>exact⟨SeqAt.RcAt.list_bool _ ht hu0,SeqAt.RcNeAt.list_bool _ ht hu0⟩|int i t=>exact⟨SeqAt.RcAt.list_int _ _ ht hu0,SeqAt.RcNeAt.list_int _ _ ht hu0⟩|str i t=>exact⟨SeqAt.RcAt.list_str _ _ ht hu0,SeqAt.RcNeAt.list_str _ _ ht hu0⟩|tup Eb _ _=>exact⟨SeqAt.RcAt.list_tuple ht Eb hu0,SeqAt.RcNeAt.list_tuple ht Eb hu0⟩|@lst b ws ys es Eb hv2 hr2=>
     have hb:es.all (du n)=true:=by simpa[du]using he
     have l1:us.toArray.size=ds.length:=by rw[List.size_toArray,<-hv.length,hr.length]
     have l2:ws.toArray.size=es.length:=by rw[List.size_toArray,<-hv2.length,hr2.length]
     rw[pql];by_cases hl:ds.length=es.length;.have z1:=SeqAt.RcAt.lists (A:=A) (e:=fun j=>iV (ds.getD j .non) (es.getD j .non)) ht Eb (by rw[l1,l2,hl]) hu0 fun j k1 k2=>at_ k1 k2 ha hb hv hv2 hr hr2;have z2:=SeqAt.RcNeAt.lists (A:=A) (e:=fun j=>iV (ds.getD j .non) (es.getD j .non)) ht Eb (by rw[l1,l2,hl]) hu0 fun j k1 k2=>at_ k1 k2 ha hb hv hv2 hr hr2;rw[l1]at z1 z2;rw[gf hl];exact⟨z1,z2⟩
     .rw[jk hl];exact⟨SeqAt.RcAt.lists_lengths ht Eb (by rw[l1,l2];simpa using hl) hu0,SeqAt.RcNeAt.lists_lengths ht Eb (by rw[l1,l2];simpa using hl) hu0⟩
theorem il(hu:X.A.units+8<cLine):fH X (compareOp .Eq) (rD X.K (lW .eq)):=by rintro pins s σ H x y v u Q I rx ry⟨F,d,e,r,sm,px,py,he,k⟩;obtain⟨t,e1,e2⟩:=map_some (show(Ip d e).map _=some r from he);subst e2;unfold Ip at e1;obtain⟨hd,e1⟩:=bw e1;rw[Bool.and_eq_true]at hd;subst e1;exact(WW I sm (n:=7) hu hd.1 hd.2 (tV I sm hd.1 px rx) (tV I sm hd.2 py ry)).1 _ _ _ _ ⟨.bl _,H,I,rfl,cM.eV sm (iT _) k⟩
theorem gM(hu:X.A.units+8<cLine):fH X (compareOp .NotEq) (rD X.K (lW .ne)):=by rintro pins s σ H x y v u Q I rx ry⟨F,d,e,r,sm,px,py,he,k⟩;obtain⟨t,e1,e2⟩:=map_some (show(yD d e).map _=some r from he);subst e2;unfold yD at e1;obtain⟨hd,e1⟩:=bw e1;rw[Bool.and_eq_true]at hd;subst e1;exact(WW I sm (n:=7) hu hd.1 hd.2 (tV I sm hd.1 px rx) (tV I sm hd.2 py ry)).2 _ _ _ _ ⟨.bl _,H,I,rfl,cM.eV sm (iT _) k⟩
end
end HH
end
section
namespace HH
open PySem L2 PySem.Spec PyProof.Rows
section
variable{Pg:Program}{w:World}{K:PySem.W.Frag}{mg:Str->Option Value}{base:Heap}
theorem bF{x qual:Str}{st:Stmt}{f:Addr}{fd:FuncData}{N ps:List Str}{k n:Nat}{c:Call}{d:Fd}(Fu:gj K x qual st f fd)(S:aK N ps (aB st))(h1:d.np=ps.length)(h2:d.nn=N.length)(hb:∀(cdv:Value)(A:Around)(outer:List Env)(s:Shared)(H:Hp)(E:XK),jm k (A.deeper (envOfC qual (aB st) s.heap.objs.size f cdv))->SB (yG fU Pg w K mg base N qual (aB st) f cdv A outer s H E).Vv c n (fM st) d.body):bV Pg w K mg base fU (k+1) f fd ps (gn K ps.length (fun args=>enter c n d args)):=by
 refine Fu.ok S (fun vs H Q E h=>h.1) fun cdv A outer s H vs Q E hr h=>?_;obtain⟨hl,F,args,r,args',g,e,q⟩:=h;refine⟨_,hb cdv A outer s H E hr,?_⟩;replace e:enter c n d args=.ok r args':=e;unfold enter at e;split at e
 . rename_i hc;obtain⟨c1,c2⟩:=hc;have hg:=g.more (n:=d.nn-d.np) (τ:=List.replicate (N.length-vs.length) none) (by simp[h1,h2,hl]);have hla:args.length=d.np:=c1;have go:∀{fl:Fl}{ρ':List Sl},jh c n d.body (args++List.replicate (d.nn-d.np) .aZ)=.ok fl ρ'->(∀F' σ' H',cA K F (args++List.replicate (d.nn-d.np) .aZ) (start N vs) H F' ρ' σ' H'->(match fl with|.next=>Q .non H'|.brk=>False|.cont=>False|.ret r=>∀v,cO K F' ρ' σ' H' (args++List.replicate (d.nn-d.np) .aZ) (start N vs) H v r->Q v H'))->tEx K (jh c n d.body) {nx:=fun _ H'=>Q .non H',rt:=Q} (start N vs) H:=fun{fl ρ'}z k=>⟨F,_,fl,ρ',hg,z,fun F' σ' H' s=>by have:=k F' σ' H' s;cases fl<;>exact this⟩;split at e;.rename_i ρ' z;cases e;refine go z fun F' σ' H' s=>?_;obtain⟨z1,z2⟩:=cA.less (m:=d.np) hla.symm g (by simp[h1,h2,hl]) s;exact q .non F' _ H' z1 (show Rep K F' _ _ from Sw)
   .rename_i r' ρ' z;cases e;refine go z fun F' σ' H' s v rr=>?_;obtain⟨z1,z2⟩:=cA.less (m:=d.np) hla.symm g (by simp[h1,h2,hl]) s;exact q v F' _ H' z1 (z2 v r rr)
   .split at e<;>cases e
 .cases e
structure aA(Pg:Program)(w:World)(K:PySem.W.Frag)(mg:Str->Option Value)(base:Heap)(k:Nat)(c:Call)(i:Nat)(x:Str)(np:Nat):Prop where ex:∃fa fd qs,bV Pg w K mg base fU k fa fd qs (gn K qs.length (c i))/\mg x=some (.ref fa)/\PySem.W.keepIn K (.ref fa)=true/\Binds K fd qs []/\qs.length=np
end
section
variable{X:Cx}{c:Call}{n k:Nat}{e a b:Expr}{es:List Expr}{p pa pb:P}{ps:List P}{pos:Pos}
theorem sv(i:Nat){x:Str}(hN:X.N[i]?=some x:=by rfl)(hv:xX X.env.scope x:=by first|exact Or.inl rfl|exact Or.inr (Or.inl rfl)|exact Or.inr (Or.inr rfl))(hd:(x==("__debug__":Str))=false:=by rfl)(hcd:(x==("__classdict__":Str))=false:=by rfl):SX X c (.Name x pos) (.var i):=RP hN hv hd hcd
theorem dW{i np:Nat}{x:Str}{p':Pos}(C:aA X.prog X.w X.K X.mg X.base k c i x np)(hr:jm k X.A)(ha:SG X c (e::es) ps)(hg:Gl X x:=by rfl)(hl:(e::es).length=np:=by rfl)(hdb:(x==("__debug__":Str))=false:=by rfl)(he:starEach (e::es) X.env=(false,eval e X.env)::starEach es X.env:=by rfl)(hpl:(backTo pos (starEach es X.env)).any (·.1)=false:=by rfl)(hl2:ps.length=(e::es).length:=by rfl):SX X c (.Call (.Name x p') (e::es) [] pos) (.call i ps):=by obtain⟨fa,fd,qs,h1,h2,h3,h4,h5⟩:=C.ex;exact J6 h1 hr hg h2 h3 h4 ha (hl.trans h5.symm) hdb he hpl hl2
noncomputable def Nb(names outer:List (Str×NameKind))(N N':List Str)(n:Nat):Bool:=(names.all fun y=>names.lookup y.1==some y.2)&&(names.all fun y=>y.2!=.local||names.lookup y.1==some .local)&&(names.all fun y=>y.2!=.free||outer.lookup y.1==some .cell||outer.lookup y.1==some .free)&&N'.length==N.length+n&&((N.zip N').all fun p=>(p.1==p.2&&names.lookup p.2==some .free)||(names.lookup p.2!=some .local&&names.lookup p.2!=some .cell&&names.lookup p.2!=some .free))
theorem nG{scope:Scope}{N':List Str}(hk:scope.kind=.function)(h:Nb scope.names X.env.scope.names X.N N' n=true):gk X scope N' n:=by
 unfold Nb at h;simp only[Bool.and_eq_true]at h;obtain⟨⟨⟨⟨h1,h2⟩,h3⟩,h4⟩,h5⟩:=h;refine⟨hk,fun y hy=>eq_of_beq (List.all_eq_true.mp h1 y hy),fun y hy e=>?_,fun y hy e=>?_,by simpa using h4,h5⟩;.have:=List.all_eq_true.mp h2 y hy;rw[e]at this;simpa using this
 . have:=List.all_eq_true.mp h3 y hy;rw[e]at this;simp only[Bool.or_eq_true]at this;rcases this with(z|z)|z;.cases z
   .exact .inl (eq_of_beq z)
   .exact .inr (eq_of_beq z)
theorem aR{A:Around}(h:jm k A):A.units+8<cLine:=by have:=h.un;omega
end
end HH
end
section
namespace PySem
open AutoSeq1(wpAny_loadPart')
section
variable{prog:Program}{w:World}{A:Around}{E:Value->Shared->Prop}{s:Shared}
theorem lK{it l:Addr}{i:Nat}{items:Array Value}{x:Value}{Q:Value->Shared->Prop}(hit:s.heap.IsTupleIter it l i)(hl:s.heap.IsTuple l items)(hx:items[i]?=some x)(hQ:∀h',h'.IsTupleIter it l (i+1)->Heap.SameBut it s.heap h'->Q x {s with heap:=h'}):wpAny (model prog w) A (Builtin.SmallTypes.nextOf (.ref it)) Q E s:=by obtain⟨o,ho,hc,hd⟩:=id hit;obtain⟨ol,hol,_,nl,hdl⟩:=hl;unfold Builtin.SmallTypes.nextOf;refine wpAny_bind (wpAny_callSpecial?_slot (name:=Str.ofString "__next__") hit.typeIs F.slot_tuple_iterator_next (wpAny_call_entry F.slot_tuple_iterator_next hit.typeIs F.entry_tuple_iterator_next ?_ (F.args_tuple_iterator_next_1 _)));show wpAny _ _ (field (.ref it) 0>>=_) _ _ s;refine wpAny_bind (wpAny_field ho hd (x:=.ref l) rfl ?_);show wpAny _ _ (if(Value.ref l==Value.none)=true then _ else _) _ _ s;rw[if_neg (show ¬((Value.ref l==Value.none)=true)from Bool.false_ne_true)];show wpAny _ _ (field (.ref it) 1>>=_) _ _ s;refine wpAny_bind (wpAny_field ho hd (x:=.int i 0) rfl ?_);show wpAny _ _ (seqItems? (.ref l)>>=_) _ _ s;refine wpAny_bind (wpAny_seqItems hol hdl ?_);simp only[Int.toNat_natCast,hx];refine wpAny_bind (wpAny_setField ho hd (by simp) (wpAny_pure ⟨x,rfl,wpAny_pure (hQ _ ?_ (Heap.SameBut.update ..))⟩));exact⟨_,Heap.get?_update_self _ ho (Obj.isFreed_of_fields (Obj.data_mapFields hd _)),(Obj.cls_mapFields ..).trans hc,by rw[Obj.data_mapFields hd];simp[rawInt]⟩
theorem mY{it l:Addr}{i:Nat}{items:Array Value}{Q:Value->Shared->Prop}(hh:A.handled=none)(hit:s.heap.IsTupleIter it l i)(hl:s.heap.IsTuple l items)(hx:items[i]?=none)(hE:∀h' e,Heap.ExtBut it s.heap h'->(∃o,h'.get? e=some o/\o.cls=.type "StopIteration")->E (.ref e) {s with heap:=h'}):wpAny (model prog w) A (Builtin.SmallTypes.nextOf (.ref it)) Q E s:=by
 obtain⟨o,ho,hc,hd⟩:=id hit;obtain⟨ol,hol,_,nl,hdl⟩:=hl;unfold Builtin.SmallTypes.nextOf;refine wpAny_bind (wpAny_callSpecial?_slot (name:=Str.ofString "__next__") hit.typeIs F.slot_tuple_iterator_next (wpAny_call_entry F.slot_tuple_iterator_next hit.typeIs F.entry_tuple_iterator_next ?_ (F.args_tuple_iterator_next_1 _)));show wpAny _ _ (field (.ref it) 0>>=_) _ _ s;refine wpAny_bind (wpAny_field ho hd (x:=.ref l) rfl ?_);show wpAny _ _ (if(Value.ref l==Value.none)=true then _ else _) _ _ s;rw[if_neg (show ¬((Value.ref l==Value.none)=true)from Bool.false_ne_true)];show wpAny _ _ (field (.ref it) 1>>=_) _ _ s;refine wpAny_bind (wpAny_field ho hd (x:=.int i 0) rfl ?_);show wpAny _ _ (seqItems? (.ref l)>>=_) _ _ s;refine wpAny_bind (wpAny_seqItems hol hdl ?_);simp only[Int.toNat_natCast,hx];refine wpAny_bind (wpAny_rule (wpAny_bind (wpAny_setField ho hd (by simp) ?_)));show wpAny _ _ (newExc (.type "StopIteration") []>>=_) _ _ _;refine wpAny_bind ?_;simp only[newExc,newTuple];refine wpAny_bind (wpAny_newObj_type ?_ (by size_fits));refine wpAny_bind (m:=firstArgMember _ _) (wpAny_of_eq (a:=Value.none) (by first|rfl|(simp only[firstArgMember];rfl)) ?_);refine wpAny_newObj_type ?_ (by size_fits);simp only[raiseNew];refine wpAny_bind (wpAny_handled ?_);first|rw[show A.in1.handled=none from hh]|rw[hh]
 refine wpAny_bind (wpAny_pure (wpAny_throw ?_));exact hE _ _ (((Heap.SameBut.update ..).extBut.push _).push _) ⟨_,Heap.get?_push_size _ rfl,rfl⟩
end
end PySem
end
section
namespace L2
open PySem PySem.Spec PyProof.Rows
section
variable{X:Cx}{pins:List (Addr×Obj)}{σ:L2.St}{H:Hp}{s:Shared}
theorem Inv.Ra{ch:List Addr}{h':Heap}{o:HO}{t':Nat}(I:Inv X pins σ H s)(k:∀b u,b∉ch->s.heap.get? b=some u->h'.get? b=some u)(hl:∀b∈ch,∃u,h'.get? b=some u)(hf:∀b∈ch,mR X pins H b)(new:bL X.prog X.w (upd H s.heap.objs.size o) h' s.heap.objs.size o):Inv X pins σ (upd H s.heap.objs.size o) {s with heap:=h',toks:=t'}:=by
 have fr:H s.heap.objs.size=none:=I.hok.fresh (Nat.le_refl _);have IW:∀b u,H b=some u->b∉ch:=fun b u e hb=>by rw[(hf b hb).1]at e;cases e
 have up:∀b u,H b=some u->upd H s.heap.objs.size o b=some u:=fun b u e=>by
  have:b≠s.heap.objs.size:=by rintro rfl;rw[fr]at e;cases e
  rw[aM this];exact e
 refine I.call (g':=s.gens) (d':=s.drawn) (ch:=ch) ⟨fun b u e n _ hx=>k b u hx e,fun b u e n _ hx=>⟨u.slots,k b u hx e⟩,fun b u e n hx=>?_,fun b u e hx=>⟨u,k b u hx e⟩,fun b xs e=>up b _ e,fun b ob u e=>up b _ e,fun b ps e=>⟨#[],by rw[up b _ e];simp⟩⟩ ?_ I.bare fun b hb=>⟨(hf b hb).2.2.2.1,(hf b hb).2.1,(hf b hb).2.2.2.2.1,(hf b hb).2.2.2.2.2⟩;.have:b≠s.heap.objs.size:=Nat.ne_of_lt (Heap.lt_size e);rw[aM this];exact n
 . intro b u e;by_cases hb:b=s.heap.objs.size;.subst hb;rw[bj]at e;cases e;exact new
   . rw[aM hb]at e;refine(I.hok b u e).stay (fun c v hc q=>k c v ?_ q) (fun c q=>up c _ q) fun c xs q=>up c _ q;rcases hc with rfl|hc;.exact IW _ _ e
     .exact IW _ _ hc
end
end L2
namespace HH
open PySem L2 PySem.Spec PyProof.Rows
section
variable{K:PySem.W.Frag}{F F1 H H1:Hp}{ρ ρ1:List Sl}{σ:L2.St}{ds:List D}{a:Addr}
theorem Hl{F' H':Hp}{T:Addr}{v w:V}{d1 d2:D}(sm:aO F' H')(hT:H' T=none)(r1:Rep K F' v d1)(r2:Rep K F' w d2):∃F'',Ext F' H' F'' (upd H' T (.tup [v,w]))/\Rep K F'' (.ref T) (.tup [d1,d2]):=Dp (Q:=fun v qP=>∃F'',Ext F' H' F'' qP/\Rep K F'' v (.tup [d1,d2])) sm (.cons r1 (.cons r2 .nil)) hT fun v F'' qP x rn=>⟨F'',x,rn⟩
end
end HH
end
section
namespace PySem
structure Nx(prog:Program)(w:World)(A:Around)(it src:Addr)(Sx:Nat->Heap->Prop)(get:Nat->Option Value):Prop where
 obj:∀k h,Sx k h->∃o,h.get? it=some o/\∀v,o.data≠.cell v
 keep:∀k h h',Sx k h->(∀o,h.get? it=some o->h'.get? it=some o)->(∀o,h.get? src=some o->h'.get? src=some o)->Sx k h'
 item:∀k(s:Shared)(Q:Value->Shared->Prop)(E:Value->Shared->Prop)x,Sx k s.heap->get k=some x->(∀h',Sx (k+1) h'->Heap.SameBut it s.heap h'->Q x {s with heap:=h'})->wpAny (model prog w) A (Builtin.SmallTypes.nextOf (.ref it)) Q E s
 fin:∀k(s:Shared)(Q:Value->Shared->Prop)(E:Value->Shared->Prop),Sx k s.heap->get k=none->(∀h' e,Heap.ExtBut it s.heap h'->(∃o,h'.get? e=some o/\o.cls=.type "StopIteration")->E (.ref e) {s with heap:=h'})->wpAny (model prog w) A (Builtin.SmallTypes.nextOf (.ref it)) Q E s
section
variable{prog:Program}{w:World}{A:Around}{E:Value->Shared->Prop}{s:Shared}
theorem Nx.list(hh:A.handled=none)(it l:Addr)(hne:l≠it)(items:Array Value):Nx prog w A it l (fun k h=>h.IsListIter it l k/\h.IsList l items) (fun k=>items[k]?)where obj:=fun k h st=>let⟨o,h1,_,h3⟩:=st.1;⟨o,h1,fun v z=>by rw[h3]at z;cases z⟩;keep:=fun k h h' st a b=>⟨(let⟨o,ho,r⟩:=st.1;⟨o,a o ho,r⟩),(let⟨o,ho,r⟩:=st.2;⟨o,b o ho,r⟩)⟩;item:=fun k s Q E x st hx hQ=>wpAny_nextOf_list_item st.1 st.2 hx fun h' hit hs=>hQ h' ⟨hit,(let⟨o,ho,r⟩:=st.2;⟨o,hs.extBut l o hne ho,r⟩)⟩ hs;fin:=fun k s Q E st hx hE=>wpAny_nextOf_list_end hh st.1 st.2 hx hE
theorem Nx.tuple(hh:A.handled=none)(it l:Addr)(hne:l≠it)(items:Array Value):Nx prog w A it l (fun k h=>h.IsTupleIter it l k/\h.IsTuple l items) (fun k=>items[k]?)where obj:=fun k h st=>let⟨o,h1,_,h3⟩:=st.1;⟨o,h1,fun v z=>by rw[h3]at z;cases z⟩;keep:=fun k h h' st a b=>⟨(let⟨o,ho,r⟩:=st.1;⟨o,a o ho,r⟩),(let⟨o,ho,r⟩:=st.2;⟨o,b o ho,r⟩)⟩;item:=fun k s Q E x st hx hQ=>lK st.1 st.2 hx fun h' hit hs=>hQ h' ⟨hit,(let⟨o,ho,r⟩:=st.2;⟨o,hs.extBut l o hne ho,r⟩)⟩ hs;fin:=fun k s Q E st hx hE=>mY hh st.1 st.2 hx hE
variable{z TI TO i1 i2 l1 l2:Addr}{k:Nat}{S1 S2:Nat->Heap->Prop}{g1 g2:Nat->Option Value}{a b:Value}
theorem DP{x y:Value}{Q:Value->Shared->Prop}(D:ZipApart z TI TO i1 i2 l1 l2)(N1:Nx prog w A i1 l1 S1 g1)(N2:Nx prog w A i2 l2 S2 g2)(hz:IsZip s.heap z TI TO .none)(hTI:IsPair s.heap TI (.ref i1) (.ref i2))(hTO:IsPair s.heap TO a b)(h1:S1 k s.heap)(h2:S2 k s.heap)(hx:g1 k=some x)(hy:g2 k=some y)(hQ:∀ h',IsZip h' z TI TO (rawInt s.heap.objs.size)->IsPair h' TO x y->S1 (k+1) h'->S2 (k+1) h'->IsPair h' s.heap.objs.size x y->h'.objs.size=s.heap.objs.size+1->(∀c o,c≠z->c≠TO->c≠i1->c≠i2->s.heap.get? c=some o->h'.get? c=some o)->Q (.ref s.heap.objs.size) {s with heap:=h'}):wpAny (model prog w) A (Builtin.«zip.__next__» ⟨[.ref z],[]⟩) (fun fin s'=>∃v,fin=.done (.ret v)/\Q v s') E s:=by
 show wpAny _ _ (field (.ref z) 2>>=_) _ _ _;refine wpAny_bind (wpAny_field hz rfl (x:=.bool false) rfl ?_);show wpAny _ _ (field (.ref z) 3>>=_) _ _ _;refine wpAny_bind (wpAny_field hz rfl (x:=.ref TI) rfl (wpAny_bind (wpAny_seqItems hTI rfl ?_)));show wpAny _ _ (Builtin.SmallTypes.ownedTupleIsFree (.ref z)>>=_) _ _ _;refine wpAny_bind ?_;unfold Builtin.SmallTypes.ownedTupleIsFree;refine wpAny_bind (wpAny_field hz rfl (x:=.none) rfl (wpAny_pure ?_));simp only[if_true];refine wpAny_bind (wpAny_rule (wpAny_bind (wpAny_field hz rfl (x:=.ref TO) rfl (wpAny_bind (wpAny_setField_rec hz (by simp) fun t1 z1 zG=>?_)))));have z1:IsZip t1 z TI TO .ellipsis:=z1;refine wpAny_bind ?_;simp only[List.zipIdx_cons,List.zipIdx_nil,List.forIn_cons,List.forIn_nil];refine wpAny_bind (wpAny_bind (wpAny_onRaise ?_));show wpAny _ _ (Builtin.SmallTypes.nextOf (.ref i1)>>=_) _ _ _;have q1:S1 k t1:=N1.keep _ _ _ h1 (fun o e=>zG.extBut _ _ D.i1z e) fun o e=>zG.extBut _ _ D.l1z e;refine wpAny_bind (N1.item k _ _ _ x q1 hx fun t2 q2 zH=>wpAny_pure ?_);have p2:IsPair t2 TO a b:=zH.extBut _ _ D.TOi1 (zG.extBut _ _ D.TOz hTO);refine wpAny_bind (wpAny_seqItems p2 rfl (wpAny_bind (wpAny_updateSeq_pair p2 fun t3 p3 zJ=>?_)));have p3:IsPair t3 TO x b:=p3;refine wpAny_bind (wpAny_letGo (wpAny_pure (wpAny_bind (wpAny_bind (wpAny_onRaise ?_)))));show wpAny _ _ (Builtin.SmallTypes.nextOf (.ref i2)>>=_) _ _ _;have w3:S2 k t3:=N2.keep _ _ _ h2 (fun o e=>zJ.extBut _ _ D.TOi2.symm (zH.extBut _ _ D.i12.symm (zG.extBut _ _ D.i2z e))) fun o e=>zJ.extBut _ _ D.l2TO (zH.extBut _ _ D.l2i1 (zG.extBut _ _ D.l2z e));refine wpAny_bind (N2.item k _ _ _ y w3 hy fun t4 w4 MK=>wpAny_pure ?_);have p4:IsPair t4 TO x b:=MK.extBut _ _ D.TOi2 p3;refine wpAny_bind (wpAny_seqItems p4 rfl (wpAny_bind (wpAny_updateSeq_pair p4 fun t5 p5 Jm=>?_)));have p5:IsPair t5 TO x y:=p5;refine wpAny_bind (wpAny_letGo (wpAny_pure (wpAny_pure (wpAny_bind (wpAny_seqItems p5 rfl (wpAny_bind (wpAny_newTuple ?_)))))));have hsz:t5.objs.size=s.heap.objs.size:=by rw[Jm.1,MK.1,zJ.1,zH.1,zG.1]
 have z5:IsZip t5 z TI TO .ellipsis:=Jm.extBut _ _ D.TOz.symm (MK.extBut _ _ D.i2z.symm (zJ.extBut _ _ D.TOz.symm (zH.extBut _ _ D.i1z.symm z1)));have kp:∀c o,c≠z->c≠TO->c≠i1->c≠i2->s.heap.get? c=some o->t5.get? c=some o:=fun c o c1 c2 c3 c4 e=>Jm.extBut _ _ c2 (MK.extBut _ _ c4 (zJ.extBut _ _ c2 (zH.extBut _ _ c3 (zG.extBut _ _ c1 e))));have q5:S1 (k+1) t5:=N1.keep _ _ _ q2 (fun o e=>Jm.extBut _ _ D.TOi1.symm (MK.extBut _ _ D.i12 (zJ.extBut _ _ D.TOi1.symm e))) fun o e=>Jm.extBut _ _ D.l1TO (MK.extBut _ _ D.l1i2 (zJ.extBut _ _ D.l1TO e));have w5:S2 (k+1) t5:=N2.keep _ _ _ w4 (fun o e=>Jm.extBut _ _ D.TOi2.symm e) fun o e=>Jm.extBut _ _ D.l2TO e;have zlt:z<t5.objs.size:=Heap.lt_size z5;show wpAny _ _ (Builtin.SmallTypes.ownedTupleHandOut (.ref z) (.ref t5.objs.size)>>=_) _ _ _;refine wpAny_bind ?_;unfold Builtin.SmallTypes.ownedTupleHandOut;have z6:IsZip (t5.push {cls:=.type "tuple",data:=.seq #[x,y]}) z TI TO .ellipsis:=Heap.get?_push_of_some _ z5;refine wpAny_bind (wpAny_setField_rec z6 (by simp) fun t7 z7 sb7=>?_);have z7:IsZip t7 z TI TO (rawInt t5.objs.size):=z7;refine wpAny_setField_rec z7 (by simp) fun t8 z8 sb8=>?_;have z8:IsZip t8 z TI TO (rawInt t5.objs.size):=z8;have up:∀c o,c≠z->t5.get? c=some o->t8.get? c=some o:=fun c o c1 e=>sb8.extBut _ _ c1 (sb7.extBut _ _ c1 (Heap.get?_push_of_some _ e));have T8:IsPair t8 t5.objs.size x y:=sb8.extBut _ _ (Nat.ne_of_gt zlt) (sb7.extBut _ _ (Nat.ne_of_gt zlt) (Heap.get?_push_size _ rfl));have n8:t8.objs.size=t5.objs.size+1:=by rw[sb8.1,sb7.1,Heap.size_push]
 rw[hsz]at z8 T8 n8;refine wpAny_pure ⟨_,rfl,?_⟩;show Q (.ref t5.objs.size) _;rw[hsz];exact hQ t8 z8 (up _ _ D.TOz p5) (N1.keep _ _ _ q5 (fun o e=>up _ o D.i1z e) fun o e=>up _ o D.l1z e) (N2.keep _ _ _ w5 (fun o e=>up _ o D.i2z e) fun o e=>up _ o D.l2z e) T8 n8 fun c o c1 c2 c3 c4 e=>up c o c1 (kp c o c1 c2 c3 c4 e)
theorem Ft{Q:Fin->Shared->Prop}(D:ZipApart z TI TO i1 i2 l1 l2)(N1:Nx prog w A i1 l1 S1 g1)(N2:Nx prog w A i2 l2 S2 g2)(hz:IsZip s.heap z TI TO .none)(hTI:IsPair s.heap TI (.ref i1) (.ref i2))(hTO:IsPair s.heap TO a b)(h1:S1 k s.heap)(h2:S2 k s.heap)(hend:g1 k=none\/g2 k=none)(hE:∀h' e,(∀c o,c≠z->c≠TO->c≠i1->c≠i2->s.heap.get? c=some o->h'.get? c=some o)->(∃o,h'.get? e=some o/\o.cls=.type "StopIteration")->E (.ref e) {s with heap:=h'}):wpAny (model prog w) A (Builtin.«zip.__next__» ⟨[.ref z],[]⟩) Q E s:=by
 show wpAny _ _ (field (.ref z) 2>>=_) _ _ _;refine wpAny_bind (wpAny_field hz rfl (x:=.bool false) rfl ?_);show wpAny _ _ (field (.ref z) 3>>=_) _ _ _;refine wpAny_bind (wpAny_field hz rfl (x:=.ref TI) rfl (wpAny_bind (wpAny_seqItems hTI rfl ?_)));show wpAny _ _ (Builtin.SmallTypes.ownedTupleIsFree (.ref z)>>=_) _ _ _;refine wpAny_bind ?_;unfold Builtin.SmallTypes.ownedTupleIsFree;refine wpAny_bind (wpAny_field hz rfl (x:=.none) rfl (wpAny_pure ?_));simp only[if_true];refine wpAny_bind (wpAny_rule (wpAny_bind (wpAny_field hz rfl (x:=.ref TO) rfl (wpAny_bind (wpAny_setField_rec hz (by simp) fun t1 z1 zG=>?_)))));have z1:IsZip t1 z TI TO .ellipsis:=z1;refine wpAny_bind ?_;simp only[List.zipIdx_cons,List.zipIdx_nil,List.forIn_cons,List.forIn_nil];refine wpAny_bind (wpAny_bind (wpAny_onRaise ?_));show wpAny _ _ (Builtin.SmallTypes.nextOf (.ref i1)>>=_) _ _ _
 have q1:S1 k t1:=N1.keep _ _ _ h1 (fun o e=>zG.extBut _ _ D.i1z e) fun o e=>zG.extBut _ _ D.l1z e;cases hx:g1 k with|none=>
   refine wpAny_bind (N1.fin k _ _ _ q1 hx fun t2 e zH he=>?_);obtain⟨oe,hoe,hce⟩:=he;have z2:IsZip t2 z TI TO .ellipsis:=zH _ _ D.i1z.symm z1;have hez:e≠z:=fun x=>by subst x;rw[z2]at hoe;cases hoe;simp at hce
   exact wpAny_setField_rec z2 (by simp) fun t3 _ zJ=>hE t3 e (fun c o c1 _ c3 _ x=>zJ.extBut _ _ c1 (zH _ _ c3 (zG.extBut _ _ c1 x))) ⟨oe,zJ.extBut _ _ hez hoe,hce⟩|some x=>
   have hy:g2 k=none:=by rcases hend with h|h;rw[hx]at h;cases h;exact h
   refine wpAny_bind (N1.item k _ _ _ x q1 hx fun t2 q2 zH=>wpAny_pure ?_);have p2:IsPair t2 TO a b:=zH.extBut _ _ D.TOi1 (zG.extBut _ _ D.TOz hTO);refine wpAny_bind (wpAny_seqItems p2 rfl (wpAny_bind (wpAny_updateSeq_pair p2 fun t3 p3 zJ=>?_)));refine wpAny_bind (wpAny_letGo (wpAny_pure (wpAny_bind (wpAny_bind (wpAny_onRaise ?_)))));show wpAny _ _ (Builtin.SmallTypes.nextOf (.ref i2)>>=_) _ _ _;have w3:S2 k t3:=N2.keep _ _ _ h2 (fun o e=>zJ.extBut _ _ D.TOi2.symm (zH.extBut _ _ D.i12.symm (zG.extBut _ _ D.i2z e))) fun o e=>zJ.extBut _ _ D.l2TO (zH.extBut _ _ D.l2i1 (zG.extBut _ _ D.l2z e));refine wpAny_bind (N2.fin k _ _ _ w3 hy fun t4 e MK he=>?_);obtain⟨oe,hoe,hce⟩:=he;have z4:IsZip t4 z TI TO .ellipsis:=MK _ _ D.i2z.symm (zJ.extBut _ _ D.TOz.symm (zH.extBut _ _ D.i1z.symm z1));have hez:e≠z:=fun x=>by subst x;rw[z4]at hoe;cases hoe;simp at hce
   exact wpAny_setField_rec z4 (by simp) fun t5 _ Jm=>hE t5 e (fun c o c1 c2 c3 c4 x=>Jm.extBut _ _ c1 (MK _ _ c4 (zJ.extBut _ _ c2 (zH.extBut _ _ c3 (zG.extBut _ _ c1 x))))) ⟨oe,Jm.extBut _ _ hez hoe,hce⟩
theorem mZ{x y:Value}{Q:Option Value->Shared->Prop}(D:ZipApart z TI TO i1 i2 l1 l2)(N1:Nx prog w A.in1 i1 l1 S1 g1)(N2:Nx prog w A.in1 i2 l2 S2 g2)(hz:IsZip s.heap z TI TO .none)(hTI:IsPair s.heap TI (.ref i1) (.ref i2))(hTO:IsPair s.heap TO a b)(h1:S1 k s.heap)(h2:S2 k s.heap)(hx:g1 k=some x)(hy:g2 k=some y)(hQ:∀ h',IsZip h' z TI TO (rawInt s.heap.objs.size)->IsPair h' TO x y->S1 (k+1) h'->S2 (k+1) h'->IsPair h' s.heap.objs.size x y->h'.objs.size=s.heap.objs.size+1->(∀c o,c≠z->c≠TO->c≠i1->c≠i2->s.heap.get? c=some o->h'.get? c=some o)->Q (some (.ref s.heap.objs.size)) {s with heap:=h'}):wpAny (model prog w) A (pyNext (.ref z)) Q E s:=by have hT:s.TypeIs (.ref z) "zip":=⟨_,hz,rfl⟩;unfold pyNext;exact wpAny_bind (wpAny_attempt (wpAny_callSpecial?_slot (name:=Str.ofString "__next__") hT F.slot_zip_next (wpAny_call_entry F.slot_zip_next hT F.entry_zip_next (DP D N1 N2 hz hTI hTO h1 h2 hx hy fun h' a1 a2 a3 a4 a5 a6 a7=>wpAny_pure (hQ h' a1 a2 a3 a4 a5 a6 a7)) (F.args_zip_next_1 _))))
theorem nP{Q:Option Value->Shared->Prop}(D:ZipApart z TI TO i1 i2 l1 l2)(N1:Nx prog w A.in1 i1 l1 S1 g1)(N2:Nx prog w A.in1 i2 l2 S2 g2)(hz:IsZip s.heap z TI TO .none)(hTI:IsPair s.heap TI (.ref i1) (.ref i2))(hTO:IsPair s.heap TO a b)(h1:S1 k s.heap)(h2:S2 k s.heap)(hend:g1 k=none\/g2 k=none)(hQ:∀h',(∀c o,c≠z->c≠TO->c≠i1->c≠i2->s.heap.get? c=some o->h'.get? c=some o)->Q none {s with heap:=h'}):wpAny (model prog w) A (pyNext (.ref z)) Q E s:=by have hT:s.TypeIs (.ref z) "zip":=⟨_,hz,rfl⟩;unfold pyNext;refine wpAny_bind (wpAny_attempt (wpAny_callSpecial?_slot (name:=Str.ofString "__next__") hT F.slot_zip_next (wpAny_call_entry F.slot_zip_next hT F.entry_zip_next (Ft D N1 N2 hz hTI hTO h1 h2 hend fun h' e hk he=>?_) (F.args_zip_next_1 _))));obtain⟨o,ho,hc⟩:=he;exact wpAny_bind (wpAny_isInstance (T:="StopIteration") (b:=true) ⟨o,ho,hc⟩ isSubtype_stop (wpAny_pure (hQ _ hk)))
end
theorem ou(l1 l2:Addr)(xs ys:Array Value):Meets (Builtin.«zip.__new__» ⟨[.type "zip",.ref l1,.ref l2],[]⟩) (fun _ R s=>s.heap.IsList l1 xs/\s.heap.IsList l2 ys/\R (.ok (.ret (.ref (s.heap.objs.size+4)))) {s with heap:=((((s.heap.push {cls:=.type "list_iterator",data:=.fields #[.ref l1,.int 0 0]}).push {cls:=.type "list_iterator",data:=.fields #[.ref l2,.int 0 0]}).push {cls:=.type "tuple",data:=.seq #[.ref s.heap.objs.size,.ref (s.heap.objs.size+1)]}).push {cls:=.type "tuple",data:=.seq #[.none,.none]}).push {cls:=.type "zip",data:=.fields #[.none,.bool false,.bool false,.ref (s.heap.objs.size+2),.ref (s.heap.objs.size+3)]}}):=.of_wp fun prog w A R s h=>by obtain⟨hp,g,d,tk,os⟩:=s;obtain⟨hl1,hl2,h⟩:=h;have hsub:=sub_zip;have hL1:Heap.IsList (Shared.heap ⟨hp,g,d,tk,os⟩) l1 xs:=hl1;have hL2:Heap.IsList (Shared.heap ⟨hp.push {cls:=.type "list_iterator",data:=.fields #[.ref l1,.int 0 0]},g,d,tk,os⟩) l2 ys:=Heap.IsList.push hl2 _;wp_walk using wpAny_pyIter_list hL1,wpAny_pyIter_list hL2;simp only[Heap.size_push]at*;exact⟨_,rfl,h⟩
section
variable{prog:Program}{w:World}{A:Around}{E:Value->Shared->Prop}{s:Shared}
theorem yL{l1 l2:Addr}{xs ys:Array Value}{Q:Value->Shared->Prop}(hl1:s.heap.IsList l1 xs)(hl2:s.heap.IsList l2 ys)(h:∀ h',IsZip h' (s.heap.objs.size+4) (s.heap.objs.size+2) (s.heap.objs.size+3) .none->IsPair h' (s.heap.objs.size+2) (.ref s.heap.objs.size) (.ref (s.heap.objs.size+1))->IsPair h' (s.heap.objs.size+3) .none .none->h'.IsListIter s.heap.objs.size l1 0->h'.IsListIter (s.heap.objs.size+1) l2 0->(∀c o,s.heap.get? c=some o->h'.get? c=some o)->Q (.ref (s.heap.objs.size+4)) {s with heap:=h'}):wpAny (model prog w) A (call (.type "zip") [.ref l1,.ref l2]) Q E s:=by
 refine callType_new F.called_zip (by decide) (F.typeCall_zip_2 _ _) (F.newCall_zip_2 _ _) (fun obj=>F.args_object_init_3 obj _ _) F.entry_zip_new (ou l1 l2 xs ys) ⟨hl1,hl2,?_⟩;generalize e1:s.heap.push {cls:=.type "list_iterator",data:=.fields #[.ref l1,.int 0 0]}=t1;have n1:t1.objs.size=s.heap.objs.size+1:=by rw[<-e1,Heap.size_push]
 have a1:t1.get? s.heap.objs.size=some {cls:=.type "list_iterator",data:=.fields #[.ref l1,.int 0 0]}:=by rw[<-e1];exact Heap.get?_push_size _ rfl
 have k1:∀c o,s.heap.get? c=some o->t1.get? c=some o:=fun c o e=>by rw[<-e1];exact Heap.get?_push_of_some _ e
 generalize e2:t1.push {cls:=.type "list_iterator",data:=.fields #[.ref l2,.int 0 0]}=t2;have n2:t2.objs.size=s.heap.objs.size+2:=by rw[<-e2,Heap.size_push,n1]
 have a2:t2.get? (s.heap.objs.size+1)=some {cls:=.type "list_iterator",data:=.fields #[.ref l2,.int 0 0]}:=by rw[<-n1,<-e2];exact Heap.get?_push_size _ rfl
 have k2:∀c o,t1.get? c=some o->t2.get? c=some o:=fun c o e=>by rw[<-e2];exact Heap.get?_push_of_some _ e
 generalize e3:t2.push {cls:=.type "tuple",data:=.seq #[.ref s.heap.objs.size,.ref (s.heap.objs.size+1)]}=t3;have n3:t3.objs.size=s.heap.objs.size+3:=by rw[<-e3,Heap.size_push,n2]
 have a3:t3.get? (s.heap.objs.size+2)=some {cls:=.type "tuple",data:=.seq #[.ref s.heap.objs.size,.ref (s.heap.objs.size+1)]}:=by rw[<-n2,<-e3];exact Heap.get?_push_size _ rfl
 have k3:∀c o,t2.get? c=some o->t3.get? c=some o:=fun c o e=>by rw[<-e3];exact Heap.get?_push_of_some _ e
 generalize e4:t3.push {cls:=.type "tuple",data:=.seq #[.none,.none]}=t4;have n4:t4.objs.size=s.heap.objs.size+4:=by rw[<-e4,Heap.size_push,n3]
 have a4:t4.get? (s.heap.objs.size+3)=some {cls:=.type "tuple",data:=.seq #[.none,.none]}:=by rw[<-n3,<-e4];exact Heap.get?_push_size _ rfl
 have k4:∀c o,t3.get? c=some o->t4.get? c=some o:=fun c o e=>by rw[<-e4];exact Heap.get?_push_of_some _ e
 generalize e5:t4.push {cls:=.type "zip",data:=.fields #[.none,.bool false,.bool false,.ref (s.heap.objs.size+2),.ref (s.heap.objs.size+3)]}=t5;have a5:t5.get? (s.heap.objs.size+4)=some {cls:=.type "zip",data:=.fields #[.none,.bool false,.bool false,.ref (s.heap.objs.size+2),.ref (s.heap.objs.size+3)]}:=by rw[<-n4,<-e5];exact Heap.get?_push_size _ rfl
 have k5:∀c o,t4.get? c=some o->t5.get? c=some o:=fun c o e=>by rw[<-e5];exact Heap.get?_push_of_some _ e
 exact⟨⟨_,a5,rfl⟩,h t5 a5 (k5 _ _ (k4 _ _ a3)) (k5 _ _ a4) ⟨_,k5 _ _ (k4 _ _ (k3 _ _ (k2 _ _ a1))),rfl,rfl⟩ ⟨_,k5 _ _ (k4 _ _ (k3 _ _ a2)),rfl,rfl⟩ fun c o e=>k5 _ _ (k4 _ _ (k3 _ _ (k2 _ _ (k1 _ _ e))))⟩
end
theorem n6(l1 l2:Addr)(xs ys:Array Value):Meets (Builtin.«zip.__new__» ⟨[.type "zip",.ref l1,.ref l2],[]⟩) (fun _ R s=>s.heap.IsList l1 xs/\s.heap.IsTuple l2 ys/\R (.ok (.ret (.ref (s.heap.objs.size+4)))) {s with heap:=((((s.heap.push {cls:=.type "list_iterator",data:=.fields #[.ref l1,.int 0 0]}).push {cls:=.type "tuple_iterator",data:=.fields #[.ref l2,.int 0 0]}).push {cls:=.type "tuple",data:=.seq #[.ref s.heap.objs.size,.ref (s.heap.objs.size+1)]}).push {cls:=.type "tuple",data:=.seq #[.none,.none]}).push {cls:=.type "zip",data:=.fields #[.none,.bool false,.bool false,.ref (s.heap.objs.size+2),.ref (s.heap.objs.size+3)]}}):=.of_wp fun prog w A R s h=>by obtain⟨hp,g,d,tk,os⟩:=s;obtain⟨hl1,hl2,h⟩:=h;have hsub:=sub_zip;have hL1:Heap.IsList (Shared.heap ⟨hp,g,d,tk,os⟩) l1 xs:=hl1;have hL2:Heap.IsTuple (Shared.heap ⟨hp.push {cls:=.type "list_iterator",data:=.fields #[.ref l1,.int 0 0]},g,d,tk,os⟩) l2 ys:=Heap.IsTuple.push hl2 _;wp_walk using wpAny_pyIter_list hL1,wpAny_pyIter_tuple hL2;simp only[Heap.size_push]at*;exact⟨_,rfl,h⟩
section
variable{prog:Program}{w:World}{A:Around}{E:Value->Shared->Prop}{s:Shared}
theorem yu{l1 l2:Addr}{xs ys:Array Value}{Q:Value->Shared->Prop}(hl1:s.heap.IsList l1 xs)(hl2:s.heap.IsTuple l2 ys)(h:∀ h',IsZip h' (s.heap.objs.size+4) (s.heap.objs.size+2) (s.heap.objs.size+3) .none->IsPair h' (s.heap.objs.size+2) (.ref s.heap.objs.size) (.ref (s.heap.objs.size+1))->IsPair h' (s.heap.objs.size+3) .none .none->h'.IsListIter s.heap.objs.size l1 0->h'.IsTupleIter (s.heap.objs.size+1) l2 0->(∀c o,s.heap.get? c=some o->h'.get? c=some o)->Q (.ref (s.heap.objs.size+4)) {s with heap:=h'}):wpAny (model prog w) A (call (.type "zip") [.ref l1,.ref l2]) Q E s:=by
 refine callType_new F.called_zip (by decide) (F.typeCall_zip_2 _ _) (F.newCall_zip_2 _ _) (fun obj=>F.args_object_init_3 obj _ _) F.entry_zip_new (n6 l1 l2 xs ys) ⟨hl1,hl2,?_⟩;generalize e1:s.heap.push {cls:=.type "list_iterator",data:=.fields #[.ref l1,.int 0 0]}=t1;have n1:t1.objs.size=s.heap.objs.size+1:=by rw[<-e1,Heap.size_push]
 have a1:t1.get? s.heap.objs.size=some {cls:=.type "list_iterator",data:=.fields #[.ref l1,.int 0 0]}:=by rw[<-e1];exact Heap.get?_push_size _ rfl
 have k1:∀c o,s.heap.get? c=some o->t1.get? c=some o:=fun c o e=>by rw[<-e1];exact Heap.get?_push_of_some _ e
 generalize e2:t1.push {cls:=.type "tuple_iterator",data:=.fields #[.ref l2,.int 0 0]}=t2;have n2:t2.objs.size=s.heap.objs.size+2:=by rw[<-e2,Heap.size_push,n1]
 have a2:t2.get? (s.heap.objs.size+1)=some {cls:=.type "tuple_iterator",data:=.fields #[.ref l2,.int 0 0]}:=by rw[<-n1,<-e2];exact Heap.get?_push_size _ rfl
 have k2:∀c o,t1.get? c=some o->t2.get? c=some o:=fun c o e=>by rw[<-e2];exact Heap.get?_push_of_some _ e
 generalize e3:t2.push {cls:=.type "tuple",data:=.seq #[.ref s.heap.objs.size,.ref (s.heap.objs.size+1)]}=t3;have n3:t3.objs.size=s.heap.objs.size+3:=by rw[<-e3,Heap.size_push,n2]
 have a3:t3.get? (s.heap.objs.size+2)=some {cls:=.type "tuple",data:=.seq #[.ref s.heap.objs.size,.ref (s.heap.objs.size+1)]}:=by rw[<-n2,<-e3];exact Heap.get?_push_size _ rfl
 have k3:∀c o,t2.get? c=some o->t3.get? c=some o:=fun c o e=>by rw[<-e3];exact Heap.get?_push_of_some _ e
 generalize e4:t3.push {cls:=.type "tuple",data:=.seq #[.none,.none]}=t4;have n4:t4.objs.size=s.heap.objs.size+4:=by rw[<-e4,Heap.size_push,n3]
 have a4:t4.get? (s.heap.objs.size+3)=some {cls:=.type "tuple",data:=.seq #[.none,.none]}:=by rw[<-n3,<-e4];exact Heap.get?_push_size _ rfl
 have k4:∀c o,t3.get? c=some o->t4.get? c=some o:=fun c o e=>by rw[<-e4];exact Heap.get?_push_of_some _ e
 generalize e5:t4.push {cls:=.type "zip",data:=.fields #[.none,.bool false,.bool false,.ref (s.heap.objs.size+2),.ref (s.heap.objs.size+3)]}=t5;have a5:t5.get? (s.heap.objs.size+4)=some {cls:=.type "zip",data:=.fields #[.none,.bool false,.bool false,.ref (s.heap.objs.size+2),.ref (s.heap.objs.size+3)]}:=by rw[<-n4,<-e5];exact Heap.get?_push_size _ rfl
 have k5:∀c o,t4.get? c=some o->t5.get? c=some o:=fun c o e=>by rw[<-e5];exact Heap.get?_push_of_some _ e
 exact⟨⟨_,a5,rfl⟩,h t5 a5 (k5 _ _ (k4 _ _ a3)) (k5 _ _ a4) ⟨_,k5 _ _ (k4 _ _ (k3 _ _ (k2 _ _ a1))),rfl,rfl⟩ ⟨_,k5 _ _ (k4 _ _ (k3 _ _ a2)),rfl,rfl⟩ fun c o e=>k5 _ _ (k4 _ _ (k3 _ _ (k2 _ _ (k1 _ _ e))))⟩
end
theorem nH(l1 l2:Addr)(xs ys:Array Value):Meets (Builtin.«zip.__new__» ⟨[.type "zip",.ref l1,.ref l2],[]⟩) (fun _ R s=>s.heap.IsTuple l1 xs/\s.heap.IsList l2 ys/\R (.ok (.ret (.ref (s.heap.objs.size+4)))) {s with heap:=((((s.heap.push {cls:=.type "tuple_iterator",data:=.fields #[.ref l1,.int 0 0]}).push {cls:=.type "list_iterator",data:=.fields #[.ref l2,.int 0 0]}).push {cls:=.type "tuple",data:=.seq #[.ref s.heap.objs.size,.ref (s.heap.objs.size+1)]}).push {cls:=.type "tuple",data:=.seq #[.none,.none]}).push {cls:=.type "zip",data:=.fields #[.none,.bool false,.bool false,.ref (s.heap.objs.size+2),.ref (s.heap.objs.size+3)]}}):=.of_wp fun prog w A R s h=>by obtain⟨hp,g,d,tk,os⟩:=s;obtain⟨hl1,hl2,h⟩:=h;have hsub:=sub_zip;have hL1:Heap.IsTuple (Shared.heap ⟨hp,g,d,tk,os⟩) l1 xs:=hl1;have hL2:Heap.IsList (Shared.heap ⟨hp.push {cls:=.type "tuple_iterator",data:=.fields #[.ref l1,.int 0 0]},g,d,tk,os⟩) l2 ys:=Heap.IsList.push hl2 _;wp_walk using wpAny_pyIter_tuple hL1,wpAny_pyIter_list hL2;simp only[Heap.size_push]at*;exact⟨_,rfl,h⟩
section
variable{prog:Program}{w:World}{A:Around}{E:Value->Shared->Prop}{s:Shared}
theorem yd{l1 l2:Addr}{xs ys:Array Value}{Q:Value->Shared->Prop}(hl1:s.heap.IsTuple l1 xs)(hl2:s.heap.IsList l2 ys)(h:∀ h',IsZip h' (s.heap.objs.size+4) (s.heap.objs.size+2) (s.heap.objs.size+3) .none->IsPair h' (s.heap.objs.size+2) (.ref s.heap.objs.size) (.ref (s.heap.objs.size+1))->IsPair h' (s.heap.objs.size+3) .none .none->h'.IsTupleIter s.heap.objs.size l1 0->h'.IsListIter (s.heap.objs.size+1) l2 0->(∀c o,s.heap.get? c=some o->h'.get? c=some o)->Q (.ref (s.heap.objs.size+4)) {s with heap:=h'}):wpAny (model prog w) A (call (.type "zip") [.ref l1,.ref l2]) Q E s:=by
 refine callType_new F.called_zip (by decide) (F.typeCall_zip_2 _ _) (F.newCall_zip_2 _ _) (fun obj=>F.args_object_init_3 obj _ _) F.entry_zip_new (nH l1 l2 xs ys) ⟨hl1,hl2,?_⟩;generalize e1:s.heap.push {cls:=.type "tuple_iterator",data:=.fields #[.ref l1,.int 0 0]}=t1;have n1:t1.objs.size=s.heap.objs.size+1:=by rw[<-e1,Heap.size_push]
 have a1:t1.get? s.heap.objs.size=some {cls:=.type "tuple_iterator",data:=.fields #[.ref l1,.int 0 0]}:=by rw[<-e1];exact Heap.get?_push_size _ rfl
 have k1:∀c o,s.heap.get? c=some o->t1.get? c=some o:=fun c o e=>by rw[<-e1];exact Heap.get?_push_of_some _ e
 generalize e2:t1.push {cls:=.type "list_iterator",data:=.fields #[.ref l2,.int 0 0]}=t2;have n2:t2.objs.size=s.heap.objs.size+2:=by rw[<-e2,Heap.size_push,n1]
 have a2:t2.get? (s.heap.objs.size+1)=some {cls:=.type "list_iterator",data:=.fields #[.ref l2,.int 0 0]}:=by rw[<-n1,<-e2];exact Heap.get?_push_size _ rfl
 have k2:∀c o,t1.get? c=some o->t2.get? c=some o:=fun c o e=>by rw[<-e2];exact Heap.get?_push_of_some _ e
 generalize e3:t2.push {cls:=.type "tuple",data:=.seq #[.ref s.heap.objs.size,.ref (s.heap.objs.size+1)]}=t3;have n3:t3.objs.size=s.heap.objs.size+3:=by rw[<-e3,Heap.size_push,n2]
 have a3:t3.get? (s.heap.objs.size+2)=some {cls:=.type "tuple",data:=.seq #[.ref s.heap.objs.size,.ref (s.heap.objs.size+1)]}:=by rw[<-n2,<-e3];exact Heap.get?_push_size _ rfl
 have k3:∀c o,t2.get? c=some o->t3.get? c=some o:=fun c o e=>by rw[<-e3];exact Heap.get?_push_of_some _ e
 generalize e4:t3.push {cls:=.type "tuple",data:=.seq #[.none,.none]}=t4;have n4:t4.objs.size=s.heap.objs.size+4:=by rw[<-e4,Heap.size_push,n3]
 have a4:t4.get? (s.heap.objs.size+3)=some {cls:=.type "tuple",data:=.seq #[.none,.none]}:=by rw[<-n3,<-e4];exact Heap.get?_push_size _ rfl
 have k4:∀c o,t3.get? c=some o->t4.get? c=some o:=fun c o e=>by rw[<-e4];exact Heap.get?_push_of_some _ e
 generalize e5:t4.push {cls:=.type "zip",data:=.fields #[.none,.bool false,.bool false,.ref (s.heap.objs.size+2),.ref (s.heap.objs.size+3)]}=t5;have a5:t5.get? (s.heap.objs.size+4)=some {cls:=.type "zip",data:=.fields #[.none,.bool false,.bool false,.ref (s.heap.objs.size+2),.ref (s.heap.objs.size+3)]}:=by rw[<-n4,<-e5];exact Heap.get?_push_size _ rfl
 have k5:∀c o,t4.get? c=some o->t5.get? c=some o:=fun c o e=>by rw[<-e5];exact Heap.get?_push_of_some _ e
 exact⟨⟨_,a5,rfl⟩,h t5 a5 (k5 _ _ (k4 _ _ a3)) (k5 _ _ a4) ⟨_,k5 _ _ (k4 _ _ (k3 _ _ (k2 _ _ a1))),rfl,rfl⟩ ⟨_,k5 _ _ (k4 _ _ (k3 _ _ a2)),rfl,rfl⟩ fun c o e=>k5 _ _ (k4 _ _ (k3 _ _ (k2 _ _ (k1 _ _ e))))⟩
end
theorem nY(l1 l2:Addr)(xs ys:Array Value):Meets (Builtin.«zip.__new__» ⟨[.type "zip",.ref l1,.ref l2],[]⟩) (fun _ R s=>s.heap.IsTuple l1 xs/\s.heap.IsTuple l2 ys/\R (.ok (.ret (.ref (s.heap.objs.size+4)))) {s with heap:=((((s.heap.push {cls:=.type "tuple_iterator",data:=.fields #[.ref l1,.int 0 0]}).push {cls:=.type "tuple_iterator",data:=.fields #[.ref l2,.int 0 0]}).push {cls:=.type "tuple",data:=.seq #[.ref s.heap.objs.size,.ref (s.heap.objs.size+1)]}).push {cls:=.type "tuple",data:=.seq #[.none,.none]}).push {cls:=.type "zip",data:=.fields #[.none,.bool false,.bool false,.ref (s.heap.objs.size+2),.ref (s.heap.objs.size+3)]}}):=.of_wp fun prog w A R s h=>by obtain⟨hp,g,d,tk,os⟩:=s;obtain⟨hl1,hl2,h⟩:=h;have hsub:=sub_zip;have hL1:Heap.IsTuple (Shared.heap ⟨hp,g,d,tk,os⟩) l1 xs:=hl1;have hL2:Heap.IsTuple (Shared.heap ⟨hp.push {cls:=.type "tuple_iterator",data:=.fields #[.ref l1,.int 0 0]},g,d,tk,os⟩) l2 ys:=Heap.IsTuple.push hl2 _;wp_walk using wpAny_pyIter_tuple hL1,wpAny_pyIter_tuple hL2;simp only[Heap.size_push]at*;exact⟨_,rfl,h⟩
section
variable{prog:Program}{w:World}{A:Around}{E:Value->Shared->Prop}{s:Shared}
theorem yJ{l1 l2:Addr}{xs ys:Array Value}{Q:Value->Shared->Prop}(hl1:s.heap.IsTuple l1 xs)(hl2:s.heap.IsTuple l2 ys)(h:∀ h',IsZip h' (s.heap.objs.size+4) (s.heap.objs.size+2) (s.heap.objs.size+3) .none->IsPair h' (s.heap.objs.size+2) (.ref s.heap.objs.size) (.ref (s.heap.objs.size+1))->IsPair h' (s.heap.objs.size+3) .none .none->h'.IsTupleIter s.heap.objs.size l1 0->h'.IsTupleIter (s.heap.objs.size+1) l2 0->(∀c o,s.heap.get? c=some o->h'.get? c=some o)->Q (.ref (s.heap.objs.size+4)) {s with heap:=h'}):wpAny (model prog w) A (call (.type "zip") [.ref l1,.ref l2]) Q E s:=by
 refine callType_new F.called_zip (by decide) (F.typeCall_zip_2 _ _) (F.newCall_zip_2 _ _) (fun obj=>F.args_object_init_3 obj _ _) F.entry_zip_new (nY l1 l2 xs ys) ⟨hl1,hl2,?_⟩;generalize e1:s.heap.push {cls:=.type "tuple_iterator",data:=.fields #[.ref l1,.int 0 0]}=t1;have n1:t1.objs.size=s.heap.objs.size+1:=by rw[<-e1,Heap.size_push]
 have a1:t1.get? s.heap.objs.size=some {cls:=.type "tuple_iterator",data:=.fields #[.ref l1,.int 0 0]}:=by rw[<-e1];exact Heap.get?_push_size _ rfl
 have k1:∀c o,s.heap.get? c=some o->t1.get? c=some o:=fun c o e=>by rw[<-e1];exact Heap.get?_push_of_some _ e
 generalize e2:t1.push {cls:=.type "tuple_iterator",data:=.fields #[.ref l2,.int 0 0]}=t2;have n2:t2.objs.size=s.heap.objs.size+2:=by rw[<-e2,Heap.size_push,n1]
 have a2:t2.get? (s.heap.objs.size+1)=some {cls:=.type "tuple_iterator",data:=.fields #[.ref l2,.int 0 0]}:=by rw[<-n1,<-e2];exact Heap.get?_push_size _ rfl
 have k2:∀c o,t1.get? c=some o->t2.get? c=some o:=fun c o e=>by rw[<-e2];exact Heap.get?_push_of_some _ e
 generalize e3:t2.push {cls:=.type "tuple",data:=.seq #[.ref s.heap.objs.size,.ref (s.heap.objs.size+1)]}=t3;have n3:t3.objs.size=s.heap.objs.size+3:=by rw[<-e3,Heap.size_push,n2]
 have a3:t3.get? (s.heap.objs.size+2)=some {cls:=.type "tuple",data:=.seq #[.ref s.heap.objs.size,.ref (s.heap.objs.size+1)]}:=by rw[<-n2,<-e3];exact Heap.get?_push_size _ rfl
 have k3:∀c o,t2.get? c=some o->t3.get? c=some o:=fun c o e=>by rw[<-e3];exact Heap.get?_push_of_some _ e
 generalize e4:t3.push {cls:=.type "tuple",data:=.seq #[.none,.none]}=t4;have n4:t4.objs.size=s.heap.objs.size+4:=by rw[<-e4,Heap.size_push,n3]
 have a4:t4.get? (s.heap.objs.size+3)=some {cls:=.type "tuple",data:=.seq #[.none,.none]}:=by rw[<-n3,<-e4];exact Heap.get?_push_size _ rfl
 have k4:∀c o,t3.get? c=some o->t4.get? c=some o:=fun c o e=>by rw[<-e4];exact Heap.get?_push_of_some _ e
 generalize e5:t4.push {cls:=.type "zip",data:=.fields #[.none,.bool false,.bool false,.ref (s.heap.objs.size+2),.ref (s.heap.objs.size+3)]}=t5;have a5:t5.get? (s.heap.objs.size+4)=some {cls:=.type "zip",data:=.fields #[.none,.bool false,.bool false,.ref (s.heap.objs.size+2),.ref (s.heap.objs.size+3)]}:=by rw[<-n4,<-e5];exact Heap.get?_push_size _ rfl
 have k5:∀c o,t4.get? c=some o->t5.get? c=some o:=fun c o e=>by rw[<-e5];exact Heap.get?_push_of_some _ e
 exact⟨⟨_,a5,rfl⟩,h t5 a5 (k5 _ _ (k4 _ _ a3)) (k5 _ _ a4) ⟨_,k5 _ _ (k4 _ _ (k3 _ _ (k2 _ _ a1))),rfl,rfl⟩ ⟨_,k5 _ _ (k4 _ _ (k3 _ _ a2)),rfl,rfl⟩ fun c o e=>k5 _ _ (k4 _ _ (k3 _ _ (k2 _ _ (k1 _ _ e))))⟩
end
end PySem
end
section
namespace L2
open PySem PySem.Spec PyProof.Rows
noncomputable def Sq(t:Bool)(K:PySem.W.Frag)(H:Hp)(a:Addr)(xs:List V):Prop:=if t then jC K H a xs else gA K H a xs
noncomputable def Us(t:Bool)(h:Heap)(a:Addr)(xs:Array Value):Prop:=if t then h.IsTuple a xs else h.IsList a xs
noncomputable def Ef(t:Bool)(h:Heap)(i a:Addr)(k:Nat):Prop:=if t then h.IsTupleIter i a k else h.IsListIter i a k
section
variable{X:Cx}{pins:List (Addr×Obj)}{σ:L2.St}{H:Hp}{s:Shared}
theorem Inv.sq{t:Bool}{a:Addr}{xs:List V}(I:Inv X pins σ H s)(h:Sq t X.K H a xs):∃its:List Value,Vals xs its/\Us t s.heap a its.toArray:=by cases t with|true=>obtain⟨its,rv,pl,_⟩:=I.tuple h;exact⟨its,rv,pl⟩|false=>obtain⟨its,rv,pl,_⟩:=I.list h;exact⟨its,rv,pl.isList⟩
theorem Inv.Fo{t:Bool}{a:Addr}{xs ys:List V}(I:Inv X pins σ H s)(h:Sq t X.K H a xs)(h':Sq t X.K H a ys):xs=ys:=by cases t with|true=>exact I.mV h h'|false=>exact I.qe h h'
theorem Us.lt{t:Bool}{h:Heap}{a:Addr}{xs:Array Value}(q:Us t h a xs):a<h.objs.size:=by cases t with|true=>obtain⟨o,e,_⟩:=id q;exact Heap.lt_size e|false=>obtain⟨o,e,_⟩:=id q;exact Heap.lt_size e
theorem Ef.obj{t:Bool}{h:Heap}{i a:Addr}{k:Nat}(q:Ef t h i a k):∃o,h.get? i=some o/\∀v,o.data≠.cell v:=by cases t with|true=>obtain⟨o,h2,h3,h4⟩:=id q;exact⟨o,h2,fun v z=>by rw[h4]at z;cases z⟩|false=>obtain⟨o,h2,h3,h4⟩:=id q;exact⟨o,h2,fun v z=>by rw[h4]at z;cases z⟩
theorem Ef.keep{t:Bool}{h h':Heap}{i a:Addr}{k:Nat}(q:Ef t h i a k)(e:∀o,h.get? i=some o->h'.get? i=some o):Ef t h' i a k:=by cases t with|true=>obtain⟨o,h2,r⟩:=id q;exact⟨o,e o h2,r⟩|false=>obtain⟨o,h2,r⟩:=id q;exact⟨o,e o h2,r⟩
theorem JF(t:Bool){prog:Program}{w:World}{A:Around}(hh:A.handled=none)(it l:Addr)(hne:l≠it)(items:Array Value):Nx prog w A it l (fun k h=>Ef t h it l k/\Us t h l items) (fun k=>items[k]?):=by cases t with|true=>exact Nx.tuple hh it l hne items|false=>exact Nx.list hh it l hne items
theorem Inv.G5{ch:List Addr}{h':Heap}(I:Inv X pins σ H s)(k:∀b u,b∉ch->s.heap.get? b=some u->h'.get? b=some u)(hf:∀b∈ch,mR X pins H b):Inv X pins σ H {s with heap:=h'}:=by
 have IW:∀b u,H b=some u->b∉ch:=fun b u e hb=>by rw[(hf b hb).1]at e;cases e
 refine I.call (g':=s.gens) (d':=s.drawn) (t':=s.toks) (ch:=ch) ⟨fun b u e n _ hx=>k b u hx e,fun b u e n _ hx=>⟨u.slots,k b u hx e⟩,fun b u e n hx=>n,fun b u e hx=>⟨u,k b u hx e⟩,fun b xs e=>e,fun b ob u e=>e,fun b ps e=>⟨#[],by rw[e];simp⟩⟩ ?_ I.bare fun b hb=>⟨(hf b hb).2.2.2.1,(hf b hb).2.1,(hf b hb).2.2.2.2.1,(hf b hb).2.2.2.2.2⟩;intro b u e;refine(I.hok b u e).stay (fun c v hc q=>k c v ?_ q) (fun c q=>q) fun c xs q=>q;rcases hc with rfl|hc;.exact IW _ _ e
 .exact IW _ _ hc
end
noncomputable def XQ(t1 t2:Bool)(K:PySem.W.Frag)(a b:Addr):It:=⟨fun i H=>∃ xs ys x y,Sq t1 K H a xs/\Sq t2 K H b ys/\xs[i]?=some x/\ys[i]?=some y,fun i H x H'=>∃T v w,H T=none/\x=.ref T/\H'=upd H T (.tup [v,w])/\(∀xs,Sq t1 K H a xs->xs[i]?=some v)/\∀ys,Sq t2 K H b ys->ys[i]?=some w,fun i H=>∃xs ys,Sq t1 K H a xs/\Sq t2 K H b ys/\(xs.length<=i\/ys.length<=i)⟩
theorem Fp{P:Program}{w:World}{K:PySem.W.Frag}{elts:List Expr}{x1}{tp:Pos}(t1 t2:Bool){z TI TO i1 i2 l1 l2:Addr}(D:ZipApart z TI TO i1 i2 l1 l2):Turn P w K (.Tuple elts x1 tp) (XQ t1 t2 K l1 l2) [z,TI,TO,i1,i2] z (fun i h=>IsZip h z TI TO .none/\IsPair h TI (.ref i1) (.ref i2)/\(∃a b,IsPair h TO a b)/\Ef t1 h i1 l1 i/\Ef t2 h i2 l2 i)where
 mem:=by simp
 obj:=fun i h st b hb=>by
  obtain⟨h1,h2,⟨u,v,h3⟩,h4,h5⟩:=st;simp only[List.mem_cons,List.not_mem_nil,or_false]at hb;rcases hb with rfl|rfl|rfl|rfl|rfl;.exact⟨_,h1,fun v z=>by cases z⟩
  .exact⟨_,h2,fun v z=>by cases z⟩
  .exact⟨_,h3,fun v z=>by cases z⟩
  .exact h4.obj
  .exact h5.obj
 keep:=fun i h h' st k=>by obtain⟨h1,h2,⟨u,v,h3⟩,h4,h5⟩:=st;exact⟨k z (by simp) _ h1,k TI (by simp) _ h2,⟨u,v,k TO (by simp) _ h3⟩,h4.keep (k i1 (by simp)),h5.keep (k i2 (by simp))⟩
 item:=fun X hP hw hK hc i pins s σ H E I hf st go=>by
  subst hP hw hK;obtain⟨h1,h2,⟨u,v,h3⟩,h4,h5⟩:=st;obtain⟨xs,ys,x,y,hq1,hq2,hx,hy⟩:=go;obtain⟨MN,rv1,Ve⟩:=I.sq hq1;obtain⟨its2,Tj,Om⟩:=I.sq hq2;obtain⟨ux,hu1,hu2⟩:=rv1.get hx;obtain⟨uy,hw1,hw2⟩:=Tj.get hy;have hh:X.A.in1.handled=none:=I.ok.hd hc;refine mZ D (JF t1 hh i1 l1 D.l1i1 MN.toArray) (JF t2 hh i2 l2 D.l2i2 its2.toArray) h1 h2 h3 (k:=i) ⟨h4,Ve⟩ ⟨h5,Om⟩ (x:=ux) (y:=uy) (by simpa using hu1) (by simpa using hw1) fun h' z1 p1 s1 s2 pT hsz kp=>?_;refine⟨_,rfl,wpAny_letOwnedTupleGo_zip z1 fun h'' z2 sb=>?_⟩;have hlt:∀b∈[z,TI,TO,i1,i2],b≠s.heap.objs.size:=fun b hb=>by
   simp only[List.mem_cons,List.not_mem_nil,or_false]at hb;rcases hb with rfl|rfl|rfl|rfl|rfl;.exact Nat.ne_of_lt (Heap.lt_size h1)
   .exact Nat.ne_of_lt (Heap.lt_size h2)
   .exact Nat.ne_of_lt (Heap.lt_size h3)
   .exact Nat.ne_of_lt (Heap.lt_size h4.obj.choose_spec.1)
   .exact Nat.ne_of_lt (Heap.lt_size h5.obj.choose_spec.1)
  have kp2:∀b o,b∉[z,TO,i1,i2]->s.heap.get? b=some o->h''.get? b=some o:=fun b o hb q=>by simp only[List.mem_cons,List.not_mem_nil,or_false,not_or]at hb;exact sb.extBut b o hb.1 (kp b o hb.1 hb.2.1 hb.2.2.1 hb.2.2.2 q)
  have pT2:IsPair h'' s.heap.objs.size ux uy:=sb.extBut _ _ (hlt z (by simp)).symm pT;have p2:IsPair h'' TO ux uy:=sb.extBut _ _ D.TOz p1;have j1:Ef t1 h'' i1 l1 (i+1):=s1.1.keep fun o e=>sb.extBut _ _ D.i1z e;have j2:Ef t2 h'' i2 l2 (i+1):=s2.1.keep fun o e=>sb.extBut _ _ D.i2z e;refine⟨.ref s.heap.objs.size,upd H s.heap.objs.size (.tup [x,y]),?_,rfl,⟨_,x,y,I.fresh,rfl,rfl,fun zs hz=>?_,fun zs hz=>?_⟩,⟨z2,kp2 TI _ ?_ h2,⟨_,_,p2⟩,j1,j2⟩,fun b hb=>?_⟩
  . refine I.Ra (ch:=[z,TO,i1,i2]) (t':=s.toks) kp2 (fun b hb=>?_) (fun b hb=>hf b ?_) ⟨(by show 2<=sizeLine;decide),[ux,uy],.cons hu2 (.cons hw2 .nil),⟨_,pT2,rfl,_,rfl⟩⟩
    . simp only[List.mem_cons,List.not_mem_nil,or_false]at hb;rcases hb with rfl|rfl|rfl|rfl;.exact⟨_,z2⟩
      .exact⟨_,p2⟩
      .exact⟨_,j1.obj.choose_spec.1⟩
      .exact⟨_,j2.obj.choose_spec.1⟩
    .simp only[List.mem_cons,List.not_mem_nil,or_false]at hb ⊢;rcases hb with h|h|h|h<;>simp[h]
  .rw[I.Fo hz hq1];exact hx
  .rw[I.Fo hz hq2];exact hy
  .simp[D.TIz,D.TITO,D.TIi1,D.TIi2]
  .rw[aM (hlt b hb)];exact(hf b hb).1
 done:=fun X hP hw hK hc i pins s σ H E I hf st stop=>by
  subst hP hw hK;obtain⟨h1,h2,⟨u,v,h3⟩,h4,h5⟩:=st;obtain⟨xs,ys,hq1,hq2,hx⟩:=stop;obtain⟨MN,rv1,Ve⟩:=I.sq hq1;obtain⟨its2,Tj,Om⟩:=I.sq hq2;have hh:X.A.in1.handled=none:=I.ok.hd hc;refine nP D (JF t1 hh i1 l1 D.l1i1 MN.toArray) (JF t2 hh i2 l2 D.l2i2 its2.toArray) h1 h2 h3 (k:=i) ⟨h4,Ve⟩ ⟨h5,Om⟩ ?_ fun h' kp=>⟨rfl,?_⟩
  . rcases hx with hx|hx;.left;rw[rv1.length]at hx;simpa using hx
    .right;rw[Tj.length]at hx;simpa using hx
  .exact I.G5 (ch:=[z,TO,i1,i2]) (fun b u hb q=>by simp only[List.mem_cons,List.not_mem_nil,or_false,not_or]at hb;exact kp b u hb.1 hb.2.1 hb.2.2.1 hb.2.2.2 q) fun b hb=>hf b (by simp only[List.mem_cons,List.not_mem_nil,or_false]at hb ⊢;rcases hb with h|h|h|h<;>simp[h])
 self:=fun A i s Q E st q=>wpAny_pyIter_zip st.1 q
section
variable{X:Cx}{elts:List Expr}{x1:Nat}{tp:Pos}
theorem Di{prog:Program}{w:World}{A:Around}{E:Value->Shared->Prop}{s:Shared}(t1 t2:Bool){l1 l2:Addr}{xs ys:Array Value}{Q:Value->Shared->Prop}(hl1:Us t1 s.heap l1 xs)(hl2:Us t2 s.heap l2 ys)(h:∀ h',IsZip h' (s.heap.objs.size+4) (s.heap.objs.size+2) (s.heap.objs.size+3) .none->IsPair h' (s.heap.objs.size+2) (.ref s.heap.objs.size) (.ref (s.heap.objs.size+1))->IsPair h' (s.heap.objs.size+3) .none .none->Ef t1 h' s.heap.objs.size l1 0->Ef t2 h' (s.heap.objs.size+1) l2 0->(∀c o,s.heap.get? c=some o->h'.get? c=some o)->Q (.ref (s.heap.objs.size+4)) {s with heap:=h'}):wpAny (model prog w) A (call (.type "zip") [.ref l1,.ref l2]) Q E s:=by
 cases t1<;>cases t2;.exact yL hl1 hl2 h
 .exact yu hl1 hl2 h
 .exact yd hl1 hl2 h
 .exact yJ hl1 hl2 h
theorem O5{n l m:Nat}(h1:l<n)(h2:m<n):ZipApart (n+4) (n+2) (n+3) n (n+1) l m:=by constructor<;>exact fun h=>absurd (show(_:Nat)=_ from h) (by omega)
noncomputable def acp(K:PySem.W.Frag)(R:It->Hp->Prop)(vs:List V)(H1:Hp):Prop:=∃t1 t2 a b,vs=[.ref a,.ref b]/\(∃xs,Sq t1 K H1 a xs)/\(∃ys,Sq t2 K H1 b ys)/\R (XQ t1 t2 K a b) H1
noncomputable def ab7(K:PySem.W.Frag)(ta:TA):TI:=fun σ H R=>ta σ H (acp K R)
theorem boot_zip:bootBuiltins "zip"=some (.type "zip"):=by decide+kernel
theorem Sh{a b:Expr}{ta:TA}{p pos:Pos}(hg:Gl X "zip")(hm:X.mg "zip"=none)(ha:PA X [a,b] ta)(hs:starEach [a,b] X.env=[(false,eval a X.env),(false,eval b X.env)]:=by rfl)(hs2:starEach [b] X.env=[(false,eval b X.env)]:=by rfl):PI X (.Tuple elts x1 tp) (.Call (.Name "zip" p) [a,b] [] pos) (ab7 X.K ta):=by
 intro pins s σ H R I h;refine Call_ (lX I hg hm boot_zip (PyProof.Rows.callWith_type1 (cL (ha pos pins s σ H _ I h) ?_) (by rw[hs,hs2]) (by rw[hs2];rfl)));rintro us s1⟨vs,H1,I1,r1,q1⟩;obtain⟨t1,t2,l1,l2,rfl,⟨xs,hq1⟩,⟨ys,hq2⟩,q⟩:=q1;obtain⟨u,v,rfl,ru,rv⟩:=r1.two;cases ru;cases rv;obtain⟨MN,rv1,Ve⟩:=I1.sq hq1;obtain⟨its2,Tj,Om⟩:=I1.sq hq2;have b1:=Ve.lt;have b2:=Om.lt;refine Di t1 t2 Ve Om fun h' z0 p0 o0 j1 j2 kp=>?_;have D:ZipApart (s1.heap.objs.size+4) (s1.heap.objs.size+2) (s1.heap.objs.size+3) s1.heap.objs.size (s1.heap.objs.size+1) l1 l2:=O5 b1 b2;refine wpAny_pyIter_zip z0 ⟨_,_,_,_,H1,rfl,I1.kept (t':=s1.toks) kp,Fp t1 t2 D,⟨z0,p0,⟨_,_,o0⟩,j1,j2⟩,fun b hb=>?_,q⟩;have hb':s1.heap.objs.size<=b:=by simp only[List.mem_cons,List.not_mem_nil,or_false]at hb;rcases hb with rfl|rfl|rfl|rfl|rfl<;>first|exact Nat.le_add_right _ _|exact Nat.le_refl _
 exact I1.De hb' (I1.hok.fresh hb')
end
end L2
namespace HH
open PySem L2 PySem.Spec PyProof.Rows
section
variable{K:PySem.W.Frag}{F F1 H H1:Hp}{ρ ρ1:List Sl}{σ:L2.St}{ds es:List D}{a b:Addr}
theorem aO.sq{t:Bool}{xs:List V}(e:aO F H)(h:Sq t K F a xs):Sq t K H a xs:=by cases t with|true=>exact aO.jL e h|false=>exact e.seq h
theorem Ls{t1 t2:Bool}{xs ys:List V}{F' H':Hp}(hq1:Sq t1 K H' a xs)(hq2:Sq t2 K H' b ys)(r1:aH K F' xs ds)(r2:aH K F' ys es)(s:aO F' H')(k:Nat):(∀d,((ds.zip es).map fun p=>D.tup [p.1,p.2])[k]?=some d->(XQ t1 t2 K a b).go k H'/\∀x qP,(XQ t1 t2 K a b).Oj k H' x qP->∃F'',Ext F' H' F'' qP/\Rep K F'' x d)/\(((ds.zip es).map fun p=>D.tup [p.1,p.2]).length<=k->(XQ t1 t2 K a b).stop k H'):=by refine⟨fun d hd=>?_,fun h=>⟨xs,ys,hq1,hq2,by rw[r1.length,r2.length];rw[List.length_map,List.length_zip]at h;omega⟩⟩;rw[List.getElem?_map]at hd;obtain⟨⟨d0,d1⟩,e1,e2⟩:=map_some hd;subst e2;obtain⟨f1,f2⟩:=List.getElem?_zip_eq_some.mp e1;obtain⟨w,h1,h2⟩:=r1.get f1;obtain⟨w',h1',h2'⟩:=r2.get f2;refine⟨⟨xs,ys,w,w',hq1,hq2,h1,h1'⟩,?_⟩;rintro x qP⟨T,v,v',hT,hx,hH,y,y'⟩;subst hx;subst hH;have:=y xs hq1;rw[h1]at this;cases this;have:=y' ys hq2;rw[h1']at this;cases this;exact Hl s hT h2 h2'
theorem Iw{v:V}{d:D}{ds:List D}(h:Rep K F v d)(e:items d=some ds):∃t a xs,v=.ref a/\Sq t K F a xs/\aH K F xs ds:=by cases d with|tup es=>cases e;rw[Rep]at h;obtain⟨a,xs,rfl,h1,h2⟩:=h;exact⟨true,a,xs,rfl,h1,h2⟩|lst es=>cases e;rw[Rep]at h;obtain⟨a,xs,rfl,h1,h2⟩:=h;exact⟨false,a,xs,rfl,h1,h2⟩|_=>cases e
end
section
variable{X:Cx}{c:Call}{e a b:Expr}{pa pb:P}{pos:Pos}{elts:List Expr}{x1:Nat}{tp:Pos}
theorem GR{x:Str}{p':Pos}(hx:x="zip")(hg:Gl X x)(hm:X.mg x=none)(ha:SX X c a pa)(hb:SX X c b pb)(hs:starEach [a,b] X.env=[(false,eval a X.env),(false,eval b X.env)]:=by rfl)(hs2:starEach [b] X.env=[(false,eval b X.env)]:=by rfl):SI X c (.Tuple elts x1 tp) (.Call (.Name x p') [a,b] [] pos) (.zip pa pb):=by subst hx;refine rJ (Sh hg hm (oK ha (oK hb aQ hs2) (by rw[hs,hs2])).1 hs hs2) ?_;rintro σ H R⟨F,ρ,ds,ρ1,g,e,k⟩;obtain⟨r,ρ2,e1,e2⟩:=ao e;have zz:=aF e2;clear e2;obtain⟨e2,e3⟩:=zz;subst e3;rw[HH.E21]at e1;obtain⟨x0,ρ3,e4,e7⟩:=ao e1;obtain⟨y0,ρ4,e5,e8⟩:=ao e7;have zz:=aF e8;clear e8;obtain⟨e8,e6⟩:=zz;subst e6;obtain⟨us,f1,e9⟩:=dG e8;obtain⟨ws,f2,f3⟩:=map_some e9;subst f3;cases e2;refine⟨F,ρ,[x0.d,y0.d],_,g,by rw[evs,e4];show(evs c [pb] ρ3).bind _=_;rw[evs,e5];rfl,fun vs F' H' s rr=>?_⟩;obtain⟨v,r',rfl,rv,rr⟩:=rr.cB;obtain⟨u,r'',rfl,ru,rr⟩:=rr.cB;rw[rr.fL];obtain⟨t1,a1,xs,rfl,q1,r1⟩:=Iw rv f1;obtain⟨t2,a2,ys,rfl,q2,r2⟩:=Iw ru f2;exact⟨t1,t2,a1,a2,rfl,⟨xs,aO.sq s.gs.sub q1⟩,⟨ys,aO.sq s.gs.sub q2⟩,k _ _ _ ⟨s.gs,fun n k F' ρ' σ' H' s'=>Ls (aO.sq s'.gs.sub (aO.sq s'.dm q1)) (aO.sq s'.gs.sub (aO.sq s'.dm q2)) (r1.mono s'.dm) (r2.mono s'.dm) s'.gs.sub k,fun F3 ρ3 σ3 H3 s3=>⟨s.trans s3,fun v r rr=>rr.later s⟩⟩⟩
end
end HH
end
section
namespace HH
open PySem L2 PySem.Spec PyProof.Rows
structure bA(K:PySem.W.Frag)(x:Str)(st:Stmt):Prop where ex:∃f fd,PySem.W.nsIn K mainGlobals x=some (some (.ref f))/\gj K x x st f fd
section
variable{Pg:Program}{w:World}{K:PySem.W.Frag}{mg:Str->Option Value}{base h:Heap}
theorem Ru{x:Str}{st:Stmt}{f:Addr}{oc:Value}{od an:Option Addr}{osl:Array (Option Value)}{kV doc pm cdv ct:Value}(a:PySem.W.nsIn K mainGlobals x=some (some (.ref f)))(l:K.lookup f=some ⟨oc,od,.func (PySem.W.fnOf x x (iG st) (fM st) (aB st) .none kV doc pm an cdv ct),osl⟩)(c:PySem.W.codeIn K cdv x=true)(k:PySem.W.keepIn K (.ref f)=true):bA K x st:=⟨_,_,a,Qh l c k⟩
theorem bC{Γ:Tab}{wl i np:Nat}{x:Str}{st:Stmt}{ps:List Str}(X:K.In h)(G:h.Ns mainGlobals mg)(D:bA K x st)(hp:ps.length=np)(hb:∀(kV doc pm:Value)(an:Option Addr)(cdv ct:Value)(us:List Value),us.length=ps.length->bindArgs (PySem.W.fnOf x x (iG st) (fM st) (aB st) .none kV doc pm an cdv ct) ⟨us,[]⟩=pure (ps.zip us)):aA Pg w K mg base 0 (run Γ wl 0) i x np:=by obtain⟨f,fd,a,F⟩:=D.ex;exact⟨f,fd,ps,⟨fun vs H Q E s=>s.1,fun A outer s H args us vs Q E hr e b v sp=>by obtain⟨_,F,as,r,as',_,z,_⟩:=sp;cases z⟩,PySem.W.mg_of X G a,F.kp,F.binds hb,hp⟩
theorem bI{Γ:Tab}{wl n i np:Nat}{x:Str}{st:Stmt}{ps:List Str}{d:Fd}(X:K.In h)(G:h.Ns mainGlobals mg)(D:bA K x st)(hp:ps.length=np)(hΓ:Γ i=some d)(hb:∀(kV doc pm:Value)(an:Option Addr)(cdv ct:Value)(us:List Value),us.length=ps.length->bindArgs (PySem.W.fnOf x x (iG st) (fM st) (aB st) .none kV doc pm an cdv ct) ⟨us,[]⟩=pure (ps.zip us))(ok:∀f fd,gj K x x st f fd->bV Pg w K mg base fU (n+1) f fd ps (gn K np (fun args=>enter (run Γ wl n) wl d args))):aA Pg w K mg base (n+1) (run Γ wl (n+1)) i x np:=by
 obtain⟨f,fd,a,F⟩:=D.ex;refine⟨f,fd,ps,?_,PySem.W.mg_of X G a,F.kp,F.binds hb,hp⟩;have e:run Γ wl (n+1) i=fun args=>enter (run Γ wl n) wl d args:=by funext args;show(match Γ i with|some d=>enter (run Γ wl n) wl d args|none=>.stuck)=_;rw[hΓ]
 rw[e,hp];exact ok f fd F
theorem rY{F:Hp}:∀ns:List Int,aH K F (ns.map V.int) (ns.map D.int)|[]=>.nil|n::ns=>.cons (cJ n) (rY ns)
theorem Cw{H:Hp}{a:Addr}{ns:List Int}{g:List Sl->Res R}{as:List Sl}(hS:gA K H a (ns.map V.int))(hr:g [.val false (.lst (ns.map D.int))]=.ok (.val (.bl true)) as):gn K 1 g [.ref a] H (fun v _=>v=.bl true) fun _ _ _=>False:=by
 refine⟨rfl,H,_,_,as,⟨.refl _,rfl,fun i b d e=>?_,fun i s ds e e'=>?_,fun i j c h=>?_⟩,hr,fun v F' σ' H' s rr=>?_⟩;.match i,e with|0,e=>cases e;refine⟨.ref a,rfl,?_⟩;rw[Rep];exact⟨a,_,rfl,hS,rY ns⟩|i+1,e=>simp at e
 .match i,e with|0,e=>cases e;cases e'|i+1,e=>simp at e
 .obtain⟨⟨s,ds,e,e'⟩,_⟩:=h;match i,e with|0,e=>cases e;cases e'|i+1,e=>simp at e
 .have rr:Rep K F' v (.bl true):=rr;rw[Rep]at rr;exact rr
end
end HH
end
section
namespace HH
open PySem
noncomputable def Res.sat{α:Type}(Q:α->List Sl->Prop)(x:Res α):Prop:=match x with|.ok a ρ=>Q a ρ|.exc _ _=>False|.stuck=>False
section
variable{α β:Type}{Q Q':α->List Sl->Prop}
@[simp]theorem jX{a:α}{ρ:List Sl}:(Res.ok a ρ).sat Q=Q a ρ:=rfl
@[simp]theorem Z7{k:Nat}{ρ:List Sl}:(Res.exc k ρ:Res α).sat Q=False:=rfl
@[simp]theorem Ua:(Res.stuck:Res α).sat Q=False:=rfl
theorem bT{x:Res β}{f:β->List Sl->Res α}:(x.bind f).sat Q=x.sat fun a ρ=>(f a ρ).sat Q:=by cases x<;>rfl
@[simp]theorem Z1{p:Prop}[Decidable p]{x y:Res α}:(if p then x else y).sat Q=((p->x.sat Q)/\(¬ p->y.sat Q)):=by by_cases h:p<;>simp[h]
@[simp]theorem bN{a:α}{ρ:List Sl}:(lift (some a) ρ).sat Q=Q a ρ:=rfl
@[simp]theorem Jk{ρ:List Sl}:(lift (none:Option α) ρ).sat Q=False:=rfl
theorem Res.sat.imp{x:Res α}(h:x.sat Q)(k:∀a ρ,Q a ρ->Q' a ρ):x.sat Q':=by cases x with|ok a ρ=>exact k a ρ h|exc _ _=>exact h|stuck=>exact h
theorem sat_iff{x:Res α}:x.sat Q↔∃a ρ,x=.ok a ρ/\Q a ρ:=by cases x with|ok a ρ=>exact⟨fun h=>⟨a,ρ,rfl,h⟩,fun⟨_,_,e,h⟩=>by cases e;exact h⟩|exc _ _=>exact⟨fun h=>h.elim,fun⟨_,_,e,_⟩=>by cases e⟩|stuck=>exact⟨fun h=>h.elim,fun⟨_,_,e,_⟩=>by cases e⟩
end
noncomputable def fr:Sl->Bool|.aZ=>true|.val b _=>!b|.own b _=>!b|.lent _=>false|.cZ _=>false
@[simp]theorem acu:fr .aZ=true:=rfl
@[simp]theorem aba{b:Bool}{d:D}:fr (.val b d)=!b:=rfl
@[simp]theorem acT{b:Bool}{d:List D}:fr (.own b d)=!b:=rfl
@[simp]theorem Ze{d:List D}:fr (.lent d)=false:=rfl
theorem Rz(ρ:List Sl)(i:Nat)(s:Sl):put ρ i s=match ρ[i]?with|some t=>if fr t=true then some (ρ.set i s)else none|none=>none:=by unfold put;cases h:ρ[i]?with|none=>rfl|some t=>cases t with|aZ=>rfl|val b d=>cases b<;>rfl|own b d=>cases b<;>rfl|lent d=>rfl|cZ m=>rfl
theorem wF{Γ:Tab}{w n i:Nat}{d:Fd}{args:List Sl}(h:Γ i=some d):run Γ w (n+1) i args=enter (run Γ w n) w d args:=by rw[run,h]
noncomputable def fin(np:Nat):Fl->List Sl->Option (R×List Sl)|.next,ρ=>some (.val .non,ρ.take np)|.ret r,ρ=>some (r,ρ.take np)|_,_=>none
noncomputable def eQ(np:Nat)(Q:R->List Sl->Prop)(fl:Fl)(ρ:List Sl):Prop:=match fl with|.next=>Q (.val .non) (ρ.take np)|.ret r=>Q r (ρ.take np)|_=>False
noncomputable def sQ(c:Call)(n:Nat)(r:List S)(Q:Fl->List Sl->Prop)(fl:Fl)(ρ:List Sl):Prop:=match fl with|.next=>(jh c n r ρ).sat Q|fl=>Q fl ρ
noncomputable def fQ(J:List Sl->Prop)(Q:Fl->List Sl->Prop)(fl:Fl)(ρ:List Sl):Prop:=match fl with|.next=>J ρ|.cont=>J ρ|.brk=>Q .next ρ|.ret v=>Q (.ret v) ρ
section
variable{np:Nat}{Q:R->List Sl->Prop}{ρ:List Sl}{v:R}{c:Call}{n:Nat}{r:List S}{Q':Fl->List Sl->Prop}{J:List Sl->Prop}
@[simp]theorem aae:eQ np Q .next ρ=Q (.val .non) (ρ.take np):=rfl
@[simp]theorem abF:eQ np Q (.ret v) ρ=Q v (ρ.take np):=rfl
@[simp]theorem abN:eQ np Q .brk ρ=False:=rfl
@[simp]theorem aam:eQ np Q .cont ρ=False:=rfl
@[simp]theorem ZK:sQ c n r Q' .next ρ=(jh c n r ρ).sat Q':=rfl
@[simp]theorem abP:sQ c n r Q' (.ret v) ρ=Q' (.ret v) ρ:=rfl
@[simp]theorem aaV:sQ c n r Q' .brk ρ=Q' .brk ρ:=rfl
@[simp]theorem aad:sQ c n r Q' .cont ρ=Q' .cont ρ:=rfl
@[simp]theorem aai:fQ J Q' .next ρ=J ρ:=rfl
@[simp]theorem aab:fQ J Q' .cont ρ=J ρ:=rfl
@[simp]theorem abq:fQ J Q' .brk ρ=Q' .next ρ:=rfl
@[simp]theorem abR:fQ J Q' (.ret v) ρ=Q' (.ret v) ρ:=rfl
end
theorem Dd{c:Call}{n:Nat}{d:Fd}{args:List Sl}{Q:R->List Sl->Prop}(hl:args.length=d.np)(hd:d.np<=d.nn)(h:(jh c n d.body (args++List.replicate (d.nn-d.np) .aZ)).sat (eQ d.np Q)):(enter c n d args).sat Q:=by unfold enter;rw[if_pos ⟨hl,hd⟩];revert h;cases jh c n d.body (args++List.replicate (d.nn-d.np) .aZ)with|stuck=>exact fun h=>False.elim h|exc _ _=>exact fun h=>False.elim h|ok fl ρ=>cases fl<;>first|exact id|exact fun h=>False.elim h
theorem aN{Γ:Tab}{w n i:Nat}{d:Fd}{args:List Sl}{Q:R->List Sl->Prop}(hΓ:Γ i=some d)(hl:args.length=d.np)(hd:d.np<=d.nn)(h:(jh (run Γ w n) w d.body (args++List.replicate (d.nn-d.np) .aZ)).sat (eQ d.np Q)):(run Γ w (n+1) i args).sat Q:=by rw[wF hΓ];exact Dd hl hd h
theorem aa{c:Call}{n:Nat}{s:S}{r:List S}{ρ:List Sl}{Q:Fl->List Sl->Prop}(h:(ex c n s ρ).sat (sQ c n r Q)):(jh c n (s::r) ρ).sat Q:=by rw[jh,bT];refine h.imp fun fl ρ' q=>?_;cases fl<;>exact q
theorem aq{c:Call}{n:Nat}{s:S}{r:List S}{ρ:List Sl}{Q:Fl->List Sl->Prop}(h:(ex c n s ρ).sat (sQ c n r Q)):sQ c n (s::r) Q .next ρ:=aa h
@[simp]theorem Y9{c:Call}{n:Nat}{ρ:List Sl}{Q:Fl->List Sl->Prop}:(jh c n [] ρ).sat Q=Q .next ρ:=by rw[jh];rfl
theorem uE{c:Call}{n:Nat}{s:S}{r:List S}{ρ:List Sl}{Q:Fl->List Sl->Prop}(M:List Sl->Prop)(h:(ex c n s ρ).sat fun fl ρ'=>fl=.next/\M ρ')(k:∀ρ',M ρ'->(jh c n r ρ').sat Q):(jh c n (s::r) ρ).sat Q:=aa (h.imp fun fl ρ'⟨e,q⟩=>by subst e;exact k ρ' q)
theorem bZ{is:List Nat}{one:Bool}{body:List Sl->Res Fl}(J:List D->List Sl->Prop){Q:Fl->List Sl->Prop}(hb:∀d r ρ,J (d::r) ρ->∃ρ1,cV ρ is one d=some ρ1/\(body ρ1).sat (fQ (J r) Q))(hq:∀ρ,J [] ρ->Q .next ρ):∀{ds:List D}{ρ:List Sl},J ds ρ->(j8 is one body ds ρ).sat Q|[],ρ,j=>hq ρ j|d::r,ρ,j=>by obtain⟨ρ1,e,h⟩:=hb d r ρ j;rw[j8,e];show((body ρ1).bind _).sat Q;rw[bT];refine h.imp fun fl ρ2 q=>?_;cases fl with|next=>exact bZ J hb hq q|cont=>exact bZ J hb hq q|brk=>exact q|ret v=>exact q
theorem jE{is:List Nat}{one:Bool}{test:List Sl->Res Bool}{elt:Ev}(J:List Sl->Prop)(g:D->Option D){Q:List D->List Sl->Prop}:∀{ds acc:List D}{ρ:List Sl},J ρ->(∀ d,d ∈ ds->∀ ρ,J ρ->∃ ρ1,cV ρ is one d=some ρ1/\(test ρ1).sat fun b ρ2=>if b=true then(elt ρ2).sat fun r ρ3=>g d=some r.d/\J ρ3 else g d=none/\J ρ2)->(∀ ρ,J ρ->Q (acc++ds.filterMap g) ρ)->(turns is one test elt ds acc ρ).sat Q|[],acc,ρ,j,h,k=>by rw[turns];simpa using k ρ j|d::r,acc,ρ,j,h,k=>by obtain⟨ρ1,e,h1⟩:=h d (by simp) ρ j;rw[turns,e];show((test ρ1).bind _).sat Q;rw[bT];refine h1.imp fun b ρ2 q=>?_;cases b with|true=>rw[if_pos rfl]at q;rw[if_pos rfl,bT];refine q.imp fun x ρ3⟨e1,j3⟩=>?_;refine jE J g j3 (fun d' hd'=>h d' (by simp[hd'])) fun ρ' j'=>?_;have:=k ρ' j';rw[List.filterMap_cons,e1]at this;rw[List.append_assoc];exact this|false=>rw[if_neg (by simp)]at q;rw[if_neg (by simp)];refine jE J g q.2 (fun d' hd'=>h d' (by simp[hd'])) fun ρ' j'=>?_;have:=k ρ' j';rw[List.filterMap_cons,q.1]at this;exact this
theorem yt{is:List Nat}{one:Bool}{elt:Ev}{c:Call}(J:List Sl->Prop)(g:D->D){Q:List D->List Sl->Prop}{ds:List D}{ρ:List Sl}(j:J ρ)(h:∀d,d∈ds->∀ρ,J ρ->∃ρ1,cV ρ is one d=some ρ1/\(elt ρ1).sat fun r ρ3=>g d=r.d/\J ρ3)(k:∀ρ,J ρ->Q (ds.map g) ρ):(turns is one (qO c none) elt ds [] ρ).sat Q:=jE J (fun d=>some (g d)) j (fun d hd ρ j=>by obtain⟨ρ1,e,h1⟩:=h d hd ρ j;refine⟨ρ1,e,?_⟩;rw[qO,jX,if_pos rfl];exact h1.imp fun r ρ3 q=>⟨by rw[q.1],q.2⟩) fun ρ j=>by simpa using k ρ j
section
variable{ρ l:List Sl}{a:Sl}{i j:Int}{k m:Nat}{b b':Bool}{s:Str}{d:D}{ds es:List D}{e f:Ev}{x:Option Sl}{c:Call}
@[simp]theorem Qy:cG .int .non=false:=rfl
@[simp]theorem T3:cG .int (.bl b)=true:=rfl
@[simp]theorem Q7:cG .int (.int i)=true:=rfl
@[simp]theorem Ov:cG .int (.str s)=false:=rfl
@[simp]theorem PQ:cG .int (.tup ds)=false:=rfl
@[simp]theorem Qu:cG .int (.lst ds)=false:=rfl
@[simp]theorem Oe:cG .bool .non=false:=rfl
@[simp]theorem RK:cG .bool (.bl b)=true:=rfl
@[simp]theorem Oa:cG .bool (.int i)=false:=rfl
@[simp]theorem M4:cG .bool (.str s)=false:=rfl
@[simp]theorem Ni:cG .bool (.tup ds)=false:=rfl
@[simp]theorem N8:cG .bool (.lst ds)=false:=rfl
@[simp]theorem QM:cG .str .non=false:=rfl
@[simp]theorem T7:cG .str (.bl b)=false:=rfl
@[simp]theorem Qj:cG .str (.int i)=false:=rfl
@[simp]theorem QQ:cG .str (.str s)=true:=rfl
@[simp]theorem Qf:cG .str (.tup ds)=false:=rfl
@[simp]theorem Qq:cG .str (.lst ds)=false:=rfl
@[simp]theorem Kw:cG .tuple .non=false:=rfl
@[simp]theorem Og:cG .tuple (.bl b)=false:=rfl
@[simp]theorem Kp:cG .tuple (.int i)=false:=rfl
@[simp]theorem Ma:cG .tuple (.str s)=false:=rfl
@[simp]theorem J4:cG .tuple (.tup ds)=true:=rfl
@[simp]theorem JG:cG .tuple (.lst ds)=false:=rfl
@[simp]theorem NZ:cG .list .non=false:=rfl
@[simp]theorem Sg:cG .list (.bl b)=false:=rfl
@[simp]theorem Ob:cG .list (.int i)=false:=rfl
@[simp]theorem Np:cG .list (.str s)=false:=rfl
@[simp]theorem N7:cG .list (.tup ds)=false:=rfl
@[simp]theorem NP:cG .list (.lst ds)=true:=rfl
@[simp]theorem Nk:cG .none .non=true:=rfl
@[simp]theorem PB:cG .none (.bl b)=false:=rfl
@[simp]theorem Nh:cG .none (.int i)=false:=rfl
@[simp]theorem NT:cG .none (.str s)=false:=rfl
@[simp]theorem M5:cG .none (.tup ds)=false:=rfl
@[simp]theorem Oh:cG .none (.lst ds)=false:=rfl
@[simp]theorem Uw:jQ .non=true:=rfl
@[simp]theorem W8:jQ (.bl b)=false:=rfl
@[simp]theorem TY:jQ (.int i)=false:=rfl
@[simp]theorem U3:jQ (.str s)=false:=rfl
@[simp]theorem Uz:jQ (.tup ds)=false:=rfl
@[simp]theorem UT:jQ (.lst ds)=false:=rfl
@[simp]theorem Vu:flat .non=true:=rfl
@[simp]theorem aan:flat (.bl b)=true:=rfl
@[simp]theorem wW:flat (.int i)=true:=rfl
@[simp]theorem Xm:flat (.str s)=true:=rfl
@[simp]theorem Xy:flat (.tup ds)=false:=rfl
@[simp]theorem Wq:flat (.lst ds)=false:=rfl
@[simp]theorem yM:(R.val d).d=d:=rfl
@[simp]theorem mO:(R.own ds).d=.lst ds:=rfl
@[simp]theorem WK:zm (.val d)=.val false d:=rfl
@[simp]theorem Yp:zm (.own ds)=.own false ds:=rfl
@[simp]theorem Up:xf (.val d)=.dat d:=rfl
@[simp]theorem U8:xf (.own ds)=.tmp ds:=rfl
@[simp]theorem ZZ:oh (.int i)=some i:=rfl
@[simp]theorem zp:ye (.bl b)=some b:=rfl
@[simp]theorem sy:items (.lst ds)=some ds:=rfl
@[simp]theorem Dl:items (.tup ds)=some ds:=rfl
@[simp]theorem Qa:SJ (.tup ds)=some ds:=rfl
@[simp]theorem OJ:zq (.lst ds)=some ds:=rfl
@[simp]theorem Z0:uD .add=pW:=rfl
@[simp]theorem ZS:uD .sub=xx:=rfl
@[simp]theorem ZL:uD .mul=qm:=rfl
@[simp]theorem Yl:uD .fdiv=qt:=rfl
@[simp]theorem Z8:uD .mod=wI:=rfl
@[simp]theorem ZD:uD .pow=xn:=rfl
@[simp]theorem Ug:pW (.int i) (.int j)=some (.val (.int (i+j))):=rfl
@[simp]theorem TJ:pW (.lst ds) (.lst es)=if ds.length+es.length<=lim then some (.own (ds++es))else none:=rfl
@[simp]theorem TQ:pW (.tup ds) (.tup es)=if ds.length+es.length<=lim then some (.val (.tup (ds++es)))else none:=rfl
@[simp]theorem Uu:xx (.int i) (.int j)=some (.val (.int (i-j))):=rfl
@[simp]theorem Ux:qm (.int i) (.int j)=if((-18446744073709551616<i/\i<18446744073709551616)\/(-18446744073709551616<j/\j<18446744073709551616))then some (.val (.int (i*j)))else none:=rfl
@[simp]theorem Sy:qt (.int i) (.int j)=if 0<j/\j<1606938044258990275541962092341162602522202993782792835301376 then some (.val (.int (i/j)))else none:=rfl
@[simp]theorem Uc:wI (.int i) (.int j)=if 0<j then some (.val (.int (i%j)))else none:=rfl
@[simp]theorem UW:xn (.int i) (.int j)=if 0<=j/\j<=1000/\i.natAbs<18446744073709551616 then some (.val (.int (i^j.toNat)))else none:=rfl
@[simp]theorem Z2:vB (.lst ds) (.int i)=(at' ds i).map .val:=rfl
@[simp]theorem ZP:vB (.tup ds) (.int i)=(at' ds i).map .val:=rfl
@[simp]theorem Ww:HD (.int i)=some (.val (.int (-i))):=rfl
@[simp]theorem T4:cm .eq (.int i) (.int j)=some (i==j):=rfl
@[simp]theorem U5:cm .ne (.int i) (.int j)=some (!(i==j)):=rfl
@[simp]theorem V9:cm .eq (.bl b) (.bl b')=some (b==b'):=rfl
@[simp]theorem Xh:cm .ne (.bl b) (.bl b')=some (!(b==b')):=rfl
@[simp]theorem Ud:cm .lt (.int i) (.int j)=some (decide (i<j)):=rfl
@[simp]theorem Uj:cm .le (.int i) (.int j)=some (decide (i<=j)):=rfl
@[simp]theorem T9:cm .gt (.int i) (.int j)=some (decide (j<i)):=rfl
@[simp]theorem U4:cm .ge (.int i) (.int j)=some (decide (j<=i)):=rfl
@[simp]theorem abD:cm .isN d .non=some (jQ d):=rfl
@[simp]theorem ZF:cm .Yz d .non=some (!jQ d):=rfl
@[simp]theorem Nf:blt .len [.lst ds]=some (.val (.int ds.length)):=rfl
@[simp]theorem M8:blt .len [.tup ds]=some (.val (.int ds.length)):=rfl
@[simp]theorem JB:blt .list [.lst ds]=some (.own ds):=rfl
@[simp]theorem KJ:blt .list [.tup ds]=some (.own ds):=rfl
@[simp]theorem Jj:blt .tuple [.lst ds]=some (.val (.tup ds)):=rfl
@[simp]theorem Jg:blt .tuple [.tup ds]=some (.val (.tup ds)):=rfl
@[simp]theorem Wv:blt .max2 [.int i,.int j]=some (.val (.int (if i<j then j else i))):=rfl
@[simp]theorem ju:blt .all [.lst ds]=(ds.mapM ye).map fun bs=>.val (.bl (bs.all id)):=rfl
@[simp]theorem Ue:isVar (.var k)=some k:=rfl
@[simp]theorem Zv:pk (a::l) k=match(a::l)[k]?with|some (.val _ d)=>some d|some (.own _ ds)=>some (.lst ds)|some (.lent ds)=>some (.lst ds)|_=>none:=rfl
@[simp]theorem VR:Ji (a::l) k=match pk (a::l) k with|some (.lst ds)=>some ds|_=>none:=rfl
@[simp]theorem XX:dz (some k) e ρ=lift (pk ρ k) ρ:=rfl
@[simp]theorem W4:dz none e ρ=(e ρ).bind fun r ρ=>.ok r.d ρ:=rfl
@[simp]theorem TX{y:Option Nat}:gR (some k) e y f ρ=(lift (pk ρ k) ρ).bind fun _ ρ=>(dz y f ρ).bind fun y ρ=>(lift (pk ρ k) ρ).bind fun x ρ=>.ok (x,y) ρ:=rfl
@[simp]theorem Va{y:Option Nat}:gR none e y f ρ=(dz none e ρ).bind fun x ρ=>(dz y f ρ).bind fun y ρ=>.ok (x,y) ρ:=rfl
@[simp]theorem U9{es:List D}:fj (.own b ds) (some (.own b' es))=.own b es:=rfl
@[simp]theorem Tt:fj (.own b ds) (some (.val b' d))=.val b d:=rfl
@[simp]theorem EY:fj a none=a:=by cases a<;>rfl
@[simp]theorem Df:fj (.val b d) x=.val b d:=by cases x<;>rfl
@[simp]theorem Tz:fj .aZ x=.aZ:=by cases x<;>rfl
@[simp]theorem yc:fj (.lent ds) x=.lent ds:=by cases x<;>rfl
@[simp]theorem Yj:cV ρ [k] true d=put ρ k (.val false d):=rfl
@[simp]theorem TV{is:List Nat}:cV ρ is false (.tup ds)=putAll ρ is ds:=by cases is<;>rfl
@[simp]theorem Pb:srcOf none e ρ=(e ρ).bind fun r ρ=>lift (items r.d) ρ:=rfl
@[simp]theorem dB:srcOf (some k) e (a::l)=match(a::l)[k]?with|some (.val _ d)=>lift (items d) (a::l)|some (.own _ ds)=>.ok ds ((a::l).set k (.lent ds))|some (.lent ds)=>.ok ds (a::l)|_=>.stuck:=rfl
@[simp]theorem Nu{ρ':List Sl}:bH ρ' none ρ=ρ:=rfl
@[simp]theorem cY:bH (a::l) (some k) ρ=match(a::l)[k]?with|some (.own b ds)=>ρ.set k (.own b ds)|_=>ρ:=rfl
@[simp]theorem Vo{s:Sl}:put (a::l) k s=match(a::l)[k]?with|some t=>if fr t=true then some ((a::l).set k s)else none|none=>none:=Rz ..
@[simp]theorem Ql:putAll ρ [] []=some ρ:=rfl
@[simp]theorem M3{is:List Nat}:putAll ρ (k::is) (d::ds)=(put ρ k (.val false d)).bind fun ρ=>putAll ρ is ds:=rfl
end
@[simp]theorem at_0{α:Type}{a0:α}{l:List α}:at' (a0::l) 0=some a0:=by unfold at' qz;rw[if_pos (by decide),if_pos (by simp only[List.length_cons];omega)];rfl
@[simp]theorem at_1{α:Type}{a0 a1:α}{l:List α}:at' (a0::a1::l) 1=some a1:=by unfold at' qz;rw[if_pos (by decide),if_pos (by simp only[List.length_cons];omega)];rfl
@[simp]theorem at_2{α:Type}{a0 a1 a2:α}{l:List α}:at' (a0::a1::a2::l) 2=some a2:=by unfold at' qz;rw[if_pos (by decide),if_pos (by simp only[List.length_cons];omega)];rfl
@[simp]theorem at_3{α:Type}{a0 a1 a2 a3:α}{l:List α}:at' (a0::a1::a2::a3::l) 3=some a3:=by unfold at' qz;rw[if_pos (by decide),if_pos (by simp only[List.length_cons];omega)];rfl
theorem qG{α:Type}{l:List α}{i:Int}(h:0<=i)(h':i<l.length):at' l i=l[i.toNat]?:=by unfold at' qz;rw[if_pos h,if_pos h'];rfl
theorem HB{α:Type}{l:List α}{k:Nat}(h':k<l.length):at' l (k:Int)=l[k]?:=by rw[qG (by omega) (by omega)];simp
@[simp]theorem T6{d:D}:isVar (.con d)=none:=rfl
@[simp]theorem T5{o:Op}{p q:P}:isVar (.bin o p q)=none:=rfl
@[simp]theorem Tw{p:P}:isVar (.neg p)=none:=rfl
@[simp]theorem U7{p:P}:isVar (.not p)=none:=rfl
@[simp]theorem Uv{p q:P}:isVar (.and p q)=none:=rfl
@[simp]theorem Wr{p q:P}:isVar (.or p q)=none:=rfl
@[simp]theorem U6{o:Cm}{p q:P}:isVar (.cmp o p q)=none:=rfl
@[simp]theorem M9{o o':Cm}{p q r:P}:isVar (.chain o o' p q r)=none:=rfl
@[simp]theorem UL{p q r:P}:isVar (.YC p q r)=none:=rfl
@[simp]theorem Uo{as:List P}:isVar (.tup as)=none:=rfl
@[simp]theorem Uy{as:List P}:isVar (.lst as)=none:=rfl
@[simp]theorem Tu{p q:P}:isVar (.idx p q)=none:=rfl
@[simp]theorem Nj{p q r:P}:isVar (.slice p q r)=none:=rfl
@[simp]theorem R1{f:Nat}{as:List P}:isVar (.call f as)=none:=rfl
@[simp]theorem Ui{b:Blt}{as:List P}:isVar (.blt b as)=none:=rfl
@[simp]theorem Ss{ts:List Ty}{p:P}:isVar (.inst ts p)=none:=rfl
@[simp]theorem Pj{p e:P}{n:Nat}{is:List Nat}{one:Bool}{t:Option P}:isVar (.comp p n is one t e)=none:=rfl
@[simp]theorem UG{p q:P}:isVar (.qW p q)=none:=rfl
@[simp]theorem Ur{p q:P}:isVar (.zip p q)=none:=rfl
noncomputable def kW(c:Call)(is:List Nat)(one:Bool)(test:Option P)(elt:P)(ds:List D)(ρ:List Sl):Res (List D):=turns is one (qO c test) (ev c elt) ds [] ρ
@[simp]theorem Z9{c:Call}{src elt:P}{n:Nat}{is:List Nat}{one:Bool}{test:Option P}{ρ:List Sl}:ev c (.comp src n is one test elt) ρ=(srcOf (isVar src) (ev c src) ρ).bind fun ds ρ₁=>if ds.length<=lim then(kW c is one test elt ds (ρ₁++List.replicate n .aZ)).bind fun xs ρ₂=>.ok (.own xs) (bH ρ (isVar src) (ρ₂.take ρ₁.length))else .stuck:=(rfl)
theorem tX{α β γ:Type}{x:Res β}{f:β->List Sl->Res α}{g:α->List Sl->Res γ}:(x.bind f).bind g=x.bind fun a ρ=>(f a ρ).bind g:=by cases x<;>rfl
@[simp]theorem aca{Γ:Tab}{w n i:Nat}{args:List Sl}{α:Type}{f:R->List Sl->Res α}{Q:α->List Sl->Prop}:((run Γ w n i args).bind f).sat Q=(run Γ w n i args).sat fun a ρ=>(f a ρ).sat Q:=bT
@[simp]theorem abl{Γ:Tab}{w n i:Nat}{args:List Sl}{α β:Type}{f:R->List Sl->Res α}{g:α->List Sl->Res β}:((run Γ w n i args).bind f).bind g=(run Γ w n i args).bind fun a ρ=>(f a ρ).bind g:=tX
@[simp]theorem aal{c:Call}{is:List Nat}{one:Bool}{test:Option P}{elt:P}{ds:List D}{ρ:List Sl}{α:Type}{f:List D->List Sl->Res α}{Q:α->List Sl->Prop}:((kW c is one test elt ds ρ).bind f).sat Q=(kW c is one test elt ds ρ).sat fun a ρ=>(f a ρ).sat Q:=bT
@[simp]theorem Z3{c:Call}{is:List Nat}{one:Bool}{test:Option P}{elt:P}{ds:List D}{ρ:List Sl}{α β:Type}{f:List D->List Sl->Res α}{g:α->List Sl->Res β}:((kW c is one test elt ds ρ).bind f).bind g=(kW c is one test elt ds ρ).bind fun a ρ=>(f a ρ).bind g:=tX
@[simp]theorem aaT{is:List Nat}{one:Bool}{b:List Sl->Res Fl}{ds:List D}{ρ:List Sl}{α:Type}{f:Fl->List Sl->Res α}{Q:α->List Sl->Prop}:((j8 is one b ds ρ).bind f).sat Q=(j8 is one b ds ρ).sat fun a ρ=>(f a ρ).sat Q:=bT
@[simp]theorem ZJ{α β:Type}{p:Prop}[Decidable p]{a:β}{ρ:List Sl}{f:β->List Sl->Res α}{Q:α->List Sl->Prop}:((lift (if p then some a else none) ρ).bind f).sat Q=(p/\(f a ρ).sat Q):=by by_cases h:p<;>simp[h,lift,Res.bind]
@[simp]theorem Y7{α β γ:Type}{p:Prop}[Decidable p]{a:β}{ρ:List Sl}{f:β->List Sl->Res α}{g:α->List Sl->Res γ}:((lift (if p then some a else none) ρ).bind f).bind g=(lift (if p then some a else none) ρ).bind fun a ρ=>(f a ρ).bind g:=tX
@[simp]theorem bb_ite{α β:Type}{p:Prop}[Decidable p]{x y:Res β}{f:β->List Sl->Res α}:(if p then x else y).bind f=if p then x.bind f else y.bind f:=by by_cases h:p<;>simp[h]
@[simp]theorem acK{α β:Type}{a:α}{ρ:List Sl}{f:α->List Sl->Res β}:(Res.ok a ρ).bind f=f a ρ:=rfl
@[simp]theorem Tp{α β:Type}{f:α->List Sl->Res β}:(Res.stuck:Res α).bind f=.stuck:=rfl
@[simp]theorem Xn{α:Type}{a:α}{ρ:List Sl}:lift (some a) ρ=.ok a ρ:=rfl
@[simp]theorem Yg{α:Type}{ρ:List Sl}:lift (none:Option α) ρ=.stuck:=rfl
noncomputable def Dw:List Sl->Nat->Sl->List Sl|[],_,_=>[]|t::ρ,0,s=>fj t (some s)::ρ|t::ρ,k+1,s=>t::Dw ρ k s
noncomputable def bk:List Arg->List Sl->List Sl->List Sl|.fJ k::as,s::ss,ρ=>bk as ss (Dw ρ k s)|.dat _::as,_::ss,ρ=>bk as ss ρ|.tmp _::as,_::ss,ρ=>bk as ss ρ|_,_,ρ=>ρ
section
variable{t s:Sl}{ρ ss:List Sl}{k:Nat}{as:List Arg}{d:D}{ds:List D}
@[simp]theorem adN:Dw (t::ρ) 0 s=fj t (some s)::ρ:=rfl
@[simp]theorem aeq:Dw (t::ρ) (k+1) s=t::Dw ρ k s:=rfl
@[simp]theorem Pa:bk (.fJ k::as) (s::ss) ρ=bk as ss (Dw ρ k s):=rfl
@[simp]theorem S5:bk (.dat d::as) (s::ss) ρ=bk as ss ρ:=rfl
@[simp]theorem Ri:bk (.tmp ds::as) (s::ss) ρ=bk as ss ρ:=rfl
@[simp]theorem acY:bk [] ss ρ=ρ:=rfl
end
theorem yr{s:Sl}:∀{ρ:List Sl}{k j:Nat},(Dw ρ k s)[j]?=(ρ[j]?).map fun t=>if j=k then fj t (some s)else t|[],_,_=>by simp[Dw]|t::ρ,0,0=>by simp[Dw]|t::ρ,0,j+1=>by simp[Dw]|t::ρ,k+1,0=>by simp[Dw]|t::ρ,k+1,j+1=>by have:=yr (s:=s) (ρ:=ρ) (k:=k) (j:=j);simp only[Dw,List.getElem?_cons_succ,this];congr 1;funext t;simp
theorem xM{as:List Arg}{ss:List Sl}:∀{ρ:List Sl}{i j:Nat},(cQ as ss i ρ)[j]?=(ρ[j]?).map fun t=>fj t (bh (i+j) as ss)|[],_,_=>by simp[cQ]|t::ρ,i,0=>by simp[cQ]|t::ρ,i,j+1=>by have:=xM (as:=as) (ss:=ss) (ρ:=ρ) (i:=i+1) (j:=j);simp only[cQ,List.getElem?_cons_succ,this];rw[show i+1+j=i+(j+1)by omega]
noncomputable def stb(t:Sl):Prop:=∀x,fj t x=t
noncomputable def QB(ρ:List Sl):List Arg->Prop|[]=>True|.fJ k::as=>(Arg.fJ k∈as->∀t,ρ[k]?=some t->stb t)/\QB ρ as|_::as=>QB ρ as
theorem oH{ρ:List Sl}:∀{as:List Arg}{ρ':List Sl},QB ρ as->(∀k,Arg.fJ k∈as->∀t,ρ'[k]?=some t->ρ[k]?=some t\/stb t)->QB ρ' as
 |[],_,_,_=>trivial|.fJ k::as,ρ',h,g=>⟨fun hm t ht=>by
  rcases g k (by simp) t ht with e|e;.exact h.1 hm t e
  .exact e,oH h.2 fun j hj=>g j (by simp[hj])⟩|.dat _::as,ρ',h,g=>oH (as:=as) h fun j hj=>g j (by simp[hj])|.tmp _::as,ρ',h,g=>oH (as:=as) h fun j hj=>g j (by simp[hj])
theorem lC{k:Nat}:∀{as:List Arg}{ss:List Sl},Arg.fJ k∉as->bh k as ss=none|[],_,_=>by unfold bh;rfl|.fJ j::as,[],_=>rfl|.dat _::as,[],_=>rfl|.tmp _::as,[],_=>rfl|.fJ j::as,s::ss,h=>by simp only[List.mem_cons,Arg.fJ.injEq,not_or]at h;rw[bh,if_neg (fun e=>h.1 e.symm),lC h.2]|.dat _::as,s::ss,h=>by simp only[List.mem_cons,not_or]at h;rw[bh,lC h.2]|.tmp _::as,s::ss,h=>by simp only[List.mem_cons,not_or]at h;rw[bh,lC h.2]
theorem Ax:∀{as:List Arg}{ss ρ:List Sl},QB ρ as->∀j,(bk as ss ρ)[j]?=(ρ[j]?).map fun t=>fj t (bh j as ss)
 |[],ss,ρ,_,j=>by cases ss<;>simp[bh]|.fJ k::as,[],ρ,_,j=>by rw[show bk (.fJ k::as) [] ρ=ρ from rfl];simp[bh]|.dat d::as,[],ρ,_,j=>by rw[show bk (.dat d::as) [] ρ=ρ from rfl];simp[bh]|.tmp d::as,[],ρ,_,j=>by rw[show bk (.tmp d::as) [] ρ=ρ from rfl];simp[bh]|.dat _::as,s::ss,ρ,h,j=>by rw[S5,bh];exact Ax (as:=as) h j|.tmp _::as,s::ss,ρ,h,j=>by rw[Ri,bh];exact Ax (as:=as) h j|.fJ k::as,s::ss,ρ,h,j=>by
   have h2:QB (Dw ρ k s) as:=oH h.2 fun i hi t ht=>by rw[yr]at ht;cases e:ρ[i]?with|none=>rw[e]at ht;cases ht|some t0=>
      rw[e]at ht;by_cases c:i=k;.subst c;have hs:=h.1 hi t0 e;simp[hs (some s)]at ht;exact .inl (by rw[ht])
      .simp[c]at ht;exact .inl (by rw[ht])
   rw[Pa,Ax h2 j,yr,bh];cases e:ρ[j]?with|none=>rfl|some t0=>
     simp only[Option.map_some];by_cases c:j=k
     . subst c;rw[if_pos rfl,if_pos rfl];by_cases hm:Arg.fJ j∈as;.have hs:=h.1 hm t0 e;rw[hs (some s),hs]
       .rw[lC hm,EY]
     .rw[if_neg c,if_neg (fun z=>c z.symm)]
theorem fV{ρ:List Sl}{k:Nat}{b:Bool}{ds:List D}(e:ρ[k]?=some (.own b ds)):∀{as:List Arg}{u:List Nat}{r:List Sl},k∈u->bY ρ as u=some r->Arg.fJ k∉as
 |[],_,_,_,_=>by simp|.dat _::as,u,r,hu,h=>by simp only[bY,Option.map_eq_some_iff]at h;obtain⟨r',h,_⟩:=h;simp[fV e hu h]|.tmp _::as,u,r,hu,h=>by simp only[bY,Option.map_eq_some_iff]at h;obtain⟨r',h,_⟩:=h;simp[fV e hu h]|.fJ i::as,u,r,hu,h=>by
   rw[bY]at h;have hi:i≠k:=by rintro rfl;rw[e]at h;simp[hu]at h
   have:Arg.fJ k∉as:=by
    split at h;.obtain⟨r',h,_⟩:=Option.map_eq_some_iff.mp h;exact fV e hu h
    . split at h;.cases h
      .obtain⟨r',h,_⟩:=Option.map_eq_some_iff.mp h;exact fV e (by simp[hu]) h
    . split at h;.cases h
      .obtain⟨r',h,_⟩:=Option.map_eq_some_iff.mp h;exact fV e (by simp[hu]) h
    .cases h
   simp[this];exact fun z=>hi z.symm
theorem fY{ρ:List Sl}:∀{as:List Arg}{u:List Nat}{r:List Sl},bY ρ as u=some r->QB ρ as
 |[],_,_,_=>trivial|.dat _::as,u,r,h=>by obtain⟨r',h,_⟩:=Option.map_eq_some_iff.mp h;exact fY (as:=as) h|.tmp _::as,u,r,h=>by obtain⟨r',h,_⟩:=Option.map_eq_some_iff.mp h;exact fY (as:=as) h|.fJ i::as,u,r,h=>by
   rw[bY]at h;split at h;.rename_i b d q;obtain⟨r',h,_⟩:=Option.map_eq_some_iff.mp h;exact⟨fun _ t ht=>by rw[q]at ht;cases ht;exact fun x=>Df,fY h⟩
   . rename_i b ds q;split at h;.cases h
     .obtain⟨r',h,_⟩:=Option.map_eq_some_iff.mp h;exact⟨fun hm=>absurd hm (fV q (by simp) h),fY h⟩
   . rename_i ds q;split at h;.cases h
     .obtain⟨r',h,_⟩:=Option.map_eq_some_iff.mp h;exact⟨fun _ t ht=>by rw[q]at ht;cases ht;exact fun x=>yc,fY h⟩
   .cases h
theorem Xc{as:List Arg}{ss ρ r:List Sl}{u:List Nat}(h:bY ρ as u=some r):cQ as ss 0 ρ=bk as ss ρ:=by apply List.ext_getElem?;intro j;rw[xM,Ax (fY h),Nat.zero_add]
@[simp]theorem Uq{c:Call}{k:Nat}{as:List Arg}{ρ:List Sl}:pF c k as ρ=match bY ρ as []with|none=>.stuck|some args=>(c k args).bind fun r args'=>.ok r (bk as args' ρ):=by unfold pF;cases e:bY ρ as []with|none=>rfl|some args=>simp only[<-Xc (r:=args) e];cases c k args<;>rfl
theorem bf{c:Call}{is:List Nat}{one:Bool}{elt:P}(J:List Sl->Prop)(g:D->D){Q:List D->List Sl->Prop}{ds:List D}{ρ:List Sl}(j:J ρ)(h:∀d,d∈ds->∀ρ,J ρ->∃ρ1,cV ρ is one d=some ρ1/\(ev c elt ρ1).sat fun r ρ3=>g d=r.d/\J ρ3)(k:∀ρ,J ρ->Q (ds.map g) ρ):(kW c is one none elt ds ρ).sat Q:=yt J g j h k
theorem mz{c:Call}{is:List Nat}{one:Bool}{elt t:P}(J:List Sl->Prop)(g:D->Option D){Q:List D->List Sl->Prop}{ds:List D}{ρ:List Sl}(j:J ρ)(h:∀d,d∈ds->∀ρ,J ρ->∃ρ1,cV ρ is one d=some ρ1/\(ev c t ρ1).sat fun r ρ2=>∃b,r.d=.bl b/\if b=true then(ev c elt ρ2).sat fun r ρ3=>g d=some r.d/\J ρ3 else g d=none/\J ρ2)(k:∀ρ,J ρ->Q (ds.filterMap g) ρ):(kW c is one (some t) elt ds ρ).sat Q:=jE J g j (fun d hd ρ j=>by obtain⟨ρ1,e,h1⟩:=h d hd ρ j;refine⟨ρ1,e,?_⟩;rw[qO,jM,bT];refine h1.imp fun r ρ2⟨b,e,q⟩=>?_;rw[e];exact q) fun ρ j=>by simpa using k ρ j
@[simp]theorem ad0:type_of%@HH.E1:=@HH.E1
@[simp]theorem adQ:type_of%@HH.E2:=@HH.E2
@[simp]theorem aex:type_of%@HH.E3:=@HH.E3
@[simp]theorem adM:type_of%@HH.E4:=@HH.E4
@[simp]theorem ad6:type_of%@HH.E5:=@HH.E5
@[simp]theorem aep:type_of%@HH.E6:=@HH.E6
@[simp]theorem adJ:type_of%@HH.E7:=@HH.E7
@[simp]theorem ad7:type_of%@HH.E8:=@HH.E8
@[simp]theorem abJ:type_of%@HH.E9:=@HH.E9
@[simp]theorem acs:type_of%@HH.E10:=@HH.E10
@[simp]theorem acd:type_of%@HH.E11:=@HH.E11
@[simp]theorem abO:type_of%@HH.E12:=@HH.E12
@[simp]theorem acH:type_of%@HH.E13:=@HH.E13
@[simp]theorem aaZ:type_of%@HH.E14:=@HH.E14
@[simp]theorem uq:type_of%@HH.E15:=@HH.E15
@[simp]theorem acN:type_of%@HH.E16:=@HH.E16
@[simp]theorem ab3:type_of%@HH.E17:=@HH.E17
@[simp]theorem Zt:type_of%@HH.Wj:=@HH.Wj
@[simp]theorem aa9:type_of%@HH.E18:=@HH.E18
@[simp]theorem abT:type_of%@HH.E20:=@HH.E20
@[simp]theorem acj:type_of%@HH.E21:=@HH.E21
@[simp]theorem adO:type_of%@HH.X1:=@HH.X1
@[simp]theorem adX:type_of%@HH.X2:=@HH.X2
@[simp]theorem adP:type_of%@HH.X3:=@HH.X3
@[simp]theorem aew:type_of%@HH.X4:=@HH.X4
@[simp]theorem adV:type_of%@HH.X5:=@HH.X5
@[simp]theorem aev:type_of%@HH.X6:=@HH.X6
@[simp]theorem aei:type_of%@HH.X7:=@HH.X7
@[simp]theorem ad1:type_of%@HH.X8:=@HH.X8
@[simp]theorem aa2:type_of%@HH.X9:=@HH.X9
@[simp]theorem acM:type_of%@HH.ZG:=@HH.ZG
@[simp]theorem ab9:type_of%@HH.X11:=@HH.X11
@[simp]theorem abv:type_of%@HH.Zj:=@HH.Zj
@[simp]theorem acz:type_of%@HH.X13:=@HH.X13
@[simp]theorem abp:type_of%@HH.jM.eq_1:=@HH.jM.eq_1
@[simp]theorem ab0:type_of%@HH.evs.eq_1:=@HH.evs.eq_1
@[simp]theorem acy:type_of%@HH.evs.eq_2:=@HH.evs.eq_2
@[simp]theorem acZ:type_of%@HH.xY.eq_1:=@HH.xY.eq_1
@[simp]theorem abj:type_of%@HH.xY.eq_2:=@HH.xY.eq_2
@[simp]theorem acn:type_of%@HH.qO.eq_1:=@HH.qO.eq_1
@[simp]theorem aa0:type_of%@HH.qO.eq_2:=@HH.qO.eq_2
@[simp]theorem aci:type_of%@HH.lW.eq_1:=@HH.lW.eq_1
@[simp]theorem XF:type_of%@HH.bY.eq_1:=@HH.bY.eq_1
@[simp]theorem V5:type_of%@HH.bY.eq_2:=@HH.bY.eq_2
@[simp]theorem Wl:type_of%@HH.bY.eq_3:=@HH.bY.eq_3
@[simp]theorem VF:type_of%@HH.bY.eq_4:=@HH.bY.eq_4
@[simp]theorem Xr:type_of%@HH.cQ.eq_1:=@HH.cQ.eq_1
@[simp]theorem W9:type_of%@HH.cQ.eq_2:=@HH.cQ.eq_2
@[simp]theorem V1:type_of%@HH.bh.eq_1:=@HH.bh.eq_1
@[simp]theorem Xq:type_of%@HH.bh.eq_2:=@HH.bh.eq_2
@[simp]theorem V8:type_of%@HH.bh.eq_3:=@HH.bh.eq_3
@[simp]theorem XJ:type_of%@HH.bh.eq_4:=@HH.bh.eq_4
end HH
end
section
namespace HH
open PySem L2 PySem.Spec PyProof.Rows
section
variable{X:Cx}{c:Call}{a b:Expr}{pa pb:P}{pos:Pos}
theorem xJ:∀{ds:List D}{ns:List Int},ds.mapM oh=some ns->ds=ns.map D.int|[],ns,h=>by simp at h;subst h;rfl|d::ds,ns,h=>by simp[List.mapM_cons,Option.bind_eq_some_iff]at h;obtain⟨i,e1,ms,e2,rfl⟩:=h;rw[eY e1,xJ e2];rfl
theorem gZ{K:PySem.W.Frag}{F:Hp}:∀{ns:List Int}{ys:List V},aH K F ys (ns.map D.int)->ys=ns.map V.int|[],ys,h=>by rw[h.fL];rfl|n::ns,ys,h=>by obtain⟨v,r,rfl,h1,t⟩:=h.cB;rw[Rep]at h1;rw[h1,gZ t];rfl
theorem Lg{ns:List Int}{us:List Value}(h:Vals (ns.map V.int) us){i:Nat}{v:Value}(e:us.toArray[i]?=some v):∃t,v=.int (ns.getD i 0) t:=by
 have e:us[i]?=some v:=by simpa using e
 have hi:i<us.length:=(List.getElem?_eq_some_iff.mp e).1;have hl:=h.length;rw[List.length_map]at hl;have g:(ns.map V.int)[i]?=some (.int (ns.getD i 0)):=by rw[List.getElem?_map,List.getElem?_eq_getElem (by omega)];simp[List.getD,show i<ns.length by omega]
 obtain⟨w,g1,g2⟩:=h.get g;rw[e]at g1;cases g1;exact g2
theorem walked{pins:List (Addr×Obj)}{σ:L2.St}{H:Hp}{s:Shared}{p:Addr}{ys:List V}(I:L2.Inv X pins σ H s)(hc:X.calm=true)(hq:gA X.K H p ys\/jC X.K H p ys){Q:Value->Shared->Prop}{E:Value->Shared->Prop}(k:∀(it:Addr)(us:List Value)(s₂:Shared)(St:Nat->Heap->Prop),Vals ys us->Walks X.prog X.w X.A.in1 it [it,p] [it] us.toArray.size (fun i v=>us.toArray[i]?=some v) St->St 0 s₂.heap->(∀ b ∈[it,p],b<s₂.heap.objs.size)->(∀h' tk,(∀b o,b∉[it]->s₂.heap.get? b=some o->h'.get? b=some o)->L2.Inv X pins σ H {s₂ with heap:=h',toks:=tk})->Q (.ref it) s₂):wpAny (model X.prog X.w) X.A.in1 (pyIter (.ref p)) Q E s:=by
 have hh:X.A.in1.handled=none:=I.ok.hd hc;rcases hq with hq|hq
 . obtain⟨us,rv,pl,hz⟩:=I.list hq;have pl:=pl.isList;have hlt:p<s.heap.objs.size:=by obtain⟨o,h1,_⟩:=pl;exact Heap.lt_size h1
   refine wpAny_pyIter_list pl (k s.heap.objs.size us _ _ rv (Walks.list hh s.heap.objs.size p (Nat.ne_of_lt hlt) us.toArray) ⟨⟨_,Heap.get?_push_size _ rfl,rfl,rfl⟩,?_⟩ ?_ fun h' tk kp=>?_);.obtain⟨o,h1,h2⟩:=pl;exact⟨o,Heap.get?_push_of_some _ h1,h2⟩
   . intro b hb;obtain⟨o,h1,_⟩:=pl;simp at hb;rcases hb with rfl|rfl;.exact Heap.lt_size (Heap.get?_push_size _ rfl)
     .exact Heap.lt_size (Heap.get?_push_of_some _ h1)
   .exact I.kept (fun b o z=>kp b o (by simp;exact Nat.ne_of_lt (Heap.lt_size z)) (Heap.get?_push_of_some _ z))
 . obtain⟨us,rv,pl,hz⟩:=I.tuple hq;have hlt:p<s.heap.objs.size:=by obtain⟨o,h1,_⟩:=pl;exact Heap.lt_size h1
   refine wpAny_pyIter_tuple pl (k s.heap.objs.size us _ _ rv (Walks.tuple hh s.heap.objs.size p (Nat.ne_of_lt hlt) us.toArray) ⟨⟨_,Heap.get?_push_size _ rfl,rfl,rfl⟩,?_⟩ ?_ fun h' tk kp=>?_);.obtain⟨o,h1,h2⟩:=pl;exact⟨o,Heap.get?_push_of_some _ h1,h2⟩
   . intro b hb;obtain⟨o,h1,_⟩:=pl;simp at hb;rcases hb with rfl|rfl;.exact Heap.lt_size (Heap.get?_push_size _ rfl)
     .exact Heap.lt_size (Heap.get?_push_of_some _ h1)
   .exact I.kept (fun b o z=>kp b o (by simp;exact Nat.ne_of_lt (Heap.lt_size z)) (Heap.get?_push_of_some _ z))
theorem nF(ns:List Int):∀k,k<=ns.length->preSum (fun i=>ns.getD i 0) k=(ns.take k).sum|0,_=>by simp[preSum]|k+1,h=>by rw[preSum,nF ns k (by omega),List.take_succ,List.sum_append];simp[List.getD,show k<ns.length by omega]
theorem Xp(hc:X.calm=true):fc X (.builtin "sum") (N6 X.K fun x=>blt .sum [x]):=by
 rintro pins s σ H xs us Q I r⟨x,hx,F,d,r',sm,px,he,k⟩;obtain⟨ns,e1,he⟩:=map_some (show((items d).bind fun ds=>ds.mapM oh).map _=some r' from he);subst he;obtain⟨ds,e2,e3⟩:=dG e1;obtain⟨p,ys,rfl,hq,rs⟩:=px.items sm e2;rw[xJ e3]at rs;have ey:=gZ rs;subst hx;obtain⟨u,rfl,rx⟩:=r.one;cases rx;refine call_sum_walkG (walked I hc hq fun it us s₂ St rv W h0 hl kp=>?_);subst ey;have hlen:us.toArray.size=ns.length:=by rw[List.size_toArray,<-rv.length,List.length_map]
 refine⟨it,_,_,_,_,St,fun i=>ns.getD i 0,rfl,W,h0,hl,fun i v e=>Lg rv e,fun h' tk t' kk=>?_⟩;rw[hlen,nF ns _ (Nat.le_refl _),List.take_length];exact⟨.int _,H,kp h' tk kk,⟨t',rfl⟩,cM.eV sm (cJ _) k⟩
theorem boot_sum:bootBuiltins "sum"=some (.builtin "sum"):=by decide+kernel
theorem lZ{x:Str}{p':Pos}(hx:x="sum")(hc:X.calm=true)(hg:Gl X x)(hm:X.mg x=none)(ha:SX X c a pa)(hs:starEach [a] X.env=(false,eval a X.env)::starEach [] X.env:=by rfl):SX X c (.Call (.Name x p') [a] [] pos) (.blt .sum [pa]):=by subst hx;exact pZ (fun h=>fu (Xp hc) hg hm boot_sum h (he:=hs)) ha (fun ρ=>rfl) rfl hs
theorem GF{K:PySem.W.Frag}{F H:Hp}{v:V}{d:D}(h:di K F H v d)(f:flat d=true):jT v=true:=by cases d with|non=>rw[h.non];rfl|bl _=>rw[h.bl];rfl|int _=>rw[h.int];rfl|str _=>rw[h.str];rfl|tup _=>cases f|lst _=>cases f|cg _=>cases f
theorem ab8{K:PySem.W.Frag}{F H:Hp}{v u:V}{d e:D}(h:di K F H v d)(h':di K F H u e)(f:flat d=true)(g:flat e=true):Jr v u=iV d e:=by cases d with
 |tup _=>cases f|lst _=>cases f|cg _=>cases f|non=>rw[h.non];cases e with|tup _=>cases g|lst _=>cases g|cg _=>cases g|non=>rw[h'.non];rfl|bl _=>rw[h'.bl];rfl|int _=>rw[h'.int];rfl|str _=>rw[h'.str];rfl
 |bl _=>rw[h.bl];cases e with|tup _=>cases g|lst _=>cases g|cg _=>cases g|non=>rw[h'.non];rfl|bl _=>rw[h'.bl];rfl|int _=>rw[h'.int];rfl|str _=>rw[h'.str];rfl
 |int _=>rw[h.int];cases e with|tup _=>cases g|lst _=>cases g|cg _=>cases g|non=>rw[h'.non];rfl|bl _=>rw[h'.bl];rfl|int _=>rw[h'.int];rfl|str _=>rw[h'.str];rfl
 |str _=>rw[h.str];cases e with|tup _=>cases g|lst _=>cases g|cg _=>cases g|non=>rw[h'.non];rfl|bl _=>rw[h'.bl];rfl|int _=>rw[h'.int];rfl|str _=>rw[h'.str];rfl
theorem Vr{K:PySem.W.Frag}{F H:Hp}{v:V}{d:D}(h:di K F H v d)(f:flat d=true):∀{ds:List D}{vs:List V},aH K F vs ds->ds.all flat=true->vs.all jT=true/\inV v vs=ds.any fun y=>iV y d|[],vs,r,_=>by rw[r.fL];exact⟨rfl,rfl⟩|e::ds,vs,r,g=>by obtain⟨w,ws,rfl,h1,t⟩:=r.cB;rw[List.all_cons,Bool.and_eq_true]at g;obtain⟨i1,i2⟩:=Vr h f t g.2;have q:di K F H w e:=.inl h1;refine⟨by rw[List.all_cons,GF q g.1,i1];rfl,?_⟩;unfold inV at i2 ⊢;rw[List.any_cons,List.any_cons,i2,ab8 q h g.1 f]
theorem uM:fH X (compareOp .In) (rD X.K (lW .inn)):=by rintro pins s σ H x y v u Q I rx ry⟨F,d,e,r,sm,px,py,he,k⟩;obtain⟨t,e1,e2⟩:=map_some (show(yz false d e).map _=some r from he);subst e2;obtain⟨ds,e3,e4⟩:=dG e1;obtain⟨hf,e5⟩:=bw e4;rw[Bool.and_eq_true]at hf;obtain⟨p,xs,rfl,hq,rs⟩:=py.items sm e3;obtain⟨i1,i2⟩:=Vr px hf.1 rs hf.2;subst e5;refine Dz pins s σ H x _ v u Q I rx ry ⟨p,xs,rfl,hq,GF px hf.1,i1,?_⟩;rw[i2];exact cM.eV sm (iT _) k
end
end HH
end
section
namespace HH
open PySem
section
variable{i j:Int}{ds es:List D}{d:D}{b b':Bool}
@[simp]theorem Zz:uD .shl=Gg:=rfl
@[simp]theorem Z4:uD .shr=Ha:=rfl
@[simp]theorem Vt:uD .band=yw:=rfl
@[simp]theorem UJ:Gg (.int i) (.int j)=if 0<=j/\j<=1000/\i.natAbs<18446744073709551616 then some (.val (.int (i*2^j.toNat)))else none:=rfl
@[simp]theorem Tv:Ha (.int i) (.int j)=if 0<=j then some (.val (.int (i/2^j.toNat)))else none:=rfl
@[simp]theorem S6:yw (.int i) (.int j)=some (.val (.int (Builtin.bitAnd i j))):=rfl
@[simp]theorem Tq:qm (.lst ds) (.int i)=if 0<=i/\0<ds.length/\ds.length*i.toNat<=lim then some (.own (List.replicate i.toNat ds).flatten)else none:=rfl
@[simp]theorem Ub:qm (.tup ds) (.int i)=if 0<=i/\0<ds.length/\ds.length*i.toNat<=lim then some (.val (.tup (List.replicate i.toNat ds).flatten))else none:=rfl
@[simp]theorem abG:cm .isT (.bl b) (.bl true)=some b:=rfl
@[simp]theorem Zq:cm .Mv (.bl b) (.bl true)=some (!b):=rfl
@[simp]theorem aaq:blt .sum [.lst ds]=(ds.mapM oh).map fun ns=>.val (.int ns.sum):=rfl
end
@[simp]theorem abf:type_of%@HH.X14:=@HH.X14
@[simp]theorem ack:type_of%@HH.X15:=@HH.X15
theorem gU{ns:List Int}:(ns.map D.int).mapM oh=some ns:=by induction ns with|nil=>rfl|cons n ns ih=>simp[ih]
@[simp]theorem Ul{ns:List Int}:ns.mapM (oh ∘ D.int)=some ns:=by rw[<-gU (ns:=ns),List.mapM_map]
theorem tH{S:List Int}{i:Int}:((S.map D.int).any fun y=>iV y (.int i))=S.contains i:=by induction S with|nil=>rfl|cons s S ih=>rw[List.map_cons,List.any_cons,List.contains_cons,ih,pqi];rw[show(s==i)=(i==s)from Bool.eq_iff_iff.mpr ⟨fun h=>by simp at h ⊢;exact h.symm,fun h=>by simp at h ⊢;exact h.symm⟩]
theorem wH{S:List Int}:(S.map D.int).all flat=true:=by rw[List.all_eq_true];intro d hd;obtain⟨i,_,rfl⟩:=List.mem_map.mp hd;rfl
theorem uh{S:List Int}{i:Int}:cm .inn (.int i) (.lst (S.map D.int))=some (S.contains i):=by show yz false _ _=_;unfold yz;simp only[sy,Option.bind_some,wW,wH,Bool.and_true,tH];rfl
theorem HW{S:List Int}{i:Int}:cm .inn (.int i) (.tup (S.map D.int))=some (S.contains i):=by show yz false _ _=_;unfold yz;simp only[Dl,Option.bind_some,wW,wH,Bool.and_true,tH];rfl
theorem Bh{n:Nat}{S:List Int}:du (n+1) (.lst (S.map D.int))=true:=by rw[du,List.all_eq_true];intro d hd;obtain⟨i,_,rfl⟩:=List.mem_map.mp hd;cases n<;>rfl
theorem qu:∀{S T:List Int},fZ (S.map D.int) (T.map D.int)=(S==T)|[],[]=>by simp[fZ]|[],_::_=>by simp[fZ]|_::_,[]=>by simp[fZ]|s::S,t::T=>by rw[List.map_cons,List.map_cons,fZ,qu,pqi];rfl
theorem BR{S T:List Int}:cm .ne (.lst (S.map D.int)) (.lst (T.map D.int))=some (!(S==T)):=by show yD _ _=_;unfold yD;rw[Bh,Bh,pql,qu];rfl
theorem o6{S:List Int}:cm .ne (.lst (S.map D.int)) (.lst [])=some (!S.isEmpty):=by rw[show(.lst []:D)=.lst (([]:List Int).map D.int)from rfl,BR];cases S<;>rfl
theorem oO{α:Type}{l:List α}{x:α}:at' (l++[x]) (-1)=some x:=by
 unfold at' qz;rw[if_neg (by decide),if_pos (by simp only[List.length_append,List.length_singleton];omega)];have:(-1+((l++[x]).length:Int)).toNat=l.length:=by simp only[List.length_append,List.length_singleton];omega
 rw[this];simp
theorem GC{α:Type}{l:List α}{f:α->D}{k:Nat}{x:α}(h:l[k]?=some x):at' (l.map f) (k:Int)=some (f x):=by have hk:=(List.getElem?_eq_some_iff.mp h).1;rw[HB (by simpa using hk),List.getElem?_map,h];rfl
theorem QV{n k:Nat}(h:k<n):qz n (k:Int)=some k:=by unfold qz;rw[if_pos (by omega),if_pos (by omega)];simp
theorem ie{is:List Nat}{one:Bool}{body:List Sl->Res Fl}{g:Nat->D}{N:Nat}(J:Nat->List Sl->Prop){Q:Fl->List Sl->Prop}(hb:∀i ρ,i<N->J i ρ->∃ρ1,cV ρ is one (g i)=some ρ1/\(body ρ1).sat (fQ (J (i+1)) Q))(hq:∀ρ,J N ρ->Q .next ρ){ρ:List Sl}(h0:J 0 ρ):(j8 is one body ((List.range N).map g) ρ).sat Q:=by
 refine bZ (fun r ρ=>∃i,i<=N/\r=((List.range N).map g).drop i/\J i ρ) ?_ ?_ ⟨0,Nat.zero_le _,rfl,h0⟩
 . rintro d r ρ⟨i,hi,e,j⟩;have hlt:i<N:=by
    rcases Nat.lt_or_ge i N with h|h;.exact h
    .rw[List.drop_eq_nil_of_le (by simpa using h)]at e;cases e
   rw[List.drop_eq_getElem_cons (by simpa using hlt)]at e;injection e with e1 e2;simp at e1;subst e1;obtain⟨ρ1,h1,h2⟩:=hb i ρ hlt j;refine⟨ρ1,h1,h2.imp fun fl ρ2 q=>?_⟩;cases fl with|next=>exact⟨i+1,hlt,e2,q⟩|cont=>exact⟨i+1,hlt,e2,q⟩|brk=>exact q|ret v=>exact q
 . rintro ρ⟨i,hi,e,j⟩;have:i=N:=by have hl:=congrArg List.length e;simp at hl;omega
   subst this;exact hq ρ j
theorem Du{c:Call}{is:List Nat}{one:Bool}{elt:P}{t:Option P}(J:List Sl->Prop)(P:D->Prop){Q:List D->List Sl->Prop}{ds:List D}{ρ:List Sl}(j:J ρ)(h:∀d,d∈ds->∀ρ,J ρ->∃ρ1,cV ρ is one d=some ρ1/\(qO c t ρ1).sat fun b ρ2=>if b=true then(ev c elt ρ2).sat fun r ρ3=>P r.d/\J ρ3 else J ρ2)(k:∀xs ρ,J ρ->xs.length<=ds.length->(∀x∈xs,P x)->Q xs ρ):(kW c is one t elt ds ρ).sat Q:=by suffices hh:∀(ds:List D)(acc:List D)(ρ:List Sl),J ρ->(∀x∈acc,P x)->(∀d,d∈ds->∀ρ,J ρ->∃ρ1,cV ρ is one d=some ρ1/\(qO c t ρ1).sat fun b ρ2=>if b=true then(ev c elt ρ2).sat fun r ρ3=>P r.d/\J ρ3 else J ρ2)->(turns is one (qO c t) (ev c elt) ds acc ρ).sat fun xs ρ=>J ρ/\(∀x∈xs,P x)/\xs.length<=acc.length+ds.length from(hh ds [] ρ j (by simp) h).imp fun xs ρ⟨q1,q2,q3⟩=>k xs ρ q1 (by simpa using q3) q2;intro ds;induction ds with|nil=>intro acc ρ j ha _;rw[turns];exact⟨j,ha,by simp⟩|cons d r ih=>
   intro acc ρ j ha h;obtain⟨ρ1,e,h1⟩:=h d (by simp) ρ j;rw[turns,e];show((qO c t ρ1).bind _).sat _;rw[bT];refine h1.imp fun b ρ2 q=>?_
   cases b with|true=>
     rw[if_pos rfl]at q;rw[if_pos rfl,bT];refine q.imp fun x ρ3⟨p,j3⟩=>?_;refine(ih (acc++[x.d]) ρ3 j3 (fun y hy=>?_) fun d' hd'=>h d' (by simp[hd'])).imp fun xs ρ⟨q1,q2,q3⟩=>⟨q1,q2,by simp at q3 ⊢;omega⟩;rcases List.mem_append.mp hy with hy|hy;.exact ha y hy
     .rw[List.mem_singleton.mp hy];exact p|false=>rw[if_neg (by simp)]at q;rw[if_neg (by simp)];exact(ih acc ρ2 q ha fun d' hd'=>h d' (by simp[hd'])).imp fun xs ρ⟨q1,q2,q3⟩=>⟨q1,q2,by simp at q3 ⊢;omega⟩
theorem Cv{c:Call}{is:List Nat}{one:Bool}{elt:P}(J:List Sl->Prop)(P:D->Prop){Q:List D->List Sl->Prop}{ds:List D}{ρ:List Sl}(j:J ρ)(h:∀d,d∈ds->∀ρ,J ρ->∃ρ1,cV ρ is one d=some ρ1/\(ev c elt ρ1).sat fun r ρ3=>P r.d/\J ρ3)(k:∀xs ρ,J ρ->xs.length=ds.length->(∀x∈xs,P x)->Q xs ρ):(kW c is one none elt ds ρ).sat Q:=by suffices hh:∀(ds:List D)(acc:List D)(ρ:List Sl),J ρ->(∀x∈acc,P x)->(∀d,d∈ds->∀ρ,J ρ->∃ρ1,cV ρ is one d=some ρ1/\(ev c elt ρ1).sat fun r ρ3=>P r.d/\J ρ3)->(turns is one (qO c none) (ev c elt) ds acc ρ).sat fun xs ρ=>J ρ/\(∀x∈xs,P x)/\xs.length=acc.length+ds.length from(hh ds [] ρ j (by simp) h).imp fun xs ρ⟨q1,q2,q3⟩=>k xs ρ q1 (by simpa using q3) q2;intro ds;induction ds with|nil=>intro acc ρ j ha _;rw[turns];exact⟨j,ha,by simp⟩|cons d r ih=>
   intro acc ρ j ha h;obtain⟨ρ1,e,h1⟩:=h d (by simp) ρ j;rw[turns,e];show((qO c none ρ1).bind _).sat _;rw[qO];show((ev c elt ρ1).bind _).sat _;rw[bT];refine h1.imp fun x ρ3⟨p,j3⟩=>?_;refine(ih (acc++[x.d]) ρ3 j3 (fun y hy=>?_) fun d' hd'=>h d' (by simp[hd'])).imp fun xs ρ⟨q1,q2,q3⟩=>⟨q1,q2,by simp at q3 ⊢;omega⟩;rcases List.mem_append.mp hy with hy|hy;.exact ha y hy
   .rw[List.mem_singleton.mp hy];exact p
inductive A3(a b c:Prop):Prop where|mk(ha:a)(hb:b)(hc:c)
inductive A4(a b c d:Prop):Prop where|mk(ha:a)(hb:b)(hc:c)(hd:d)
inductive A5(a b c d e:Prop):Prop where|mk(ha:a)(hb:b)(hc:c)(hd:d)(he:e)
end HH
end
section
namespace HH
open PySem L2 PySem.Spec PyProof.Rows
section
variable{X:Cx}{c:Call}{n:Nat}{e a b d tg:Expr}{p pa pb pd:P}{pos:Pos}
theorem Fj:fH X (compareOp .IsNot) (rD X.K (lW .Mv)):=by
 rintro pins s σ H x y v u Q I rx ry⟨F,d,e,r,sm,px,py,he,k⟩;obtain⟨t,e1,e2⟩:=map_some (show(cmT true d e).map _=some r from he);subst e2;unfold cmT at e1;split at e1;.rename_i b;cases e1;rw[px.bl]at rx;rw[py.bl]at ry;cases rx;cases ry;have q:=cM.eV sm (iT (!b)) k;cases b<;>exact wpAny_pure ⟨.bl _,H,I,rfl,q⟩
 .cases e1
end
end HH
end
section
namespace HT
open PySem PySem.Spec PyProof.Rows
section
variable{prog:Program}{w:World}{A:Around}{E:Value->Shared->Prop}{s:Shared}
theorem vL{t sl:Addr}{its:Array Value}{vl vu:Value}{lo hi:Option Int}{Q:Value->Shared->Prop}(ht:IsTup s.heap t its)(hs:s.heap.IsSliceOf sl vl vu .none)(pl:IsPart vl lo)(pu:IsPart vu hi)(h1:cX its.size 0 lo=0)(h2:cX its.size its.size hi=its.size)(h:Q (.ref t) s):wpAny (model prog w) A (getItem (.ref t) (.ref sl)) Q E s:=by
 obtain⟨os,hos,hcs,hds⟩:=id hs;have hT:s.TypeIs (.ref sl) "slice":=⟨os,hos,hcs⟩;unfold getItem;try with_reducible refine wpAny_holding ?_
 first|refine wpAny_bind (wpAny_pure ?_)|skip
 refine wpAny_bind (wpAny_sequenceKey ht.typeIs (by decide) (wpAny_bind (wpAny_callSpecial?_slot (name:=Str.ofString "__getitem__") ht.typeIs slot_tuple_getitem (wpAny_call_entry slot_tuple_getitem ht.typeIs entry_tuple_getitem ?_ (args_tuple_getitem _ _)))));show wpAny _ _ (Builtin.Tuple.tupleItemsOf (.ref t)>>=_) _ _ s;refine wpAny_bind (tupleItemsOf_ ht (wpAny_bind (wpAny_typeOf hT ?_)));rw[if_pos (by decide)];refine wpAny_bind (gQ hs pl pu ?_);have adh:((((cX its.size 0 lo:Nat):Int)==0&&(1:Int)==1&&(cX its.size its.size hi-cX its.size 0 lo)==its.size)=true):=by rw[h1,h2];simp
 show wpAny _ _ (if(((cX its.size 0 lo:Nat):Int)==0&&(1:Int)==1&&(cX its.size its.size hi-cX its.size 0 lo)==its.size)=true then _ else _) _ _ s;rw[if_pos adh];unfold Builtin.Tuple.tupleIsExact;refine wpAny_bind (wpAny_bind (wpAny_typeOf ht.typeIs (wpAny_pure ?_)));rw[if_pos (by decide)];exact wpAny_bind (wpAny_rule (wpAny_pure ⟨_,rfl,wpAny_pure h⟩))
end
end HT
namespace HH
open PySem L2 PySem.Spec PyProof.Rows
noncomputable def nst:Expr->Bool|.Starred _ _=>false|_=>true
theorem iw{e:Expr}{es:List Expr}{env:Env}(h:nst e=true):starEach (e::es) env=(false,eval e env)::starEach es env:=by cases e with|Starred a b=>cases h|_=>rw[starEach];(intro e p z;cases z)
noncomputable def pN:List Int->List Expr->Option (List Expr)|[],es=>some es|i::is,.Constant (.int j) _ _::es=>if i=j then pN is es else none|_,_=>none
theorem jA{X:L2.Cx}{c:Call}:∀(is:List Int){es es':List Expr}{ps':List P},pN is es=some es'->SA X c es' ps'->SA X c es (is.map (fun i=>P.con (.int i))++ps')|[],es,es',ps',h,r=>by cases h;exact r|i::is,[],es',ps',h,r=>by cases h|i::is,e::es,es',ps',h,r=>by cases e with
   |Constant v k p=>cases v with
     |int j=>
       replace h:(if i=j then pN is es else none)=some es':=h;split at h;.rename_i hij;subst hij;exact oK ak (jA is h r) (iw rfl)
       .cases h|_=>cases h
   |_=>cases h
theorem tY{n d:Nat}{o:Option Int}:HT.cX n d o=HH.cX n d o:=by cases o with|none=>rfl|some v=>
   show(if v<0 then(v+(n:Int)).toNat else min v.toNat n)=(if 0<=v then min v.toNat n else(v+n).toNat);by_cases h:0<=v;.rw[if_pos h,if_neg (by omega)]
   .rw[if_neg h,if_pos (by omega)]
theorem Eu{xs:List V}{lo hi:Option Int}:wA xs lo hi=HH.cut xs lo hi:=by unfold wA HH.cut;rw[tY,tY]
theorem aH.cut{K:PySem.W.Frag}{F:Hp}{ds:List D}{vs:List V}{lo hi:Option Int}(h:aH K F vs ds):aH K F (HH.cut vs lo hi) (HH.cut ds lo hi):=by unfold HH.cut;rw[h.length];exact(h.drop _).take _
section
variable{X:Cx}{c:Call}{n:Nat}{e a b:Expr}{p pa pb pl ph:P}{pos p2:Pos}{lo hi:Option Expr}
noncomputable def ace(K:PySem.W.Frag):V->Option Int->Option Int->Hp->VK->Prop:=fun x lo hi H Q=>∃F d r,aO F H/\di K F H x d/\JR d (some lo) (some hi)=some r/\∀v F' H',Ext F H F' H'->cM K F' H' H v r->Q v H'
theorem Xf:SlR X (ace X.K):=by rintro pins s σ H x v vl vu lo hi sl Q I rx hs pl pu⟨F,d,r,sm,px,he,k⟩;cases d with|lst ds=>cases he;obtain⟨a,xs,rfl,hq,rs⟩:=px.lst sm;refine Jw pins s σ H _ v vl vu lo hi sl Q I rx hs pl pu ⟨a,xs,rfl,hq,fun p hp=>?_⟩;rw[Eu];exact wJ sm rs.cut hp k|tup ds=>
   cases he;obtain⟨a,xs,rfl,hq,rs,rt⟩:=px.tup sm;by_cases hw:HT.cX xs.length 0 lo=0/\HT.cX xs.length xs.length hi=xs.length
   . cases rx;obtain⟨its,rv,ht,hz⟩:=I.tuple hq;have hlen:its.toArray.size=xs.length:=by rw[List.size_toArray];exact rv.length.symm
     refine⟨"tuple",_,slot_tuple_getitem.lookup,ht.typeIs,HT.vL ht hs pl pu (by rw[hlen];exact hw.1) (by rw[hlen];exact hw.2) ⟨.ref a,H,I,rfl,?_⟩⟩;have hc:HH.cut ds lo hi=ds:=by unfold HH.cut;rw[<-rs.length,<-tY,<-tY,hw.1,hw.2];simp[rs.length]
     rw[hc]at k;exact cM.eV sm rt k
   .refine Qw pins s σ H _ v vl vu lo hi sl Q I rx hs pl pu ⟨a,xs,rfl,hq,hw,fun p hp=>?_⟩;rw[Eu];exact Dp sm rs.cut hp k|_=>cases he
noncomputable def SO(X:Cx)(c:Call)(o:Option Expr)(p:P):Prop:=∃t,PO X o t/\∀{σ:L2.St}{H F:Hp}{ρ ρ':List Sl}{d:D}{i:Option Int}{Q:Option Int->Hp->Prop},GS X.K F ρ σ H->dz (isVar p) (HH.ev c p) ρ=.ok d ρ'->part p d=some i->(∀F' H',cA X.K F ρ σ H F' ρ' σ H'->Q i H')->t σ H Q
theorem oV:SO X c none (.con .non):=by refine⟨_,JD,fun{σ H F ρ ρ' d i Q}g e h k=>?_⟩;cases(show some none=some i from h);have e':(HH.ev c (.con .non) ρ).bind (fun r ρ=>.ok r.d ρ)=.ok d ρ':=e;clear e;rw[HH.E2]at e';cases e';exact k F H (.refl g)
theorem o7(h:SX X c e p)(hn:FJ p=false:=by rfl):SO X c (some e) p:=by obtain⟨t,h1,h2⟩:=h.dz;refine⟨_,Kq h1,fun{σ H F ρ ρ' d i Q}g e hp k=>?_⟩;unfold part at hp;rw[hn,if_neg (by decide)]at hp;obtain⟨j,e1,e2⟩:=map_some hp;cases eY e1;subst e2;exact h2 g e fun v F' H' s pv=>⟨j,pv.int,k F' H' s⟩
theorem vR{d:D}{x y:Option (Option Int)}{r:R}(h:JR d x y=some r):∃lo hi,x=some lo/\y=some hi:=by cases x with|none=>cases d<;>cases h|some lo=>cases y with|none=>cases d<;>cases h|some hi=>exact⟨lo,hi,rfl,rfl⟩
theorem lF(ha:SX X c a pa)(hl:SO X c lo pl)(hh:SO X c hi ph):SX X c (.Subscript a (.Slice lo hi none p2) pos) (.slice pa pl ph):=by obtain⟨tl,l1,l2⟩:=hl;obtain⟨th,h1,h2⟩:=hh;cases hv:isVar pa with|none=>refine⟨dX (wu Xf ha.ev l1 h1) ?_,fun i h=>by cases h⟩;rintro σ H Q⟨F,ρ,r,ρ',g,e,k⟩;rw[HH.E14,hv]at e;obtain⟨x,ρ1,e1',ea⟩:=ao e;clear e;have YM:(HH.ev c pa ρ).bind (fun r ρ=>.ok r.d ρ)=.ok x ρ1:=e1';clear e1';obtain⟨rx,ρ1',e1,e0⟩:=ao YM;clear YM;cases e0;obtain⟨y,ρ2,e2,eb⟩:=ao ea;clear ea;obtain⟨z,ρ3,e3,ec⟩:=ao eb;clear eb;obtain⟨e,e4⟩:=aF ec;clear ec;subst e4;obtain⟨lo',hi',q1,q2⟩:=vR e;rw[q1,q2]at e;refine⟨F,ρ,rx,_,g,e1,fun v F1 H1 s1 rr=>?_⟩;obtain⟨F2,s2,_,rp⟩:=s1.fW rr;refine l2 s2.gs e2 q1 fun F3 H3 s3=>h2 s3.gs e3 q2 fun F4 H4 s4=>?_;have s5:=s2.trans (s3.trans s4);refine⟨F4,_,r,s4.gs.sub,.inl ((rp.mono s3.dm).mono s4.dm),e,fun v F5 H5 x rn=>?_⟩;exact k v F5 H5 (s5.trans (x.stp s5.gs)) (.later s5 (rn.pO s5.gs))|some i=>refine⟨dX (wu Xf (ha.var i hv) l1 h1) ?_,fun i h=>by cases h⟩;rintro σ H Q⟨F,ρ,r,ρ',g,e,k⟩;rw[HH.E14,hv]at e;obtain⟨x0,ρ0,e0',ea⟩:=ao e;clear e;obtain⟨e0,xP⟩:=aF e0';clear e0';subst xP;obtain⟨y,ρ2,e2,eb⟩:=ao ea;clear ea;obtain⟨z,ρ3,e3,ec⟩:=ao eb;clear eb;obtain⟨x,ρ4,e5',ed⟩:=ao ec;clear ec;obtain⟨e5,e6⟩:=aF e5';clear e5';subst e6;obtain⟨e,e4⟩:=aF ed;clear ed;subst e4;obtain⟨lo',hi',q1,q2⟩:=vR e;rw[q1,q2]at e;obtain⟨v,hv1,_⟩:=g.pk e0;refine⟨v,hv1,l2 g e2 q1 fun F3 H3 s3=>h2 s3.gs e3 q2 fun F4 H4 s4=>?_⟩;have s5:=s3.trans s4;obtain⟨v',hv2,pv⟩:=s5.gs.pk e5;rw[hv1]at hv2;cases hv2;refine⟨F4,_,r,s4.gs.sub,pv,e,fun v F5 H5 x rn=>?_⟩;exact k v F5 H5 (s5.trans (x.stp s5.gs)) (.later s5 (rn.pO s5.gs))
theorem G3{i:Nat}{x:Str}{p':Pos}{op:Operator}{sub:Bool}(ho:ZX X op (ipI fun i j=>if sub then i-j else i+j))(hN:X.N.Nodup)(hi:X.N[i]?=some x)(hx:Loc X.env.scope x)(he:SX X c e p)(hf:X.fn x=true\/X.env.scope.names.lookup x=some .local:=by first|exact .inl rfl|exact .inr rfl|assumption):SS X c n (.AugAssign (.Name x p') op e pos) (.aug i sub p):=by
 obtain⟨te,h1,h2⟩:=he.dz;refine eU (Py hN hi hx h1 ho hf) ?_;rintro D σ H⟨F,ρ,fl,ρ',g,e,k⟩;rw[HH.X14]at e;obtain⟨a0,ρ0,e0',ea⟩:=ao e;clear e;obtain⟨e0,xP⟩:=aF e0';clear e0';subst xP;obtain⟨b0,ρ1,e1,eb⟩:=ao ea;clear ea;obtain⟨v,hv1,pv⟩:=g.pk e0;refine⟨v,hv1,h2 g e1 fun u F1 H1 s1 pu=>?_⟩;split at eb;.rename_i i1 j1;obtain⟨ρ2,ρ3,e2',ec⟩:=ao eb;clear eb;cases ec;obtain⟨e2,e3⟩:=aF e2';clear e2';have rr:Rep X.K F1 (.int (if sub then i1-j1 else i1+j1)) (.int (if sub then i1-j1 else i1+j1)):=cJ _;exact⟨i1,j1,pv.int,pu.int,k F1 _ H1 (cA.put (r:=.val (.int _)) s1 rr e2)⟩
 .cases eb
theorem Ai:ZX X .Add (ipI fun i j=>if false then i-j else i+j):=RM
theorem OD{x:Str}{k:Nat}{px apos cpos:Pos}(hN:X.N[k]?=some x)(hv:xX X.env.scope x)(he:SX X c e p)(hline:(apos.endLine==cpos.line)=true:=by rfl)(hs:starEach [e] X.env=(false,eval e X.env)::starEach [] X.env:=by rfl)(hbase:attributeBase (.Name x px) "extend" X.env (eval (.Name x px) X.env)=eval (.Name x px) X.env:=by rfl)(hfew:((backTo cpos (starEach [e] X.env)).all (fun x=>!x.1)&&(backToKw cpos (keywordEach [] X.env)).all (fun x=>x.1.isSome)&&decide ([e].length+([]:List Keyword).length+(if([]:List Keyword).isEmpty then 0 else 1)<30))=true:=by rfl)(hsw:swapsWith (.Call (.Attribute (.Name x px) "extend" apos) [e] [] cpos) none pos.line X.env=pure false:=by rfl)(hd:(x==("__debug__":Str))=false:=by decide)(hcd:(x==("__classdict__":Str))=false:=by decide):SS X c n (.Expr (.Call (.Attribute (.Name x px) "extend" apos) [e] [] cpos) pos) (.Mx k p):=by
 refine eU (oG (Nm PySem.F.plainAttrs_list PySem.F.slot_list_extend PySem.F.type_list_extend Ds (gb hN hv hd hcd) (cR he.ev gD hs) hbase hfew hline hs) hsw) ?_;rintro D σ H⟨F,ρ,fl,ρ',g,e,kk⟩;rw[HH.X15]at e;obtain⟨d0,ρ0,e0',ea⟩:=ao e;clear e;obtain⟨e0,xP⟩:=aF e0';clear e0';subst xP;obtain⟨r,ρ1,e1,eb⟩:=ao ea;clear ea;obtain⟨a,xs,h1,h2⟩:=tQ g e0;refine⟨.ref a,h1,.inl ⟨rfl,xs,h2⟩,F,ρ,r,ρ1,g,e1,fun v F1 H1 s1 rr=>?_⟩;split at eb
 . rename_i bb ds es q;split at eb;.rename_i hlt;cases eb;obtain⟨b1,ys,rfl,w2,w3,w4,w5,w6⟩:=rr;obtain⟨ad,zs,q1,q2,q3,q4⟩:=s1.gs.pg k _ ds q rfl;rw[h1]at q1;cases q1;exact⟨_,b1,zs,ys,rfl,rfl,q2,w2,by rw[q4.length,w4.length];exact hlt,kk F1 σ _ (s1.trans (s1.gs.mut q h1 (q4.append w4)))⟩
   .cases eb
 .cases eb
end
end HH
end
section
namespace L2
open PySem PySem.Spec PyProof.Rows
end L2
namespace HH
open PySem L2 PySem.Spec PyProof.Rows
section
variable{K:PySem.W.Frag}{F F1 H H1:Hp}{ρ ρ1:List Sl}{σ:L2.St}{ds:List D}{a:Addr}
theorem aH.rev:∀{ds:List D}{xs:List V},aH K F xs ds->aH K F xs.reverse ds.reverse|[],_,h=>by rw[h.fL];exact .nil|d::ds,_,h=>by obtain⟨v,r,rfl,h1,h2⟩:=h.cB;rw[List.reverse_cons,List.reverse_cons];exact(aH.rev h2).append (.cons h1 .nil)
end
section
variable{X:Cx}{c:Call}{a b d:Expr}{pa pb pd:P}{pos:Pos}
theorem Hy{o o':Cm}{op op':CmpOp}(ho:fH X (compareOp op) (rD X.K (lW o)))(ho':fH X (compareOp op') (rD X.K (lW o')))(ha:SX X c a pa)(hb:SX X c b pb)(hd:SX X c d pd)(hm:lastMarks [op,op'] [b,d]=false:=by with_unfolding_all rfl):ST X c (.Compare a [op,op'] [b,d] pos) (.chain o o' pa pb pd):=by
 obtain⟨ta,tb,h1,h2,h3⟩:=ha.gR hb;obtain⟨td,h4,h5⟩:=hd.dz;refine Bo (Il ho ho' h1 h2 h4 hm) fun σ H Q q=>tM (t:=yh (rD X.K (lW o)) (rD X.K (lW o')) ta tb td) (fun Q z=>?_) q;obtain⟨F,ρ,r,ρ',g,e,k⟩:=z;rw[HH.E9]at e;obtain⟨xy,ρ1,e1,e⟩:=ao e;obtain⟨t,ρ2,e2,e⟩:=ao e;have zz:=aF e2;clear e2;obtain⟨e2,e3⟩:=zz;subst e3;have hfl:flat xy.2=true/\cm o xy.1 xy.2=some t:=by
  split at e2;.rename_i hf;exact⟨hf,e2⟩
  .cases e2
 obtain⟨hfl,e2⟩:=hfl;refine h3 g e1 fun v u F' H' s pv pu=>⟨F',xy.1,xy.2,.val (.bl t),s.gs.sub,pv,pu,by unfold lW;rw[e2];rfl,fun w F2 H2 x rn=>?_⟩;have s2:=s.trans (x.stp s.gs);have rn:Rep X.K F2 w (.bl t):=rn;rw[Rep]at rn;subst rn;refine⟨t,rfl,?_⟩;cases t with|false=>rw[if_neg Bool.false_ne_true]at e ⊢;cases e;exact k _ F2 H2 s2 (show Rep X.K F2 _ _ from iT _)|true=>
   rw[if_pos rfl]at e ⊢;obtain⟨z,ρ3,e3,e⟩:=ao e;obtain⟨e4,e5⟩:=aF e;subst e5;refine h5 s2.gs e3 fun w F3 H3 s3 pw=>⟨F3,xy.2,z,r,s3.gs.sub,?_,pw,e4,fun w' F4 H4 x4 rn=>?_⟩
   . have x1:=x.fs;have x2:=s3.dm;rcases pu with pu|⟨_,_,_,_,_,_,h⟩;.exact .inl ((pu.mono x1).mono x2)
     .rw[h]at hfl;cases hfl
   .have s4:=s2.trans s3;exact k w' F4 H4 (s4.trans (x4.stp s4.gs)) (.later s4 (rn.pO s4.gs))
end
end HH
end
section
namespace L2
open PySem PySem.Spec PyProof.Rows
noncomputable def Gz(X:Cx)(pins:List (Addr×Obj))(Jb:Value->Shared->Prop):Cx:={X with pn:=X.pn++pins,xe:=Jb}
section
variable{X:Cx}{pins BX:List (Addr×Obj)}{σ:St}{H:Hp}{s:Shared}{Jb:Value->Shared->Prop}{e:Addr}
theorem Gx:X.Ok↔(Gz X pins Jb).Ok:=⟨fun o=>⟨o.mod,o.kind,o.glob,o.blt,o.above,o.inj,o.has,o.cab,o.hd,o.frames,o.Vc,o.exf,o.bs,o.Jl,o.zy,o.DX,o.m7,o.Oi⟩,fun o=>⟨o.mod,o.kind,o.glob,o.blt,o.above,o.inj,o.has,o.cab,o.hd,o.frames,o.Vc,o.exf,o.bs,o.Jl,o.zy,o.DX,o.m7,o.Oi⟩⟩
theorem KY(I:Inv X pins σ H s):Inv (Gz X pins Jb) [] σ H s:=⟨Gx.mp I.ok,I.os,I.bare,I.base,I.loc,I.cell,I.free,I.iU,fun p hp=>I.pin p (by simpa[Gz]using hp),I.hok,I.len⟩
theorem oW(I:Inv (Gz X pins Jb) BX σ H s):Inv X pins σ H s:=⟨Gx.mpr I.ok,I.os,I.bare,I.base,I.loc,I.cell,I.free,I.iU,fun p hp=>I.pin p (List.mem_append_left _ hp),I.hok,I.len⟩
end
end L2
end
section
namespace HH
open PySem
theorem lE:∀a b:List Int,bu a b=true->bu b a=false
 |[],[],h=>by simp[bu]at h|[],_::_,_=>by simp[bu]|_::_,[],h=>by simp[bu]at h|x::a,y::b,h=>by
   simp only[bu,Bool.or_eq_true,decide_eq_true_eq,Bool.and_eq_true]at h;simp only[bu,Bool.or_eq_false_iff,decide_eq_false_iff_not,Bool.and_eq_false_iff];rcases h with h|⟨h,h'⟩;.exact⟨by omega,.inl (by omega)⟩
   .exact⟨by omega,.inr (lE a b h')⟩
theorem zb:∀a b c:List Int,bu b a=false->bu c b=false->bu c a=false
 |[],_,c,_,_=>by cases c<;>simp[bu]|_::_,[],_,h,_=>by simp[bu]at h|_::_,_::_,[],_,h=>by simp[bu]at h|x::a,y::b,z::c,h1,h2=>by
   simp only[bu,Bool.or_eq_false_iff,decide_eq_false_iff_not,Bool.and_eq_false_iff]at h1 h2 ⊢;refine⟨by omega,?_⟩;by_cases e:z=x;.right;exact zb a b c (h1.2.resolve_left (by omega)) (h2.2.resolve_left (by omega))
   .exact .inl e
theorem wR:∀a b:List Int,bu a b=false->bu b a=false->a=b
 |[],[],_,_=>rfl|[],_::_,h,_=>by simp[bu]at h|_::_,[],_,h=>by simp[bu]at h|x::a,y::b,h1,h2=>by
   simp only[bu,Bool.or_eq_false_iff,decide_eq_false_iff_not,Bool.and_eq_false_iff]at h1 h2;have e:x=y:=by omega
   subst e;rw[wR a b (h1.2.resolve_left (by simp)) (h2.2.resolve_left (by simp))]
theorem vZ:∀{xs ys:List D},xs.all dC=true->ys.all dC=true->xs.map eZ=ys.map eZ->xs=ys
 |[],[],_,_,_=>rfl|[],_::_,_,_,h=>by simp at h|_::_,[],_,_,h=>by simp at h|x::xs,y::ys,h1,h2,h=>by
   simp only[List.all_cons,Bool.and_eq_true]at h1 h2;simp only[List.map_cons,List.cons.injEq]at h;obtain⟨i,rfl⟩:∃i,x=.int i:=by cases x<;>first|exact⟨_,rfl⟩|(have q:=h1.1;simp[dC]at q;done)
   obtain⟨j,rfl⟩:∃j,y=.int j:=by cases y<;>first|exact⟨_,rfl⟩|(have q:=h2.1;simp[dC]at q;done)
   rw[vZ h1.2 h2.2 h.2,show i=j from h.1]
theorem An{x y:D}(h:(dC x=true/\dC y=true)\/(nW x=true/\nW y=true))(e:bQ x=bQ y):x=y:=by
 rcases h with⟨h1,h2⟩|⟨h1,h2⟩
 . cases x<;>first|(simp[dC]at h1;done)|skip
   cases y<;>first|(simp[dC]at h2;done)|skip
   simpa[bQ]using e
 . cases x<;>first|(simp[nW]at h1;done)|skip
   cases y<;>first|(simp[nW]at h2;done)|skip
   rename_i xs ys;cases xs<;>first|(simp[nW]at h1;done)|skip
   cases ys<;>first|(simp[nW]at h2;done)|skip
   rw[vZ h1 h2 e]
noncomputable def lr(a b:D):Bool:=!bu (bQ b) (bQ a)
theorem kZ(ds:List D):(jG ds).Perm ds:=List.mergeSort_perm ..
theorem Kv(a b c:D)(h1:lr a b=true)(h2:lr b c=true):lr a c=true:=by simp only[lr,Bool.not_eq_true']at*;exact zb _ _ _ h1 h2
theorem Em(a b:D):(lr a b||lr b a)=true:=by simp only[lr,Bool.or_eq_true,Bool.not_eq_true'];cases h:bu (bQ b) (bQ a)with|false=>exact .inl rfl|true=>exact .inr (lE _ _ h)
theorem jY(ds:List D):(jG ds).Pairwise fun a b=>lr a b=true:=List.pairwise_mergeSort Kv Em ds
theorem tL{ds:List D}(h:sortable ds=true):∀x∈ds,∀y∈ds,bQ x=bQ y->x=y:=by
 simp only[sortable,Bool.and_eq_true,Bool.or_eq_true,List.all_eq_true]at h;intro x hx y hy e;rcases h.2 with h|h;.exact An (.inl ⟨h x hx,h y hy⟩) e
 .exact An (.inr ⟨h x hx,h y hy⟩) e
theorem wM{ds l:List D}(h:sortable ds=true)(p:l.Perm ds)(s:l.Pairwise fun a b=>lr a b=true):l=jG ds:=by refine List.Perm.eq_of_pairwise (le:=fun a b=>lr a b=true) (fun a b ha hb h1 h2=>?_) s (jY ds) (p.trans (kZ ds).symm);simp only[lr,Bool.not_eq_true']at h1 h2;exact tL h a (p.mem_iff.mp ha) b ((kZ ds).mem_iff.mp hb) (wR _ _ h2 h1)
end HH
end
section
namespace HH
open PySem PyProof.Rows
noncomputable abbrev SM:=StateT SortSt Sem
noncomputable def gal:Bool->Keyed->Array Keyed->Nat->Nat->Nat->SM (Option Nat):=sortPriv%PySem.Builtin.gallop
noncomputable def O9(l:Bool)(k:Keyed)(xs:Array Keyed)(b i:Nat):SM (Option Bool):=elem' xs (b+i)>>=fun x=>if l=true then lt' x k else lt' k x>>=fun o=>pure (o.map fun x=>!x)
noncomputable def Gi(l:Bool)(k:Keyed)(xs:Array Keyed)(b n lo hi:Nat):SM (Option Nat):=(forIn [0:n] ((none,lo,hi):Option (Option Nat)× Nat × Nat) fun _ c=>if c.2.1 ≥ c.2.2 then pure (.done (none,c.2.1,c.2.2))else O9 l k xs b (c.2.1+(c.2.2-c.2.1)/2)>>=fun o=>match o with|some m=>if m=true then pure (.yield (none,c.2.1+(c.2.2-c.2.1)/2+1,c.2.2))else pure (.yield (none,c.2.1,c.2.1+(c.2.2-c.2.1)/2))|_=>pure (.done (some none,c.2.1,c.2.2)))>>=fun c=>match c.1 with|some r=>pure r|none=>pure (some c.2.2)
theorem Pn(l:Bool)(k:Keyed)(xs:Array Keyed)(b n h:Nat):gal l k xs b n h=O9 l k xs b h>>=fun o=>match o with
 |some r=>if r=true then(forIn [0:n] ((none,0,1):Option (Option Nat)× Nat × Nat) fun _ c=>if c.2.2 ≥ n-h then pure (.done (none,c.2.1,c.2.2))else O9 l k xs b (h+c.2.2)>>=fun o=>match o with|some m=>if(!m)=true then pure (.done (none,c.2.1,c.2.2))else pure (.yield (none,c.2.2,2*c.2.2+1))|_=>pure (.done (some none,c.2.1,c.2.2)))>>=fun c=>match c.1 with|some r=>pure r|none=>Gi l k xs b n (h+c.2.1+1) (h+min c.2.2 (n-h))else(forIn [0:n] ((none,0,1):Option (Option Nat)× Nat × Nat) fun _ c=>if c.2.2 ≥ h+1 then pure (.done (none,c.2.1,c.2.2))else O9 l k xs b (h-c.2.2)>>=fun o=>match o with|some m=>if m=true then pure (.done (none,c.2.1,c.2.2))else pure (.yield (none,c.2.2,2*c.2.2+1))|_=>pure (.done (some none,c.2.1,c.2.2)))>>=fun c=>match c.1 with|some r=>pure r|none=>Gi l k xs b n (h+1-min c.2.2 (h+1)) (h-c.2.1)
 |_=>pure none:=by unfold Gi;show O9 l k xs b h>>=_=_;congr 1;funext o;cases o with|none=>rfl|some r=>dsimp only;cases r with
   |true=>simp only[if_true];congr 1;funext c;obtain⟨c1,c2,c3⟩:=c;cases c1 with|some r=>rfl|none=>dsimp only;congr 1;funext c;obtain⟨c1,c2,c3⟩:=c;cases c1<;>rfl
   |false=>simp only[Bool.false_eq_true,if_false];congr 1;funext c;obtain⟨c1,c2,c3⟩:=c;cases c1 with|some r=>rfl|none=>dsimp only;congr 1;funext c;obtain⟨c1,c2,c3⟩:=c;cases c1<;>rfl
structure Rk(M:Model)(A:Around)(E:Value->Shared->Prop)(s:Shared)(κ:SortKind)(ok:Keyed->Prop)(K:Keyed->Int):Prop where lt:∀{x y:Keyed}{Q:Option Bool->SortSt->Prop}{st:SortSt},ok x->ok y->kindOf st=κ->Q (some (decide (K x<K y))) st->wpS M A E s (lt' x y) Q st
section
variable{M:Model}{A:Around}{E:Value->Shared->Prop}{s:Shared}{κ:SortKind}{ok:Keyed->Prop}{K:Keyed->Int}
noncomputable def it(xs:Array Keyed)(i:Nat):Keyed:=xs.getD i (Value.none,Value.none)
theorem u6{xs:Array Keyed}{i:Nat}(h:i<xs.size):xs[i]?=some (it xs i):=by unfold it;simp[Array.getD,h]
theorem dw{xs:Array Keyed}{i:Nat}(h:i<xs.size):it xs i∈xs.toList:=by
 have:it xs i=xs[i]:=by unfold it;simp[Array.getD,h]
 rw[this];simp
theorem bJ{xs:Array Keyed}{i:Nat}{Q:Keyed->SortSt->Prop}{st:SortSt}(h:i<xs.size)(q:Q (it xs i) st):wpS M A E s (elem' xs i) Q st:=by rw[elem'_eq,u6 h];exact wpS_pure q
noncomputable def bb(K:Keyed->Int)(l:Bool)(k x:Keyed):Bool:=if l=true then decide (K x<K k)else !decide (K k<K x)
theorem uY(R:Rk M A E s κ ok K){l:Bool}{k:Keyed}{xs:Array Keyed}{b i:Nat}{Q:Option Bool->SortSt->Prop}{st:SortSt}(hk:ok k)(hx:∀x∈xs.toList,ok x)(hi:b+i<xs.size)(hs:kindOf st=κ)(q:Q (some (bb K l k (it xs (b+i)))) st):wpS M A E s (O9 l k xs b i) Q st:=by unfold O9;refine wpS_bind (bJ hi ?_);have ho:=hx _ (dw hi);cases l with|true=>exact R.lt ho hk hs q|false=>exact wpS_bind (R.lt hk ho hs (wpS_pure q))
noncomputable def Lf(K:Keyed->Int)(l:Bool)(k:Keyed)(xs:Array Keyed)(b n:Nat):Prop:=∀i j,i<=j->j<n->bb K l k (it xs (b+j))=true->bb K l k (it xs (b+i))=true
theorem Bq(R:Rk M A E s κ ok K){l:Bool}{k:Keyed}{xs:Array Keyed}{b n lo hi:Nat}{Q:Option Nat->SortSt->Prop}{st:SortSt}(hk:ok k)(hx:∀x∈xs.toList,ok x)(hb:b+n<=xs.size)(hs:kindOf st=κ)(hc:Lf K l k xs b n)(h1:lo<=hi)(h2:hi<=n)(h3:∀i,i<lo->bb K l k (it xs (b+i))=true)(h4:∀i,hi<=i->i<n->bb K l k (it xs (b+i))=false)(q:∀m,m<=n->(∀i,i<m->bb K l k (it xs (b+i))=true)->(∀i,m<=i->i<n->bb K l k (it xs (b+i))=false)->Q (some m) st):wpS M A E s (Gi l k xs b n lo hi) Q st:=by
 unfold Gi;refine wpS_bind (wpS_mono (wpS_forRange (I:=fun x c st'=>st'=st/\∃lo hi,c=(none,lo,hi)/\lo<=hi/\hi<=n/\hi-lo<=n-x/\(∀i,i<lo->bb K l k (it xs (b+i))=true)/\∀i,hi<=i->i<n->bb K l k (it xs (b+i))=false) (Q:=fun c st'=>st'=st/\∃m,c=(none,m,m)/\m<=n/\(∀i,i<m->bb K l k (it xs (b+i))=true)/\∀i,m<=i->i<n->bb K l k (it xs (b+i))=false) ?_ ?_ ⟨rfl,lo,hi,rfl,h1,h2,by omega,h3,h4⟩) ?_)
 . rintro x c st' _ hxn⟨rfl,lo,hi,rfl,a1,a2,a3,a4,a5⟩;dsimp only;by_cases e:lo ≥ hi
   . rw[if_pos e];have:lo=hi:=by omega
     subst this;exact wpS_pure ⟨rfl,lo,rfl,a2,a4,a5⟩
   .rw[if_neg e];refine wpS_bind (uY R hk hx (by omega) hs ?_);cases c:bb K l k (it xs (b+(lo+(hi-lo)/2)))with|true=>dsimp only;rw[if_pos rfl];exact wpS_pure ⟨rfl,_,_,rfl,by omega,a2,by omega,fun i hi'=>hc i (lo+(hi-lo)/2) (by omega) (by omega) c,a5⟩|false=>dsimp only;rw[if_neg (by simp)];refine wpS_pure ⟨rfl,_,_,rfl,by omega,by omega,by omega,a4,fun i i1 i2=>?_⟩;cases z:bb K l k (it xs (b+i))with|false=>rfl|true=>have:=hc (lo+(hi-lo)/2) i i1 i2 z;rw[c]at this;cases this
 . rintro c st'⟨rfl,lo,hi,rfl,a1,a2,a3,a4,a5⟩;have:lo=hi:=by omega
   subst this;exact⟨rfl,lo,rfl,a2,a4,a5⟩
 .rintro c st'⟨rfl,m,rfl,a1,a2,a3⟩;exact wpS_pure (q m a1 a2 a3)
theorem mF(R:Rk M A E s κ ok K){l:Bool}{k:Keyed}{xs:Array Keyed}{b n h:Nat}{Q:Option Nat->SortSt->Prop}{st:SortSt}(hk:ok k)(hx:∀x∈xs.toList,ok x)(hb:b+n<=xs.size)(hh:h<n)(hs:kindOf st=κ)(hc:Lf K l k xs b n)(q:∀m,m<=n->(∀i,i<m->bb K l k (it xs (b+i))=true)->(∀i,m<=i->i<n->bb K l k (it xs (b+i))=false)->Q (some m) st):wpS M A E s (gal l k xs b n h) Q st:=by
 have up:∀{i:Nat},i<n->bb K l k (it xs (b+i))=true->∀j,j<=i->bb K l k (it xs (b+j))=true:=fun hi c j hj=>hc _ _ hj hi c;have dn:∀{i:Nat},bb K l k (it xs (b+i))=false->∀j,i<=j->j<n->bb K l k (it xs (b+j))=false:=fun{i}c j h1 h2=>by cases z:bb K l k (it xs (b+j))with|false=>rfl|true=>have:=hc i j h1 h2 z;rw[c]at this;cases this
 rw[Pn];refine wpS_bind (uY R hk hx (by omega) hs ?_);cases c0:bb K l k (it xs (b+h))with
 |true=>
   dsimp only;rw[if_pos rfl];refine wpS_bind (wpS_mono (wpS_forRange (I:=fun x c st'=>st'=st/\∃a o,c=(none,a,o)/\x+1<=o/\a<o/\h+a<n/\bb K l k (it xs (b+(h+a)))=true) (Q:=fun c st'=>st'=st/\∃a o,c=(none,a,o)/\a<o/\h+a<n/\bb K l k (it xs (b+(h+a)))=true/\(n-h<=o\/o<n-h/\bb K l k (it xs (b+(h+o)))=false)) ?_ ?_ ⟨rfl,0,1,rfl,by omega,by omega,by omega,by simpa using c0⟩) ?_)
   . rintro x c st' _ hxn⟨rfl,a,o,rfl,a1,a2,a3,a4⟩;dsimp only;by_cases e:o ≥ n-h;.rw[if_pos e];exact wpS_pure ⟨rfl,a,o,rfl,a2,a3,a4,.inl e⟩
     .rw[if_neg e];refine wpS_bind (uY R hk hx (by omega) hs ?_);cases c:bb K l k (it xs (b+(h+o)))with|true=>dsimp only;rw[if_neg (by simp)];exact wpS_pure ⟨rfl,_,_,rfl,by omega,by omega,by omega,c⟩|false=>dsimp only;rw[if_pos (by simp)];exact wpS_pure ⟨rfl,a,o,rfl,a2,a3,a4,.inr ⟨by omega,c⟩⟩
   .rintro c st'⟨rfl,a,o,rfl,a1,a2,a3,a4⟩;exact⟨rfl,a,o,rfl,a2,a3,a4,.inl (by omega)⟩
   . rintro c st'⟨rfl,a,o,rfl,a2,a3,a4,a5⟩;dsimp only;refine Bq R hk hx hb hs hc (by omega) (by omega) (fun i hi=>up a3 a4 i (by omega)) (fun i h1 h2=>?_) q;rcases a5 with z|⟨z1,z2⟩;.omega
     .exact dn z2 i (by omega) h2|false=>
   dsimp only;rw[if_neg (by simp)];refine wpS_bind (wpS_mono (wpS_forRange (I:=fun x c st'=>st'=st/\∃a o,c=(none,a,o)/\x+1<=o/\a<o/\a<=h/\bb K l k (it xs (b+(h-a)))=false) (Q:=fun c st'=>st'=st/\∃a o,c=(none,a,o)/\a<o/\a<=h/\bb K l k (it xs (b+(h-a)))=false/\(h+1<=o\/o<h+1/\bb K l k (it xs (b+(h-o)))=true)) ?_ ?_ ⟨rfl,0,1,rfl,by omega,by omega,by omega,by simpa using c0⟩) ?_)
   . rintro x c st' _ hxn⟨rfl,a,o,rfl,a1,a2,a3,a4⟩;dsimp only;by_cases e:o ≥ h+1;.rw[if_pos e];exact wpS_pure ⟨rfl,a,o,rfl,a2,a3,a4,.inl e⟩
     .rw[if_neg e];refine wpS_bind (uY R hk hx (by omega) hs ?_);cases c:bb K l k (it xs (b+(h-o)))with|false=>dsimp only;rw[if_neg (by simp)];exact wpS_pure ⟨rfl,_,_,rfl,by omega,by omega,by omega,c⟩|true=>dsimp only;rw[if_pos rfl];exact wpS_pure ⟨rfl,a,o,rfl,a2,a3,a4,.inr ⟨by omega,c⟩⟩
   .rintro c st'⟨rfl,a,o,rfl,a1,a2,a3,a4⟩;exact⟨rfl,a,o,rfl,a2,a3,a4,.inl (by omega)⟩
   . rintro c st'⟨rfl,a,o,rfl,a2,a3,a4,a5⟩;dsimp only;refine Bq R hk hx hb hs hc (by omega) (by omega) (fun i hi=>?_) (fun i h1 h2=>dn a4 i (by omega) h2) q;rcases a5 with z|⟨z1,z2⟩;.omega
     .exact up (by omega) z2 i (by omega)
end
end HH
end
section
namespace HH
open PySem PyProof.Rows
section
variable{K:Keyed->Int}{T out A B P:List Keyed}{x y z:Keyed}
noncomputable def SL(K:Keyed->Int)(l:List Keyed):Prop:=l.Pairwise fun x y=>K x<=K y
theorem cP{l k:List Keyed}:SL K (l++k)↔SL K l/\SL K k/\∀x∈l,∀y∈k,K x<=K y:=List.pairwise_append
structure MW(K:Keyed->Int)(T out A B:List Keyed):Prop where
 perm:(out++(A++B)).Perm T
 sa:SL K (out++A)sb:SL K (out++B)
theorem MW.XR(w:MW K T out (P++A) B)(h:∀x∈P,∀y∈B,K x<=K y):MW K T (out++P) A B:=by
 refine⟨by simpa using w.perm,by simpa using w.sa,?_⟩;have h1:=cP.mp w.sb;have h2:=cP.mp (show SL K ((out++P)++A)by simpa using w.sa);refine cP.mpr ⟨h2.1,h1.2.1,fun x hx y hy=>?_⟩;rcases List.mem_append.mp hx with hx|hx;.exact h1.2.2 x hx y hy
 .exact h x hx y hy
theorem MW.W6(w:MW K T out A (P++B))(h:∀x∈P,∀y∈A,K x<=K y):MW K T (out++P) A B:=by
 have h1:=cP.mp w.sa;have h2:=cP.mp (show SL K ((out++P)++B)by simpa using w.sb);refine⟨?_,cP.mpr ⟨h2.1,h1.2.1,fun x hx y hy=>?_⟩,by simpa using w.sb⟩;.refine List.Perm.trans ?_ w.perm;rw[List.append_assoc];refine List.Perm.append_left out ?_;rw[<-List.append_assoc,<-List.append_assoc];exact List.perm_append_comm.append_right B
 . rcases List.mem_append.mp hx with hx|hx;.exact h1.2.2 x hx y hy
   .exact h x hx y hy
theorem MW.acb(w:MW K T out A []):(out++A).Perm T/\SL K (out++A):=⟨by simpa using w.perm,w.sa⟩
theorem MW.abS(w:MW K T out [] B):(out++B).Perm T/\SL K (out++B):=⟨by simpa using w.perm,w.sb⟩
theorem MW.last(w:MW K T out [z] B)(h:∀y∈B,K y<=K z):(out++B++[z]).Perm T/\SL K (out++B++[z]):=by
 refine⟨?_,cP.mpr ⟨w.sb,List.pairwise_singleton _ _,fun x hx y hy=>?_⟩⟩;.refine List.Perm.trans ?_ w.perm;rw[List.append_assoc];exact List.Perm.append_left out List.perm_append_comm
 . rw[List.mem_singleton.mp hy];rcases List.mem_append.mp hx with hx|hx;.exact(cP.mp w.sa).2.2 x hx z (by simp)
   .exact h x hx
theorem uc{a:Array Keyed}{i:Nat}(h:i<a.size):a.toList.drop i=it a i::a.toList.drop (i+1):=by
 have e:it a i=a.toList[i]:=by unfold it;simp[Array.getD,h]
 rw[e];exact List.drop_eq_getElem_cons (by simpa using h)
theorem ji{a:Array Keyed}{i j:Nat}(h:j<=a.size):(a.extract i j).toList=(a.toList.drop i).take (j-i):=by simp[Array.toList_extract,List.extract]
theorem jz{a:Array Keyed}{i:Nat}:(a.extract i a.size).toList=a.toList.drop i:=by rw[ji (Nat.le_refl _)];exact List.take_of_length_le (by simp)
theorem j5{a:Array Keyed}{i k:Nat}(h:i+k<=a.size):a.toList.drop i=(a.extract i (i+k)).toList++a.toList.drop (i+k):=by rw[ji h,Nat.add_sub_cancel_left];rw[show a.toList.drop (i+k)=(a.toList.drop i).drop k by rw[List.drop_drop]];exact(List.take_append_drop k _).symm
theorem ext_mem{a:Array Keyed}{i k:Nat}{x:Keyed}(h:i+k<=a.size)(hx:x∈(a.extract i (i+k)).toList):∃j,j<k/\x=it a (i+j):=by rw[ji h,Nat.add_sub_cancel_left]at hx;obtain⟨j,hj,e⟩:=List.mem_iff_getElem.mp hx;simp only[List.length_take,List.length_drop,Array.length_toList]at hj;refine⟨j,by omega,?_⟩;rw[<-e];unfold it;simp[Array.getD,show i+j<a.size by omega]
theorem je{a:Array Keyed}{i:Nat}{x:Keyed}(hx:x∈a.toList.drop i):∃j,i<=j/\j<a.size/\x=it a j:=by obtain⟨j,hj,e⟩:=List.mem_iff_getElem.mp hx;simp only[List.length_drop,Array.length_toList]at hj;refine⟨i+j,by omega,by omega,?_⟩;rw[<-e];unfold it;simp[Array.getD,show i+j<a.size by omega]
noncomputable def vA(K:Keyed->Int)(a:Array Keyed):Prop:=∀i j,i<=j->j<a.size->K (it a i)<=K (it a j)
theorem pH{a:Array Keyed}(h:vA K a):SL K a.toList:=by
 unfold SL;rw[List.pairwise_iff_getElem];intro i j hi hj hij;have:=h i j (by omega) (by simpa using hj);have hi':i<a.size:=by simpa using hi
 have hj':j<a.size:=by simpa using hj
 unfold it at this;simpa[Array.getD,hi',hj']using this
end
section
variable{M:Model}{A:Around}{E:Value->Shared->Prop}{s:Shared}{κ:SortKind}{ok:Keyed->Prop}{K:Keyed->Int}
structure qN(st st':SortSt):Prop where
 kind:kindOf st'=kindOf st
 arr:arrOf st'=arrOf st
 pend:pendingOf st'=pendingOf st
 fail:failedOf st'=failedOf st
theorem qN.refl(st:SortSt):qN st st:=⟨rfl,rfl,rfl,rfl⟩
theorem qN.trans{a b c:SortSt}(h:qN a b)(k:qN b c):qN a c:=⟨k.kind.trans h.kind,k.arr.trans h.arr,k.pend.trans h.pend,k.fail.trans h.fail⟩
noncomputable def setG:Nat->SM Unit:=sortPriv%PySem.Builtin.setMinGallop
theorem o8{g:Nat}{Q:Unit->SortSt->Prop}{st:SortSt}(q:∀st',qN st st'->Q () st'):wpS M A E s (setG g) Q st:=wpS_modify (q _ ⟨rfl,rfl,rfl,rfl⟩)
theorem wp_rule{x:String}{Q:Unit->SortSt->Prop}{st:SortSt}(q:Q () st):wpS M A E s (liftM (rule x):SM Unit) Q st:=wpS_lift (wpAny_rule ⟨rfl,q⟩)
noncomputable def mlo:Array Keyed->Array Keyed->SM (Array Keyed):=sortPriv%PySem.Builtin.mergeLo
structure MI(K:Keyed->Int)(a b out:Array Keyed)(ia ib:Nat):Prop where
 i1:ia+1<a.size
 i2:ib<b.size
 w:MW K (a.toList++b.toList) out.toList (a.toList.drop ia) (b.toList.drop ib)
structure Fin(K:Keyed->Int)(a b out:Array Keyed):Prop where perm:out.toList.Perm (a.toList++b.toList)jG:SL K out.toList
theorem jF{a b out:Array Keyed}{ia ib:Nat}(h:ib=b.size)(w:MW K (a.toList++b.toList) out.toList (a.toList.drop ia) (b.toList.drop ib)):Fin K a b (out++a.extract ia a.size++b.extract ib b.size):=by
 have e:b.toList.drop ib=[]:=by rw[h];simp
 rw[e]at w;obtain⟨h1,h2⟩:=w.acb;refine⟨?_,?_⟩<;>rw[Array.toList_append,Array.toList_append,jz,jz,e,List.append_nil]<;>assumption
theorem DR{a b out:Array Keyed}{ia ib:Nat}(h:ia=a.size)(w:MW K (a.toList++b.toList) out.toList (a.toList.drop ia) (b.toList.drop ib)):Fin K a b (out++a.extract ia a.size++b.extract ib b.size):=by
 have e:a.toList.drop ia=[]:=by rw[h];simp
 rw[e]at w;obtain⟨h1,h2⟩:=w.abS;refine⟨?_,?_⟩<;>rw[Array.toList_append,Array.toList_append,jz,jz,e,List.append_nil]<;>assumption
theorem lq{a b out:Array Keyed}{ia ib:Nat}(h:ia+1=a.size)(hl:∀i,i<b.size->K (it b i)<=K (it a (a.size-1)))(w:MW K (a.toList++b.toList) out.toList (a.toList.drop ia) (b.toList.drop ib)):Fin K a b (out++b.extract ib b.size++a.extract ia a.size):=by
 have e:a.toList.drop ia=[it a ia]:=by rw[uc (by omega),h];simp
 rw[e]at w;obtain⟨h1,h2⟩:=w.last fun y hy=>by obtain⟨j,_,hj,rfl⟩:=je hy;rw[show ia=a.size-1 by omega];exact hl j hj
 refine⟨?_,?_⟩<;>rw[Array.toList_append,Array.toList_append,jz,jz,e]<;>assumption
theorem MW.rM{a b out:Array Keyed}{ia ib:Nat}(h:ia<a.size)(w:MW K (a.toList++b.toList) out.toList (a.toList.drop ia) (b.toList.drop ib))(hb:vA K b)(hk:ib<b.size->K (it a ia)<=K (it b ib)):MW K (a.toList++b.toList) (out.push (it a ia)).toList (a.toList.drop (ia+1)) (b.toList.drop ib):=by rw[uc h]at w;rw[Array.toList_push];refine MW.XR (P:=[it a ia]) w fun x hx y hy=>?_;rw[List.mem_singleton.mp hx];obtain⟨j,j1,j2,rfl⟩:=je hy;exact Int.le_trans (hk (by omega)) (hb _ _ j1 j2)
theorem MW.sX{a b out:Array Keyed}{ia ib:Nat}(h:ib<b.size)(w:MW K (a.toList++b.toList) out.toList (a.toList.drop ia) (b.toList.drop ib))(ha:vA K a)(hk:ia<a.size->K (it b ib)<=K (it a ia)):MW K (a.toList++b.toList) (out.push (it b ib)).toList (a.toList.drop ia) (b.toList.drop (ib+1)):=by rw[uc h]at w;rw[Array.toList_push];refine MW.W6 (P:=[it b ib]) w fun x hx y hy=>?_;rw[List.mem_singleton.mp hx];obtain⟨j,j1,j2,rfl⟩:=je hy;exact Int.le_trans (hk (by omega)) (ha _ _ j1 j2)
theorem MW.Gh{a b out:Array Keyed}{ia ib k:Nat}(h:ia+k<=a.size)(w:MW K (a.toList++b.toList) out.toList (a.toList.drop ia) (b.toList.drop ib))(hb:vA K b)(hk:∀j,j<k->ib<b.size->K (it a (ia+j))<=K (it b ib)):MW K (a.toList++b.toList) (out++a.extract ia (ia+k)).toList (a.toList.drop (ia+k)) (b.toList.drop ib):=by rw[j5 h]at w;rw[Array.toList_append];refine MW.XR w fun x hx y hy=>?_;obtain⟨i,hi,rfl⟩:=ext_mem h hx;obtain⟨j,j1,j2,rfl⟩:=je hy;exact Int.le_trans (hk i hi (by omega)) (hb _ _ j1 j2)
theorem MW.Gd{a b out:Array Keyed}{ia ib k:Nat}(h:ib+k<=b.size)(w:MW K (a.toList++b.toList) out.toList (a.toList.drop ia) (b.toList.drop ib))(ha:vA K a)(hk:∀j,j<k->ia<a.size->K (it b (ib+j))<=K (it a ia)):MW K (a.toList++b.toList) (out++b.extract ib (ib+k)).toList (a.toList.drop ia) (b.toList.drop (ib+k)):=by rw[j5 h]at w;rw[Array.toList_append];refine MW.W6 w fun x hx y hy=>?_;obtain⟨i,hi,rfl⟩:=ext_mem h hx;obtain⟨j,j1,j2,rfl⟩:=je hy;exact Int.le_trans (hk i hi (by omega)) (ha _ _ j1 j2)
theorem uF{l:Bool}{k:Keyed}{a:Array Keyed}{b n:Nat}(h:vA K a)(hn:b+n<=a.size):Lf K l k a b n:=fun i j hij hj c=>by have:=h (b+i) (b+j) (by omega) (by omega);unfold bb at*;cases l with|true=>simp only[if_true,decide_eq_true_eq]at*;omega|false=>simp only[Bool.false_eq_true,if_false,Bool.not_eq_true',decide_eq_false_iff_not]at*;omega
end
end HH
end
section
namespace HH
open PySem PyProof.Rows
section
variable{M:Model}{A:Around}{E:Value->Shared->Prop}{s:Shared}{κ:SortKind}{ok:Keyed->Prop}{K:Keyed->Int}
theorem Hb{α γ:Type}{T:PUnit->α->SM γ}{c:Prop}{d:Decidable c}{x y:α}{Q:γ->SortSt->Prop}{st:SortSt}(h:∀r u,wpS M A E s (T r u) Q st):wpS M A E s (@ite _ c d (T ⟨⟩ x) (T ⟨⟩ y)) Q st:=by split<;>exact h _ _
theorem oJ{α β γ:Type}{T:PUnit->α->β->SM γ}{c:Prop}{d:Decidable c}{B:SM γ}{x:α}{y:β}{Q:γ->SortSt->Prop}{st:SortSt}(C:α->β->Prop)(h:∀r u v,C u v->wpS M A E s (T r u v) Q st)(hB:c->(∀r u v,C u v->wpS M A E s (T r u v) Q st)->wpS M A E s B Q st)(hx:¬ c->C x y):wpS M A E s (@ite _ c d B (T ⟨⟩ x y)) Q st:=by
 split;.exact hB ‹_› h
 .exact h _ _ _ (hx ‹_›)
set_option maxHeartbeats 1000000 in
theorem Qm(R:Rk M A E s κ ok K){a b:Array Keyed}{Q:Array Keyed->SortSt->Prop}{st:SortSt}(ha:∀x∈a.toList,ok x)(hb:∀x∈b.toList,ok x)(hs:kindOf st=κ)(ua:vA K a)(ub:vA K b)(a1:1<=a.size)(b1:1<=b.size)(h0:K (it b 0)<=K (it a 0))(hl:∀i,i<b.size->K (it b i)<=K (it a (a.size-1)))(q:∀out st',Fin K a b out->qN st st'->Q out st'):wpS M A E s (mlo a b) Q st:=by
 show wpS M A E s (liftM (rule "list.sort.merge-lo")>>=_) Q st;refine wpS_bind (wp_rule ?_);extract_lets+onlyGivenNames-merge-underBinder x0 x1 x2;refine wpS_bind (bJ (by omega) ?_);extract_lets+onlyGivenNames-merge-underBinder x3 x4 x5;dsimp-zeta-zetaHave only[x0,x1,x2,x3,x4,x5];have w0:MW K (a.toList++b.toList) (#[]:Array Keyed).toList (a.toList.drop 0) (b.toList.drop 0):=⟨by simp,by simpa using pH ua,by simpa using pH ub⟩;have w1:=w0.sX (by omega) ua (fun _=>h0);rw[show(#[]:Array Keyed).push (it b 0)=#[it b 0]from rfl]at w1;by_cases c1:1=b.size;.rw[if_pos (by simpa using c1)];exact wpS_pure (q _ _ (jF c1 w1) (.refl _))
 rw[if_neg (by simpa using c1)];by_cases c2:0+1=a.size;.rw[if_pos (by simpa using c2)];exact wpS_pure (q _ _ (lq c2 hl w1) (.refl _))
 rw[if_neg (by simpa using c2)];refine wpS_bind (wpS_get ?_);extract_lets+onlyGivenNames-merge-underBinder x6;refine wpS_bind (wpS_mono (wpS_forRange (I:=fun x c st'=>qN st st'/\∃out ia ib mg,c=(none,out,ia,ib,mg)/\MI K a b out ia ib/\x+1<=ia+ib) (Q:=fun c st'=>qN st st'/\∃out,c.1=some out/\Fin K a b out) ?_ ?_ ⟨.refl _,_,0,1,_,rfl,⟨by omega,by omega,w1⟩,by omega⟩) ?_)
 . rintro x c st1 _ hx⟨s1,out,ia,ib,mg,rfl,mi,hp⟩;extract_lets+onlyGivenNames-merge-underBinder y0 y1 y2 y3 y4 y5 y6 y7 y8;dsimp-zeta-zetaHave only[x0,x1,x2,x3,x4,x5,y0,y1,y2,y3,y4,y5,y6,y7,y8];refine wpS_bind (wpS_mono (wpS_forRange (I:=fun y c st'=>qN st st'/\∃out jK ik ac bc,c=(none,out,jK,ik,ac,bc)/\MI K a b out jK ik/\ia+ib+y<=jK+ik) (Q:=fun c st'=>qN st st'/\((∃out,c.1=some out/\Fin K a b out)\/∃out jK ik ac bc,c=(none,out,jK,ik,ac,bc)/\MI K a b out jK ik/\ia+ib+1<=jK+ik)) ?_ ?_ ⟨s1,out,ia,ib,0,0,rfl,mi,by omega⟩) ?_)
   . rintro y c st2 _ hy⟨s2,out,jK,ik,ac,bc,rfl,mi,hp'⟩;have i1:=mi.i1;have i2:=mi.i2;try dsimp only
     refine wpS_bind (bJ i2 (wpS_bind (bJ (by omega) (wpS_bind (R.lt (hb _ (dw i2)) (ha _ (dw (by omega))) (s2.kind.trans hs) ?_)))));by_cases c:K (it b ik)<K (it a jK)
     . rw[decide_eq_true c];try dsimp only
       rw[if_pos rfl];refine wpS_bind (bJ i2 ?_);try dsimp only
       have w:=mi.w.sX i2 ua (fun _=>by omega);by_cases e:ik+1=b.size;.rw[if_pos (by simpa using e)];exact wpS_pure ⟨s2,.inl ⟨_,rfl,jF e w⟩⟩
       . rw[if_neg (by simpa using e)];have xR:MI K a b (out.push (it b ik)) jK (ik+1):=⟨i1,by omega,w⟩;split;.exact wpS_pure ⟨s2,.inr ⟨_,_,_,_,_,rfl,xR,by omega⟩⟩
         .exact wpS_pure ⟨s2,_,_,_,_,_,rfl,xR,by omega⟩
     . rw[decide_eq_false c];try dsimp only
       rw[if_neg (by simp)];refine wpS_bind (bJ (by omega) ?_);try dsimp only
       have w:=mi.w.rM (by omega) ub (fun _=>by omega);by_cases e:jK+1+1=a.size;.rw[if_pos (by simpa using e)];exact wpS_pure ⟨s2,.inl ⟨_,rfl,lq e hl w⟩⟩
       . rw[if_neg (by simpa using e)];have xR:MI K a b (out.push (it a jK)) (jK+1) ik:=⟨by omega,i2,w⟩;split;.exact wpS_pure ⟨s2,.inr ⟨_,_,_,_,_,rfl,xR,by omega⟩⟩
         .exact wpS_pure ⟨s2,_,_,_,_,_,rfl,xR,by omega⟩
   .rintro c st2⟨s2,out,jK,ik,ac,bc,rfl,mi,hp'⟩;exact⟨s2,.inr ⟨_,_,_,_,_,rfl,mi,by omega⟩⟩
   . rintro c st2⟨s2,⟨out,hc,hf⟩|⟨out,jK,ik,ac,bc,rfl,mi,hp'⟩⟩;.obtain⟨c1,c2,c3,c4,c5,c6⟩:=c;cases hc;exact wpS_pure ⟨s2,out,rfl,hf⟩
     . extract_lets+onlyGivenNames-merge-underBinder z0 z1 z2 z3 z4 z5 z6 z7 z8 z9;dsimp-zeta-zetaHave only[z0,z1,z2,z3,z4,z5,z6,z7,z8,z9];refine wpS_bind (wp_rule ?_);extract_lets+onlyGivenNames-merge-underBinder za;refine wpS_bind (wpS_mono (wpS_forRange (I:=fun y c st'=>qN st st'/\∃out jK ik mg ac bc,c=(none,out,jK,ik,mg,ac,bc)/\MI K a b out jK ik/\ia+ib+1<=jK+ik) (Q:=fun c st'=>qN st st'/\((∃out,c.1=some out/\Fin K a b out)\/∃out jK ik mg ac bc,c=(none,out,jK,ik,mg,ac,bc)/\MI K a b out jK ik/\ia+ib+1<=jK+ik)) ?_ ?_ ⟨s2,out,jK,ik,_,ac,bc,rfl,mi,by omega⟩) ?_)
       . rintro y c st3 _ hy⟨s3,out,jK,ik,mg,ac,bc,rfl,mi,hp'⟩;have i1:=mi.i1;have i2:=mi.i2;extract_lets+onlyGivenNames-merge-underBinder t0 t1 t2 t3 t4 t5 t6 t7 t8 t9 ta jp;dsimp only[t0,t1,t2,t3,t4,t5,t6,t7,t8,t9,ta];refine Hb (T:=jp) ?_;intro _ mg;dsimp-zeta-zetaHave only[jp,t0,t1,t2,t3,t4,t5,t6,t7,t8,t9,ta];refine wpS_bind (o8 fun Jo Ge=>?_);have s4:=s3.trans Ge;refine wpS_bind (bJ i2 ?_);refine wpS_bind (mF R (hb _ (dw i2)) ha (by omega) (by omega) (s4.kind.trans hs) (uF ua (by omega)) fun k k1 k2 k3=>?_);have k2':∀j,j<k->K (it a (jK+j))<=K (it b ik):=fun j hj=>by have:=k2 j hj;simp[bb]at this;omega
         have Vf:∀j,k<=j->j<a.size-jK->K (it b ik)<=K (it a (jK+j)):=fun j h1 h2=>by have:=k3 j h1 h2;simp[bb]at this;omega
         try dsimp-zeta-zetaHave only
         extract_lets+onlyGivenNames-merge-underBinder u0 jp2;dsimp only[u0];refine oJ (T:=jp2) (x:=out) (y:=jK) (fun zK Ei=>(jK<=Ei/\Ei+1<a.size)/\MW K (a.toList++b.toList) zK.toList (a.toList.drop Ei) (b.toList.drop ik)/\K (it b ik)<=K (it a Ei)) ?_ (fun c key=>?_) (fun c=>⟨⟨Nat.le_refl _,i1⟩,mi.w,Vf 0 (by omega) (by omega)⟩)
         . rintro _ zK Ei⟨⟨j0,j1⟩,w,k4⟩;dsimp-zeta-zetaHave only[jp2,u0];refine wpS_bind (bJ i2 ?_);have w2:=w.sX i2 ua fun _=>k4;extract_lets+onlyGivenNames-merge-underBinder v0 v1;dsimp-zeta-zetaHave only[v0,v1];by_cases e3:ik+1=b.size;.rw[if_pos (by simpa using e3)];exact wpS_pure ⟨s4,.inl ⟨_,rfl,jF e3 w2⟩⟩
           rw[if_neg (by simpa using e3)];have j3:ik+1<b.size:=by omega
           refine wpS_bind (bJ (by omega) ?_);refine wpS_bind (mF R (ha _ (dw (by omega))) hb (by omega) (by omega) (s4.kind.trans hs) (uF ub (by omega)) fun m m1 m2 m3=>?_);have m2':∀j,j<m->K (it b (ik+1+j))<=K (it a Ei):=fun j hj=>by have:=m2 j hj;simp[bb]at this;omega
           have m3':∀j,m<=j->j<b.size-(ik+1)->K (it a Ei)<=K (it b (ik+1+j)):=fun j h1 h2=>by have:=m3 j h1 h2;simp[bb]at this;omega
           try dsimp-zeta-zetaHave only
           extract_lets+onlyGivenNames-merge-underBinder v2 YQ;dsimp only[v2];refine oJ (T:=YQ) (x:=zK.push (it b ik)) (y:=ik+1) (fun zL Vg=>(ik+1<=Vg/\Vg<b.size)/\MW K (a.toList++b.toList) zL.toList (a.toList.drop Ei) (b.toList.drop Vg)/\K (it a Ei)<=K (it b Vg)) ?_ (fun c key=>?_) (fun c=>⟨⟨Nat.le_refl _,j3⟩,w2,m3' 0 (by omega) (by omega)⟩)
           . rintro _ zL Vg⟨⟨j4,j2⟩,w3,m4⟩;dsimp only[YQ,v2];refine wpS_bind (bJ (by omega) ?_);have w4:=w3.rM (by omega) ub fun _=>m4;try dsimp only
             by_cases e5:Ei+1+1=a.size;.rw[if_pos (by simpa using e5)];exact wpS_pure ⟨s4,.inl ⟨_,rfl,lq e5 hl w4⟩⟩
             rw[if_neg (by simpa using e5)];have xR:MI K a b (zL.push (it a Ei)) (Ei+1) Vg:=⟨by omega,j2,w4⟩;split;.exact wpS_pure ⟨s4,.inr ⟨_,_,_,_,_,_,rfl,xR,by omega⟩⟩
             .exact wpS_pure ⟨s4,_,_,_,_,_,_,rfl,xR,by omega⟩
           . have w3:=w2.Gd (k:=m) (by omega) ua fun j hj _=>m2' j hj;by_cases e4:ik+1+m=b.size;.rw[if_pos (by simpa using e4)];exact wpS_pure ⟨s4,.inl ⟨_,rfl,jF e4 w3⟩⟩
             rw[if_neg (by simpa using e4)];exact key ⟨⟩ _ _ ⟨⟨by omega,by omega⟩,w3,m3' m (Nat.le_refl _) (by omega)⟩
         . have w:=mi.w.Gh (k:=k) (by omega) ub fun j hj _=>k2' j hj;by_cases e1:jK+k+1=a.size;.rw[if_pos (by simpa using e1)];exact wpS_pure ⟨s4,.inl ⟨_,rfl,lq e1 hl w⟩⟩
           rw[if_neg (by simpa using e1)];by_cases e2:jK+k=a.size;.rw[if_pos (by simpa using e2)];exact wpS_pure ⟨s4,.inl ⟨_,rfl,DR e2 w⟩⟩
           rw[if_neg (by simpa using e2)];exact key ⟨⟩ _ _ ⟨⟨by omega,by omega⟩,w,Vf k (Nat.le_refl _) (by omega)⟩
       .rintro c st3⟨s3,out,jK,ik,mg,ac,bc,rfl,mi,hp'⟩;exact⟨s3,.inr ⟨_,_,_,_,_,_,rfl,mi,hp'⟩⟩
       . rintro c st3⟨s3,⟨out,hc,hf⟩|⟨out,jK,ik,mg,ac,bc,rfl,mi,hp'⟩⟩;.obtain⟨c1,c2,c3,c4,c5,c6,c7⟩:=c;cases hc;exact wpS_pure ⟨s3,out,rfl,hf⟩
         . try dsimp only
           exact wpS_bind (o8 fun Jo Ge=>wpS_pure ⟨s3.trans Ge,_,_,_,_,rfl,mi,by omega⟩)
 .rintro c st1⟨s1,out,ia,ib,mg,rfl,mi,hp⟩;have:=mi.i1;have:=mi.i2;omega
 .rintro c st1⟨s1,out,hc,hf⟩;obtain⟨c1,c2,c3,c4,c5⟩:=c;cases hc;exact wpS_pure (q _ _ hf s1)
end
end HH
end
section
namespace HH
open PySem PyProof.Rows
section
variable{K:Keyed->Int}{T A B S P:List Keyed}{z:Keyed}
structure MH(K:Keyed->Int)(T A B S:List Keyed):Prop where
 perm:(A++(B++S)).Perm T
 sa:SL K (A++S)sb:SL K (B++S)
theorem MH.XR(w:MH K T (A++P) B S)(h:∀x∈P,∀y∈B,K y<=K x):MH K T A B (P++S):=by
 have h1:=cP.mp w.sb;have h2:=cP.mp (show SL K (A++(P++S))by simpa using w.sa);refine⟨?_,by simpa using w.sa,cP.mpr ⟨h1.1,h2.2.1,fun x hx y hy=>?_⟩⟩;.refine List.Perm.trans ?_ w.perm;rw[List.append_assoc];refine List.Perm.append_left A ?_;rw[<-List.append_assoc,<-List.append_assoc];exact List.perm_append_comm.append_right S
 . rcases List.mem_append.mp hy with hy|hy;.exact h y hy x hx
   .exact h1.2.2 x hx y hy
theorem MH.W6(w:MH K T A (B++P) S)(h:∀x∈P,∀y∈A,K y<=K x):MH K T A B (P++S):=by
 have h1:=cP.mp w.sa;have h2:=cP.mp (show SL K (B++(P++S))by simpa using w.sb);refine⟨by simpa using w.perm,cP.mpr ⟨h1.1,h2.2.1,fun x hx y hy=>?_⟩,by simpa using w.sb⟩;rcases List.mem_append.mp hy with hy|hy;.exact h y hy x hx
 .exact h1.2.2 x hx y hy
theorem MH.first(w:MH K T A [z] S)(h:∀x∈A,K z<=K x):([z]++A++S).Perm T/\SL K ([z]++A++S):=by
 refine⟨?_,?_⟩;.refine List.Perm.trans ?_ w.perm;rw[<-List.append_assoc];exact List.perm_append_comm.append_right S
 . rw[List.append_assoc];refine cP.mpr ⟨List.pairwise_singleton _ _,w.sa,fun x hx y hy=>?_⟩;rw[List.mem_singleton.mp hx];rcases List.mem_append.mp hy with hy|hy;.exact h y hy
   .exact(cP.mp w.sb).2.2 z (by simp) y hy
theorem gV{a:Array Keyed}{n:Nat}(h:n<=a.size):(a.extract 0 n).toList=a.toList.take n:=by rw[ji h];simp
theorem iz{a:Array Keyed}{i n:Nat}(hi:i<=n)(h:n<=a.size):a.toList.take n=a.toList.take i++(a.extract i n).toList:=by
 rw[ji h];have e:n=i+(n-i):=by omega
 conv=>lhs;rw[e,List.take_add]
theorem uC{a:Array Keyed}{n:Nat}(h0:1<=n)(h:n<=a.size):a.toList.take n=a.toList.take (n-1)++[it a (n-1)]:=by
 have e:it a (n-1)=a.toList[n-1]'(by simp;omega):=by unfold it;simp[Array.getD,show n-1<a.size by omega]
 have e2:n=(n-1)+1:=by omega
 conv=>lhs;rw[e2]
 rw[List.take_succ_eq_append_getElem (by simp;omega),e]
theorem jl{a:Array Keyed}{n:Nat}{x:Keyed}(h:n<=a.size)(hx:x∈a.toList.take n):∃j,j<n/\x=it a j:=by obtain⟨j,hj,e⟩:=List.mem_iff_getElem.mp hx;simp only[List.length_take,Array.length_toList]at hj;refine⟨j,by omega,?_⟩;rw[<-e];unfold it;simp[Array.getD,show j<a.size by omega]
theorem pA{a:Array Keyed}{i n:Nat}{x:Keyed}(hi:i<=n)(h:n<=a.size)(hx:x∈(a.extract i n).toList):∃j,i<=j/\j<n/\x=it a j:=by obtain⟨j,hj,e⟩:=ext_mem (a:=a) (i:=i) (k:=n-i) (by omega) (by rw[show i+(n-i)=n by omega];exact hx);exact⟨i+j,by omega,by omega,e⟩
end
section
variable{M:Model}{A:Around}{E:Value->Shared->Prop}{s:Shared}{κ:SortKind}{ok:Keyed->Prop}{K:Keyed->Int}
noncomputable def mhi:Array Keyed->Array Keyed->SM (Array Keyed):=sortPriv%PySem.Builtin.mergeHi
noncomputable abbrev MV(K:Keyed->Int)(a b out:Array Keyed)(na nb:Nat):Prop:=MH K (a.toList++b.toList) (a.toList.take na) (b.toList.take nb) out.toList.reverse
structure MJ(K:Keyed->Int)(a b out:Array Keyed)(na nb:Nat):Prop where
 i1:1<=na
 i2:2<=nb
 i3:na<=a.size
 i4:nb<=b.size
 w:MV K a b out na nb
theorem jb{out:Array Keyed}:out.reverse.toList=out.toList.reverse:=Array.toList_reverse
theorem uQ{a b out:Array Keyed}{na nb:Nat}(h:na=0)(hb:nb<=b.size)(w:MV K a b out na nb):Fin K a b (a.extract 0 na++b.extract 0 nb++out.reverse):=by
 subst h;have e:(a.extract 0 0++b.extract 0 nb++out.reverse).toList=b.toList.take nb++out.toList.reverse:=by rw[Array.toList_append,Array.toList_append,gV (Nat.zero_le _),gV hb,jb];simp
 exact⟨by rw[e];simpa using w.perm,by rw[e];exact w.sb⟩
theorem Rh{a b out:Array Keyed}{na nb:Nat}(h:nb=0)(ha:na<=a.size)(w:MV K a b out na nb):Fin K a b (a.extract 0 na++b.extract 0 nb++out.reverse):=by
 subst h;have e:(a.extract 0 na++b.extract 0 0++out.reverse).toList=a.toList.take na++out.toList.reverse:=by rw[Array.toList_append,Array.toList_append,gV (Nat.zero_le _),gV ha,jb];simp
 exact⟨by rw[e];simpa using w.perm,by rw[e];exact w.sa⟩
theorem jt{a b out:Array Keyed}{na nb:Nat}(h:nb=1)(ha:na<=a.size)(hb:nb<=b.size)(ua:vA K a)(h0:K (it b 0)<=K (it a 0))(w:MV K a b out na nb):Fin K a b (b.extract 0 nb++a.extract 0 na++out.reverse):=by
 subst h;have e1:b.toList.take 1=[it b 0]:=by rw[uC (Nat.le_refl 1) hb];simp
 have e:(b.extract 0 1++a.extract 0 na++out.reverse).toList=[it b 0]++a.toList.take na++out.toList.reverse:=by rw[Array.toList_append,Array.toList_append,gV hb,gV ha,jb,e1]
 have w':=w;unfold MV at w';rw[e1]at w';obtain⟨h1,h2⟩:=w'.first fun x hx=>by obtain⟨j,hj,rfl⟩:=jl ha hx;exact Int.le_trans h0 (ua 0 j (by omega) (by omega))
 exact⟨by rw[e];exact h1,by rw[e];exact h2⟩
theorem MH.rM{a b out:Array Keyed}{na nb:Nat}(h:1<=na)(ha:na<=a.size)(hb:nb<=b.size)(w:MV K a b out na nb)(ub:vA K b)(hk:1<=nb->K (it b (nb-1))<=K (it a (na-1))):MV K a b (out.push (it a (na-1))) (na-1) nb:=by unfold MV at*;rw[uC h ha]at w;rw[Array.toList_push,List.reverse_append];refine MH.XR (P:=[it a (na-1)]) w fun x hx y hy=>?_;rw[List.mem_singleton.mp hx];obtain⟨j,hj,rfl⟩:=jl hb hy;exact Int.le_trans (ub j (nb-1) (by omega) (by omega)) (hk (by omega))
theorem MH.sX{a b out:Array Keyed}{na nb:Nat}(h:1<=nb)(ha:na<=a.size)(hb:nb<=b.size)(w:MV K a b out na nb)(ua:vA K a)(hk:1<=na->K (it a (na-1))<=K (it b (nb-1))):MV K a b (out.push (it b (nb-1))) na (nb-1):=by unfold MV at*;rw[uC h hb]at w;rw[Array.toList_push,List.reverse_append];refine MH.W6 (P:=[it b (nb-1)]) w fun x hx y hy=>?_;rw[List.mem_singleton.mp hx];obtain⟨j,hj,rfl⟩:=jl ha hy;exact Int.le_trans (ua j (na-1) (by omega) (by omega)) (hk (by omega))
theorem MH.Gh{a b out:Array Keyed}{na nb i:Nat}(h:i<=na)(ha:na<=a.size)(hb:nb<=b.size)(w:MV K a b out na nb)(ub:vA K b)(hk:∀j,i<=j->j<na->1<=nb->K (it b (nb-1))<=K (it a j)):MV K a b (out++(a.extract i na).reverse) i nb:=by unfold MV at*;rw[iz h ha]at w;rw[Array.toList_append,List.reverse_append,jb,List.reverse_reverse];refine MH.XR w fun x hx y hy=>?_;obtain⟨j,j1,j2,rfl⟩:=pA h ha hx;obtain⟨l,hl,rfl⟩:=jl hb hy;exact Int.le_trans (ub l (nb-1) (by omega) (by omega)) (hk j j1 j2 (by omega))
theorem MH.Gd{a b out:Array Keyed}{na nb i:Nat}(h:i<=nb)(ha:na<=a.size)(hb:nb<=b.size)(w:MV K a b out na nb)(ua:vA K a)(hk:∀j,i<=j->j<nb->1<=na->K (it a (na-1))<=K (it b j)):MV K a b (out++(b.extract i nb).reverse) na i:=by unfold MV at*;rw[iz h hb]at w;rw[Array.toList_append,List.reverse_append,jb,List.reverse_reverse];refine MH.W6 w fun x hx y hy=>?_;obtain⟨j,j1,j2,rfl⟩:=pA h hb hx;obtain⟨l,hl,rfl⟩:=jl ha hy;exact Int.le_trans (ua l (na-1) (by omega) (by omega)) (hk j j1 j2 (by omega))
set_option maxHeartbeats 1000000 in
theorem Oz(R:Rk M A E s κ ok K){a b:Array Keyed}{Q:Array Keyed->SortSt->Prop}{st:SortSt}(ha:∀x∈a.toList,ok x)(hb:∀x∈b.toList,ok x)(hs:kindOf st=κ)(ua:vA K a)(ub:vA K b)(a1:1<=a.size)(b1:1<=b.size)(h0:K (it b 0)<=K (it a 0))(hl:∀i,i<b.size->K (it b i)<=K (it a (a.size-1)))(q:∀out st',Fin K a b out->qN st st'->Q out st'):wpS M A E s (mhi a b) Q st:=by
 show wpS M A E s (liftM (rule "list.sort.merge-hi")>>=_) Q st;refine wpS_bind (wp_rule ?_);extract_lets+onlyGivenNames-merge-underBinder x0 x1 x2 x3 x4;refine wpS_bind (bJ (by omega) ?_);extract_lets+onlyGivenNames-merge-underBinder x5;dsimp-zeta-zetaHave only[x0,x1,x2,x3,x4,x5];have ta:∀c:Array Keyed,c.toList.take c.size=c.toList:=fun c=>List.take_of_length_le (by simp);have w0:MV K a b #[] a.size b.size:=by unfold MV;rw[ta,ta];exact⟨by simp,by simpa using pH ua,by simpa using pH ub⟩
 have w1:=MH.rM a1 (Nat.le_refl _) (Nat.le_refl _) w0 ub (fun _=>hl _ (by omega));rw[show(#[]:Array Keyed).push (it a (a.size-1))=#[it a (a.size-1)]from rfl]at w1;by_cases c1:a.size-1=0;.rw[if_pos (by simpa using c1)];exact wpS_pure (q _ _ (uQ c1 (Nat.le_refl _) w1) (.refl _))
 rw[if_neg (by simpa using c1)];by_cases c2:b.size=1;.rw[if_pos (by simpa using c2)];exact wpS_pure (q _ _ (jt c2 (by omega) (Nat.le_refl _) ua h0 w1) (.refl _))
 rw[if_neg (by simpa using c2)];refine wpS_bind (wpS_get ?_);extract_lets+onlyGivenNames-merge-underBinder x6;refine wpS_bind (wpS_mono (wpS_forRange (I:=fun x c st'=>qN st st'/\∃na nb out mg,c=(none,na,nb,out,mg)/\MJ K a b out na nb/\x+1+na+nb<=a.size+b.size) (Q:=fun c st'=>qN st st'/\∃out,c.1=some out/\Fin K a b out) ?_ ?_ ⟨.refl _,_,_,_,_,rfl,⟨by omega,by omega,by omega,Nat.le_refl _,w1⟩,by omega⟩) ?_)
 . rintro x c st1 _ hx⟨s1,na,nb,out,mg,rfl,mi,hp⟩;extract_lets+onlyGivenNames-merge-underBinder y0 y1 y2 y3 y4 y5 y6 y7 y8;dsimp-zeta-zetaHave only[x0,x1,x2,x3,x4,x5,y0,y1,y2,y3,y4,y5,y6,y7,y8];refine wpS_bind (wpS_mono (wpS_forRange (I:=fun y c st'=>qN st st'/\∃kE iW out ac bc,c=(none,kE,iW,out,ac,bc)/\MJ K a b out kE iW/\kE+iW+y<=na+nb) (Q:=fun c st'=>qN st st'/\((∃out,c.1=some out/\Fin K a b out)\/∃kE iW out ac bc,c=(none,kE,iW,out,ac,bc)/\MJ K a b out kE iW/\kE+iW+1<=na+nb)) ?_ ?_ ⟨s1,na,nb,out,0,0,rfl,mi,by omega⟩) ?_)
   . rintro y c st2 _ hy⟨s2,kE,iW,out,ac,bc,rfl,mi,hp'⟩;obtain⟨i1,i2,i3,i4,w⟩:=mi;try dsimp only
     refine wpS_bind (bJ (by omega) (wpS_bind (bJ (by omega) (wpS_bind (R.lt (hb _ (dw (by omega))) (ha _ (dw (by omega))) (s2.kind.trans hs) ?_)))));by_cases c:K (it b (iW-1))<K (it a (kE-1))
     . rw[decide_eq_true c];try dsimp only
       rw[if_pos rfl];refine wpS_bind (bJ (by omega) ?_);try dsimp only
       have w':=MH.rM i1 i3 i4 w ub (fun _=>by omega);by_cases e:kE-1=0;.rw[if_pos (by simpa using e)];exact wpS_pure ⟨s2,.inl ⟨_,rfl,uQ e i4 w'⟩⟩
       . rw[if_neg (by simpa using e)];have xR:MJ K a b (out.push (it a (kE-1))) (kE-1) iW:=⟨by omega,i2,by omega,i4,w'⟩;split;.exact wpS_pure ⟨s2,.inr ⟨_,_,_,_,_,rfl,xR,by omega⟩⟩
         .exact wpS_pure ⟨s2,_,_,_,_,_,rfl,xR,by omega⟩
     . rw[decide_eq_false c];try dsimp only
       rw[if_neg (by simp)];refine wpS_bind (bJ (by omega) ?_);try dsimp only
       have w':=MH.sX (by omega) i3 i4 w ua (fun _=>by omega);by_cases e:iW-1=1;.rw[if_pos (by simpa using e)];exact wpS_pure ⟨s2,.inl ⟨_,rfl,jt e i3 (by omega) ua h0 w'⟩⟩
       . rw[if_neg (by simpa using e)];have xR:MJ K a b (out.push (it b (iW-1))) kE (iW-1):=⟨i1,by omega,i3,by omega,w'⟩;split;.exact wpS_pure ⟨s2,.inr ⟨_,_,_,_,_,rfl,xR,by omega⟩⟩
         .exact wpS_pure ⟨s2,_,_,_,_,_,rfl,xR,by omega⟩
   .rintro c st2⟨s2,kE,iW,out,ac,bc,rfl,mi,hp'⟩;exact⟨s2,.inr ⟨_,_,_,_,_,rfl,mi,by omega⟩⟩
   . rintro c st2⟨s2,⟨out,hc,hf⟩|⟨kE,iW,out,ac,bc,rfl,mi,hp'⟩⟩;.obtain⟨c1,c2,c3,c4,c5,c6⟩:=c;cases hc;exact wpS_pure ⟨s2,out,rfl,hf⟩
     . extract_lets+onlyGivenNames-merge-underBinder z0 z1 z2 z3 z4 z5 z6 z7 z8 z9;dsimp-zeta-zetaHave only[z0,z1,z2,z3,z4,z5,z6,z7,z8,z9];refine wpS_bind (wp_rule ?_);extract_lets+onlyGivenNames-merge-underBinder za;refine wpS_bind (wpS_mono (wpS_forRange (I:=fun y c st'=>qN st st'/\∃kE iW out mg ac bc,c=(none,kE,iW,out,mg,ac,bc)/\MJ K a b out kE iW/\kE+iW+1<=na+nb) (Q:=fun c st'=>qN st st'/\((∃out,c.1=some out/\Fin K a b out)\/∃kE iW out mg ac bc,c=(none,kE,iW,out,mg,ac,bc)/\MJ K a b out kE iW/\kE+iW+1<=na+nb)) ?_ ?_ ⟨s2,kE,iW,out,_,ac,bc,rfl,mi,by omega⟩) ?_)
       . rintro y c st3 _ hy⟨s3,kE,iW,out,mg,ac,bc,rfl,mi,hp'⟩;obtain⟨i1,i2,i3,i4,w⟩:=mi;extract_lets+onlyGivenNames-merge-underBinder t0 t1 t2 t3 t4 t5 t6 t7 t8 t9 ta jp;dsimp only[t0,t1,t2,t3,t4,t5,t6,t7,t8,t9,ta];refine Hb (T:=jp) ?_;intro _ mg;dsimp-zeta-zetaHave only[jp,t0,t1,t2,t3,t4,t5,t6,t7,t8,t9,ta];refine wpS_bind (o8 fun Jo Ge=>?_);have s4:=s3.trans Ge;refine wpS_bind (bJ (by omega) ?_);refine wpS_bind (mF R (hb _ (dw (by omega))) ha (by omega) (by omega) (s4.kind.trans hs) (uF ua (by omega)) fun k k1 k2 k3=>?_);have k2':∀j,j<k->K (it a j)<=K (it b (iW-1)):=fun j hj=>by have:=k2 j hj;simp[bb]at this;omega
         have Vf:∀j,k<=j->j<kE->K (it b (iW-1))<=K (it a j):=fun j h1 h2=>by have:=k3 j h1 h2;simp[bb]at this;omega
         try dsimp-zeta-zetaHave only
         extract_lets+onlyGivenNames-merge-underBinder u0 u1 jp2;dsimp only[u0,u1];refine oJ (T:=jp2) (x:=kE) (y:=out) (fun n1 zK=>(1<=n1/\n1<=kE)/\MV K a b zK n1 iW/\K (it a (n1-1))<=K (it b (iW-1))) ?_ (fun c key=>?_) (fun c=>⟨⟨i1,Nat.le_refl _⟩,w,k2' _ (by omega)⟩)
         . rintro _ n1 zK⟨⟨j1,j0⟩,w1,k4⟩;dsimp-zeta-zetaHave only[jp2,u0,u1];extract_lets+onlyGivenNames-merge-underBinder v0;refine wpS_bind (bJ (by dsimp only[v0];omega) ?_);have w2:=MH.sX (by omega) (by omega) i4 w1 ua (fun _=>k4);extract_lets+onlyGivenNames-merge-underBinder v1;dsimp-zeta-zetaHave only[v0,v1];by_cases e3:iW-1=1;.rw[if_pos (by simpa using e3)];exact wpS_pure ⟨s4,.inl ⟨_,rfl,jt e3 (by omega) (by omega) ua h0 w2⟩⟩
           rw[if_neg (by simpa using e3)];refine wpS_bind (bJ (by omega) ?_);refine wpS_bind (mF R (ha _ (dw (by omega))) hb (by omega) (by omega) (s4.kind.trans hs) (uF ub (by omega)) fun m m1 m2 m3=>?_);have m2':∀j,j<m->K (it b j)<=K (it a (n1-1)):=fun j hj=>by have:=m2 j hj;simp[bb]at this;omega
           have m3':∀j,m<=j->j<iW-1->K (it a (n1-1))<=K (it b j):=fun j h1 h2=>by have:=m3 j h1 h2;simp[bb]at this;omega
           try dsimp-zeta-zetaHave only
           extract_lets+onlyGivenNames-merge-underBinder v2 v3 YQ;dsimp only[v2,v3];refine oJ (T:=YQ) (x:=iW-1) (y:=zK.push (it b (iW-1))) (fun n2 zL=>(2<=n2/\n2<=iW-1)/\MV K a b zL n1 n2/\K (it b (n2-1))<=K (it a (n1-1))) ?_ (fun c key=>?_) (fun c=>⟨⟨by omega,Nat.le_refl _⟩,w2,m2' _ (by omega)⟩)
           . rintro _ n2 zL⟨⟨j2,j3⟩,w3,m4⟩;dsimp only[YQ,v2,v3];refine wpS_bind (bJ (by omega) ?_);have w4:=MH.rM j1 (by omega) (by omega) w3 ub (fun _=>m4);try dsimp only
             by_cases e6:n1-1=0;.rw[if_pos (by simpa using e6)];exact wpS_pure ⟨s4,.inl ⟨_,rfl,uQ e6 (by omega) w4⟩⟩
             rw[if_neg (by simpa using e6)];have xR:MJ K a b (zL.push (it a (n1-1))) (n1-1) n2:=⟨by omega,j2,by omega,by omega,w4⟩;split;.exact wpS_pure ⟨s4,.inr ⟨_,_,_,_,_,_,rfl,xR,by omega⟩⟩
             .exact wpS_pure ⟨s4,_,_,_,_,_,_,rfl,xR,by omega⟩
           . have w3:=MH.Gd m1 (by omega) (by omega) w2 ua fun j h1 h2 _=>m3' j h1 h2;by_cases e4:m=1;.rw[if_pos (by simpa using e4)];exact wpS_pure ⟨s4,.inl ⟨_,rfl,jt e4 (by omega) (by omega) ua h0 w3⟩⟩
             rw[if_neg (by simpa using e4)];by_cases e5:m=0;.rw[if_pos (by simpa using e5)];exact wpS_pure ⟨s4,.inl ⟨_,rfl,Rh e5 (by omega) w3⟩⟩
             rw[if_neg (by simpa using e5)];exact key ⟨⟩ _ _ ⟨⟨by omega,m1⟩,w3,m2' _ (by omega)⟩
         . have w1:=MH.Gh k1 i3 i4 w ub fun j h1 h2 _=>Vf j h1 h2;by_cases e1:k=0;.rw[if_pos (by simpa using e1)];exact wpS_pure ⟨s4,.inl ⟨_,rfl,uQ e1 i4 w1⟩⟩
           rw[if_neg (by simpa using e1)];exact key ⟨⟩ _ _ ⟨⟨by omega,k1⟩,w1,k2' _ (by omega)⟩
       .rintro c st3⟨s3,kE,iW,out,mg,ac,bc,rfl,mi,hp'⟩;exact⟨s3,.inr ⟨_,_,_,_,_,_,rfl,mi,hp'⟩⟩
       . rintro c st3⟨s3,⟨out,hc,hf⟩|⟨kE,iW,out,mg,ac,bc,rfl,mi,hp'⟩⟩;.obtain⟨c1,c2,c3,c4,c5,c6,c7⟩:=c;cases hc;exact wpS_pure ⟨s3,out,rfl,hf⟩
         . try dsimp only
           exact wpS_bind (o8 fun Jo Ge=>wpS_pure ⟨s3.trans Ge,_,_,_,_,rfl,mi,by omega⟩)
 .rintro c st1⟨s1,na,nb,out,mg,rfl,mi,hp⟩;have:=mi.i1;have:=mi.i2;omega
 .rintro c st1⟨s1,out,hc,hf⟩;obtain⟨c1,c2,c3,c4,c5⟩:=c;cases hc;exact wpS_pure (q _ _ hf s1)
end
end HH
end
section
namespace HH
open PySem PyProof.Rows
section
variable{K:Keyed->Int}
noncomputable def Seg(K:Keyed->Int)(xs:Array Keyed)(lo hi:Nat):Prop:=∀i j,lo<=i->i<=j->j<hi->K (it xs i)<=K (it xs j)
theorem Ba{l:Bool}{k:Keyed}{a:Array Keyed}{b n:Nat}(h:Seg K a b (b+n)):Lf K l k a b n:=fun i j hij hj c=>by have:=h (b+i) (b+j) (by omega) (by omega) (by omega);unfold bb at*;cases l with|true=>simp only[if_true,decide_eq_true_eq]at*;omega|false=>simp only[Bool.false_eq_true,if_false,Bool.not_eq_true',decide_eq_false_iff_not]at*;omega
theorem ir{xs:Array Keyed}{i:Nat}:it xs i=xs.toList.getD i (Value.none,Value.none):=by
 unfold it;by_cases h:i<xs.size;.simp[Array.getD,h]
 .simp[Array.getD,h]
theorem mD{a:Array Keyed}{i n j:Nat}(h:n<=a.size)(hj:j<n-i):it (a.extract i n) j=it a (i+j):=by
 have:j<(a.extract i n).size:=by simp;omega
 have e:(a.extract i n)[j]?=a[i+j]?:=by rw[Array.getElem?_extract,if_pos (by omega)]
 have e1:=u6 this;have e2:=u6 (show i+j<a.size by omega);rw[e,e2]at e1;injection e1 with e1;exact e1.symm
theorem uO{a:Array Keyed}{i n:Nat}(h:n<=a.size)(hs:Seg K a i n):vA K (a.extract i n):=fun u v huv hv=>by
 have hsz:(a.extract i n).size=n-i:=by simp;omega
 rw[hsz]at hv;rw[mD h (by omega),mD h hv];exact hs _ _ (by omega) (by omega) (by omega)
theorem wL:∀(m:List Keyed)(arr:Array Keyed)(o k:Nat),o+k+m.length<=arr.size->((m.zipIdx k).foldl (fun a x=>match x with|(p,j)=>a.setIfInBounds (o+j) p) arr).toList=arr.toList.take (o+k)++(m++arr.toList.drop (o+k+m.length))
 |[],arr,o,k,h=>by simp|x::m,arr,o,k,h=>by
   have hl:o+k<arr.size:=by simp at h;omega
   rw[List.zipIdx_cons,List.foldl_cons];have ih:=wL m (arr.setIfInBounds (o+k) x) o (k+1) (by simp at h ⊢;omega);rw[ih,Array.toList_setIfInBounds];have e1:(arr.toList.set (o+k) x).take (o+(k+1))=arr.toList.take (o+k)++[x]:=by rw[<-Nat.add_assoc,List.take_succ_eq_append_getElem (by simpa using hl),List.take_set_of_le (Nat.le_refl _)];simp
   have e2:(arr.toList.set (o+k) x).drop (o+(k+1)+m.length)=arr.toList.drop (o+k+(x::m).length):=by rw[List.drop_set_of_lt (by omega)];congr 1;simp;omega
   rw[e1,e2];simp
theorem Fin.mem{a b out:Array Keyed}{z:Keyed}(f:Fin K a b out)(h:z∈out.toList):z∈a.toList\/z∈b.toList:=List.mem_append.mp (f.perm.mem_iff.mp h)
theorem vJ{xs:Array Keyed}{P Q S:List Keyed}{lo hi:Nat}(e:xs.toList=P++(Q++S))(hl:P.length=lo)(hh:P.length+Q.length=hi)(h:SL K Q):Seg K xs lo hi:=fun i j h1 h2 h3=>by
 rw[ir,ir,e];have gi:∀n,lo<=n->n<hi->(P++(Q++S)).getD n (Value.none,Value.none)=Q.getD (n-lo) (Value.none,Value.none):=fun n n1 n2=>by rw[List.getD_eq_getElem?_getD,List.getD_eq_getElem?_getD,List.getElem?_append_right (by omega),List.getElem?_append_left (by omega),hl]
 rw[gi i h1 (by omega),gi j (by omega) h3];by_cases hij:i=j;.rw[hij];exact Int.le_refl _
 .have:=List.pairwise_iff_getElem.mp h (i-lo) (j-lo) (by omega) (by omega) (by omega);simpa[List.getD_eq_getElem?_getD,show i-lo<Q.length by omega,show j-lo<Q.length by omega]using this
end
section
variable{M:Model}{A:Around}{E:Value->Shared->Prop}{s:Shared}{κ:SortKind}{ok:Keyed->Prop}{K:Keyed->Int}
theorem three{a:Array Keyed}{i n:Nat}(hi:i<=n)(h:n<=a.size):a.toList=a.toList.take i++((a.extract i n).toList++a.toList.drop n):=by rw[<-List.append_assoc,<-iz hi h,List.take_append_drop]
theorem Io{a:Array Keyed}{i n:Nat}(h:n<=a.size)(hs:Seg K a i n):SL K (a.extract i n).toList:=pH (uO h hs)
structure Uh(K:Keyed->Int)(xs ys:Array Keyed)(lo hi:Nat):Prop where
 perm:ys.toList.Perm xs.toList
 pre:ys.toList.take lo=xs.toList.take lo
 post:ys.toList.drop hi=xs.toList.drop hi
 seg:Seg K ys lo hi
theorem vD{xs:Array Keyed}{lo hi:Nat}(h:Seg K xs lo hi):Uh K xs xs lo hi:=⟨.refl _,rfl,rfl,h⟩
theorem Qp{xs ys:Array Keyed}{lo u v hi:Nat}{m:List Keyed}(h1:lo<=u)(h2:u<=v)(h3:v<=hi)(h4:hi<=xs.size)(hy:ys.toList=xs.toList.take u++(m++xs.toList.drop v))(hp:m.Perm (xs.extract u v).toList)(hs:SL K ((xs.extract lo u).toList++(m++(xs.extract v hi).toList))):Uh K xs ys lo hi:=by
 have hlm:m.length=v-u:=by rw[hp.length_eq];simp;omega
 have el:xs.toList.take u=xs.toList.take lo++(xs.extract lo u).toList:=iz h1 (by omega);have er:xs.toList.drop v=(xs.extract v hi).toList++xs.toList.drop hi:=by have:=j5 (a:=xs) (i:=v) (k:=hi-v) (by omega);rwa[show v+(hi-v)=hi by omega]at this
 have e:ys.toList=xs.toList.take lo++(((xs.extract lo u).toList++(m++(xs.extract v hi).toList))++xs.toList.drop hi):=by rw[hy,el,er];simp
 have hlo:(xs.toList.take lo).length=lo:=by simp;omega
 have hmid:((xs.extract lo u).toList++(m++(xs.extract v hi).toList)).length=hi-lo:=by simp[hlm];omega
 refine⟨?_,?_,?_,vJ e hlo (by omega) hs⟩;.have t:=three h2 (show v<=xs.size by omega);rw[hy];refine List.Perm.trans (List.Perm.append_left _ (List.Perm.append_right _ hp)) (.of_eq t.symm)
 .rw[e,List.take_append_of_le_length (by omega),List.take_of_length_le (by omega)]
 .rw[e,<-List.append_assoc,List.drop_append,List.drop_eq_nil_of_le (by simp only[List.length_append]at*;omega)];simp only[List.nil_append,List.length_append]at*;rw[show hi-((xs.toList.take lo).length+((xs.extract lo u).toList.length+(m.length+(xs.extract v hi).toList.length)))=0 by omega];rfl
end
end HH
end
section
namespace HH
open PySem PyProof.Rows
section
variable{M:Model}{A:Around}{E:Value->Shared->Prop}{s:Shared}{κ:SortKind}{ok:Keyed->Prop}{K:Keyed->Int}
theorem Rb{st st':SortSt}{Q:PUnit->SortSt->Prop}(h:Q ⟨⟩ st'):wpS M A E s (set st':SM PUnit) Q st:=by unfold wpS;rw[StateT.run_set];exact wpAny_pure ⟨rfl,h⟩
theorem j7{a:Array Keyed}{i n:Nat}{x:Keyed}(hi:i<=n)(h:n<=a.size)(hx:x∈(a.extract i n).toList):∃j,i<=j/\j<n/\x=it a j:=pA hi h hx
theorem Qs{arr merged:Array Keyed}{sa u sb v hi:Nat}(h1:sa<=u)(h2:u<=sb)(h3:sb<=v)(h4:v<=hi)(h5:hi<=arr.size)(hu:u<sb)(hv:sb<v)(s1:Seg K arr sa sb)(s2:Seg K arr sb hi)(f:Fin K (arr.extract u sb) (arr.extract sb v) merged)(k2:∀j,sa<=j->j<u->K (it arr j)<=K (it arr sb))(m3:∀j,v<=j->j<hi->K (it arr (sb-1))<=K (it arr j)):SL K ((arr.extract sa u).toList++(merged.toList++(arr.extract v hi).toList)):=by
 have inm:∀z∈merged.toList,(∃j,u<=j/\j<sb/\z=it arr j)\/∃j,sb<=j/\j<v/\z=it arr j:=fun z hz=>(f.mem hz).imp (j7 h2 (by omega)) (j7 h3 (by omega));refine cP.mpr ⟨Io (by omega) fun i j a b c=>s1 i j a b (by omega),cP.mpr ⟨f.jG,Io h5 fun i j a b c=>s2 i j (by omega) b c,fun z hz y hy=>?_⟩,fun x hx y hy=>?_⟩
 . obtain⟨j,j1,j2,rfl⟩:=j7 h4 h5 hy;rcases inm z hz with⟨i,i1,i2,rfl⟩|⟨i,i1,i2,rfl⟩;.exact Int.le_trans (s1 i (sb-1) (by omega) (by omega) (by omega)) (m3 j j1 j2)
   .exact s2 i j (by omega) (by omega) (by omega)
 . obtain⟨i,i1,i2,rfl⟩:=j7 h1 (by omega) hx;rcases List.mem_append.mp hy with hy|hy
   . rcases inm y hy with⟨j,j1,j2,rfl⟩|⟨j,j1,j2,rfl⟩;.exact s1 i j (by omega) (by omega) (by omega)
     .exact Int.le_trans (k2 i i1 i2) (s2 sb j (by omega) (by omega) (by omega))
   .obtain⟨j,j1,j2,rfl⟩:=j7 h4 h5 hy;exact Int.le_trans (k2 i i1 i2) (s2 sb j (by omega) (by omega) (by omega))
set_option maxHeartbeats 1000000 in
theorem RX(R:Rk M A E s κ ok K){i sa na pw sb nb pw2:Nat}{Q:Bool->SortSt->Prop}{st:SortSt}(hs:kindOf st=κ)(ho:∀x∈(arrOf st).toList,ok x)(hf:failedOf st=none)(hi:(pendingOf st)[i]?=some (sa,na,pw))(hj:(pendingOf st)[i+1]?=some (sb,nb,pw2))(hsb:sb=sa+na)(n1:1<=na)(m1:1<=nb)(hz:sb+nb<=(arrOf st).size)(s1:Seg K (arrOf st) sa sb)(s2:Seg K (arrOf st) sb (sb+nb))(q:∀st',kindOf st'=κ->failedOf st'=none->pendingOf st'=((pendingOf st).setIfInBounds i (sa,na+nb,pw)).eraseIdxIfInBounds (i+1)->Uh K (arrOf st) (arrOf st') sa (sb+nb)->Q true st'):wpS M A E s (mergeAt' i) Q st:=by
 obtain⟨kd,arr,pend,gm,fl⟩:=st;replace hs:kd=κ:=hs;replace ho:∀x∈arr.toList,ok x:=ho;replace hf:fl=none:=hf;replace hi:pend[i]?=some (sa,na,pw):=hi;replace hj:pend[i+1]?=some (sb,nb,pw2):=hj;replace hz:sb+nb<=arr.size:=hz;replace s1:Seg K arr sa sb:=s1;replace s2:Seg K arr sb (sb+nb):=s2;replace q:∀st',kindOf st'=κ->failedOf st'=none->pendingOf st'=(pend.setIfInBounds i (sa,na+nb,pw)).eraseIdxIfInBounds (i+1)->Uh K arr (arrOf st') sa (sb+nb)->Q true st':=q;show wpS M A E s (get>>=_) Q _;refine wpS_bind (wpS_get ?_);dsimp only;rw[hi,hj];try dsimp only
 refine wpS_bind (Rb ?_);refine wpS_bind (bJ (by omega) ?_);refine wpS_bind (mF R (ho _ (dw (by omega))) ho (by omega) (by omega) hs (Ba (by rw[<-hsb];exact s1)) fun k k1 k2 k3=>?_);have k2':∀j,sa<=j->j<sa+k->K (it arr j)<=K (it arr sb):=fun j h1 h2=>by have:=k2 (j-sa) (by omega);rw[show sa+(j-sa)=j by omega]at this;simp[bb]at this;omega
 try dsimp only
 by_cases c1:na-k=0
 . rw[if_pos (by simpa using c1)];refine wpS_pure (q _ hs hf rfl (vD fun u v u1 u2 u3=>?_));by_cases hv:v<sb;.exact s1 u v u1 u2 hv
   . by_cases hu:u<sb;.exact Int.le_trans (k2' u u1 (by omega)) (s2 sb v (by omega) (by omega) u3)
     .exact s2 u v (by omega) u2 u3
 rw[if_neg (by simpa using c1)];rw[show sa+k+(na-k)-1=sb-1 by omega];refine wpS_bind (bJ (by show sb-1<arr.size;omega) ?_);refine wpS_bind (mF R (ho _ (dw (by omega))) ho (by omega) (by omega) hs (Ba s2) fun m m1' m2 m3=>?_);have m2':∀j,sb<=j->j<sb+m->K (it arr j)<K (it arr (sb-1)):=fun j h1 h2=>by have:=m2 (j-sb) (by omega);rw[show sb+(j-sb)=j by omega]at this;simpa[bb]using this
 have m3':∀j,sb+m<=j->j<sb+nb->K (it arr (sb-1))<=K (it arr j):=fun j h1 h2=>by have:=m3 (j-sb) (by omega) (by omega);rw[show sb+(j-sb)=j by omega]at this;simp[bb]at this;omega
 have Vf:K (it arr sb)<=K (it arr (sa+k)):=by have:=k3 k (Nat.le_refl _) (by omega);simp[bb]at this;omega
 try dsimp only
 by_cases c2:m=0
 . rw[if_pos (by simpa using c2)];refine wpS_pure (q _ hs hf rfl (vD fun u v u1 u2 u3=>?_));by_cases hv:v<sb;.exact s1 u v u1 u2 hv
   . by_cases hu:u<sb;.exact Int.le_trans (s1 u (sb-1) u1 (by omega) (by omega)) (m3' v (by omega) u3)
     .exact s2 u v (by omega) u2 u3
 rw[if_neg (by simpa using c2)];have hxa:(arr.extract (sa+k) sb).size=sb-(sa+k):=by simp;omega
 have hya:(arr.extract sb (sb+m)).size=m:=by simp;omega
 have ux:vA K (arr.extract (sa+k) sb):=uO (by omega) fun u v a b c=>s1 u v (by omega) b c;have uy:vA K (arr.extract sb (sb+m)):=uO (by omega) fun u v a b c=>s2 u v a b (by omega);have ox:∀x∈(arr.extract (sa+k) sb).toList,ok x:=fun x hx=>by obtain⟨j,j1,j2,rfl⟩:=j7 (by omega) (by omega) hx;exact ho _ (dw (by omega))
 have oy:∀x∈(arr.extract sb (sb+m)).toList,ok x:=fun x hx=>by obtain⟨j,j1,j2,rfl⟩:=j7 (by omega) (by omega) hx;exact ho _ (dw (by omega))
 have Jp:K (it (arr.extract sb (sb+m)) 0)<=K (it (arr.extract (sa+k) sb) 0):=by rw[mD (by omega) (by omega),mD (by omega) (by omega)];exact Vf
 have hhl:∀j,j<(arr.extract sb (sb+m)).size->K (it (arr.extract sb (sb+m)) j)<=K (it (arr.extract (sa+k) sb) ((arr.extract (sa+k) sb).size-1)):=fun j hj=>by rw[hya]at hj;rw[hxa,mD (by omega) (by omega),mD (by omega) (by omega),show sa+k+(sb-(sa+k)-1)=sb-1 by omega];exact Int.le_of_lt (m2' _ (by omega) (by omega))
 have fin:∀(merged:Array Keyed)(st':SortSt),Fin K (arr.extract (sa+k) sb) (arr.extract sb (sb+m)) merged->qN (SortSt.mk' kd arr ((pend.setIfInBounds i (sa,na+nb,pw)).eraseIdxIfInBounds (i+1)) gm fl) st'->wpS M A E s ((modify fun s=>setArr s (List.foldl (fun a x=>match x with|(p,j)=>a.setIfInBounds (sa+k+j) p) (arrOf s) merged.toList.zipIdx))>>=fun _=>get>>=fun s=>pure (failedOf s).isNone) Q st':=fun merged st' f sm=>by
  refine wpS_bind (wpS_modify (wpS_bind (wpS_get (wpS_pure ?_))));have e1:arrOf st'=arr:=sm.arr;have e2:failedOf st'=none:=sm.fail.trans hf;have hlm:merged.toList.length=sb+m-(sa+k):=by rw[f.perm.length_eq];simp;omega
  show Q (failedOf st').isNone _;rw[e2];refine q _ (sm.kind.trans hs) e2 sm.pend ?_;show Uh K arr (List.foldl _ (arrOf st') merged.toList.zipIdx) sa (sb+nb);rw[e1];have hy:=wL merged.toList arr (sa+k) 0 (by omega);rw[Nat.add_zero,hlm,show sa+k+(sb+m-(sa+k))=sb+m by omega]at hy;have he:arr.extract (sa+k) (sb+m)=arr.extract (sa+k) sb++arr.extract sb (sb+m):=by simp[Array.extract_append_extract];congr 1<;>omega
  refine Qp (u:=sa+k) (v:=sb+m) (by omega) (by omega) (by omega) hz hy (f.perm.trans (.of_eq ?_)) (Qs (by omega) (by omega) (by omega) (by omega) hz (by omega) (by omega) s1 s2 f k2' m3');rw[he,Array.toList_append]
 try dsimp only
 split;.exact wpS_bind (Qm R ox oy hs ux uy (by omega) (by omega) Jp hhl fun merged st' f sm=>fin merged st' f sm)
 .exact wpS_bind (Oz R ox oy hs ux uy (by omega) (by omega) Jp hhl fun merged st' f sm=>fin merged st' f sm)
end
end HH
end
section
namespace HH
open PySem PyProof.Rows
section
variable{K:Keyed->Int}
theorem vX{xs:Array Keyed}{i:Nat}:it xs i=(xs[i]?).getD (Value.none,Value.none):=by unfold it;by_cases h:i<xs.size<;>simp[Array.getD,h]
theorem jW{xs:Array Keyed}{i j:Nat}(hj:j<=xs.size)(k:Nat):it (mirror xs i j ((j-i)/2)) k=if i<=k/\k<j then it xs (i+j-1-k)else it xs k:=by rw[vX,getElem?_mirror_all hj];split<;>rw[vX]
theorem yR{xs:Array Keyed}{u d:Nat}(hs:u<xs.size)(hd:d<=u)(k:Nat):it (bubble xs u d) k=if k=u-d then it xs u else if u-d<k/\k<=u then it xs (k-1)else it xs k:=by
 rw[vX,getElem?_bubble hs d hd];by_cases h1:k=u-d;.rw[if_pos h1,if_pos h1,vX]
 .rw[if_neg h1,if_neg h1];split<;>rw[vX]
structure oX(xs ys:Array Keyed)(lo:Nat):Prop where
 perm:ys.toList.Perm xs.toList
 pre:∀i,i<lo->it ys i=it xs i
theorem oX.refl(xs:Array Keyed)(lo:Nat):oX xs xs lo:=⟨.refl _,fun _ _=>rfl⟩
theorem oX.trans{xs ys zs:Array Keyed}{lo:Nat}(a:oX xs ys lo)(b:oX ys zs lo):oX xs zs lo:=⟨b.perm.trans a.perm,fun i h=>(b.pre i h).trans (a.pre i h)⟩
theorem oX.size{xs ys:Array Keyed}{lo:Nat}(h:oX xs ys lo):ys.size=xs.size:=by simpa using h.perm.length_eq
theorem jr{xs:Array Keyed}{lo i j:Nat}(h:lo<=i)(hj:j<=xs.size):oX xs (mirror xs i j ((j-i)/2)) lo:=⟨Array.perm_iff_toList_perm.mp (mirror_perm ..),fun k hk=>by rw[jW hj,if_neg (by omega)]⟩
theorem Lq{xs:Array Keyed}{lo u d:Nat}(hs:u<xs.size)(hd:d<=u)(h:lo<=u-d):oX xs (bubble xs u d) lo:=⟨Array.perm_iff_toList_perm.mp (bubble_perm ..),fun k hk=>by rw[yR hs hd,if_neg (by omega),if_neg (by omega)]⟩
noncomputable def Ka(K:Keyed->Int)(xs:Array Keyed)(lo hi:Nat):Prop:=∀i j,lo<=i->i<=j->j<hi->K (it xs j)<=K (it xs i)
end
section
variable{M:Model}{A:Around}{E:Value->Shared->Prop}{s:Shared}{κ:SortKind}{ok:Keyed->Prop}{K:Keyed->Int}
structure Sx(κ:SortKind)(ok:Keyed->Prop)(st:SortSt)(xs:Array Keyed)(st':SortSt):Prop where
 kind:kindOf st'=κ
 arr:arrOf st'=xs
 pend:pendingOf st'=pendingOf st
 fail:failedOf st'=none
 ok:∀x∈xs.toList,ok x
theorem Sx.set{st st':SortSt}{xs ys:Array Keyed}{lo:Nat}(h:Sx κ ok st xs st')(c:oX xs ys lo):Sx κ ok st ys (setArr st' ys):=⟨h.kind,rfl,h.pend,h.fail,fun x hx=>h.ok x (c.perm.mem_iff.mp hx)⟩
theorem lQ(R:Rk M A E s κ ok K){st st':SortSt}{xs:Array Keyed}{i j:Nat}{Q:Option Bool->SortSt->Prop}(h:Sx κ ok st xs st')(hi:i<xs.size)(hj:j<xs.size)(q:Q (some (decide (K (it xs i)<K (it xs j)))) st'):wpS M A E s (ltAt' i j) Q st':=by rw[ltAt'_eq];refine wpS_bind (wpS_get ?_);show wpS M A E s (elem' (arrOf st') i>>=fun x=>elem' (arrOf st') j>>=fun y=>lt' x y) Q st';rw[h.arr];exact wpS_bind (bJ hi (wpS_bind (bJ hj (R.lt (h.ok _ (dw hi)) (h.ok _ (dw hj)) h.kind q))))
theorem qy{st st':SortSt}{xs:Array Keyed}{lo i j:Nat}{Q:Unit->SortSt->Prop}(h:Sx κ ok st xs st')(hl:lo<=i)(hj:j<=xs.size)(q:∀st2,Sx κ ok st (mirror xs i j ((j-i)/2)) st2->Q () st2):wpS M A E s (reverseSlice' i j) Q st':=by rw[reverseSlice'_eq];refine wpS_modify ?_;rw[h.arr];exact q _ (h.set (jr hl hj))
theorem yq(R:Rk M A E s κ ok K){st st':SortSt}{xs:Array Keyed}{lo a n:Nat}{Q:Option (Option Nat)×Nat->SortSt->Prop}(h:Sx κ ok st xs st')(hn:lo+n<=xs.size)(ha:1<=a)(han:a<=n)(hs:Seg K xs lo (lo+a))(q:∀m,a<=m->m<=n->Seg K xs lo (lo+m)->(m=n\/K (it xs (lo+m))<K (it xs (lo+m-1)))->Q (none,m) st'):wpS M A E s (forIn [a:n] ((none,a):Option (Option Nat)×Nat) fun _ c=>ltAt' (lo+c.2) (lo+c.2-1)>>=fun o=>match o with|some b=>if b=true then pure (.done (none,c.2))else pure (.yield (none,c.2+1))|_=>pure (.done (some none,c.2))) Q st':=by
 refine wpS_forRange (I:=fun x c st2=>st2=st'/\c=(none,x)/\Seg K xs lo (lo+x)) ?_ ?_ ⟨rfl,rfl,hs⟩
 . rintro x c st2 h1 h2⟨rfl,rfl,hs'⟩;try dsimp only
   refine wpS_bind (lQ R h (by omega) (by omega) ?_);by_cases c:K (it xs (lo+x))<K (it xs (lo+x-1))
   . rw[decide_eq_true c];try dsimp only
     rw[if_pos rfl];exact wpS_pure (q x h1 (by omega) hs' (.inr c))
   . rw[decide_eq_false c];try dsimp only
     rw[if_neg (by simp)];refine wpS_pure ⟨rfl,rfl,fun i j i1 ij jx=>?_⟩;by_cases hj:j<lo+x;.exact hs' i j i1 ij hj
     . have:j=lo+x:=by omega
       subst this;by_cases e:i=lo+x;.rw[e];exact Int.le_refl _
       .have:=hs' i (lo+x-1) i1 (by omega) (by omega);omega
 .rintro c st2⟨rfl,rfl,hs'⟩;rw[show max a n=n by omega]at hs' ⊢;exact q n han (Nat.le_refl _) hs' (.inl rfl)
theorem Jz(R:Rk M A E s κ ok K){st st':SortSt}{xs:Array Keyed}{lo a n:Nat}{Q:Option (Option Nat)×Nat×Nat->SortSt->Prop}(h:Sx κ ok st xs st')(hn:lo+n<=xs.size)(ha:1<=a)(han:a<=n)(hs:Ka K xs lo (lo+a))(q:∀ys st2 m e,oX xs ys lo->Sx κ ok st ys st2->a<=m->m<=n->Ka K ys lo (lo+m)->e+1<=m->(∀i,lo+m-(e+1)<=i->i<lo+m->K (it ys i)=K (it ys (lo+m-1)))->Q (none,m,e) st2):wpS M A E s (forIn [a:n] ((none,a,0):Option (Option Nat)×Nat×Nat) fun _ c=>ltAt' (lo+c.2.1) (lo+c.2.1-1)>>=fun o=>match o with
  |some b=>if b=true then(if c.2.2>0 then reverseSlice' (lo+c.2.1-(c.2.2+1)) (lo+c.2.1)>>=fun _=>pure (.yield (none,c.2.1+1,0))else pure (.yield (none,c.2.1+1,0)))else ltAt' (lo+c.2.1-1) (lo+c.2.1)>>=fun o=>match o with|some b=>if b=true then pure (.done (none,c.2.1,c.2.2))else pure (.yield (none,c.2.1+1,c.2.2+1))|_=>pure (.done (some none,c.2.1,c.2.2))
  |_=>pure (.done (some none,c.2.1,c.2.2))) Q st':=by
 refine wpS_forRange (I:=fun x c st2=>∃ys e,c=(none,x,e)/\oX xs ys lo/\Sx κ ok st ys st2/\Ka K ys lo (lo+x)/\e+1<=x/\∀i,lo+x-(e+1)<=i->i<lo+x->K (it ys i)=K (it ys (lo+x-1))) ?_ ?_ ⟨xs,0,rfl,.refl _ _,h,hs,by omega,fun i h1 h2=>by rw[show i=lo+a-1 by omega]⟩
 . rintro x c st2 h1 h2⟨ys,e,rfl,hc,hx,hd,he,hq⟩;have hsz:=hc.size;try dsimp only
   refine wpS_bind (lQ R hx (by omega) (by omega) ?_);by_cases c:K (it ys (lo+x))<K (it ys (lo+x-1))
   . rw[decide_eq_true c];try dsimp only
     rw[if_pos rfl];have more:∀zs:Array Keyed,(∀i,K (it zs i)=K (it ys i))->Ka K zs lo (lo+(x+1)):=fun zs hz i j i1 ij jx=>by
      rw[hz,hz];by_cases hj:j<lo+x;.exact hd i j i1 ij hj
      . have:j=lo+x:=by omega
        subst this;by_cases e:i=lo+x;.rw[e];exact Int.le_refl _
        .have:=hd i (lo+x-1) i1 (by omega) (by omega);omega
     by_cases c2:e>0
     . rw[if_pos c2];refine wpS_bind (qy (lo:=lo) hx (by omega) (by omega) fun st3 h3=>wpS_pure ⟨_,0,rfl,hc.trans (jr (by omega) (by omega)),h3,more _ fun i=>?_,by omega,fun i h1 h2=>by rw[show i=lo+(x+1)-1 by omega]⟩);rw[jW (by omega)];split;.rw[hq _ (by omega) (by omega),hq i (by omega) (by omega)]
       .rfl
     .rw[if_neg c2];exact wpS_pure ⟨ys,0,rfl,hc,hx,more ys fun _=>rfl,by omega,fun i h1 h2=>by rw[show i=lo+(x+1)-1 by omega]⟩
   . rw[decide_eq_false c];try dsimp only
     rw[if_neg (by simp)];refine wpS_bind (lQ R hx (by omega) (by omega) ?_);by_cases c2:K (it ys (lo+x-1))<K (it ys (lo+x))
     . rw[decide_eq_true c2];try dsimp only
       rw[if_pos rfl];exact wpS_pure (q ys st2 x e hc hx h1 (by omega) hd he hq)
     . rw[decide_eq_false c2];try dsimp only
       rw[if_neg (by simp)];have eqx:K (it ys (lo+x))=K (it ys (lo+x-1)):=by omega
       refine wpS_pure ⟨ys,e+1,rfl,hc,hx,fun i j i1 ij jx=>?_,by omega,fun i i1 i2=>?_⟩
       . by_cases hj:j<lo+x;.exact hd i j i1 ij hj
         . have:j=lo+x:=by omega
           subst this;by_cases e:i=lo+x;.rw[e];exact Int.le_refl _
           .rw[eqx];exact hd i (lo+x-1) i1 (by omega) (by omega)
       . rw[show lo+(x+1)-1=lo+x by omega];by_cases e':i=lo+x;.rw[e']
         .rw[eqx];exact hq i (by omega) (by omega)
 .rintro c st2⟨ys,e,rfl,hc,hx,hd,he,hq⟩;rw[show max a n=n by omega]at*;exact q ys st2 n e hc hx han (Nat.le_refl _) hd he hq
end
end HH
end
section
namespace HH
open PySem PyProof.Rows
section
variable{M:Model}{A:Around}{E:Value->Shared->Prop}{s:Shared}{κ:SortKind}{ok:Keyed->Prop}{K:Keyed->Int}
theorem Ie{xs:Array Keyed}{lo n:Nat}(hn:lo+n<=xs.size)(h:Ka K xs lo (lo+n)):Seg K (mirror xs lo (lo+n) ((lo+n-lo)/2)) lo (lo+n):=fun i j i1 ij jn=>by rw[jW hn,jW hn,if_pos (by omega),if_pos (by omega)];exact h _ _ (by omega) (by omega) (by omega)
theorem Ig(R:Rk M A E s κ ok K){st st':SortSt}{xs:Array Keyed}{lo n:Nat}{Q:Option Nat->SortSt->Prop}(h:Sx κ ok st xs st')(hn:lo+n<=xs.size)(h1:1<=n)(q:∀ys st2 m,oX xs ys lo->Sx κ ok st ys st2->1<=m->m<=n->Seg K ys lo (lo+m)->Q (some m) st2):wpS M A E s (countRun' lo n) Q st':=by
 have one:∀ys:Array Keyed,Seg K ys lo (lo+1):=fun ys i j i1 ij jn=>by rw[show i=j by omega];exact Int.le_refl _
 show wpS M A E s (_>>=_) Q st';refine wpS_bind (yq (a:=1) (n:=n) R h hn (Nat.le_refl 1) h1 (one xs) fun m m1 m2 sm hor=>?_);dsimp only;by_cases c1:m=n;.rw[if_pos (by simpa using c1)];exact wpS_pure (q xs st' m (.refl _ _) h m1 m2 sm)
 rw[if_neg (by simpa using c1)];have hlt:=hor.resolve_left c1;by_cases c2:m>1;rw[if_pos c2];refine wpS_bind (lQ R h (by omega) (by omega) ?_);by_cases c3:K (it xs lo)<K (it xs (lo+m-1))
 . rw[decide_eq_true c3];try dsimp only
   rw[if_pos rfl];exact wpS_pure (q xs st' m (.refl _ _) h m1 m2 sm)
 rw[decide_eq_false c3];try dsimp only
 rw[if_neg (by simp)];have hall:∀k,lo<=k->k<lo+m->K (it xs k)=K (it xs (lo+m-1)):=fun k k1 k2=>by have a1:=sm lo k (Nat.le_refl _) k1 k2;have a2:=sm k (lo+m-1) k1 (by omega) (by omega);omega
 refine wpS_bind (qy (lo:=lo) h (Nat.le_refl _) (by omega) fun st2 h2=>?_);have hc:oX xs (mirror xs lo (lo+m) ((lo+m-lo)/2)) lo:=jr (Nat.le_refl _) (by omega);have hd:Ka K (mirror xs lo (lo+m) ((lo+m-lo)/2)) lo (lo+(m+1)):=fun i j i1 ij jn=>by
  have e:∀k,lo<=k->k<lo+m->K (it (mirror xs lo (lo+m) ((lo+m-lo)/2)) k)=K (it xs (lo+m-1)):=fun k k1 k2=>by rw[jW (by omega),if_pos (by omega)];exact hall _ (by omega) (by omega)
  by_cases hj:j<lo+m;.rw[e i i1 (by omega),e j (by omega) hj];exact Int.le_refl _
  . have:j=lo+m:=by omega
    subst this;by_cases e':i=lo+m;.rw[e'];exact Int.le_refl _
    .rw[e i i1 (by omega),jW (by omega),if_neg (by omega)];omega
 generalize mirror xs lo (lo+m) ((lo+m-lo)/2)=ys at h2 hc hd;rotate_left;rw[if_neg c2];have hd0:Ka K xs lo (lo+(m+1)):=fun i j i1 ij jn=>by
  by_cases e:i=j;.rw[e];exact Int.le_refl _
  . have e1:i=lo:=by omega
    have e2:j=lo+m:=by omega
    rw[e1,e2];rw[show lo+m-1=lo by omega]at hlt;omega
 obtain⟨ys,hc,h2,hd⟩:∃ys,oX xs ys lo/\Sx κ ok st ys st'/\Ka K ys lo (lo+(m+1)):=⟨xs,.refl _ _,h,hd0⟩;all_goals
  have hsz:=hc.size;refine wpS_bind (wp_rule ?_);refine wpS_bind (Jz (a:=m+1) R h2 (by omega) (by omega) (by omega) hd fun zs st3 p e hcz hx3 p1 p2 hdz he hq=>?_);have hsz2:=hcz.size;dsimp only;by_cases ce:e>0
  . rw[if_pos ce];refine wpS_bind (qy (lo:=lo) hx3 (by omega) (by omega) fun Jo h4=>?_);have hc4:oX xs (mirror zs (lo+p-(e+1)) (lo+p) ((lo+p-(lo+p-(e+1)))/2)) lo:=hc.trans (hcz.trans (jr (by omega) (by omega)));have hd4:Ka K (mirror zs (lo+p-(e+1)) (lo+p) ((lo+p-(lo+p-(e+1)))/2)) lo (lo+p):=fun i j i1 ij jn=>by
     have ez:∀k,K (it (mirror zs (lo+p-(e+1)) (lo+p) ((lo+p-(lo+p-(e+1)))/2)) k)=K (it zs k):=fun k=>by
      rw[jW (by omega)];split;.rw[hq _ (by omega) (by omega),hq k (by omega) (by omega)]
      .rfl
     rw[ez,ez];exact hdz i j i1 ij jn
    generalize mirror zs (lo+p-(e+1)) (lo+p) ((lo+p-(lo+p-(e+1)))/2)=us at h4 hc4 hd4;have hs4:=hc4.size;have hc5:oX us (mirror us lo (lo+p) ((lo+p-lo)/2)) lo:=jr (Nat.le_refl _) (by omega);refine wpS_bind (qy (lo:=lo) h4 (Nat.le_refl _) (by omega) fun Mu h5=>?_);refine wpS_bind (yq R h5 (by rw[hc5.size];omega) (by omega) p2 (Ie (by omega) hd4) fun u u1 u2 su _=>?_);exact wpS_pure (q _ Mu u (hc4.trans hc5) h5 (by omega) u2 su)
  .rw[if_neg ce];have hs4:=(hc.trans hcz).size;have hc5:oX zs (mirror zs lo (lo+p) ((lo+p-lo)/2)) lo:=jr (Nat.le_refl _) (by omega);refine wpS_bind (qy (lo:=lo) hx3 (Nat.le_refl _) (by omega) fun Mu h5=>?_);refine wpS_bind (yq R h5 (by rw[hc5.size];omega) (by omega) p2 (Ie (by omega) hdz) fun u u1 u2 su _=>?_);exact wpS_pure (q _ Mu u ((hc.trans hcz).trans hc5) h5 (by omega) u2 su)
theorem Pu(R:Rk M A E s κ ok K){st st':SortSt}{xs:Array Keyed}{lo n o:Nat}{Q:Bool->SortSt->Prop}(h:Sx κ ok st xs st')(hn:lo+n<=xs.size)(ho:o<=n)(hs:Seg K xs lo (lo+o))(q:∀ys st2,oX xs ys lo->Sx κ ok st ys st2->Seg K ys lo (lo+n)->Q true st2):wpS M A E s (binarySort' lo n o) Q st':=by
 show wpS M A E s (_>>=_) Q st';refine wpS_bind (wpS_mono (wpS_forRange (I:=fun k c st2=>∃ys,c=(none,())/\oX xs ys lo/\Sx κ ok st ys st2/\Seg K ys lo (lo+min k n)) (Q:=fun c st2=>∃ys,c=(none,())/\oX xs ys lo/\Sx κ ok st ys st2/\Seg K ys lo (lo+n)) ?_ ?_ ?_) ?_)
 . rintro k c st2 k1 k2⟨ys,rfl,hc,hx,sg⟩;rw[show min k n=k by omega]at sg;have hsz:=hc.size;refine wpS_bind (wpS_mono (wpS_forRange (I:=fun x c st3=>st3=st2/\∃l r,c=(none,l,r)/\l<=r/\r<=k/\r-l<=k-x/\(∀i,lo<=i->i<lo+l->K (it ys i)<=K (it ys (lo+k)))/\∀i,lo+r<=i->i<lo+k->K (it ys (lo+k))<K (it ys i)) (Q:=fun c st3=>st3=st2/\∃l r,c=(none,l,r)/\l<=k/\(∀i,lo<=i->i<lo+l->K (it ys i)<=K (it ys (lo+k)))/\∀i,lo+l<=i->i<lo+k->K (it ys (lo+k))<K (it ys i)) ?_ ?_ ⟨rfl,0,k,rfl,by omega,by omega,by omega,fun i a b=>by omega,fun i a b=>by omega⟩) ?_)
   . rintro x c st3 _ xk⟨rfl,l,r,rfl,a1,a2,a3,a4,a5⟩;dsimp only;by_cases e:l ≥ r
     . rw[if_pos e];have:l=r:=by omega
       subst this;exact wpS_pure ⟨rfl,l,l,rfl,a2,a4,a5⟩
     . rw[if_neg e];refine wpS_bind (lQ R hx (by omega) (by omega) ?_);by_cases c:K (it ys (lo+k))<K (it ys (lo+(l+r)/2));.rw[decide_eq_true c];dsimp only;rw[if_pos rfl];exact wpS_pure ⟨rfl,_,_,rfl,by omega,by omega,by omega,a4,fun i i1 i2=>Int.lt_of_lt_of_le c (sg _ _ (by omega) i1 i2)⟩
       .rw[decide_eq_false c];dsimp only;rw[if_neg (by simp)];exact wpS_pure ⟨rfl,_,_,rfl,by omega,a2,by omega,fun i i1 i2=>Int.le_trans (sg i (lo+(l+r)/2) i1 (by omega) (by omega)) (Int.not_lt.mp c),a5⟩
   . rintro c st3⟨rfl,l,r,rfl,a1,a2,a3,a4,a5⟩;have:l=r:=by omega
     subst this;exact⟨rfl,l,l,rfl,a2,a4,a5⟩
   . rintro c st3⟨rfl,l,r,rfl,a2,a4,a5⟩;show wpS M A E s (moveDown' (lo+k) (lo+l)>>=fun _=>pure (ForInStep.yield (none,()))) _ _;rw[moveDown'_eq];refine wpS_bind (wpS_modify (wpS_pure ?_));rw[hx.arr];have hb:oX ys (bubble ys (lo+k) (lo+k-(lo+l))) lo:=Lq (by omega) (by omega) (by omega);refine⟨_,rfl,hc.trans hb,hx.set hb,fun i j i1 ij jn=>?_⟩;rw[show min (k+1) n=k+1 by omega]at jn;rw[yR (by omega) (by omega),yR (by omega) (by omega),show lo+k-(lo+k-(lo+l))=lo+l by omega];repeat' split
     all_goals first|(exfalso;omega)|exact Int.le_refl _|exact a4 _ (by omega) (by omega)|exact Int.le_of_lt (a5 _ (by omega) (by omega))|exact sg _ _ (by omega) (by omega) (by omega)
 .rintro c st2⟨ys,hc0,hc,hx,sg⟩;rw[show min (max (max o 1) n) n=n by omega]at sg;exact⟨ys,hc0,hc,hx,sg⟩
 . refine⟨xs,rfl,.refl _ _,h,fun i j i1 ij jn=>?_⟩;by_cases e:i=j;.rw[e];exact Int.le_refl _
   .exact hs i j i1 ij (by omega)
 .rintro c st2⟨ys,rfl,hc,hx,sg⟩;exact wpS_pure (q ys st2 hc hx sg)
end
end HH
end
section
namespace HH
open PySem PyProof.Rows
noncomputable abbrev Rn:=Nat×Nat×Nat
section
variable{K:Keyed->Int}{xs ys:Array Keyed}
noncomputable def Dr(K:Keyed->Int)(xs:Array Keyed):Nat->List Rn->Nat->Prop|a,[],b=>a=b|a,r::l,b=>r.1=a/\1<=r.2.1/\Seg K xs a (a+r.2.1)/\Dr K xs (a+r.2.1) l b
theorem gq:∀{l k:List Rn}{a b:Nat},Dr K xs a (l++k) b↔∃m,Dr K xs a l m/\Dr K xs m k b
 |[],k,a,b=>⟨fun h=>⟨a,rfl,h⟩,fun⟨m,h1,h2⟩=>by cases(show a=m from h1);exact h2⟩|r::l,k,a,b=>by
   rw[List.cons_append];constructor;.rintro⟨h1,h2,h3,h4⟩;obtain⟨m,h5,h6⟩:=gq.mp h4;exact⟨m,⟨h1,h2,h3,h5⟩,h6⟩
   .rintro⟨m,⟨h1,h2,h3,h4⟩,h5⟩;exact⟨h1,h2,h3,gq.mpr ⟨m,h4,h5⟩⟩
theorem pM:∀{l:List Rn}{a b:Nat},Dr K xs a l b->a+l.length<=b|[],a,b,h=>by cases(show a=b from h);simp|r::l,a,b,⟨_,h2,_,h4⟩=>by have:=pM h4;simp only[List.length_cons];omega
theorem wG{lo hi:Nat}(h:∀i,lo<=i->i<hi->it ys i=it xs i)(s:Seg K xs lo hi):Seg K ys lo hi:=fun i j i1 ij jn=>by rw[h i i1 (by omega),h j (by omega) jn];exact s i j i1 ij jn
theorem lz:∀{l:List Rn}{a b:Nat},(∀i,a<=i->i<b->it ys i=it xs i)->Dr K xs a l b->Dr K ys a l b|[],_,_,_,h=>h|r::l,a,b,e,⟨h1,h2,h3,h4⟩=>by have:=pM h4;exact⟨h1,h2,wG (fun i i1 i2=>e i i1 (by omega)) h3,lz (fun i i1 i2=>e i (by omega) i2) h4⟩
theorem K9{r r':Rn}{a b:Nat}(h1:r'.1=r.1)(h2:r'.2.1=r.2.1){l:List Rn}(h:Dr K xs a (l++[r]) b):Dr K xs a (l++[r']) b:=by obtain⟨m,g1,g2,g3,g4,g5⟩:=gq.mp h;exact gq.mpr ⟨m,g1,h1.trans g2,by omega,by rw[h2];exact g4,by rw[h2];exact g5⟩
theorem Js{lo:Nat}(h:ys.toList.take lo=xs.toList.take lo)(i:Nat)(hi:i<lo):it ys i=it xs i:=by rw[ir,ir,List.getD_eq_getElem?_getD,List.getD_eq_getElem?_getD];have e:=congrArg (fun l=>l[i]?) h;simp only[List.getElem?_take,hi,if_true]at e;rw[e]
theorem Ac{hi:Nat}(h:ys.toList.drop hi=xs.toList.drop hi)(i:Nat)(h1:hi<=i):it ys i=it xs i:=by rw[ir,ir,List.getD_eq_getElem?_getD,List.getD_eq_getElem?_getD];have e:=congrArg (fun l=>l[i-hi]?) h;simp only[List.getElem?_drop,show hi+(i-hi)=i by omega]at e;rw[e]
theorem Mr{l1 l2:List Rn}{a b:Nat}{r1 r2:Rn}{p:Nat}(h:Dr K xs a (l1++r1::r2::l2) b)(g:Uh K xs ys r1.1 (r2.1+r2.2.1)):Dr K ys a (l1++(r1.1,r1.2.1+r2.2.1,p)::l2) b:=by
 obtain⟨m,g1,g2,g3,g4,g5,g6,g7,g8⟩:=gq.mp h;subst g2;have e:=pM g8;refine gq.mpr ⟨r1.1,lz (fun i i1 i2=>Js g.pre i i2) g1,rfl,by show 1<=r1.2.1+r2.2.1;omega,?_,?_⟩;.show Seg K ys r1.1 (r1.1+(r1.2.1+r2.2.1));have:=g.seg;rw[g5]at this;rwa[<-Nat.add_assoc]
 .show Dr K ys (r1.1+(r1.2.1+r2.2.1)) l2 b;rw[<-Nat.add_assoc];exact lz (fun i i1 i2=>Ac g.post i (by rw[g5];exact i1)) g8
theorem Ia{l:List Rn}{i:Nat}(h:i+1<l.length):∃l1 r1 r2 l2,l=l1++r1::r2::l2/\l1.length=i:=by refine⟨l.take i,l[i],l[i+1],l.drop (i+2),?_,by simp;omega⟩;rw[<-List.drop_eq_getElem_cons (by omega),<-List.drop_eq_getElem_cons (by omega),List.take_append_drop]
theorem qj:∀{l:List Rn},l≠[]->∃k r,l=k++[r]|[],h=>absurd rfl h|[r],_=>⟨[],r,rfl⟩|r::x::l,_=>by obtain⟨k,q,e⟩:=qj (l:=x::l) (by simp);exact⟨r::k,q,by rw[e];rfl⟩
theorem zY(x r1 r2:Rn)(l2:List Rn):∀l1:List Rn,((l1++r1::r2::l2).set l1.length x).eraseIdx (l1.length+1)=l1++x::l2|[]=>rfl|r::l1=>by show r::((l1++r1::r2::l2).set l1.length x).eraseIdx (l1.length+1)=r::(l1++x::l2);rw[zY x r1 r2 l2 l1]
end
section
variable{M:Model}{A:Around}{E:Value->Shared->Prop}{s:Shared}{κ:SortKind}{ok:Keyed->Prop}{K:Keyed->Int}
structure SR(κ:SortKind)(ok:Keyed->Prop)(K:Keyed->Int)(x0 ys:Array Keyed)(l:List Rn)(lo:Nat)(st:SortSt):Prop where
 kind:kindOf st=κ
 arr:arrOf st=ys
 fail:failedOf st=none
 pend:(pendingOf st).toList=l
 perm:ys.toList.Perm x0.toList
 ok:∀x∈ys.toList,ok x
 Vh:Dr K ys 0 l lo
 le:lo<=ys.size
theorem SR.sx{x0 ys:Array Keyed}{l:List Rn}{lo:Nat}{st:SortSt}(h:SR κ ok K x0 ys l lo st):Sx κ ok st ys st:=⟨h.kind,h.arr,rfl,h.fail,h.ok⟩
theorem Ag(R:Rk M A E s κ ok K){x0 ys:Array Keyed}{l:List Rn}{lo i:Nat}{st:SortSt}{Q:Bool->SortSt->Prop}(h:SR κ ok K x0 ys l lo st)(hi:i+1<l.length)(q:∀zs k st2,SR κ ok K x0 zs k lo st2->k.length+1=l.length->(∀j,lo<=j->it zs j=it ys j)->Q true st2):wpS M A E s (mergeAt' i) Q st:=by
 obtain⟨l1,r1,r2,l2,e,hl⟩:=Ia hi;have hr:=h.Vh;rw[e]at hr;obtain⟨m,g1,g2,g3,g4,g5,g6,g7,g8⟩:=gq.mp hr;have hle:=pM g8;have hz:=h.le;have hp:=h.pend;have ei:(pendingOf st)[i]?=some (r1.1,r1.2.1,r1.2.2):=by rw[<-Array.getElem?_toList,hp,e,<-hl];simp
 have ej:(pendingOf st)[i+1]?=some (r2.1,r2.2.1,r2.2.2):=by rw[<-Array.getElem?_toList,hp,e,<-hl];simp
 refine RX R h.kind (by rw[h.arr];exact h.ok) h.fail ei ej (by omega) g3 g6 (by rw[h.arr];omega) (by rw[h.arr,g2,g5];exact g4) (by rw[h.arr,g5];exact g7) fun st2 a1 a2 a3 a4=>?_;rw[h.arr]at a4;have hr2:=Mr (p:=r1.2.2) hr a4;refine q (arrOf st2) (l1++(r1.1,r1.2.1+r2.2.1,r1.2.2)::l2) st2 ⟨a1,rfl,a2,?_,a4.perm.trans h.perm,fun x hx=>h.ok x (a4.perm.mem_iff.mp hx),hr2,?_⟩ (by rw[e];simp only[List.length_append,List.length_cons];omega) fun j hj=>Ac a4.post j (by omega);.rw[a3];rw[Array.toList_eraseIdxIfInBounds,Array.toList_setIfInBounds,hp,e,<-hl];exact zY _ _ _ _ _
 .have:=a4.perm.length_eq;simp only[Array.length_toList]at this;omega
end
end HH
end
section
namespace HH
open PySem PyProof.Rows
section
variable{M:Model}{A:Around}{E:Value->Shared->Prop}{s:Shared}{κ:SortKind}{ok:Keyed->Prop}{K:Keyed->Int}
theorem SR.move{x0 ys zs:Array Keyed}{l:List Rn}{lo:Nat}{st st2:SortSt}(h:SR κ ok K x0 ys l lo st)(c:oX ys zs lo)(x:Sx κ ok st zs st2):SR κ ok K x0 zs l lo st2:=⟨x.kind,x.arr,x.fail,by rw[x.pend];exact h.pend,c.perm.trans h.perm,x.ok,lz (fun i _ i2=>c.pre i i2) h.Vh,by rw[c.size];exact h.le⟩
theorem vY{r:Rn}{f:Rn->Rn}:∀k:List Rn,(k++[r]).modify (k.length+1-1) f=k++[f r]|[]=>rfl|x::k=>by show x::(k++[r]).modify k.length f=x::(k++[f r]);rw[<-vY k];rfl
theorem qg{p:Array Rn}{k:List Rn}{r:Rn}{f:Rn->Rn}(h:p.toList=k++[r]):(p.modify (p.size-1) f).toList=k++[f r]:=by
 have hz:p.size=k.length+1:=by rw[<-Array.length_toList,h];simp
 rw[Array.toList_modify,h,hz];exact vY k
theorem SR.push{x0 ys:Array Keyed}{l:List Rn}{lo n:Nat}{st:SortSt}(h:SR κ ok K x0 ys l lo st)(h1:1<=n)(h2:lo+n<=ys.size)(hs:Seg K ys lo (lo+n)):SR κ ok K x0 ys (l++[(lo,n,0)]) (lo+n) (setPending st ((pendingOf st).push (lo,n,0))):=⟨h.kind,h.arr,h.fail,by show((pendingOf st).push (lo,n,0)).toList=_;rw[Array.toList_push,h.pend],h.perm,h.ok,gq.mpr ⟨lo,h.Vh,rfl,h1,hs,rfl⟩,h2⟩
theorem SR.pow{x0 ys:Array Keyed}{l:List Rn}{lo pw:Nat}{st:SortSt}(h:SR κ ok K x0 ys l lo st)(hl:l≠[]):∃k,k≠[]/\SR κ ok K x0 ys k lo (setPending st ((pendingOf st).modify ((pendingOf st).size-1) fun(a,b,_)=>(a,b,pw))):=by obtain⟨k,r,e⟩:=qj hl;have hr:=h.Vh;have hp:=h.pend;rw[e]at hr hp;exact⟨k++[(r.1,r.2.1,pw)],by simp,h.kind,h.arr,h.fail,qg hp,h.perm,h.ok,K9 (r:=r) (r':=(r.1,r.2.1,pw)) rfl rfl hr,h.le⟩
theorem Rj{p:Prop}[Decidable p]{a n:Nat}(h:a+1<n):(if p then a-1 else a)+1<n:=by split<;>omega
theorem Mt(R:Rk M A E s κ ok K){x0:Array Keyed}{Q:Unit->SortSt->Prop}{st:SortSt}(h:SR κ ok K x0 x0 [] 0 st)(q:∀ys st',arrOf st'=ys->failedOf st'=none->ys.toList.Perm x0.toList->Seg K ys 0 ys.size->Q () st'):wpS M A E s sortRuns' Q st:=by
 rw[sortRuns'_eq];refine wpS_bind (wpS_get ?_);dsimp only;simp only[h.arr];have big:∀{ys l lo st},SR κ ok K x0 ys l lo st->ys.size=x0.size:=fun h=>by simpa using h.perm.length_eq
 generalize minRun' x0.size x0.size 0=mr;refine wpS_bind (wpS_mono (wpS_forRange (I:=fun x c st'=>∃ys l lo,c=(none,lo)/\SR κ ok K x0 ys l lo st'/\x<=lo) (Q:=fun c st'=>∃ys l,c=(none,x0.size)/\SR κ ok K x0 ys l x0.size st') ?_ ?_ ⟨x0,[],0,rfl,h,Nat.le_refl _⟩) ?_)
 . rintro x c st1 _ hx⟨ys,l,lo,rfl,hS,hlo⟩;have hz:=big hS;have hle:=hS.le;dsimp only;by_cases c1:lo ≥ x0.size
   . rw[if_pos c1];have:lo=x0.size:=by omega
     subst this;exact wpS_pure ⟨ys,l,rfl,hS⟩
   rw[if_neg c1];refine wpS_bind (Ig R hS.sx (lo:=lo) (n:=x0.size-lo) (by omega) (by omega) fun ys1 st2 m ch hx1 m1 m2 sg=>?_);have hS1:=hS.move ch hx1;have hz1:=big hS1;dsimp only;by_cases c2:m<mr;case' pos=>
    rw[if_pos c2];refine wpS_bind (wpS_lift (wpAny_rule ⟨rfl,?_⟩));refine wpS_bind (Pu R hx1 (lo:=lo) (n:=min (x0.size-lo) mr) (by omega) (by omega) sg fun Oq st3 ch2 hx2 sg2=>?_);simp only[Bool.not_true,Bool.false_eq_true,if_false];replace hS1:=hS.move (ch.trans ch2) hx2;replace hz1:=big hS1;replace m1:1<=min (x0.size-lo) mr:=by omega
    replace m2:min (x0.size-lo) mr<=x0.size-lo:=by omega
    generalize min (x0.size-lo) mr=n at*
   case' neg=>rw[if_neg c2];clear ch;obtain⟨Oq,hys⟩:∃Oq,Oq=ys1:=⟨_,rfl⟩;obtain⟨st3,hst⟩:∃st3,st3=st2:=⟨_,rfl⟩;obtain⟨n,hn⟩:∃n,n=m:=⟨_,rfl⟩;subst hys hst hn;have sg2:=sg
   all_goals refine wpS_bind (wpS_get ?_);cases hb:(pendingOf st3).back? with|none=>dsimp only;exact wpS_bind (wpS_modify (wpS_pure ⟨Oq,_,lo+n,rfl,hS1.push m1 (by omega) sg2,by omega⟩))|some r=>
      obtain⟨s1,n1,p1⟩:=r;dsimp only;have hne:l≠[]:=by rintro rfl;have:pendingOf st3=#[]:=Array.toList_inj.mp hS1.pend;rw[this]at hb;exact nomatch hb
      generalize power' x0.size (2*s1+n1) (2*s1+n1+n1+n) x0.size=pw;refine wpS_bind (wpS_mono (wpS_forRange (I:=fun _ c st'=>∃ys k,c=(none,())/\k≠[]/\SR κ ok K x0 ys k lo st'/\∀j,lo<=j->it ys j=it Oq j) (Q:=fun c st'=>∃ys k,c=(none,())/\k≠[]/\SR κ ok K x0 ys k lo st'/\∀j,lo<=j->it ys j=it Oq j) ?_ (fun _ _ h=>h) ⟨Oq,l,rfl,hne,hS1,fun _ _=>rfl⟩) ?_)
      . rintro y c Jo _ _⟨ys3,k,rfl,hk,Vi,sm⟩;refine wpS_bind (wpS_get ?_);try dsimp only
        have stop:∃ys k,((none,()):Option Unit×Unit)=(none,())/\k≠[]/\SR κ ok K x0 ys k lo Jo/\∀j,lo<=j->it ys j=it Oq j:=⟨ys3,k,rfl,hk,Vi,sm⟩;split
        . rename_i older ho;split;.exact wpS_pure stop
          . have hp1:(pendingOf Jo).size>1:=by
             by_cases hh:(pendingOf Jo).size>1;.exact hh
             .rw[if_neg hh]at ho;exact nomatch ho
            have hkl:k.length=(pendingOf Jo).size:=by rw[<-Vi.pend];simp
            refine wpS_bind (Ag R Vi (by omega) fun zs k2 Mu hS5 hk2 sm5=>?_);simp only[Bool.not_true,Bool.false_eq_true,if_false];exact wpS_pure ⟨zs,k2,rfl,by rintro rfl;simp at hk2;omega,hS5,fun j hj=>(sm5 j hj).trans (sm j hj)⟩
        .exact wpS_pure stop
      .rintro c Jo⟨ys3,k,rfl,hk,Vi,sm⟩;dsimp only;obtain⟨k2,_,hS4⟩:=Vi.pow (pw:=pw) hk;refine wpS_bind (wpS_modify ?_);have hz3:=big Vi;exact wpS_bind (wpS_modify (wpS_pure ⟨ys3,_,lo+n,rfl,hS4.push m1 (by omega) (wG (fun i i1 _=>sm i i1) sg2),by omega⟩))
 . rintro c st1⟨ys,l,lo,rfl,hS,hlo⟩;have:=hS.le;have:=big hS;have:lo=x0.size:=by omega
   subst this;exact⟨ys,l,rfl,hS⟩
 . rintro c st1⟨ys,l,rfl,hS⟩;dsimp only;have hl:=pM hS.Vh;refine wpS_bind (wpS_mono (wpS_forRange (I:=fun x c st'=>∃ys l,c=(none,())/\SR κ ok K x0 ys l x0.size st'/\l.length<=max 1 (x0.size-x)) (Q:=fun c st'=>∃ys l,c=(none,())/\SR κ ok K x0 ys l x0.size st'/\l.length<=1) ?_ ?_ ⟨ys,l,rfl,hS,by omega⟩) ?_)
   . rintro x c st2 _ hx⟨zs,k,rfl,hZ,hk⟩;refine wpS_bind (wpS_get ?_);try dsimp only
     have hkl:k.length=(pendingOf st2).size:=by rw[<-hZ.pend];simp
     by_cases c1:(pendingOf st2).size<=1;.rw[if_pos c1];exact wpS_pure ⟨zs,k,rfl,hZ,by omega⟩
     rw[if_neg c1];refine wpS_bind (Ag R hZ (Rj (by omega)) fun zs2 k2 Mu hS5 hk2 _=>?_);simp only[Bool.not_true,Bool.false_eq_true,if_false];exact wpS_pure ⟨zs2,k2,rfl,hS5,by omega⟩
   .rintro c st2⟨zs,k,rfl,hZ,hk⟩;exact⟨zs,k,rfl,hZ,by omega⟩
   .rintro c st2⟨zs,k,rfl,hZ,hk⟩;dsimp only;have hz:=big hZ;refine wpS_pure (q zs st2 hZ.arr hZ.fail hZ.perm ?_);match k,hk,hZ.Vh with|[],_,e=>have e:0=x0.size:=e;intro i j _ _ _;omega|[r],_,⟨_,_,g,e⟩=>have e:0+r.2.1=x0.size:=e;rw[e]at g;rwa[hz]
end
end HH
end
section
namespace HH
open PySem PySem.W PyProof.Rows PySem.Calls L2 PySem.Spec
theorem CP{α β:Type}{f:α->β}{l' m:List β}(h:l'.Perm m):∀{l:List α},m=l.map f->∃k:List α,k.Perm l/\k.map f=l':=by induction h with
 |nil=>intro l e;cases l with|nil=>exact⟨[],.refl _,rfl⟩|cons _ _=>cases e
 |cons x h ih=>intro l e;cases l with|nil=>cases e|cons a l=>obtain⟨e1,e2⟩:=List.cons.inj e;obtain⟨k,h1,h2⟩:=ih e2;exact⟨a::k,h1.cons a,by rw[List.map_cons,h2,e1]⟩
 |swap x y l0=>intro l e;match l,e with|a::b::l,e=>obtain⟨e1,e2⟩:=List.cons.inj e;obtain⟨e3,e4⟩:=List.cons.inj e2;exact⟨b::a::l,.swap ..,by rw[List.map_cons,List.map_cons,e1,e3,e4]⟩
 |trans h1 h2 ih1 ih2=>intro l e;obtain⟨k,p1,e1⟩:=ih2 e;obtain⟨k2,p2,e2⟩:=ih1 e1.symm;exact⟨k2,p2.trans p1,e2⟩
theorem J8(a:List Int):bu a a=false:=by cases h:bu a a with|false=>rfl|true=>rw[lE _ _ h]at h;cases h
theorem G7{a b x:List Int}(h:bu b a=false)(hx:bu x a=true):bu x b=true:=by cases e:bu x b with|true=>rfl|false=>rw[zb _ _ _ h e]at hx;cases hx
theorem rH{α:Type}{p q:α->Bool}(h:∀x,p x=true->q x=true):∀{l:List α},(∃x,x∈l/\q x=true/\p x=false)->l.countP p<l.countP q
 |[],⟨x,hx,_⟩=>by cases hx|y::l,⟨x,hx,h1,h2⟩=>by
   rw[List.countP_cons,List.countP_cons];have m:=List.countP_mono_left (l:=l) (p:=p) (q:=q) fun x _=>h x;rcases List.mem_cons.mp hx with rfl|hx;.rw[h1,h2,if_pos rfl,if_neg (by simp)];omega
   .have:=rH h ⟨x,hx,h1,h2⟩;cases hp:p y with|true=>rw[h y hp];omega|false=>rw[if_neg (by simp)];omega
noncomputable def QT(ds:List D)(d:D):Nat:=ds.countP fun e=>bu (bQ e) (bQ d)
theorem FW{ds:List D}{d e:D}(hd:d∈ds):decide ((QT ds d:Int)<QT ds e)=bu (bQ d) (bQ e):=by cases h:bu (bQ d) (bQ e)with|true=>have:=rH (l:=ds) (p:=fun x=>bu (bQ x) (bQ d)) (q:=fun x=>bu (bQ x) (bQ e)) (fun x hx=>G7 (lE _ _ h) hx) ⟨d,hd,h,J8 _⟩;rw[decide_eq_true_iff];unfold QT;omega|false=>have:=List.countP_mono_left (l:=ds) (p:=fun x=>bu (bQ x) (bQ e)) (q:=fun x=>bu (bQ x) (bQ d)) fun x _ hx=>G7 h hx;rw[decide_eq_false_iff_not];unfold QT;omega
open Classical in
noncomputable def rkK(P:Value->D->Prop)(ds:List D)(x:Keyed):Int:=if h:∃d,d∈ds/\P x.1 d then(QT ds h.choose:Int)else 0
theorem BP{P:Value->D->Prop}{ds:List D}{x:Keyed}{d:D}(fn:∀u d e,P u d->P u e->bQ d=bQ e)(hd:d∈ds)(hp:P x.1 d):rkK P ds x=QT ds d:=by have h:∃d,d∈ds/\P x.1 d:=⟨d,hd,hp⟩;unfold rkK;rw[dif_pos h];unfold QT;rw[fn _ _ _ h.choose_spec.2 hp]
noncomputable def pick{α:Type}(d:α)(p:List Nat)(l:List α):List α:=p.map fun i=>l.getD i d
theorem qx{α:Type}(d:α)(l:List α):pick d (List.range l.length) l=l:=by refine List.ext_getElem (by simp[pick]) fun i h1 h2=>?_;simp[pick,h2]
theorem jj{α:Type}{d:α}{p:List Nat}{l:List α}{n:Nat}(h:p.Perm (List.range n)):(pick d p l).length=n:=by rw[pick,List.length_map,h.length_eq,List.length_range]
theorem jy{P:Value->D->Prop}:∀{us:List Value}{ds:List D},Paired P us ds->∀i,i<us.length->P (us.getD i .none) (ds.getD i .non)/\ds.getD i .non∈ds|_,_,.cons r _,0,_=>⟨by simpa using r,by simp⟩|_,_,.cons _ t,i+1,hi=>by have:=jy t i (by simpa using hi);exact⟨by simpa using this.1,by simpa using Or.inr this.2⟩
section
variable{prog:Program}{w:World}{A:Around}{E:Value->Shared->Prop}{s:Shared}{vs:List Value}{κ:SortKind}{P:Value->D->Prop}{ds:List D}
theorem mX{a:Addr}{n:Nat}{O:PySem.Fin->Shared->Prop}(ho:s.heap.get? a=some (seqObj "list" vs.toArray n))(so:sortable ds=true)(hz:vs.length<=16777216)(pr:Paired P vs ds)(fn:∀u d e,P u d->P u e->bQ d=bQ e)(hk:∀h',(∀b o,b≠a->s.heap.get? b=some o->h'.get? b=some o)->∀C:SortKind->Shared->Prop,C κ {s with heap:=h'}->2<=vs.length->wpAny (model prog w) A (keyKind' vs.toArray) C (fun _ _=>False) {s with heap:=h'})(hl:∀h',(∀b o,b≠a->s.heap.get? b=some o->h'.get? b=some o)->∀u v d e,P u d->P v e->∀C:Bool->Shared->Prop,C (bu (bQ d) (bQ e)) {s with heap:=h'}->wpAny (model prog w) A (keyLt' κ u v) C (fun _ _=>False) {s with heap:=h'})(h:∀h' c p,(∀b o,b≠a->s.heap.get? b=some o->h'.get? b=some o)->p.Perm (List.range vs.length)->pick .non p ds=jG ds->h'.get? a=some (seqObj "list" (pick .none p vs).toArray c)->O (.done (.ret .none)) {s with heap:=h'}):wpAny (model prog w) A (Builtin.«list.sort» ⟨[.ref a],[]⟩) O E s:=by
 have ha:a<s.heap.objs.size:=Heap.lt_size ho;have Ej:vs.length=ds.length:=Paired.length pr;obtain⟨e1,ho1⟩:∃e1,(s.heap.update a (Obj.mapSeq fun _=>(#[]:Array Value))).get? a=some (seqObj "list" #[] e1):=⟨_,get?_update_seq ho fun _=>#[]⟩;rw[list_sort_plain];refine wpAny_bind (listItems_at ho rfl ?_);refine wpAny_bind (listUpdate_at ho rfl ?_ (by rw[List.size_toArray,sizeLine_eq];omega) (Nat.zero_le _));refine wpAny_bind (seqEpoch_at ho1 rfl ?_);refine wpAny_bind (wpAny_newTuple ?_ (by show vs.length<=_;rw[sizeLine_eq];omega));refine wpAny_bind (wpAny_newList ?_ (Nat.zero_le _));refine wpAny_holding ?_;generalize hH:(((s.heap.update a (Obj.mapSeq fun _=>(#[]:Array Value))).push {cls:=.type "tuple",data:=.seq vs.toArray}).push {cls:=.type "list",data:=.seq #[]}:Heap)=H1;have YS:H1.get? a=some (seqObj "list" #[] e1):=by rw[<-hH];exact Heap.get?_push_of_some _ (Heap.get?_push_of_some _ ho1)
 have keep:∀b o,b≠a->s.heap.get? b=some o->H1.get? b=some o:=fun b o hb e=>by rw[<-hH];exact Heap.get?_push_of_some _ (Heap.get?_push_of_some _ ((Heap.get?_update_other _ _ (Ne.symm hb)).trans e))
 have fin:∀p:List Nat,p.Perm (List.range vs.length)->pick .non p ds=jG ds->O (.done (.ret .none)) {s with heap:=H1.update a (Obj.mapSeq fun _=>List.toArray (pick .none p vs))}:=by intro p h1 h2;obtain⟨c2,hc2⟩:∃c2,(H1.update a (Obj.mapSeq fun _=>List.toArray (pick Value.none p vs))).get? a=some (seqObj "list" (pick Value.none p vs).toArray c2):=⟨_,get?_update_seq YS fun _=>List.toArray (pick Value.none p vs)⟩;exact h _ c2 p (fun b o hb e=>(Heap.get?_update_other _ _ (Ne.symm hb)).trans (keep b o hb e)) h1 h2 hc2
 show wpAny (model prog w) A _ O E {s with heap:=H1};dsimp only;by_cases h2:vs.toArray.size<2
 . rw[if_pos h2,if_pos h2];refine wpAny_bind (wpAny_pure ?_);rw[StateT.run_pure];refine wpAny_bind (wpAny_pure ?_);dsimp only;have eo:(arrOf (SortSt.mk' general' (vs.toArray.zip vs.toArray) #[] 7 none)).map (·.2)=List.toArray (pick Value.none (List.range vs.length) vs):=by rw[qx];apply Array.toList_inj.mp;show((vs.toArray.zip vs.toArray).map (·.2)).toList=vs;simp[List.map_snd_zip]
   rw[eo];refine wpAny_bind (seqEpoch_at YS rfl ?_);refine wpAny_bind (listUpdate_at YS rfl ?_ (Nat.zero_le _) (by rw[List.size_toArray,jj (.refl _),sizeLine_eq];omega));simp only[bne_self_eq_false,Bool.false_eq_true,if_false];refine wpAny_pure (fin _ (.refl _) ?_);rw[Ej,qx];refine wM so (.refl _) ?_;match ds,(show ds.length<2 by simp at h2;omega)with|[],_=>exact .nil|[_],_=>exact List.pairwise_singleton ..|_::_::_,h2=>simp at h2;omega
 . rw[if_neg h2,if_neg h2];have h2':2<=vs.length:=by simpa using h2
   refine wpAny_bind (hk H1 keep _ ?_ h2'|>fun q=>wpAny_mono q (fun _ _ x=>x) fun _ _ x=>x.elim);have hzl:(vs.toArray.zip vs.toArray).toList=(List.range vs.length).map fun i=>(vs.getD i Value.none,vs.getD i Value.none):=by
    refine List.ext_getElem (by simp) fun i h1 h2=>?_;have:i<vs.length:=by simpa using h2
    simp[this]
   have okk:∀x∈(vs.toArray.zip vs.toArray).toList,∃d,d∈ds/\P x.1 d:=fun x hx=>by rw[hzl]at hx;obtain⟨i,hi,rfl⟩:=List.mem_map.mp hx;have:=jy pr i (List.mem_range.mp hi);exact⟨_,this.2,this.1⟩
   have R:Rk (model prog w) A E {s with heap:=H1} κ (fun x=>∃d,d∈ds/\P x.1 d) (rkK P ds):=⟨by rintro x y Q st⟨d,d1,d2⟩⟨e,e1,e2⟩hkd hq;rw[BP fn d1 d2,BP fn e1 e2,FW d1]at hq;rw[lt'_eq];refine wpS_bind (wpS_get ?_);rw[hkd];refine wpS_bind (wpS_lift (wpAny_attempt (wpAny_mono (hl H1 keep x.1 y.1 d e d2 e2 (fun b s'=>s'={s with heap:=H1}/\b=bu (bQ d) (bQ e)) ⟨rfl,rfl⟩) ?_ fun _ _ h=>h.elim)));rintro b s'⟨rfl,rfl⟩;exact⟨rfl,wpS_pure hq⟩⟩;have run:=Mt R (x0:=vs.toArray.zip vs.toArray) (st:=SortSt.mk' κ (vs.toArray.zip vs.toArray) #[] 7 none) (Q:=fun _ st'=>∃p:List Nat,p.Perm (List.range vs.length)/\pick .non p ds=jG ds/\(arrOf st').map (·.2)=(pick Value.none p vs).toArray/\failedOf st'=none) ⟨rfl,rfl,rfl,rfl,.refl _,okk,rfl,Nat.zero_le _⟩ fun ys st' e1 e2 e3 e4=>by
     rw[hzl]at e3;obtain⟨p,p1,p2⟩:=CP e3 rfl;have hpl:p.length=vs.length:=by rw[p1.length_eq,List.length_range]
     have hys:ys.size=vs.length:=by rw[<-Array.length_toList,<-p2,List.length_map,hpl]
     refine⟨p,p1,wM so ?_ ?_,?_,e2⟩;.have:=p1.map fun i=>ds.getD i .non;rw[Ej]at this;exact this.trans (.of_eq (qx D.non ds))
     . rw[List.pairwise_iff_getElem];intro i j hi hj hij;simp only[pick,List.length_map]at hi hj;have sg:=e4 i j (Nat.zero_le _) (by omega) (by omega);have at':∀k(hk:k<p.length),it ys k=(vs.getD p[k] .none,vs.getD p[k] .none):=fun k hk=>by rw[ir,<-p2];simp[hk]
       have inn:∀k(hk:k<p.length),p[k]<vs.length:=fun k hk=>List.mem_range.mp (p1.mem_iff.mp (List.getElem_mem hk));rw[at' i hi,at' j hj]at sg;have a1:=jy pr p[i] (inn i hi);have a2:=jy pr p[j] (inn j hj);rw[BP fn a1.2 a1.1,BP fn a2.2 a2.1]at sg;simp only[pick,List.getElem_map,lr,Bool.not_eq_true'];rw[<-FW a2.2,decide_eq_false_iff_not];omega
     .apply Array.toList_inj.mp;rw[e1,Array.toList_map,<-p2,List.map_map];rfl
   refine wpAny_bind (wpAny_mono run ?_ fun _ _ e=>e);rintro⟨⟨⟩,st'⟩s'⟨rfl,p,p1,p2,hout,hf⟩;dsimp only;rw[hout];refine wpAny_bind (seqEpoch_at YS rfl ?_);refine wpAny_bind (listUpdate_at YS rfl ?_ (Nat.zero_le _) (by rw[List.size_toArray,jj p1,sizeLine_eq];omega));rw[hf];simp only[bne_self_eq_false,Bool.false_eq_true,if_false];exact wpAny_pure (fin _ p1 p2)
end
end HH
end
section
namespace HH
open PySem L2 PySem.Spec PyProof.Rows PySem.Calls PySem.W
section
variable{prog:Program}{w:World}{A:Around}{E:Value->Shared->Prop}{s:Shared}{vs:List Value}{κ:SortKind}{P:Value->D->Prop}{ds:List D}
theorem nq{b fin:Bool}{Q:Bool->Shared->Prop}:∀{xs ys:List Value}{is js:List Int}{i:Nat},IntsAre xs is->IntsAre ys js->fin=decide (is.length<js.length)->Q (bu is js) s->KatLex prog w A b fin Q (xs.zip ys) i s
 |_,_,_,_,_,.nil,.nil,e,h=>by subst e;exact kat_nil (by simpa[bu]using h)|_,_,_,_,_,.nil,.cons _ _ _,e,h=>by subst e;exact kat_nil (by simpa[bu]using h)|_,_,_,_,_,.cons _ _ _,.nil,e,h=>by subst e;exact kat_nil (by simpa[bu]using h)|_,_,_,_,i,.cons (ns:=is) x t r,.cons (ns:=js) y u r',e,h=>by
   refine kat_cons (wpAny_eqBool_int ?_);by_cases q:x=y;.subst q;rw[beq_self_eq_true];refine kat_yes (nq r r' (by rw[e];simp) ?_);simpa[bu]using h
   . rw[beq_eq_false_iff_ne.mpr q];refine kat_no ?_;have hx:Q (decide (x<y)) s:=by simpa[bu,q]using h
     cases(b&&i==0)with|true=>exact oneLt_int hx|false=>exact kat_one _ _ (wpAny_lt_int hx)
noncomputable def m6(h:Heap)(u:Value)(d:D):Prop:=∃a its is,u=.ref a/\IsTup h a (List.toArray its)/\IntsAre its is/\is≠[]/\bQ d=is
theorem gY{h h':Heap}(k:∀b o,h.get? b=some o->h'.get? b=some o){u:Value}{d:D}(t:m6 h u d):m6 h' u d:=by obtain⟨a,its,is,e,⟨o,h1,h2⟩,h3⟩:=t;exact⟨a,its,is,e,⟨o,k _ _ h1,h2⟩,h3⟩
theorem mK{h h':Heap}(k:∀b o,h.get? b=some o->h'.get? b=some o):∀{us:List Value}{ds:List D},Paired (m6 h) us ds->Paired (m6 h') us ds|_,_,.nil=>.nil|_,_,.cons r t=>.cons (gY k r) (mK k t)
theorem nj{h:Heap}:∀{us:List Value}{ds:List D},Paired (m6 h) us ds->∃fs,KatTups h us fs/\fs.length=us.length/\∀f∈fs,∃n t,f=Value.int n t|_,_,.nil=>⟨[],trivial,rfl,by simp⟩|_,_,.cons r t=>by obtain⟨fs,h1,h2,h3⟩:=nj t;obtain⟨a,its,is,rfl,⟨o,o1,o2,n,o3⟩,hi,hne,_⟩:=r;cases hi with|nil=>exact absurd rfl hne|cons x tk r'=>
     refine⟨.int x tk::fs,KatTups.cons o1 o2 o3 (by simp) h1,by simp[h2],fun f hf=>?_⟩;rcases List.mem_cons.mp hf with rfl|hf;.exact⟨_,_,rfl⟩
     .exact h3 f hf
theorem sJ{ds:List D}(t:Paired (m6 s.heap) vs ds)(h2:2<=vs.length){C:SortKind->Shared->Prop}(hC:C (tuples' (Value.type "int"!=Value.type "tuple")) s):wpAny (model prog w) A (keyKind' vs.toArray) C E s:=by obtain⟨fs,h1,h3,h4⟩:=nj t;refine kat_kind (T:=.type "int") h1 (by omega) (fun v hv=>?_) rfl hC;obtain⟨n,t,rfl⟩:=h4 v hv;exact Looks.now
theorem Bx{x y:Value}{d e:D}(hx:m6 s.heap x d)(hy:m6 s.heap y e){b:Bool}{C:Bool->Shared->Prop}(hC:C (bu (bQ d) (bQ e)) s):wpAny (model prog w) A (keyLt' (tuples' b) x y) C E s:=by obtain⟨a,its,is,rfl,⟨o,o1,o2,n,o3⟩,hi,hne,e1⟩:=hx;obtain⟨a',its',js,rfl,⟨o',p1,p2,n',p3⟩,hj,hne',e2⟩:=hy;refine kat_lt o1 o3 p1 p3 ?_;rw[e1,e2]at hC;refine nq (is:=is) (js:=js) (by simpa using hi) (by simpa using hj) ?_ hC;rw[List.size_toArray,List.size_toArray,IntsAre.length hi,IntsAre.length hj]
end
theorem Cr{xs:List V}{us:List Value}(h:Vals xs us)(i:Nat):RelV (xs.getD i .non) (us.getD i .none):=by
 have hl:=h.length;by_cases hi:i<xs.length
 . obtain⟨u,e,r⟩:=h.get (i:=i) (x:=xs[i]) (List.getElem?_eq_getElem hi);have e1:xs.getD i .non=xs[i]:=by simp[hi]
   have e2:us.getD i .none=u:=by simp[e]
   rw[e1,e2];exact r
 . have e1:xs.getD i .non=.non:=by simp[Nat.le_of_not_lt hi]
   have e2:us.getD i .none=.none:=by simp[show us.length<=i by omega]
   rw[e1,e2];rfl
theorem xu{f:Nat->V}{g:Nat->Value}(h:∀i,RelV (f i) (g i)):∀l:List Nat,Vals (l.map f) (l.map g)|[]=>.nil|i::l=>.cons (h i) (xu h l)
theorem p7{p:List Nat}{xs:List V}{us:List Value}(h:Vals xs us):Vals (pick .non p xs) (pick .none p us):=xu (Cr h) _
theorem vP{K:PySem.W.Frag}{F:Hp}{f:Nat->V}{g:Nat->D}(h:∀i,Rep K F (f i) (g i)):∀l:List Nat,aH K F (l.map f) (l.map g)|[]=>.nil|i::l=>.cons (h i) (vP h l)
theorem pI{K:PySem.W.Frag}{F:Hp}{p:List Nat}{xs:List V}{ds:List D}(h:aH K F xs ds):aH K F (pick .non p xs) (pick .non p ds):=vP (fun i=>by
 have hl:=h.length;by_cases hi:i<ds.length
 . obtain⟨u,e,r⟩:=h.get (i:=i) (d:=ds[i]) (List.getElem?_eq_getElem hi);have e1:ds.getD i .non=ds[i]:=by simp[hi]
   have e2:xs.getD i .non=u:=by simp[e]
   rw[e1,e2];exact r
 . have e1:ds.getD i .non=.non:=by simp[Nat.le_of_not_lt hi]
   have e2:xs.getD i .non=.non:=by simp[show xs.length<=i by omega]
   rw[e1,e2,Rep]) _
noncomputable def Gr(u:Value)(d:D):Prop:=∃n t,u=.int n t/\bQ d=[n]
theorem J5(u:Value)(d e:D):Gr u d->Gr u e->bQ d=bQ e:=fun⟨n,t,h1,h2⟩⟨m,t',h3,h4⟩=>by rw[h1]at h3;cases h3;rw[h2,h4]
theorem Ku{prog:Program}{w:World}{A:Around}{E:Value->Shared->Prop}{s:Shared}{x y:Value}{d e:D}(hx:Gr x d)(hy:Gr y e){C:Bool->Shared->Prop}(hC:C (bu (bQ d) (bQ e)) s):wpAny (model prog w) A (keyLt' oneType' x y) C E s:=by obtain⟨n,t,rfl,k1⟩:=hx;obtain⟨m,t',rfl,k2⟩:=hy;refine kat_lt_int ?_;rw[k1,k2,show bu [n] [m]=decide (n<m)by simp[bu]]at hC;exact hC
theorem MT:∀{us:List Value}{ns:List Int},IntsAre us ns->Paired Gr us (ns.map D.int)|_,_,.nil=>.nil|_,_,.cons n t r=>.cons ⟨n,t,rfl,rfl⟩ (MT r)
theorem FT{us:List Value}:∀{ns ms:List Int},IntsAre us ns->IntsAre us ms->ns=ms:=by induction us with|nil=>intro ns ms h1 h2;cases h1;cases h2;rfl|cons u us ih=>intro ns ms h1 h2;cases h1 with|cons n t r=>cases h2 with|cons m t' r'=>rw[ih r r']
theorem zX{h:Heap}(u:Value)(d e:D):m6 h u d->m6 h u e->bQ d=bQ e:=fun⟨a,its,is,h1,⟨o,o1,o2,n,o3⟩,h3,_,h4⟩⟨b,jts,js,g1,⟨o',p1,p2,m,p3⟩,g3,_,g4⟩=>by rw[h1]at g1;cases g1;rw[o1]at p1;cases p1;rw[o3]at p3;cases p3;rw[h4,g4,FT h3 g3]
theorem all_ints:∀{ds:List D},ds.all dC=true->ds=(ds.map eZ).map D.int
 |[],_=>rfl|d::ds,h=>by
   simp only[List.all_cons,Bool.and_eq_true]at h;cases d<;>first|(have q:=h.1;simp[dC]at q;done)|skip
   rw[List.map_cons,List.map_cons,<-all_ints h.2];rfl
theorem intsAre_of:∀{ns:List Int}{us:List Value},Vals (ns.map V.int) us->IntsAre us ns|[],_,.nil=>.nil|n::ns,_,.cons r t=>by obtain⟨tk,rfl⟩:=r;exact .cons n tk (intsAre_of t)
section
variable{X:Cx}{c:Call}{a:Expr}{pa:P}{pos:Pos}
theorem um{pins:List (Addr×Obj)}{σ:L2.St}{F H:Hp}{s:Shared}(I:L2.Inv X pins σ H s)(sm:aO F H):∀{ds:List D}{ys:List V}{us:List Value},aH X.K F ys ds->Vals ys us->ds.all nW=true->Paired (m6 s.heap) us ds|[],ys,us,h,v,_=>by rw[h.fL]at v;cases v;exact .nil|d::ds,ys,us,h,v,o=>by obtain⟨y,r,rfl,h1,h2⟩:=h.cB;simp only[List.all_cons,Bool.and_eq_true]at o;cases v with|cons v1 v2=>
     refine .cons ?_ (um I sm h2 v2 o.2);cases d<;>first|(have q:=o.1;simp[nW]at q;done)|skip
     rename_i ds';cases ds' with|nil=>exact absurd o.1 (by simp[nW])|cons x xs=>obtain⟨ad,zs,rfl,hq,rs,_⟩:=di.tup sm (.inl h1);cases v1;obtain⟨its,rv,it,_⟩:=I.tuple hq;rw[all_ints o.1]at rs;rw[gZ rs]at rv;exact⟨ad,its,_,rfl,it,intsAre_of rv,by simp,rfl⟩
theorem boot_sorted:bootBuiltins "sorted"=some (.builtin "sorted"):=by decide+kernel
end
end HH
end
section
namespace HH
open PySem L2 PySem.Spec PyProof.Rows PySem.Calls
theorem yj(l b:Addr)(items items2:List Value)(n n2:Nat)(dd dd2:Option Addr)(sl sl2:Array (Option Value))(is js:List Int)(hi:IntsAre items is)(hj:IntsAre items2 js):Meets (Builtin.«tuple.__lt__» ⟨[.ref l,.ref b],[]⟩) (fun A R s=>s.heap.get? l=some {cls:=.type "tuple",dict:=dd,data:=.seq items.toArray n,slots:=sl}/\s.heap.get? b=some {cls:=.type "tuple",dict:=dd2,data:=.seq items2.toArray n2,slots:=sl2}/\R (.ok (.ret (.bool (bu is js)))) s):=.of_wp fun prog w A R s h=>by
  obtain⟨hp,g,d,tk,os⟩:=s;obtain⟨hl,hb,h⟩:=h;have f2:=AutoSeq1.sub_tuple_tuple;wp_walk using wpAny_loadPart' hl,wpAny_loadPart' hb,wpAny_forIn_list _ (fun rest b s'=>b.1=none/\s'=⟨hp,g,d,tk,os⟩/\∃xs ys is' Ot,rest=xs.zip ys/\IntsAre xs is'/\IntsAre ys Ot/\decide (items.length<items2.length)=decide (is'.length<Ot.length)/\R (.ok (.ret (.bool (bu is' Ot)))) ⟨hp,g,d,tk,os⟩) _;case turn=>rintro⟨y,x⟩rest b s'⟨hb',rfl,xs,ys,is',Ot,hz,h1,h2,h3,hR⟩;cases h1 with|nil=>cases hz|cons p t h1=>cases h2 with|nil=>cases hz|cons q u h2=>
       injection hz with hyx hrest;cases hyx;refine wpAny_bind (wpAny_eqBool_int ?_);by_cases e:p=q;.subst e;rw[beq_self_eq_true];wp_walk;exact⟨rfl,rfl,_,_,_,_,hrest,h1,h2,by rw[h3];simp,by simpa[bu]using hR⟩
       . rw[beq_eq_false_iff_ne.mpr e];have hR':R (.ok (.ret (.bool (decide (p<q))))) ⟨hp,g,d,tk,os⟩:=by simpa[bu,e]using hR
         simp only[Bool.not_false,if_true];refine wpAny_bind (wpAny_rule ?_);refine wpAny_bind (show wpAny (model prog w) A.in1 (compareOp .Lt (Value.int p t) (Value.int q u)) _ _ _ from wpAny_lt_int ?_);refine wpAny_bind (wpAny_pure ?_);exact wpAny_pure (wpAny_pure ⟨_,rfl,hR'⟩)
  case fin=>
   rintro⟨b1,b2⟩s'⟨hb',rfl,xs,ys,is',Ot,hz,h1,h2,h3,hR⟩;simp only at hb';subst hb';have e:bu is' Ot=decide (items.length<items2.length):=by rw[h3];cases h1 with|nil=>cases h2<;>simp[bu]|cons _ _ _=>cases h2 with|nil=>simp[bu]|cons _ _ _=>cases hz
   rw[e]at hR;wp_walk;exact⟨_,rfl,by simpa[Builtin.Tuple.tupleCompareSizes]using hR⟩
  case h=>exact⟨rfl,rfl,items,items2,is,js,by simp,hi,hj,by rw[IntsAre.length hi,IntsAre.length hj],h⟩
section
variable{X:Cx}
theorem iJ(hu:X.A.units+8<cLine):fH X (compareOp .Lt) (rD X.K (lW .lt)):=by rintro pins s σ H x y v u Q I rx ry⟨F,d,e,r,sm,px,py,he,k⟩;obtain⟨t,e1,e2⟩:=map_some (show(Vq d e).map _=some r from he);subst e2;cases d with
 |int i=>cases e with|int j=>exact Rr pins s σ H x y v u Q I rx ry ⟨F,.int i,.int j,_,sm,px,py,by have e2:Jf (fun i j=>decide (i<j)) (.int i) (.int j)=some t:=e1;simp only[e2];rfl,k⟩|_=>cases e1
 |tup xs=>cases e with|tup ys=>obtain⟨hc,e1⟩:=bw (show(if(xs.all dC&&ys.all dC)=true then some (bu (xs.map eZ) (ys.map eZ))else none)=some t from e1);rw[Bool.and_eq_true]at hc;obtain⟨a,vs,rfl,h1,h2,_⟩:=px.tup sm;obtain⟨b,ws,rfl,h3,h4,_⟩:=py.tup sm;cases rx;cases ry;obtain⟨its,rv,it,_⟩:=I.tuple h1;obtain⟨its2,Tj,it2,_⟩:=I.tuple h3;rw[all_ints hc.1]at h2;rw[all_ints hc.2]at h4;rw[gZ h2]at rv;rw[gZ h4]at Tj;have i1:=intsAre_of rv;have i2:=intsAre_of Tj;obtain⟨⟨cls,dd,data,sl⟩,ho,hc1,n,hd⟩:=it;obtain⟨⟨cls2,dd2,data2,sl2⟩,ho2,hc2,n2,hd2⟩:=it2;simp only at hc1 hd hc2 hd2;subst hc1 hd hc2 hd2;refine(show wpAny (model X.prog X.w) X.A (richCompare .Lt (.ref a) (.ref b)) _ _ s from richCompare_meets_room (op:=.Lt) ⟨_,ho,rfl⟩ ⟨_,ho2,rfl⟩ PySem.F.slot_tuple_lt PySem.F.entry_tuple_lt (PySem.F.args_tuple_lt_2 _ _) (yj a b its its2 n n2 dd dd2 sl sl2 _ _ i1 i2) ⟨ho,ho2,show Value.bool _≠Value.notImplemented/\_ from⟨(fun x=>nomatch x),⟨.bl t,H,I,by rw[<-e1];rfl,cM.eV sm (iT _) k⟩⟩⟩ (by omega))|_=>cases e1
 |_=>cases e1
end
end HH
end
section
namespace L2
open PySem PySem.Spec PyProof.Rows
end L2
namespace L2
open PySem PySem.Spec PyProof.Rows
end L2
namespace L2
open PySem PySem.Spec PyProof.Rows
end L2
namespace L2
open PySem PySem.Spec PyProof.Rows
end L2
namespace L2
open PySem PySem.Spec PyProof.Rows
end L2
namespace L2
open PySem PySem.Spec PyProof.Rows
end L2
namespace L2
open PySem PySem.Spec PyProof.Rows
end L2
namespace L2
open PySem PySem.Spec PyProof.Rows
end L2
namespace L2
open PySem PySem.Spec PyProof.Rows
end L2
namespace L2
open PySem PySem.Spec PyProof.Rows
end L2
namespace L2
open PySem PySem.Spec PyProof.Rows
section
variable{κ:Type}[DecidableEq κ]
noncomputable def kI(kvs:List (κ×V))(k:κ):Option V:=(kvs.find? fun kv=>decide (kv.1=k)).map (·.2)
noncomputable def putK(kvs:List (κ×V))(k:κ)(v:V):List (κ×V):=if(kvs.any fun kv=>decide (kv.1=k))=true then kvs.map (fun kv=>if kv.1=k then(kv.1,v)else kv)else kvs++[(k,v)]
theorem pP{p:κ×V}{r:List (κ×V)}{k:κ}(e:p.1=k):kI (p::r) k=some p.2:=by simp[kI,List.find?_cons,e]
theorem qC{p:κ×V}{r:List (κ×V)}{k:κ}(e:¬ p.1=k):kI (p::r) k=kI r k:=by simp[kI,List.find?_cons,e]
theorem xF(k:κ):∀kvs:List (κ×V),(kvs.any fun kv=>decide (kv.1=k))=(kI kvs k).isSome
 |[]=>rfl|p::r=>by
   rw[List.any_cons];by_cases e:p.1=k;.simp only[pP e,decide_eq_true e,Bool.true_or,Option.isSome_some]
   .rw[qC e,decide_eq_false e,Bool.false_or];exact xF k r
theorem nC(kvs:List (κ×V))(k:κ)(v:V):(putK kvs k v).length<=kvs.length+1:=by
 unfold putK;split;.rw[List.length_map];omega
 .rw[List.length_append,List.length_cons,List.length_nil];omega
theorem nZ.CJ{o:Option V}{u:Option Value}(r:nZ o u):o.isSome=u.isSome:=by cases o with
 |none=>cases u with|none=>rfl|some _=>exact(show False from r).elim
 |some _=>cases u with|none=>exact(show False from r).elim|some _=>rfl
theorem nZ.getD{o:Option V}{u:Option Value}{d:V}{d':Value}(r:nZ o u)(rd:RelV d d'):RelV (o.getD d) (u.getD d'):=by cases o with
 |none=>cases u with|none=>exact rd|some _=>exact(show False from r).elim
 |some _=>cases u with|none=>exact(show False from r).elim|some _=>exact r
theorem KV.val{kvs:List (κ×V)}{vs:List (κ×Value)}(r:KV kvs vs)(k:κ):nZ (kI kvs k) (valueAt vs k):=by unfold KV at r;induction r with|nil=>exact True.intro|@cons p q ps qs h t ih=>
   obtain⟨h1,h2⟩:=h;by_cases e:p.1=k
   . have e':q.1=k:=h1.symm.trans e;have b:valueAt (q::qs) k=some q.2:=by simp[valueAt,List.find?_cons,e']
     rw[pP e,b];exact h2
   . have e':¬ q.1=k:=fun z=>e (h1.trans z);have b:valueAt (q::qs) k=valueAt qs k:=by simp[valueAt,List.find?_cons,e']
     rw[qC e,b];exact ih
theorem KV.any{kvs:List (κ×V)}{vs:List (κ×Value)}(r:KV kvs vs)(k:κ):(kvs.any fun kv=>decide (kv.1=k))=vs.any fun kv=>decide (kv.1=k):=by unfold KV at r;induction r with|nil=>rfl|cons h t ih=>rw[List.any_cons,List.any_cons,ih,h.1]
theorem KV.repl{kvs:List (κ×V)}{vs:List (κ×Value)}(r:KV kvs vs)(k:κ){y:V}{u:Value}(ry:RelV y u):KV (kvs.map fun kv=>if kv.1=k then(kv.1,y)else kv) (vs.map fun kv=>if kv.1=k then(kv.1,u)else kv):=by unfold KV at r ⊢;induction r with|nil=>exact .nil|@cons p q ps qs h t ih=>
   rw[List.map_cons,List.map_cons];refine .cons ?_ ih;obtain⟨h1,h2⟩:=h;by_cases e:p.1=k;.rw[if_pos e,if_pos (h1.symm.trans e)];exact⟨h1,ry⟩
   .rw[if_neg e,if_neg (fun z=>e (h1.trans z))];exact⟨h1,h2⟩
theorem KV.put{kvs:List (κ×V)}{vs:List (κ×Value)}(r:KV kvs vs)(k:κ){y:V}{u:Value}(ry:RelV y u):KV (putK kvs k y) (stored vs k u):=by
 unfold putK stored;rw[r.any k];by_cases e:(vs.any fun kv=>decide (kv.1=k))=true;.rw[if_pos e,if_pos e];exact r.repl k ry
 .rw[if_neg e,if_neg e];exact Paired.snoc r ⟨rfl,ry⟩
theorem KV.length{kvs:List (κ×V)}{vs:List (κ×Value)}(r:KV kvs vs):kvs.length=vs.length:=Paired.length r
end
theorem zR{P:Program}{w:World}{k:Key}{u:Value}(r:RelV (kV k) u):(bU P w).is k u=true:=by cases k with|inl i=>obtain⟨t,e⟩:=(show ∃t,u=Value.int i t from r);subst e;exact vC P w i t|inr x=>obtain⟨t,e⟩:=(show ∃t,u=Value.str x t from r);subst e;exact wk P w x t
theorem sr{P:Program}{w:World}:∀{ks:List Key}{us:List Value},Vals (ks.map kV) us->ItemsAre (bU P w) ks us|[],_,r=>by rw[List.map_nil]at r;cases r;exact .nil|k::ks,_,r=>by rw[List.map_cons]at r;cases r with|cons h t=>exact .cons (zR h) (sr t)
noncomputable abbrev KT(H:Hp):List (List Key×V)->List (List Key×Addr×Value)->Prop:=Paired fun p q=>p.1=q.1/\H q.2.1=some (.tup (p.1.map kV))/\RelV p.2 q.2.2
theorem KT.val{H:Hp}{kvs:List (List Key×V)}{xs:List (List Key×Addr×Value)}(r:KT H kvs xs)(k:List Key):nZ (kI kvs k) ((atKey xs k).map (·.2)):=by induction r with|nil=>exact True.intro|@cons p q ps qs h t ih=>
   obtain⟨h1,_,h2⟩:=h;by_cases e:p.1=k
   . have e':q.1=k:=h1.symm.trans e;have b:atKey (q::qs) k=some q.2:=by simp[atKey,List.find?_cons,e']
     rw[pP e,b];exact h2
   . have e':¬ q.1=k:=fun z=>e (h1.trans z);have b:atKey (q::qs) k=atKey qs k:=by simp[atKey,List.find?_cons,e']
     rw[qC e,b];exact ih
theorem KT.repl{H:Hp}{kvs:List (List Key×V)}{xs:List (List Key×Addr×Value)}(r:KT H kvs xs)(k:List Key){y:V}{u:Value}(ry:RelV y u):KT H (kvs.map fun kv=>if kv.1=k then(kv.1,y)else kv) (xs.map (putAt k u)):=by induction r with|nil=>exact .nil|@cons p q ps qs h t ih=>
   rw[List.map_cons,List.map_cons];refine .cons ?_ ih;obtain⟨h1,h2,h3⟩:=h;unfold putAt;by_cases e:p.1=k;.rw[if_pos e,if_pos (h1.symm.trans e)];exact⟨h1,h2,ry⟩
   .rw[if_neg e,if_neg (fun z=>e (h1.trans z))];exact⟨h1,h2,h3⟩
theorem KT.put{H:Hp}{kvs:List (List Key×V)}{xs:List (List Key×Addr×Value)}(r:KT H kvs xs)(k:List Key){b:Addr}{y:V}{u:Value}(hb:H b=some (.tup (k.map kV)))(ry:RelV y u):KT H (putK kvs k y) (storedH xs k b u):=by
 have e:(kvs.any fun kv=>decide (kv.1=k))=(atKey xs k).isSome:=by rw[xF,(r.val k).CJ,Option.isSome_map]
 unfold putK storedH;rw[e];by_cases q:(atKey xs k).isSome=true;.rw[if_pos q,if_pos q];exact r.repl k ry
 .rw[if_neg q,if_neg q];exact Paired.snoc r ⟨rfl,hb,ry⟩
theorem KT.keeps{H H':Hp}{kvs:List (List Key×V)}{xs:List (List Key×Addr×Value)}(r:KT H kvs xs)(ht:∀b ys,H b=some (.tup ys)->H' b=some (.tup ys)):KT H' kvs xs:=Paired.Ox r fun _ _ z=>⟨z.1,ht _ _ z.2.1,z.2.2⟩
section
variable{P:Program}{w:World}{H:Hp}{h:Heap}{a:Addr}
theorem Nz{u:HO}(ok:lV P w H h)(e:Rd H a u):bL P w H h a u:=e.ok ok
theorem vO{kvs:List (Key×V)}(ok:lV P w H h)(e:Rd H a (.dK kvs)):kvs.length<=sizeLine/\(a==sysModules)=false/\∃vs,KV kvs vs/\h.DictOf (bU P w) a vs:=show bL P w H h a (.dK kvs)from Nz ok e
theorem Xo{kvs:List (Key×V)}(ok:lV P w H h)(e:H a=some (.dK kvs)):kvs.length<=sizeLine/\(a==sysModules)=false/\∃vs,KV kvs vs/\h.DictOf (bU P w) a vs:=vO ok (.inl e)
theorem ud{ks:List Key}(ok:lV P w H h)(e:H a=some (.tup (ks.map kV))):(tupleKind (bU P w)).is h ks a:=by obtain⟨_,its,r,o,h1,h2,n,h3⟩:=(show bL P w H h a (.tup (ks.map kV))from ok a _ e);exact⟨o,its.toArray,n,h1,h2,h3,by simpa using sr r⟩
theorem vG{kvs:List (List Key×V)}(ok:lV P w H h)(e:Rd H a (.dT kvs)):kvs.length<=sizeLine/\(a==sysModules)=false/\∃xs,KT H kvs xs/\h.DictOfH (tupleKind (bU P w)) a xs:=by
 obtain⟨z,y,xs,r,o,es,ep,h1,h2,h3,h4,h5⟩:=(show bL P w H h a (.dT kvs)from Nz ok e);refine⟨z,y,xs,r,o,es,ep,h1,h2,h3,h4,fun x hx=>?_,h5⟩;have all:∀{l:List (List Key×V)}{m:List (List Key×Addr×Value)},KT H l m->∀x∈m,(tupleKind (bU P w)).is h x.1 x.2.1:=by intro l m q;induction q with|nil=>intro x hx;exact nomatch hx|@cons p q ps qs hq t ih=>
    intro x hx;rcases List.mem_cons.mp hx with e|hx;.subst e;exact ud ok (by rw[<-hq.1];exact hq.2.1)
    .exact ih x hx
 exact all r x hx
theorem Xw{kvs:List (List Key×V)}(ok:lV P w H h)(e:H a=some (.dT kvs)):kvs.length<=sizeLine/\(a==sysModules)=false/\∃xs,KT H kvs xs/\h.DictOfH (tupleKind (bU P w)) a xs:=vG ok (.inl e)
end
noncomputable def yS(H:Hp)(a:Addr)(y:V)(r:Option V):Prop:=(∃kvs k,Rd H a (.dK kvs)/\y=kV k/\r=kI kvs k)\/∃kvs k b,Rd H a (.dT kvs)/\y=.ref b/\H b=some (.tup (k.map kV))/\r=kI kvs k
noncomputable def V3(H:Hp)(a:Addr)(y v:V)(H':Hp):Prop:=(∃kvs k,H a=some (.dK kvs)/\y=kV k/\kvs.length<sizeLine/\H'=upd H a (.dK (putK kvs k v)))\/∃kvs k b,H a=some (.dT kvs)/\y=.ref b/\H b=some (.tup (k.map kV))/\kvs.length<sizeLine/\H'=upd H a (.dT (putK kvs k v))
section
variable{X:Cx}{pins:List (Addr×Obj)}{σ:St}{H:Hp}{s:Shared}{a:Addr}{y v:V}{u r:Value}{o:Option V}{A:Around}{E:Value->Shared->Prop}
theorem Inv.big(I:Inv X pins σ H s):sysModules<s.heap.objs.size:=by have h:mainGlobals<s.heap.objs.size:=(I.mod.glob.keeps I.bk).lt;exact Nat.lt_trans (by decide) h
theorem sV{Q:Value->Shared->Prop}(hu:A.units+1<cLine)(I:Inv X pins σ H s)(g:yS H a y (some v))(ry:RelV y u)(h:∀w' s',Inv X pins σ H s'->RelV v w'->Q w' s'):wpAny (model X.prog X.w) A (getItem (.ref a) u) Q E s:=by
 rcases g with⟨kvs,k,e,ey,l⟩|⟨kvs,k,b,e,ey,eb,l⟩;.subst ey;obtain⟨z,hd,vs,rel,dd⟩:=vO I.hok e;obtain⟨w',hw,zA⟩:=nZ.some_of (v:=v) (o:=valueAt vs k) (by rw[l];exact rel.val k);exact wpAny_getItem_of (zR ry) dd.mapOf hw (h w' _ (I.tok _) zA)
 .subst ey;cases(show u=Value.ref b from ry);obtain⟨z,hd,xs,rel,dd⟩:=vG I.hok e;obtain⟨w',hw,zA⟩:=nZ.some_of (v:=v) (o:=(atKey xs k).map (·.2)) (by rw[l];exact rel.val k);obtain⟨p,hp,hp2⟩:=Option.map_eq_some_iff.mp hw;refine wpAny_getItem_heap (tupleKind_room_in1 hu) (ud I.hok eb) dd hp ?_;rw[hp2];exact h w' _ (I.tok _) zA
theorem Bg{h':Heap}{t':Nat}{ob:HO}(I:Inv X pins σ H s)(mu:Xk (H a))(hs:Heap.SameBut a s.heap h')(he:∃q,h'.get? a=some q)(new:bL X.prog X.w (upd H a ob) h' a ob):Inv X pins σ (upd H a ob) {s with heap:=h',toks:=t'}:=I.write (x:=a) (e:=a) mu (.inl rfl) (fun b q hb z=>(hs.2 b hb).trans z) he new
theorem QD{P:Program}{w:World}{H':Hp}{h':Heap}{kvs:List (Key×V)}{vs:List (Key×Value)}(z:kvs.length<=sizeLine)(hd:(a==sysModules)=false)(rel:KV kvs vs)(dd:h'.DictOf (bU P w) a vs):bL P w H' h' a (.dK kvs):=⟨z,hd,vs,rel,dd⟩
theorem CW{H':Hp}{Q:Unit->Shared->Prop}(hu:A.units+1<cLine)(I:Inv X pins σ H s)(g:V3 H a y v H')(ry:RelV y u)(rv:RelV v r)(h:∀s',Inv X pins σ H' s'->Q () s'):wpAny (model X.prog X.w) A (setItem (.ref a) u r) Q E s:=by
 rcases g with⟨kvs,k,e,ey,l,eH⟩|⟨kvs,k,b,e,ey,eb,l,eH⟩
 . subst ey eH;obtain⟨z,hd,vs,rel,dd⟩:=Xo I.hok e;have hz:vs.length<=sizeLine:=by rw[<-rel.length];exact z
   have hl:(putK kvs k v).length<=sizeLine:=by have:=nC kvs k v;omega
   refine wpAny_setItem_pairs (hsz:=hz) (zR ry) dd fun h' dd' hs=>h _ ?_;have he:∃q,h'.get? a=some q:=let⟨q,_,_,hq,_⟩:=dd';⟨q,hq⟩;exact Bg I (by rw[e];exact True.intro) hs he (QD hl hd (rel.put k rv) dd')
 . subst ey eH;cases(show u=Value.ref b from ry);obtain⟨z,hd,xs,rel,dd⟩:=Xw I.hok e;have hz:xs.length<=sizeLine:=by rw[<-Paired.length rel];exact z
   have hl:(putK kvs k v).length<=sizeLine:=by have:=nC kvs k v;omega
   refine wpAny_setItem_heap (hsz:=hz) (tupleKind_room_in1 hu) (ud I.hok eb) dd fun h' dd' hs=>h _ ?_;obtain⟨q,es,ep,hq,h2,h3,h4,_,h5⟩:=dd';refine Bg I (by rw[e];exact True.intro) hs ⟨q,hq⟩ ⟨hl,hd,_,(rel.put k eb rv).keeps fun c ys ec=>?_,q,es,ep,hq,h2,h3,h4,h5⟩;rw[aM (Wo ec e (fun z=>nomatch z))];exact ec
end
noncomputable def La(i:Expr):Prop:=∀ov iv,subscripted i false ov iv=operate [ov,iv] (getItem ov iv)
theorem Av{prog:Program}{w:World}{A:Around}{E:Value->Shared->Prop}{s:Shared}{env:Env}{value slice:Expr}{pos:Pos}{T id:String}{Q:Value->Shared->Prop}(hl:typeLookup (.type T) "__getitem__"=pure (some (.builtin id)))(hs:La slice)(h:wpAny (model prog w) A (eval value env) (fun o s₁=>wpAny (model prog w) A (eval slice env) (fun i s₂=>s₂.TypeIs o T/\wpAny (model prog w) A (getItem o i) Q E s₂) E s₁) E s):wpAny (model prog w) A (eval (.Subscript value slice pos) env) Q E s:=by
 refine Subscript_ (wpAny_mono h (fun o s₁ h₁=>wpAny_mono h₁ (fun i s₂ h₂=>?_) fun _ _ x=>x) fun _ _ x=>x);obtain⟨hT,h₂⟩:=h₂;unfold subscriptTail;refine wpAny_bind ?_;rw[getitemInPython_of_ne hT.not_modules];refine wpAny_bind (wpAny_specialOf hT hl ?_);have fin:wpAny (model prog w) A (subscripted slice false o i) (fun r s₃=>wpAny (model prog w) A (letTemporaryGo value o r>>=fun _=>pure r) Q E s₃) E s₂:=by rw[hs o i];exact wpAny_operating (wpAny_mono h₂ (fun r s₃ h₃=>wpAny_bind (wpAny_letTemporaryGo (wpAny_pure h₃))) fun _ _ x=>x)
 first|exact wpAny_pure (wpAny_bind fin)|exact wpAny_bind (wpAny_pure (wpAny_bind fin))|exact wpAny_bind fin
theorem nD{X:Cx}{pins:List (Addr×Obj)}{σ:St}{H:Hp}{s:Shared}{a:Addr}{y:V}{o:Option V}(I:Inv X pins σ H s)(g:yS H a y o):s.TypeIs (.ref a) "dict":=by
 rcases g with⟨kvs,k,e,_,_⟩|⟨kvs,k,b,e,_,_,_⟩;.obtain⟨_,_,vs,_,dd⟩:=vO I.hok e;exact dd.typeIs
 .obtain⟨_,_,xs,_,dd⟩:=vG I.hok e;exact dd.typeIs
noncomputable def Ws(td ty:TE):TE:=fun σ H Q=>td σ H fun x H1=>ty σ H1 fun y H2=>∃a v,x=.ref a/\yS H2 a y (some v)/\Q v H2
noncomputable def Wu(td ty tv:TE):TS:=fun D σ H=>tv σ H fun v H1=>td σ H1 fun x H2=>ty σ H2 fun y H3=>∃a H4,x=.ref a/\V3 H3 a y v H4/\D.nx σ H4
section
variable{X:Cx}{o i e value:Expr}{pos pos' tpos:Pos}{td ty tv:TE}
theorem Ky(hu:X.A.units+1<cLine)(ho:PE X o td)(hi:PE X i ty)(hs:La i):PE X (.Subscript o i pos) (Ws td ty):=by intro pins s σ H Q I h;refine Av PySem.F.slot_dict_getitem.lookup hs (cL (ho pins s σ H _ I h) fun u s1⟨x,H1,I1,rx,q1⟩=>cL (hi pins s1 σ H1 _ I1 q1) fun iv s2⟨y,H2,I2,ry,a,v,ex,g,q2⟩=>?_);subst ex;obtain rfl:u=Value.ref a:=rx;exact⟨nD I2 g,sV hu I2 g ry fun w' s3 I3 zA=>⟨v,H2,I3,zA,q2⟩⟩
theorem Bs(hu:X.A.units+1<cLine)(ho:PE X o td)(hi:PE X i ty)(hv:PE X value tv)(hs:swapsWith value (some (.Subscript o i pos')) pos.line X.env=pure false):PS X (.Assign [.Subscript o i pos'] value pos) (Wu td ty tv):=by intro pins s σ H D I h;refine wpAny_Assign_Subscript (cL (hv pins s σ H _ I h) fun r s1⟨v,H1,I1,rv,q1⟩=>cL (ho pins s1 σ H1 _ I1 q1) fun u s2⟨x,H2,I2,rx,q2⟩=>cL (hi pins s2 σ H2 _ I2 q2) fun iv s3⟨y,H3,I3,ry,a,H4,ex,g,q3⟩=>?_) hs;subst ex;obtain rfl:u=Value.ref a:=rx;exact CW hu I3 g ry rv fun s4 I4=>⟨σ,H4,I4,q3⟩
end
theorem Ih{P:Program}{w:World}{H:Hp}(h:Heap)(hb:sysModules<h.objs.size):bL P w H (h.push {cls:=.type "dict",data:=.dict #[]}) h.objs.size (.dK []):=⟨Nat.zero_le _,beq_eq_false_iff_ne.mpr (Ne.symm (Nat.ne_of_lt hb)),[],.nil,Heap.DictOf.new h⟩
theorem GQ{P:Program}{w:World}{H:Hp}(h:Heap)(hb:sysModules<h.objs.size):bL P w H (h.push {cls:=.type "dict",data:=.dict #[]}) h.objs.size (.dT []):=⟨Nat.zero_le _,beq_eq_false_iff_ne.mpr (Ne.symm (Nat.ne_of_lt hb)),[],.nil,_,#[],0,Heap.get?_push_size _ rfl,⟨rfl,rfl,rfl⟩,rfl,rfl,List.nodup_nil⟩
noncomputable def S8:TE:=fun _ H Q=>∀p,H p=none->Q (.ref p) (upd H p (.dK []))
noncomputable def Q3:TE:=fun _ H Q=>∀p,H p=none->Q (.ref p) (upd H p (.dT []))
section
variable{X:Cx}{pos:Pos}
theorem Fq:PE X (.Dict [] [] pos) S8:=fun pins s σ H Q I h=>wpAny_Dict_empty ⟨.ref s.heap.objs.size,_,I.laid (a:=s.heap.objs.size) (o:=.dK []) (t':=s.toks) (fun _ _ q=>Heap.get?_push_of_some _ q) (Nat.le_refl _) (Ih s.heap I.big),rfl,h _ (I.hok.fresh (Nat.le_refl _))⟩
theorem Hr:PE X (.Dict [] [] pos) Q3:=fun pins s σ H Q I h=>wpAny_Dict_empty ⟨.ref s.heap.objs.size,_,I.laid (a:=s.heap.objs.size) (o:=.dT []) (t':=s.toks) (fun _ _ q=>Heap.get?_push_of_some _ q) (Nat.le_refl _) (GQ s.heap I.big),rfl,h _ (I.hok.fresh (Nat.le_refl _))⟩
end
structure M2(X:Cx)(o:Expr)(m:Str)(apos:Pos)(e f:Expr)(cpos:Pos):Prop where
 base:attributeBase o m X.env (eval o X.env)=eval o X.env
 few:((backTo cpos (starEach [e,f] X.env)).all (fun x=>!x.1)&&(backToKw cpos (keywordEach [] X.env)).all (fun x=>x.1.isSome)&&decide (([e,f]:List Expr).length+([]:List Keyword).length+(if([]:List Keyword).isEmpty then 0 else 1)<30))=true
 line:(apos.endLine==cpos.line)=true
 trees:backTo cpos (starEach [e,f] X.env)=[(false,eval e X.env),(false,eval f X.env)]
noncomputable def IsD(H:Hp)(a:Addr):Prop:=(∃kvs,Rd H a (.dK kvs))\/∃kvs,Rd H a (.dT kvs)
theorem PK{X:Cx}{pins:List (Addr×Obj)}{σ:St}{H:Hp}{s:Shared}{a:Addr}(I:Inv X pins σ H s)(d:IsD H a):s.TypeIs (.ref a) "dict"/\(∀b,Value.ref a=.ref b->∃ob,s.heap.get? b=some ob/\ob.dict=none)/\(a==sysModules)=false:=by
 rcases d with⟨kvs,e⟩|⟨kvs,e⟩;.obtain⟨_,hd,vs,_,dd⟩:=vO I.hok e;refine⟨dd.typeIs,fun b q=>?_,hd⟩;cases q;obtain⟨ob,_,_,h1,h2,_⟩:=dd;exact⟨ob,h1,h2.2.1⟩
 .obtain⟨_,hd,xs,_,dd⟩:=vG I.hok e;refine⟨dd.typeIs,fun b q=>?_,hd⟩;cases q;obtain⟨ob,_,_,h1,h2,_⟩:=dd;exact⟨ob,h1,h2.2.1⟩
section
variable{X:Cx}{pins:List (Addr×Obj)}{σ:St}{H:Hp}{s:Shared}{a:Addr}{y d:V}{u r:Value}{o:Option V}{A:Around}{E:Value->Shared->Prop}
theorem QG{Q:Value->Shared->Prop}(hu:A.units+1<cLine)(I:Inv X pins σ H s)(g:yS H a y o)(ry:RelV y u)(rd:RelV d r)(h:∀w' s',Inv X pins σ H s'->RelV (o.getD d) w'->Q w' s'):wpAny (model X.prog X.w) A (call (.builtin "dict.get") [.ref a,u,r]) Q E s:=by
 rcases g with⟨kvs,k,e,ey,l⟩|⟨kvs,k,b,e,ey,eb,l⟩;.subst ey;obtain⟨z,hd,vs,rel,dd⟩:=vO I.hok e;refine call_meetsIn PySem.F.slot_dict_get dd.typeIs PySem.F.entry_dict_get (PySem.F.args_dict_get_3 _ _ _) (meets_dict_get_default (bU X.prog X.w) a (zR ry) hd r) ⟨_,dd.mapOf,h _ _ (I.tok _) ?_⟩;rw[l];exact(rel.val k).getD rd
 .subst ey;cases(show u=Value.ref b from ry);obtain⟨z,hd,xs,rel,dd⟩:=vG I.hok e;refine call_meetsIn PySem.F.slot_dict_get dd.typeIs PySem.F.entry_dict_get (PySem.F.args_dict_get_3 _ _ _) (meetsH_dict_get_default (tupleKind (bU X.prog X.w)) a b hd r) ⟨tupleKind_room_in1 hu,k,xs,ud I.hok eb,dd,h _ _ (I.tok _) ?_⟩;rw[l];exact(rel.val k).getD rd
end
noncomputable def S7(td ty tx:TE):TE:=fun σ H Q=>td σ H fun x H1=>∃a,x=.ref a/\IsD H1 a/\ty σ H1 fun y H2=>tx σ H2 fun z H3=>∃o,yS H3 a y o/\Q (o.getD z) H3
section
variable{X:Cx}{o e f:Expr}{apos cpos:Pos}{td ty tx:TE}
theorem vW(hu:X.A.units+1<cLine)(ho:PE X o td)(he:PE X e ty)(hf:PE X f tx)(m:M2 X o "get" apos e f cpos):PE X (.Call (.Attribute o "get" apos) [e,f] [] cpos) (S7 td ty tx):=by intro pins s σ H Q I h;refine wpAny_Call_method m.base m.few m.line PySem.F.plainAttrs_dict PySem.F.slot_dict_get PySem.F.type_dict_get (cL (ho pins s σ H _ I h) fun u s1⟨x,H1,I1,rx,a,ex,d,q1⟩=>?_);subst ex;obtain rfl:u=Value.ref a:=rx;obtain⟨t1,t2,_⟩:=PK I1 d;refine⟨t1,t2,?_⟩;rw[m.trees];refine Calls.callWith_builtin rfl (Calls.evalArgs_plain (Calls.spliced_cons (cL (he pins s1 σ H1 _ I1 q1) fun iv s2⟨y,H2,I2,ry,q2⟩=>Calls.spliced_cons (cL (hf pins s2 σ H2 _ I2 q2) fun fv s3⟨z,H3,I3,rz,ov,g,q3⟩=>Calls.spliced_nil ?_))));exact QG hu I3 g ry rz fun w' s4 I4 zA=>⟨_,H3,I4,zA,q3⟩
end
end L2
namespace Att
open PySem PySem.W PySem.Calls PyProof.Rows
end Att
namespace L2
open PySem PySem.Spec PyProof.Rows
end L2
namespace L2
open PySem PySem.Spec PyProof.Rows
end L2
namespace L2
open PySem PySem.Spec PyProof.Rows
end L2
end
section
namespace HH
open PySem L2 PySem.Spec PyProof.Rows
section
variable{K:PySem.W.Frag}{F F1 H H1:Hp}{ρ ρ1 ρ2:List Sl}{σ σ1:L2.St}
theorem GS.Yq{x:Nat}{m m':Dc}{a:Addr}(g:GS K F ρ σ H)(e:ρ[x]?=some (.cZ m))(hx:σ[x]?=some (some (.ref a))):cA K F ρ σ H F (ρ.set x (.cZ m')) σ (upd H a m'.ho):=by
 have hi:x<ρ.length:=(List.getElem?_eq_some_iff.mp e).1;have oa:bR ρ σ x a:=⟨⟨_,_,e,rfl⟩,hx⟩;obtain⟨a',o0,h1,h2,h3,h4⟩:=g.own x _ _ e rfl;rw[hx]at h1;cases h1;have old:∀{j:Nat}{c:Addr},bR (ρ.set x (.cZ m')) σ j c->bR ρ σ j c:=fun{j c}⟨⟨t,dt,q1,q2⟩,q3⟩=>by
  by_cases hj:j=x;.subst hj;exact⟨⟨_,_,e,rfl⟩,q3⟩
  .rw[List.getElem?_set_ne (Ne.symm hj)]at q1;exact⟨⟨t,dt,q1,q2⟩,q3⟩
 refine⟨⟨fun c o q=>?_,by simp[g.len],fun j b' d q=>?_,fun j t dt q q'=>?_,fun j k c q1 q2=>g.dis j k c (old q1) (old q2)⟩,.refl _,fun c n n'=>absurd n n',fun c o q n=>?_,fun c⟨j,q⟩=>.inl ⟨j,old q⟩,by simp,fun j t q l=>⟨rfl,?_⟩⟩
 . have:c≠a:=by rintro rfl;rw[h3]at q;cases q
   rw[aM this];exact g.sub c o q
 . by_cases hj:j=x;.subst hj;rw[List.getElem?_set_self hi]at q;cases q
   .rw[List.getElem?_set_ne (Ne.symm hj)]at q;exact g.val j b' d q
 . by_cases hj:j=x;.subst hj;rw[List.getElem?_set_self hi]at q;cases q;cases q';exact⟨a,_,hx,bj,h3,rfl⟩
   . rw[List.getElem?_set_ne (Ne.symm hj)]at q;obtain⟨c,zs,w1,w2,w3,w4⟩:=g.own j t dt q q';have:c≠a:=by rintro rfl;exact hj (g.dis j x c ⟨⟨t,dt,q,q'⟩,w1⟩ oa)
     exact⟨c,zs,w1,by rw[aM this];exact w2,w3,w4⟩
 . have:c≠a:=by rintro rfl;exact n ⟨x,oa⟩
   rw[aM this];exact q
 . by_cases hj:j=x;.subst hj;rw[e]at q;cases q;cases l
   .exact⟨t,by rw[List.getElem?_set_ne (Ne.symm hj)];exact q,.refl t⟩
theorem GS.newD{i:Nat}{m:Dc}{a:Addr}(g:GS K F ρ σ H)(e:ρ[i]?=some .aZ)(ha:H a=none):cA K F ρ σ H F (ρ.set i (.cZ m)) (σ.set i (some (.ref a))) (upd H a m.ho):=by
 have hi:i<ρ.length:=(List.getElem?_eq_some_iff.mp e).1;have hi':i<σ.length:=by rw[<-g.len];exact hi
 have fa:F a=none:=by cases q:F a with|none=>rfl|some o=>rw[g.sub a o q]at ha;cases ha
 have old:∀{j:Nat}{c:Addr},j≠i->bR (ρ.set i (.cZ m)) (σ.set i (some (.ref a))) j c->bR ρ σ j c:=fun{j c}hj⟨⟨t,ds,e1,e2⟩,e3⟩=>by rw[List.getElem?_set_ne (Ne.symm hj)]at e1 e3;exact⟨⟨t,ds,e1,e2⟩,e3⟩
 have new:∀{c:Addr},bR (ρ.set i (.cZ m)) (σ.set i (some (.ref a))) i c->c=a:=fun{c}⟨_,e3⟩=>by rw[List.getElem?_set_self hi']at e3;cases e3;rfl
 have no:∀{j:Nat},¬ bR ρ σ j a:=fun{j}⟨⟨t,ds,e1,e2⟩,e3⟩=>by obtain⟨c,o,q1,q2,_⟩:=g.own j t ds e1 e2;rw[e3]at q1;cases q1;rw[ha]at q2;cases q2
 refine⟨⟨fun c o q=>?_,by simp[g.len],fun j b' d q=>?_,fun j t dt q q'=>?_,fun j k c q1 q2=>?_⟩,.refl _,fun c n n'=>absurd n n',fun c o q n=>?_,fun c⟨j,q⟩=>?_,by simp,fun j t q l=>?_⟩
 . have:c≠a:=by rintro rfl;rw[fa]at q;cases q
   rw[aM this];exact g.sub c o q
 . by_cases hj:j=i;.subst hj;rw[List.getElem?_set_self hi]at q;cases q
   .rw[List.getElem?_set_ne (Ne.symm hj)]at q ⊢;exact g.val j b' d q
 . by_cases hj:j=i;.subst hj;rw[List.getElem?_set_self hi]at q;cases q;cases q';exact⟨a,_,List.getElem?_set_self hi',bj,fa,rfl⟩
   . rw[List.getElem?_set_ne (Ne.symm hj)]at q ⊢;obtain⟨c,o,w1,w2,w3,w4⟩:=g.own j t dt q q';have:c≠a:=by rintro rfl;rw[ha]at w2;cases w2
     exact⟨c,o,w1,by rw[aM this];exact w2,w3,w4⟩
 . by_cases hj:j=i
   . by_cases hk:k=i;.rw[hj,hk]
     .subst hj;rw[new q1]at q2;exact absurd (old hk q2) no
   . by_cases hk:k=i;.subst hk;rw[new q2]at q1;exact absurd (old hj q1) no
     .exact g.dis j k c (old hj q1) (old hk q2)
 . have:c≠a:=by rintro rfl;rw[ha]at q;cases q
   rw[aM this];exact q
 . by_cases hj:j=i;.subst hj;rw[new q];exact .inr ha
   .exact .inl ⟨j,old hj q⟩
 . have hj:j≠i:=by rintro rfl;rw[e]at q;cases q;cases l
   exact⟨by rw[List.getElem?_set_ne (Ne.symm hj)],t,by rw[List.getElem?_set_ne (Ne.symm hj)];exact q,.refl t⟩
end
noncomputable def wD(p:Int×Int):Key×V:=(Sum.inl p.1,V.int p.2)
theorem Es(i:Int):∀kvs:List (Int×Int),kI (kvs.map wD) (Sum.inl i:Key)=((kvs.find? fun kv=>decide (kv.1=i)).map (·.2)).map V.int
 |[]=>rfl|p::kvs=>by
   have ih:=Es i kvs;unfold kI at ih ⊢;rw[List.map_cons,List.find?_cons,List.find?_cons];by_cases h:p.1=i
   . have e:decide ((wD p).1=(Sum.inl i:Key))=true:=by simp[wD,h]
     rw[e];simp[h,wD]
   . have e:decide ((wD p).1=(Sum.inl i:Key))=false:=by simp[wD,h]
     rw[e];simp only[h,decide_false];exact ih
theorem QC(i v:Int)(kvs:List (Int×Int)):putK (kvs.map wD) (Sum.inl i:Key) (V.int v)=(putD kvs i v).map wD:=by
 have e:((kvs.map wD).any fun kv=>decide (kv.1=(Sum.inl i:Key)))=kvs.any fun kv=>decide (kv.1=i):=by rw[List.any_map];congr 1;funext p;simp[wD]
 unfold putK putD;rw[e];split
 . rw[List.map_map,List.map_map];refine List.map_congr_left fun p _=>?_;by_cases h:p.1=i;.simp[wD,h]
   .simp[wD,h]
 .rw[List.map_append];rfl
section
variable{X:Cx}{c:Call}{n:Nat}{a b e:Expr}{pa pb p:P}{pos:Pos}
theorem Hw{H:Hp}{q:Addr}{m:Dc}{i:Int}{o:Option Int}(h:Rd H q m.ho)(e:m.get (.int i)=some o):yS H q (.int i) (o.map V.int):=by cases m with|k kvs=>cases e;exact .inl ⟨kvs.map wD,Sum.inl i,h,rfl,(Es i kvs).symm⟩|t kvs=>cases e
theorem Bj(hu:X.A.units+8<cLine)(ha:SX X c a pa)(hb:SX X c b pb)(hs:La b):SX X c (.Subscript a b pos) (.bin .Ja pa pb):=by refine uB (f:=sO) (fun h1 h2=>?_) ha hb (fun ρ=>rfl) rfl;intro pins s σ H Q I h;refine Av PySem.F.slot_dict_getitem.lookup hs (cL (h1 pins s σ H _ I h) fun u s1⟨x,H1,I1,rx,q1⟩=>cL (h2 pins s1 σ H1 _ I1 q1) fun iv s2⟨y,H2,I2,ry,q2⟩=>?_);obtain⟨F,d,e,r,sm,px,py,he,k⟩:=q2;cases d with
 |cg m=>have zz:=dG (show(m.get e).bind (fun o=>o.map fun v=>R.val (.int v))=some r from he);clear he;obtain⟨o,e1,he⟩:=zz;cases o with|none=>cases he|some v=>
     cases he;obtain⟨i,rfl⟩:∃i,e=.int i:=by cases m with|t kvs=>cases e<;>cases e1|k kvs=>cases e<;>first|exact⟨_,rfl⟩|cases e1
     obtain⟨q,ob,rfl,hq⟩:=px.cg sm;rw[py.int]at ry;obtain rfl:u=Value.ref q:=rx;have g:=Hw (.inr ⟨ob,hq⟩) e1;exact⟨nD I2 g,sV (by omega) I2 g ry fun w' s3 I3 zA=>⟨.int v,H2,I3,zA,cM.eV sm (cJ _) k⟩⟩
 |_=>cases he
theorem JZ{i:Nat}{x:Str}{pos' p2:Pos}(hN:X.N.Nodup)(hi:X.N[i]?=some x)(hx:Loc X.env.scope x)(hs:swapsWith (.Dict [] [] p2) (some (.Name x pos')) pos.line X.env=pure false:=by rfl)(hf:X.fn x=true\/X.env.scope.names.lookup x=some .local:=by first|exact .inl rfl|exact .inr rfl|assumption):SS X c n (.Assign [.Name x pos'] (.Dict [] [] p2) pos) (.vf i false):=by
 refine eU (yN hN hi hx Fq hs hf) ?_;rintro D σ H⟨F,ρ,fl,ρ',g,e,k⟩;rw[HH.X16]at e;split at e;.rename_i q;cases e;exact fun a ha=>k F _ _ (g.newD (m:=.k []) q ha)
 .cases e
theorem Fb{i:Nat}{x:Str}{px apos cpos:Pos}{pk pd:P}(hu:X.A.units+8<cLine)(hN:X.N[i]?=some x)(hv:xX X.env.scope x)(ha:SX X c a pk)(hb:SX X c b pd)(m:M2 X (.Name x px) "get" apos a b cpos)(hd:(x==("__debug__":Str))=false:=by decide)(hcd:(x==("__classdict__":Str))=false:=by decide):SX X c (.Call (.Attribute (.Name x px) "get" apos) [a,b] [] cpos) (.Tg i pk pd):=by
 obtain⟨ta,h1,h2⟩:=ha.dz;obtain⟨tb,h3,h4⟩:=hb.dz;refine⟨dX (vW (by omega) (gb hN hv hd hcd) h1 h3 m) ?_,fun i h=>by cases h⟩;rintro σ H Q⟨F,ρ,r,ρ',g,e,k⟩;rw[HH.E22]at e;split at e
 . rename_i m0 q;obtain⟨kd,ρ1,e1,eA⟩:=ao e;clear e;obtain⟨dd,ρ2,e2,eB⟩:=ao eA;clear eA;obtain⟨a0,o0,w1,w2,w3,w4⟩:=g.own i _ _ q rfl;refine⟨.ref a0,w1,a0,rfl,?_,?_⟩;.cases(show o0=m0.ho from w4);cases m0 with|k kvs=>exact .inl ⟨_,.inl w2⟩|t kvs=>exact .inr ⟨_,.inl w2⟩
   . refine h2 g e1 fun v F1 H1 s1 pv=>h4 s1.gs e2 fun z F2 H2 s2 pz=>?_;split at eB
     . rename_i m1 q1;obtain⟨eC,e3⟩:=aF eB;clear eB;subst e3;obtain⟨o,e4,eD⟩:=dG eC;clear eC;obtain⟨w,e5,e6⟩:=map_some eD;subst e6;obtain⟨a1,o1,y1,y2,y3,y4⟩:=s2.gs.own i _ _ q1 rfl;rw[w1]at y1;cases y1;cases(show o1=m1.ho from y4);obtain⟨j,rfl⟩:∃j,kd=.int j:=by cases m1 with|t kvs=>cases kd<;>cases e4|k kvs=>cases kd<;>first|exact⟨_,rfl⟩|cases e4
       rw[eY e5]at pz;rw[pv.int,pz.int];refine⟨o.map V.int,Hw (.inl y2) e4,?_⟩;have:(o.map V.int).getD (V.int w)=V.int (o.getD w):=by cases o<;>rfl
       rw[this];exact k _ F2 H2 (s1.trans s2) (show Rep X.K F2 _ _ from cJ _)
     .cases eB
 .cases e
theorem zU{i:Nat}{x:Str}{px pos':Pos}{pk:P}(hu:X.A.units+8<cLine)(hN:X.N[i]?=some x)(hv:xX X.env.scope x)(ha:SX X c a pk)(he:SX X c e p)(hs:swapsWith e (some (.Subscript (.Name x px) a pos')) pos.line X.env=pure false:=by rfl)(hd:(x==("__debug__":Str))=false:=by decide)(hcd:(x==("__classdict__":Str))=false:=by decide):SS X c n (.Assign [.Subscript (.Name x px) a pos'] e pos) (.dput i pk p):=by
 obtain⟨ta,h1,h2⟩:=ha.dz;refine eU (Bs (by omega) (gb hN hv hd hcd) h1 he.ev hs) ?_;rintro D σ H⟨F,ρ,fl,ρ',g,e,k⟩;rw[HH.X17]at e;obtain⟨r,ρ1,e1,eA⟩:=ao e;clear e;refine⟨F,ρ,r,ρ1,g,e1,fun v F1 H1 s1 rr=>?_⟩;split at eA
 . rename_i m0 q0;obtain⟨kd,ρ2,e2,eB⟩:=ao eA;clear eA;obtain⟨a0,o0,w1,w2,w3,w4⟩:=s1.gs.own i _ _ q0 rfl;refine⟨.ref a0,w1,h2 s1.gs e2 fun y F2 H2 s2 py=>?_⟩;split at eB
   . rename_i m w q;split at eB;.rename_i m' e4;cases eB;obtain⟨a1,o1,y1,y2,y3,y4⟩:=s2.gs.own i _ _ q rfl;rw[w1]at y1;cases y1;cases(show o1=m.ho from y4);cases(show v=.int w by have:Rep X.K F1 v (.int w):=rr;rwa[Rep]at this);refine⟨a0,upd H2 a0 m'.ho,rfl,?_,k F2 σ _ ((s1.trans s2).trans (s2.gs.Yq q w1))⟩;cases m with|t kvs=>cases kd<;>cases e4|k kvs=>cases kd with|int j=>obtain⟨hl,e4⟩:=bw (show(if kvs.length<lim then some (Dc.k (putD kvs j w))else none)=some m' from e4);subst e4;rw[py.int];refine .inl ⟨kvs.map wD,Sum.inl j,y2,rfl,by rw[List.length_map,sizeLine_eq];exact hl,?_⟩;rw[QC];rfl|_=>cases e4
     .cases eB
   .cases eB
 .cases eA
end
end HH
end
section
namespace L2
open PySem PySem.Spec PyProof.Rows
noncomputable def Itk(a:Addr)(ob:Obj)(kvs:List (Key×V)):It:=⟨fun i H=>H a=some (.fW ob (.dK kvs))/\i<kvs.length,fun i H x H'=>H'=H/\∃p,kvs[i]?=some p/\x=kV p.1,fun i H=>H a=some (.fW ob (.dK kvs))/\kvs.length<=i⟩
theorem KV.get:∀{κ:Type}{kvs:List (κ×V)}{vs:List (κ×Value)}{i:Nat}{p:κ×V},KV kvs vs->kvs[i]?=some p->∃v,vs[i]?=some (p.1,v)|_,_,_,_,_,.nil,e=>by simp at e|_,_,_,0,_,.cons r _,e=>by simp at e;subst e;exact⟨_,by rw[List.getElem?_cons_zero,r.1]⟩|_,_,_,i+1,p,.cons _ t,e=>by obtain⟨v,h⟩:=KV.get (i:=i) (p:=p) t (by simpa using e);exact⟨v,by simpa using h⟩
theorem rF{X:Cx}{pins:List (Addr×Obj)}{σ:St}{H:Hp}{s:Shared}{a:Addr}{ob:Obj}{kvs:List (Key×V)}{es:Array DictEntry}{ep:Nat}(I:Inv X pins σ H s)(h:H a=some (.fW ob (.dK kvs)))(hd:ob.data=.dict es ep):(a==sysModules)=false/\∃vs,KV kvs vs/\s.heap.DictAt (bU X.prog X.w) a vs ep:=by obtain⟨ho,hz,hS,vs,r,dd⟩:=(show bL X.prog X.w H s.heap a (.fW ob (.dK kvs))from I.hok a _ h);obtain⟨o,es',ep',h1,h2,h3,h4⟩:=dd;rw[ho]at h1;cases h1;rw[hd]at h3;cases h3;exact⟨hS,vs,r,⟨ob,es,ho,h2,hd,h4⟩⟩
theorem Su{P:Program}{w:World}{k:Key}{u:Value}(h:(bU P w).is k u=true):RelV (kV k) u:=by
 rcases bO h with⟨i,t,rfl,rfl⟩|⟨x,t,rfl,rfl⟩;.exact⟨t,rfl⟩
 .exact⟨t,rfl⟩
theorem Dm{P:Program}{w:World}{K:PySem.W.Frag}{tg:Expr}(a it:Addr)(ob:Obj)(kvs:List (Key×V))(es:Array DictEntry)(ep:Nat)(hd:ob.data=.dict es ep):Turn P w K tg (Itk a ob kvs) [it] it (fun i h=>h.IsKeyIter it a i kvs.length ep)where
 mem:=by simp
 obj:=fun i h st b hb=>by
  have e:b=it:=by simpa using hb
  subst e;obtain⟨o,e,c,d⟩:=st;exact⟨o,e,fun v z=>by rw[d]at z;cases z⟩
 keep:=fun i h h' st k=>st.at fun o e=>k it (by simp) o e;item:=by intro X hP hw hK hc i pins s σ H E I hf st hg;subst hP hw hK;obtain⟨hq,hi⟩:=hg;obtain⟨hS,vs,r,dd⟩:=rF I hq hd;have hl:vs.length=kvs.length:=(Paired.length r).symm;obtain⟨v,hx⟩:=KV.get r (show kvs[i]?=some kvs[i]by simp[hi]);obtain⟨f0,f1,f2,f3,f4,f5⟩:=hf it (by simp);refine wpAny_pyNext_dict_item (by rw[hl];exact st) dd hx fun u h' hu st' sb=>?_;have I1:Inv X pins σ H {s with heap:=h'}:=I.turned (t':=s.toks) (fun b o hb e=>(sb.2 b hb).trans e) f0 f1 f3 f4 f5;rw[hl]at st';obtain⟨o,e,c,d⟩:=id st';exact⟨u,rfl,Bb (s:={s with heap:=h'}) e c d (by decide) ⟨_,H,I1,Su hu,⟨rfl,_,by simp[hi],rfl⟩,st',fun b hb=>(hf b hb).1⟩⟩
 done:=by intro X hP hw hK hc i pins s σ H E I hf st hg;subst hP hw hK;obtain⟨hq,hi⟩:=hg;obtain⟨hS,vs,r,dd⟩:=rF I hq hd;have hl:vs.length=kvs.length:=(Paired.length r).symm;obtain⟨f0,f1,f2,f3,f4,f5⟩:=hf it (by simp);refine wpAny_pyNext_dict_end (I.ok.hd hc) (by rw[hl];exact st) dd (by simp[hl,hi]) fun h' he=>⟨rfl,?_⟩;exact I.turned (t':=s.toks) (fun b o hb e=>he b o hb e) f0 f1 f3 f4 f5
 self:=fun A i s Q E st hQ=>wpAny_pyIter_keyiter st hQ
section
variable{X:Cx}{tg:Expr}
theorem Kg{l:Expr}{tl:TE}(hl:PE X l tl):PI X tg l (fun σ H R=>tl σ H fun x H1=>∃a ob kvs,x=.ref a/\H1 a=some (.fW ob (.dK kvs))/\R (Itk a ob kvs) H1):=by
 intro pins s σ H R I h;refine cL (hl pins s σ H _ I h) ?_;rintro v s1⟨x,H1,I1,r1,a,ob,kvs,e,hq,q⟩;subst e;cases r1;obtain⟨ho,hz,hS,vs,r,dd⟩:=(show bL X.prog X.w H1 s1.heap a (.fW ob (.dK kvs))from I1.hok a _ hq);obtain⟨o,es,ep,h1,h2,h3,h4⟩:=id dd;rw[ho]at h1;cases h1;have hlen:vs.length=kvs.length:=(Paired.length r).symm;refine wpAny_pyIter_dict (knd:=bU X.prog X.w) (kvs:=vs) (ep:=ep) hS ⟨ob,es,ho,h2,h3,h4⟩ ?_;refine⟨s1.heap.objs.size,[s1.heap.objs.size],_,_,H1,rfl,I1.kept (t':=s1.toks) fun b o e=>Heap.get?_push_of_some _ e,Dm a _ ob kvs es ep h3,⟨_,Heap.get?_push_size _ rfl,rfl,by rw[hlen];rfl⟩,fun b hb=>?_,q⟩;have e:b=s1.heap.objs.size:=by simpa using hb
 subst e;exact I1.De (Nat.le_refl _) (I1.hok.fresh (Nat.le_refl _))
end
end L2
namespace HH
open PySem L2 PySem.Spec PyProof.Rows
section
variable{X:Cx}{c:Call}{tg e:Expr}{p:P}
theorem LQ(h:SX X c e p):SI X c tg e (.blt .keys [p]):=by
 unfold SI;obtain⟨ta,h1,h2⟩:=h.dz;refine rJ (Kg h1) ?_;rintro σ H R⟨F,ρ,ds,ρ1,g,eA,k⟩;obtain⟨r,ρ2,eB,eC⟩:=ao (show((HH.ev c (.blt .keys [p]) ρ).bind fun r ρ=>lift (items r.d) ρ)=.ok ds ρ1 from eA);obtain⟨eD,e3⟩:=aF eC;subst e3;rw[HH.E16]at eB;obtain⟨d,ρ3,e1,eE⟩:=ao eB;obtain⟨eF,e4⟩:=aF eE;subst e4;have hd:∃kvs,d=.cg (.k kvs):=by cases d with
  |cg m=>cases m with|k kvs=>exact⟨kvs,rfl⟩|t kvs=>cases eF
  |_=>cases eF
 obtain⟨kvs,rfl⟩:=hd;cases eF;cases eD;refine h2 g e1 fun v F' H' s pv=>?_;obtain⟨a,ob,rfl,hq⟩:=pv.cg s.gs.sub;refine⟨a,ob,kvs.map wD,rfl,hq,k _ F' H' ⟨s.gs,fun n j F2 ρ2 σ2 H2 s2=>?_,fun F2 ρ2 σ2 H2 s2=>⟨s.trans s2,fun v r rr=>rr.later s⟩⟩⟩;have gm:=s.gs.more (n:=n) (τ:=List.replicate n none) (by simp);have hq2:=s2.keep a _ hq fun⟨j,⟨t,dt,q1,q2⟩,q3⟩=>by obtain⟨a',o',z1,z2,z3,z4⟩:=gm.own j t dt q1 q2;rw[q3]at z1;cases z1;rw[hq]at z2;cases z2;cases dt with|l ds=>obtain⟨xs,z,_⟩:=z4;cases z|d m=>cases m<;>cases z4
 refine⟨fun d hd=>?_,fun hj=>⟨hq2,by simpa using hj⟩⟩;have hj:j<kvs.length:=by have:=(List.getElem?_eq_some_iff.mp hd).1;simpa using this
 refine⟨⟨hq2,by simpa using hj⟩,fun x qP⟨e5,q,e6,e7⟩=>?_⟩;subst e5;refine⟨F2,.refl s2.gs.sub,?_⟩;rw[List.getElem?_map,List.getElem?_eq_getElem hj]at e6 hd;cases e6;cases hd;rw[e7];exact cJ _
end
end HH
end
section
namespace HH
open PySem L2 PySem.Spec PyProof.Rows PySem.Calls PySem.W
section
variable{prog:Program}{w:World}{A:Around}{E:Value->Shared->Prop}{s:Shared}
theorem tU{κ:Type}[DecidableEq κ]{knd:PySem.KeyKind prog w κ}{d:Addr}{kvs:List (κ×Value)}{ep:Nat}{Q:List Value->Shared->Prop}(hh:A.handled=none)(lo:(d==sysModules)=false)(dd:s.heap.DictAt knd d kvs ep)(hn:kvs.length<=sizeLine)(hQ:∀h' tk acc,(∀b o,s.heap.get? b=some o->h'.get? b=some o)->s.heap.objs.size<h'.objs.size->ItemsOf (fun i v=>∃k x,kvs[i]?=some (k,x)/\knd.is k v=true) acc kvs.length->Q acc.toList {s with heap:=h',toks:=tk}):
 wpAny (model prog w) A (collect (.ref d)) Q E s:=by have hlt:=dd.lt_size;unfold collect;refine wpAny_bind (wpAny_runValue (codeAny_builtin F.entry_proto_collect ?_));rw[Around.under_plainId F.plain_proto_collect _];show wpAny _ A.in1 (newList []>>=fun l=>again (.builtin "list.__iadd__" ⟨[l,.ref d],[]⟩)) _ _ s;refine wpAny_bind (wpAny_newObj_type ?_);refine wpAny_pure ⟨plainId_quiet F.plain_list_iadd _,codeAny_builtin F.entry_list_iadd ?_⟩;rw[Around.under_plainId F.plain_list_iadd _];show wpAny _ A.in1 (Builtin.List.listExtendWith (.ref s.heap.objs.size) (.ref d) (.ref s.heap.objs.size)) _ _ _;refine kdl_extend (A:=A) (R:=fun r s'=>match r with
  |.ok (.ret v)=>wpAny (model prog w) A (match v with
   |.ref a=>do let o<-load a match o.data with|.seq xs _=>pure xs.toList|_=>unsupported "internal:collect"
   |_=>unsupported "internal:collect") Q E s'|.ok _=>False|.error e=>E e s') (s:={s with heap:=s.heap.push {cls:=.type "list",data:=.seq #[]}}) (kdl_dict (knd:=knd) (kvs:=kvs) (ep:=ep) lo) hh (dd.push _) s.heap.objs.size (Nat.ne_of_gt hlt) (Nat.ne_of_gt hlt) _ 0 (Heap.get?_push_size _ rfl) (fun h' tk acc c' hk hS hacc=>?_) hn;refine wpAny_bind (wpAny_load hS ?_);exact wpAny_pure (hQ h' tk acc (fun b o e=>hk b o (Nat.ne_of_lt (Heap.lt_size e)) (Heap.get?_push_of_some _ e)) (Heap.lt_size hS) hacc)
end
theorem ql{P:Program}{w:World}:∀{kvs:List (Int×Int)}{vs:List (Key×Value)}{acc:List Value},KV (kvs.map wD) vs->acc.length=vs.length->(∀(j:Nat)(v:Value),acc[j]?=some v->∃(k:Key)(x:Value),vs[j]?=some (k,x)/\(bU P w).is k v=true)->IntsAre acc (kvs.map (·.1))
 |[],_,acc,.nil,h,_=>by cases acc with|nil=>exact .nil|cons _ _=>simp at h
 |p::kvs,_,acc,.cons (b:=q) r t,h,k=>by cases acc with|nil=>simp at h|cons v acc=>
     obtain⟨k',x,e1,e2⟩:=k 0 v rfl;simp at e1;have e3:k'=Sum.inl p.1:=by have z:=r.1;rw[e1]at z;exact z.symm
     subst e3;obtain⟨i,tk,e4,rfl⟩|⟨_,_,e4,_⟩:=bO (show pL (Sum.inl p.1) v=true from e2);.cases e4;exact .cons _ tk (ql t (by simpa using h) fun j v e=>k (j+1) v (by simpa using e))
     .cases e4
section
variable{X:Cx}{c:Call}{a:Expr}{pa:P}{pos:Pos}
theorem lJ:∀{ns:List Int}{us:List Value},IntsAre us ns->Vals (ns.map V.int) us|_,_,.nil=>.nil|_,_,.cons n t r=>.cons ⟨t,rfl⟩ (lJ r)
theorem mC{K:PySem.W.Frag}{F:Hp}:∀ns:List Int,aH K F (ns.map V.int) (ns.map D.int)|[]=>.nil|n::ns=>.cons (cJ n) (mC ns)
theorem JP(hc:X.calm=true):fc X (.builtin "sorted") (N6 X.K fun x=>blt .xO [x]):=by
 rintro pins s σ H xs us Q I r⟨x,hx,F,d,r',sm,px,he,k⟩;obtain⟨kvs,rfl⟩:∃kvs,d=.cg (.k kvs):=by cases d with
  |cg m=>cases m with|k kvs=>exact⟨kvs,rfl⟩|t kvs=>cases he
  |_=>cases he
 obtain⟨so,he⟩:=bw (show(if sortable (kvs.map fun p=>D.int p.1)=true then some (R.own (jG (kvs.map fun p=>D.int p.1)))else none)=some r' from he);subst he;obtain⟨q,ob,rfl,hq⟩:=px.cg sm;subst hx;obtain⟨u,rfl,rx⟩:=r.one;cases rx;obtain⟨ho,hz,hS,vs,rv,dd⟩:=(show bL X.prog X.w H s.heap q (.fW ob (.dK (kvs.map wD)))from I.hok q _ hq);obtain⟨ep,dd⟩:=dd.dictAt;have hl:vs.length=kvs.length:=by rw[<-Paired.length rv,List.length_map]
 have so':=so;simp only[sortable,Bool.and_eq_true,decide_eq_true_eq,List.length_map]at so';have h64:=so'.1;refine Calls.call_function_entry kind_sorted plain_sorted entry_sorted (args_sorted1 _) ?_;unfold Builtin.«sorted»;refine wpAny_bind (m:=checkCount "sorted" 1 1 _) (wpAny_pure ?_);refine wpAny_bind (tU (A:=X.A.in1) (knd:=bU X.prog X.w) (I.ok.hd hc) hS dd (by rw[hl,sizeLine_eq];omega) fun h1 tk acc kp hsz hacc=>?_);have ia:IntsAre acc.toList (kvs.map (·.1)):=ql (P:=X.prog) (w:=X.w) rv (by rw[Array.length_toList];exact hacc.1) fun j v e=>hacc.2 j v (by rw[<-Array.getElem?_toList];exact e);have hla:acc.toList.length=kvs.length:=by rw[IntsAre.length ia,List.length_map]
 generalize acc.toList=its at ia hla;refine wpAny_bind (wpAny_newList ?_ (by rw[sizeLine_eq];omega));have hsz:=Nat.le_of_lt hsz;generalize hG:(h1.push {cls:=.type "list",data:=.seq its.toArray}:Heap)=H2;have ho2:H2.get? h1.objs.size=some (seqObj "list" its.toArray 0):=by rw[<-hG];exact Heap.get?_push_size _ rfl
 have lR:∀b o,s.heap.get? b=some o->H2.get? b=some o:=fun b o e=>by rw[<-hG];exact Heap.get?_push_of_some _ (kp b o e)
 have hne:∀b o,s.heap.get? b=some o->b≠h1.objs.size:=fun b o e=>Nat.ne_of_lt (Heap.lt_size (kp b o e));show wpAny _ _ _ _ _ {s with heap:=H2,toks:=tk};refine wpAny_bind (wpAny_holding (wpAny_call_entry slot_list_sort ⟨_,ho2,rfl⟩ entry_list_sort ?body (args_list_sort _)));case body=>
  refine mX (s:={s with heap:=H2,toks:=tk}) (κ:=oneType') ho2 so (by omega) (by have:=MT ia;rwa[List.map_map]at this) J5 (fun h' k' C hC h2=>?_) (fun h' k' u v d e hd he C hC=>?_) fun h' cc p k' p1 p2 e=>?_;.match its,ia,h2 with|v1::v2::rest,ia,_=>rw[keyKind_ints ia];exact wpAny_pure hC
  .exact Ku hd he hC
  . refine⟨_,rfl,wpAny_pure ⟨_,rfl,?_⟩⟩;have kk:∀b o,s.heap.get? b=some o->h'.get? b=some o:=fun b o z=>k' b o (hne b o z) (lR b o z);refine⟨.ref h1.objs.size,_,I.laid (t':=tk) (o:=.lst (pick .non p ((kvs.map (·.1)).map V.int))) (h':=h') kk hsz ⟨by rw[jj p1,hla,sizeLine_eq];omega,pick .none p its,cc,p7 (lJ ia),e⟩,rfl,?_⟩;have YT:aH X.K F (pick .non p ((kvs.map (·.1)).map V.int)) (jG (kvs.map fun p=>D.int p.1)):=by rw[<-p2];refine pI ?_;have:=mC (K:=X.K) (F:=F) (kvs.map (·.1));rwa[List.map_map (g:=D.int)]at this
    exact wJ sm YT (I.hok.fresh hsz) k
theorem FQ{x:Str}{p':Pos}(hx:x="sorted")(hc:X.calm=true)(hg:Gl X x)(hm:X.mg x=none)(ha:SX X c a pa)(hs:starEach [a] X.env=(false,eval a X.env)::starEach [] X.env:=by rfl):SX X c (.Call (.Name x p') [a] [] pos) (.blt .xO [pa]):=by subst hx;exact pZ (fun h=>fu (JP hc) hg hm boot_sorted h (he:=hs)) ha (fun ρ=>rfl) rfl hs
end
end HH
end
section
namespace HH
open PySem L2 PySem.Spec PyProof.Rows
theorem Rq{F H:Hp}{xs:List V}{p:Addr}(s:aO F H)(hp:H p=none):Ext F H (upd F p (.tup xs)) (upd H p (.tup xs)):=by
 have fp:F p=none:=by cases q:F p with|none=>rfl|some o=>have:=s p o q;rw[hp]at this;cases this
 refine⟨aO.cN hp,aO.cN fp,fun b o e=>?_,fun b n n'=>?_⟩
 . by_cases hb:b=p;.rw[hb,bj]at e ⊢;exact e
   .rw[aM hb]at e ⊢;exact s b o e
 . by_cases hb:b=p;.rw[hb];exact lN hp
   .rw[aM hb]at n';exact absurd n n'
noncomputable def xZ(p:List Int×Int):List Key×V:=(p.1.map Sum.inl,V.int p.2)
theorem wz:∀{a b:List Int},(a.map Sum.inl:List Key)=b.map Sum.inl->a=b|[],[],_=>rfl|[],_::_,h=>by cases h|_::_,[],h=>by cases h|x::a,y::b,h=>by rw[List.map_cons,List.map_cons]at h;injection h with h1 h2;injection h1 with h1;rw[h1,wz h2]
theorem vQ(a b:List Int):decide ((a.map Sum.inl:List Key)=b.map Sum.inl)=decide (a=b):=by
 by_cases h:a=b;.subst h;simp
 .rw[decide_eq_false h,decide_eq_false fun e=>h (wz e)]
theorem Gy(k:List Int):∀kvs:List (List Int×Int),kI (kvs.map xZ) (k.map Sum.inl:List Key)=((kvs.find? fun kv=>decide (kv.1=k)).map (·.2)).map V.int|[]=>rfl|p::kvs=>by have ih:=Gy k kvs;unfold kI at ih ⊢;have e:decide ((xZ p).1=(k.map Sum.inl:List Key))=decide (p.1=k):=vQ p.1 k;rw[List.map_cons,List.find?_cons,List.find?_cons,e];cases decide (p.1=k)with|true=>rfl|false=>exact ih
theorem Q8(k:List Int)(v:Int)(kvs:List (List Int×Int)):putK (kvs.map xZ) (k.map Sum.inl:List Key) (V.int v)=(putD kvs k v).map xZ:=by
 have d:∀p:List Int×Int,decide ((xZ p).1=(k.map Sum.inl:List Key))=decide (p.1=k):=fun p=>vQ p.1 k;have e:((kvs.map xZ).any fun kv=>decide (kv.1=(k.map Sum.inl:List Key)))=kvs.any fun kv=>decide (kv.1=k):=by rw[List.any_map];congr 1;funext p;exact d p
 unfold putK putD;rw[e];split
 . rw[List.map_map,List.map_map];refine List.map_congr_left fun p _=>?_;have h:=d p;by_cases q:p.1=k;.rw[decide_eq_true q]at h;have h':=of_decide_eq_true h;simp only[Function.comp_apply,if_pos q,if_pos h'];rfl
   .rw[decide_eq_false q]at h;have h':=of_decide_eq_false h;simp only[Function.comp_apply,if_neg q,if_neg h']
 .rw[List.map_append];rfl
theorem o5(k:List Int):(k.map Sum.inl:List Key).map kV=k.map V.int:=by rw[List.map_map];rfl
theorem G6{K:PySem.W.Frag}{F:Hp}{xs:List V}{ds:List D}(r:aH K F xs ds)(o:ds.all dC=true):xs=(ds.map eZ).map V.int:=by rw[all_ints o]at r;rw[gZ r]
theorem Gw{K:PySem.W.Frag}{F H:Hp}{q p:Addr}{m:Dc}{ds:List D}{xs:List V}{o:Option Int}(h:Rd H q m.ho)(r:aH K F xs ds)(hp:H p=some (.tup xs))(e:m.uJ ds=some o):yS H q (.ref p) (o.map V.int):=by cases m with|k kvs=>cases e|t kvs=>obtain⟨ho,e⟩:=bw (show(if ds.all dC=true then some ((kvs.find? fun kv=>decide (kv.1=ds.map eZ)).map (·.2))else none)=some o from e);subst e;refine .inr ⟨kvs.map xZ,(ds.map eZ).map Sum.inl,p,h,rfl,?_,(Gy _ kvs).symm⟩;rw[o5,<-G6 r ho];exact hp
theorem Inv.acq{X:Cx}{pins:List (Addr×Obj)}{σ:L2.St}{H:Hp}{s:Shared}{a:Addr}{kvs:List (List Key×V)}(I:L2.Inv X pins σ H s)(h:H a=some (.dT kvs)):∃o,L2.Inv X pins σ (upd H a (.fW o (.dT kvs))) s:=by obtain⟨z,y,xs,r,o,es,ep,h1,h2,h3,h4,h5⟩:=(show bL X.prog X.w H s.heap a (.dT kvs)from I.hok a _ h);refine⟨o,I.write (h':=s.heap) (t':=s.toks) (by rw[h];exact trivial) (.inl rfl) (fun b u _ e=>e) ⟨o,h1⟩ ⟨h1,z,y,xs,KT.keeps r fun b ys q=>?_,o,es,ep,h1,h2,h3,h4,h5⟩⟩;rw[aM (by rintro rfl;rw[h]at q;cases q)];exact q
section
variable{X:Cx}{c:Call}{n:Nat}{a b e:Expr}{p pa pb:P}{pos:Pos}{es:List Expr}{ps:List P}{x1:Nat}{tpos:Pos}
theorem Gs{i:Nat}{x:Str}{px:Pos}(hu:X.A.units+8<cLine)(hN:X.N[i]?=some x)(hv:xX X.env.scope x)(hk:SA X c es ps)(hs:La (.Tuple es x1 tpos))(hz:ps.length<=sizeLine:=by decide)(hd:(x==("__debug__":Str))=false:=by decide)(hcd:(x==("__classdict__":Str))=false:=by decide):SX X c (.Subscript (.Name x px) (.Tuple es x1 tpos) pos) (.Th i ps):=by refine⟨dX (Ky (by omega) (gb hN hv hd hcd) (ug hk.1) hs) ?_,fun i h=>by cases h⟩;rintro σ H Q⟨F,ρ,r,ρ',g,e,k⟩;rw[HH.E24]at e;obtain⟨d0,ρ0,e0,eA⟩:=ao e;clear e;obtain⟨YG,xP⟩:=aF e0;subst xP;obtain⟨m8,ρ1,e1,eB⟩:=ao eA;clear eA;obtain⟨dd,ρ2,e2,eC⟩:=ao eB;clear eB;obtain⟨e20,e21⟩:=aF e2;subst e21;obtain⟨e3,e31⟩:=aF eC;clear eC;subst e31;obtain⟨v0,w1,_⟩:=g.pk YG;refine⟨v0,w1,F,ρ,m8,ρ1,g,e1,fun vs F1 H1 s1 rs=>⟨by rw[rs.length,jJ e1];exact hz,fun q hq=>?_⟩⟩;have x1:=Rq (xs:=vs) s1.gs.sub hq;have s2:=s1.trans (x1.stp s1.gs);obtain⟨v1,w2,w3⟩:=s2.gs.pk e20;rw[w1]at w2;cases w2;cases dd with
 |cg m=>obtain⟨o,e4,e5⟩:=dG (show(m.uJ m8).bind (fun o=>o.map fun v=>R.val (.int v))=some r from e3);cases o with|none=>cases e5|some v=>cases e5;obtain⟨ad,ob,rfl,ha⟩:=w3.cg s2.gs.sub;have dg:=Gw (o:=some v) (m:=m) (.inr ⟨ob,ha⟩) rs bj e4;exact⟨ad,V.int v,rfl,dg,k _ _ _ s2 (show Rep X.K _ _ _ from cJ _)⟩
 |_=>cases e3
theorem Bm{i:Nat}{x:Str}{px apos cpos:Pos}{pd:P}(hu:X.A.units+8<cLine)(hN:X.N[i]?=some x)(hv:xX X.env.scope x)(hk:SA X c es ps)(hb:SX X c b pd)(m:M2 X (.Name x px) "get" apos (.Tuple es x1 tpos) b cpos)(hz:ps.length<=sizeLine:=by decide)(hd:(x==("__debug__":Str))=false:=by decide)(hcd:(x==("__classdict__":Str))=false:=by decide):SX X c (.Call (.Attribute (.Name x px) "get" apos) [.Tuple es x1 tpos,b] [] cpos) (.zB i ps pd):=by
 obtain⟨tb,h3,h4⟩:=hb.dz;refine⟨dX (vW (by omega) (gb hN hv hd hcd) (ug hk.1) h3 m) ?_,fun i h=>by cases h⟩;rintro σ H Q⟨F,ρ,r,ρ',g,e,k⟩;rw[HH.E25]at e;split at e
 . rename_i m0 q;obtain⟨m8,ρ1,e1,eA⟩:=ao e;clear e;obtain⟨dd,ρ2,e2,eB⟩:=ao eA;clear eA;obtain⟨a0,o0,w1,w2,w3,w4⟩:=g.own i _ _ q rfl;refine⟨.ref a0,w1,a0,rfl,?_,?_⟩;.cases(show o0=m0.ho from w4);cases m0 with|k kvs=>exact .inl ⟨_,.inl w2⟩|t kvs=>exact .inr ⟨_,.inl w2⟩
   . refine⟨F,ρ,m8,ρ1,g,e1,fun vs F1 H1 s1 rs=>⟨by rw[rs.length,jJ e1];exact hz,fun p hp=>?_⟩⟩;have x1:=Rq (xs:=vs) s1.gs.sub hp;have s1':=s1.trans (x1.stp s1.gs);refine h4 s1'.gs e2 fun z F2 H2 s2 pz=>?_;split at eB
     . rename_i m1 q1;obtain⟨eC,e3⟩:=aF eB;clear eB;subst e3;obtain⟨o,e4,eD⟩:=dG eC;clear eC;obtain⟨w,e5,e6⟩:=map_some eD;subst e6;obtain⟨a1,o1,y1,y2,y3,y4⟩:=s2.gs.own i _ _ q1 rfl;rw[w1]at y1;cases y1;cases(show o1=m1.ho from y4);rw[eY e5]at pz;rw[pz.int];refine⟨o.map V.int,Gw (.inl y2) rs (s2.gs.sub _ _ (s2.dm _ _ bj)) e4,?_⟩;have:(o.map V.int).getD (V.int w)=V.int (o.getD w):=by cases o<;>rfl
       rw[this];exact k _ F2 H2 (s1'.trans s2) (show Rep X.K F2 _ _ from cJ _)
     .cases eB
 .cases e
theorem wQ{i:Nat}{x:Str}{pos' p2:Pos}(hN:X.N.Nodup)(hi:X.N[i]?=some x)(hx:Loc X.env.scope x)(hs:swapsWith (.Dict [] [] p2) (some (.Name x pos')) pos.line X.env=pure false:=by rfl)(hf:X.fn x=true\/X.env.scope.names.lookup x=some .local:=by first|exact .inl rfl|exact .inr rfl|assumption):SS X c n (.Assign [.Name x pos'] (.Dict [] [] p2) pos) (.vf i true):=by
 refine eU (yN hN hi hx Hr hs hf) ?_;rintro D σ H⟨F,ρ,fl,ρ',g,e,k⟩;rw[HH.X16]at e;split at e;.rename_i q;cases e;exact fun a ha=>k F _ _ (g.newD (m:=.t []) q ha)
 .cases e
theorem xr{i:Nat}{x:Str}{px pos':Pos}(hu:X.A.units+8<cLine)(hN:X.N[i]?=some x)(hv:xX X.env.scope x)(hk:SA X c es ps)(he:SX X c e p)(hs:swapsWith e (some (.Subscript (.Name x px) (.Tuple es x1 tpos) pos')) pos.line X.env=pure false:=by rfl)(hz:ps.length<=sizeLine:=by decide)(hd:(x==("__debug__":Str))=false:=by decide)(hcd:(x==("__classdict__":Str))=false:=by decide):SS X c n (.Assign [.Subscript (.Name x px) (.Tuple es x1 tpos) pos'] e pos) (.tu i ps p):=by
 refine eU (Bs (by omega) (gb hN hv hd hcd) (ug hk.1) he.ev hs) ?_;rintro D σ H⟨F,ρ,fl,ρ',g,e,k⟩;rw[HH.X18]at e;obtain⟨r,ρ1,e1,eA⟩:=ao e;clear e;refine⟨F,ρ,r,ρ1,g,e1,fun v F1 H1 s1 rr=>?_⟩;split at eA
 . rename_i m0 q0;obtain⟨m8,ρ2,e2,eB⟩:=ao eA;clear eA;obtain⟨a0,o0,w1,w2,w3,w4⟩:=s1.gs.own i _ _ q0 rfl;refine⟨.ref a0,w1,F1,ρ1,m8,ρ2,s1.gs,e2,fun vs F2 H2 s2 rs=>⟨by rw[rs.length,jJ e2];exact hz,fun q hq=>?_⟩⟩;have x1:=Rq (xs:=vs) s2.gs.sub hq;have s2':=s2.trans (x1.stp s2.gs);split at eB
   . rename_i m w q1;split at eB;.rename_i m' e4;cases eB;obtain⟨a1,o1,y1,y2,y3,y4⟩:=s2'.gs.own i _ _ q1 rfl;rw[w1]at y1;cases y1;cases(show o1=m.ho from y4);cases(show v=.int w by have:Rep X.K F1 v (.int w):=rr;rwa[Rep]at this);refine⟨a0,upd (upd H2 q (.tup vs)) a0 m'.ho,rfl,?_,k _ σ _ ((s1.trans s2').trans (s2'.gs.Yq q1 w1))⟩;cases m with|k kvs=>cases e4|t kvs=>
         obtain⟨⟨ho,hl⟩,e4⟩:=bw (show(if m8.all dC=true/\kvs.length<lim then some (Dc.t (putD kvs (m8.map eZ) w))else none)=some m' from e4);subst e4;refine .inr ⟨kvs.map xZ,(m8.map eZ).map Sum.inl,q,y2,rfl,?_,by rw[List.length_map,sizeLine_eq];exact hl,?_⟩;.rw[o5,<-G6 rs ho];exact bj
         .rw[Q8];rfl
     .cases eB
   .cases eB
 .cases eA
theorem Nv{i:Nat}{x:Str}{px:Pos}(hN:X.N[i]?=some x)(hv:xX X.env.scope x)(hd:(x==("__debug__":Str))=false:=by decide)(hcd:(x==("__classdict__":Str))=false:=by decide):SX X c (.Name x px) (.vw i):=by
 have h:=gb (X:=X) (pos:=px) hN hv hd hcd;refine⟨?_,fun i h=>by cases h⟩;rintro pins s σ H Q I⟨F,ρ,r,ρ',g,e,k⟩;rw[HH.E23]at e;split at e
 . rename_i m q;cases e;obtain⟨a,h1,h2,h3⟩:=g.Br q;refine cL (h pins s σ H (fun v H'=>v=.ref a/\H'=H) I ⟨.ref a,h1,rfl,rfl⟩) fun u s1⟨v,H1,I1,r1,e1,e2⟩=>?_;subst e1 e2;have zz:∃o,L2.Inv X pins σ (upd H1 a (.fW o m.ho)) s1:=by cases m with|k kvs=>exact Inv.Wh I1 h2|t kvs=>exact Inv.acq I1 h2
   obtain⟨o,I2⟩:=zz;exact⟨.ref a,_,I2,r1,k _ _ _ (h3 o).1 (h3 o).2⟩
 .cases e
end
end HH
end
section
namespace HH
open PySem L2 PySem.Spec PyProof.Rows PySem.Calls PySem.W
noncomputable def iu(h:Heap)(d:Addr)(es:Array DictEntry)(ep:Nat):Prop:=∃o,h.get? d=some o/\o.ExactDict/\o.data=.dict es ep
section
variable{prog:Program}{w:World}{A:Around}{E:Value->Shared->Prop}{s:Shared}{d it:Addr}{es:Array DictEntry}{ep i:Nat}
theorem iu.ty(r:iu s.heap d es ep):s.TypeIs (.ref d) "dict":=let⟨o,h1,h2,_⟩:=r;⟨o,h1,h2.1⟩
theorem iu.lt{h:Heap}(r:iu h d es ep):d<h.objs.size:=let⟨_,h1,_⟩:=r;Heap.lt_size h1
theorem iu.at{h h':Heap}(r:iu h d es ep)(k:∀o,h.get? d=some o->h'.get? d=some o):iu h' d es ep:=let⟨o,h1,q⟩:=r;⟨o,k o h1,q⟩
theorem Ex{Q:Value->Shared->Prop}(lo:(d==sysModules)=false)(r:iu s.heap d es ep)(q:Q (.ref s.heap.objs.size) {s with heap:=s.heap.push {cls:=.type "dict_keyiterator",data:=.fields #[.ref d,.int 0 0,.int es.size 0,.int ep 0]}}):wpAny (model prog w) A (pyIter (.ref d)) Q E s:=by obtain⟨ob,g1,g2,g3⟩:=id r;refine wpAny_pyIter_slot r.ty PySem.F.slot_dict_iter (wpAny_call_entry PySem.F.slot_dict_iter r.ty PySem.F.entry_dict_iter ?bd (PySem.F.args_dict_iter_1 _));unfold Builtin.«dict.__iter__» Builtin.Dict.dictSlotNone;refine wpAny_bind (wpAny_bind (wpAny_notOrdered_dict r.ty ?_));show wpAny _ _ (pure (Value.ref d)) _ _ s;refine wpAny_pure ?_;show wpAny _ _ (Builtin.Dict.showsAll d>>=_) _ _ s;unfold Builtin.Dict.showsAll;rw[if_neg (fun z=>Bool.false_ne_true (lo.symm.trans z))];refine wpAny_bind (wpAny_pure (wpAny_bind (wpAny_dictEntries g1 g3 (wpAny_bind (wpAny_dictEpoch g1 g3 ?_)))));refine wpAny_bind (wpAny_newObj_type (wpAny_pure ⟨_,rfl,"dict_keyiterator",_,⟨_,Heap.get?_push_size _ rfl,rfl⟩,PySem.F.slot_dict_keyiterator_next.lookup,?_⟩));simpa[rawInt]using q
theorem G4{Q:Option Value->Shared->Prop}(hit:s.heap.IsKeyIter it d i es.size ep)(r:iu s.heap d es ep)(hi:i<es.size)(q:∀h',h'.IsKeyIter it d (i+1) es.size ep->Heap.SameBut it s.heap h'->Q (some es[i].key) {s with heap:=h'}):wpAny (model prog w) A (pyNext (.ref it)) Q E s:=by
 obtain⟨oi,i1,i2,i3⟩:=id hit;obtain⟨ob,g1,g2,g3⟩:=id r;unfold pyNext;refine wpAny_bind (wpAny_attempt (wpAny_callSpecial?_slot (name:=Str.ofString "__next__") hit.typeIs PySem.F.slot_dict_keyiterator_next (wpAny_call_entry PySem.F.slot_dict_keyiterator_next hit.typeIs PySem.F.entry_dict_keyiterator_next ?bd (PySem.F.args_dict_keyiterator_next_1 _))));refine wpAny_bind (wpAny_pure (wpAny_bind (wpAny_bind ?_)));first|refine wpAny_bind (wpAny_typeNameOfWhole_keyiter hit.typeIs (wpAny_pure (wpAny_bind (wpAny_fieldsOf i1 i3 ?_))))|refine wpAny_bind (wpAny_typeNameOf_keyiter hit.typeIs (wpAny_pure (wpAny_bind (wpAny_fieldsOf i1 i3 ?_))))
 simp only[show Builtin.Dict_items.ownsTuple "dict_keyiterator"=false by decide,Bool.false_eq_true,if_false];show wpAny _ _ (if(Value.ref d==Value.none)=true then _ else _) _ _ s;rw[if_neg (fun z:(Value.ref d==Value.none)=true=>Bool.false_ne_true z)];refine wpAny_bind (wpAny_pure (wpAny_bind (wpAny_dictEntries g1 g3 ?_)));rw[if_neg (by simp)];refine wpAny_bind (wpAny_pure (wpAny_bind (wpAny_dictEpoch g1 g3 ?_)));rw[if_neg (by simp)];refine wpAny_pure ?_;simp only[show ¬((i:Int)<0)from by omega,if_false,Int.toNat_natCast,Array.getElem?_eq_getElem hi];refine wpAny_bind ?_;first|refine wpAny_bind (wpAny_typeNameOfWhole_keyiter hit.typeIs (wpAny_pure (wpAny_bind (wpAny_isOneOf_keyiter hit.typeIs ?_))))|refine wpAny_bind (wpAny_typeNameOf_keyiter hit.typeIs (wpAny_pure (wpAny_bind (wpAny_isOneOf_keyiter hit.typeIs ?_))))
 show wpAny _ _ (setField (.ref it) 1 (rawInt ((i:Int)+1))>>=_) _ _ s;refine wpAny_bind (wpAny_setField i1 i3 (by simp) ?_);have on:(s.heap.update it (Obj.mapFields (·.setIfInBounds 1 (rawInt ((i:Int)+1))))).IsKeyIter it d (i+1) es.size ep:=⟨_,Heap.get?_update_self _ i1 (Obj.isFreed_of_fields (Obj.data_mapFields i3 _)),(Obj.cls_mapFields ..).trans i2,by rw[Obj.data_mapFields i3];simp[rawInt]⟩;refine wpAny_bind (wpAny_holding (wpAny_bind (wpAny_isOneOf_keyiter (s:={s with heap:=s.heap.update it (Obj.mapFields (·.setIfInBounds 1 (rawInt ((i:Int)+1))))}) on.typeIs ?_)));show wpAny _ _ (pure es[i].key) _ _ _;exact wpAny_pure (wpAny_pure ⟨_,rfl,wpAny_pure (q _ on (Heap.SameBut.update ..))⟩)
theorem KH{Q:Option Value->Shared->Prop}(hh:A.handled=none)(hit:s.heap.IsKeyIter it d es.size es.size ep)(r:iu s.heap d es ep)(q:∀h',Heap.ExtBut it s.heap h'->Q none {s with heap:=h'}):wpAny (model prog w) A (pyNext (.ref it)) Q E s:=by
 obtain⟨oi,i1,i2,i3⟩:=id hit;obtain⟨ob,g1,g2,g3⟩:=id r;unfold pyNext;refine wpAny_bind (wpAny_attempt (wpAny_callSpecial?_slot (name:=Str.ofString "__next__") hit.typeIs PySem.F.slot_dict_keyiterator_next (wpAny_call_entry PySem.F.slot_dict_keyiterator_next hit.typeIs PySem.F.entry_dict_keyiterator_next ?bd (PySem.F.args_dict_keyiterator_next_1 _))));refine wpAny_bind (wpAny_pure (wpAny_bind (wpAny_bind ?_)));first|refine wpAny_bind (wpAny_typeNameOfWhole_keyiter hit.typeIs (wpAny_pure (wpAny_bind (wpAny_fieldsOf i1 i3 ?_))))|refine wpAny_bind (wpAny_typeNameOf_keyiter hit.typeIs (wpAny_pure (wpAny_bind (wpAny_fieldsOf i1 i3 ?_))))
 simp only[show Builtin.Dict_items.ownsTuple "dict_keyiterator"=false by decide,Bool.false_eq_true,if_false];show wpAny _ _ (if(Value.ref d==Value.none)=true then _ else _) _ _ s;rw[if_neg (fun z:(Value.ref d==Value.none)=true=>Bool.false_ne_true z)];refine wpAny_bind (wpAny_pure (wpAny_bind (wpAny_dictEntries g1 g3 ?_)));rw[if_neg (by simp)];refine wpAny_bind (wpAny_pure (wpAny_bind (wpAny_dictEpoch g1 g3 ?_)));rw[if_neg (by simp)];refine wpAny_pure ?_;simp only[show ¬((es.size:Int)<0)from by omega,if_false,Int.toNat_natCast,Array.getElem?_eq_none (Nat.le_refl es.size)];refine wpAny_bind ?_;first|refine wpAny_bind (wpAny_typeNameOfWhole_keyiter hit.typeIs (wpAny_pure ?_))|refine wpAny_bind (wpAny_typeNameOf_keyiter hit.typeIs (wpAny_pure ?_))
 show wpAny _ _ (setField (.ref it) 0 .none>>=_) _ _ s;refine wpAny_bind (wpAny_setField i1 i3 (by simp) ?_);show wpAny _ _ (newExc (.type "StopIteration") []>>=_) _ _ _;refine wpAny_bind ?_;simp only[newExc,newTuple];refine wpAny_bind (wpAny_newObj_type ?_ (by size_fits));refine wpAny_bind (m:=firstArgMember _ _) (wpAny_of_eq (a:=Value.none) (by first|rfl|(simp only[firstArgMember];rfl)) (wpAny_newObj_type ?_ (by size_fits)));simp only[raiseNew];refine wpAny_bind (wpAny_handled ?_);rw[(hh:A.in1.handled=none)];refine wpAny_bind (wpAny_pure (wpAny_throw (wpAny_bind ?_)));refine wpAny_isInstance (T:="StopIteration") (b:=true) ⟨_,Heap.get?_push_size _ rfl,rfl⟩ isSubtype_stop ?_;exact wpAny_pure (q _ (((Heap.SameBut.update ..).extBut.push _).push _))
theorem sI(hh:A.handled=none)(J d:Addr)(hne:d≠J)(es:Array DictEntry)(ep:Nat):Walks prog w A J [J,d] [J] es.size (fun i v=>∃e,es[i]?=some e/\v=e.key) (fun i h=>h.IsKeyIter J d i es.size ep/\iu h d es ep)where
 sub:=fun b hb=>by simp at hb;simp[hb]
 frame:=fun _ _ _ st hk=>⟨st.1.at fun o e=>hk J (by simp) o e,st.2.at fun o e=>hk d (by simp) o e⟩;item:=fun i s Q E hi st hQ=>G4 st.1 st.2 hi fun h' hit' hs'=>hQ _ h' s.toks ⟨es[i],by simp[hi],rfl⟩ ⟨hit',st.2.at fun o e=>hs'.extBut d o hne e⟩ fun b o hb e=>hs'.extBut b o (fun h=>hb (by simp[h])) e;done:=fun s Q E st hQ=>KH hh st.1 st.2 fun h' he'=>hQ h' s.toks fun b o hb e=>he' b o (fun h=>hb (by simp[h])) e;self:=fun _ _ _ _ st hQ=>wpAny_pyIter_keyiter st.1 hQ
theorem Ks(lo:(d==sysModules)=false):KdlSrc prog w "dict" d d es.size (fun i v=>∃e,es[i]?=some e/\v=e.key) (fun h=>iu h d es ep)where
 type:=fun _ r=>r.ty;there:=fun _ r=>⟨r.lt,r.lt⟩;keep:=fun _ _ r hk=>r.at fun o e=>hk d (.inl rfl) o e;notList:=by decide
 notTuple:=by decide
 hint:=fun _ _ _ _ r hq=>kdl_hint_dict r.ty hq;iter:=fun _ _ hh r=>⟨_,_,(fun _ _ hq=>Ex lo r hq),sI hh _ d (Nat.ne_of_lt r.lt) es ep,⟨⟨_,Heap.get?_push_size _ rfl,rfl,rfl⟩,r.at fun o e=>Heap.get?_push_of_some _ e⟩⟩
theorem xm{Q:List Value->Shared->Prop}(hh:A.handled=none)(lo:(d==sysModules)=false)(r:iu s.heap d es ep)(hn:es.size<=sizeLine)(hQ:∀h' tk acc,(∀b o,s.heap.get? b=some o->h'.get? b=some o)->s.heap.objs.size<h'.objs.size->ItemsOf (fun i v=>∃e,es[i]?=some e/\v=e.key) acc es.size->Q acc.toList {s with heap:=h',toks:=tk}):
 wpAny (model prog w) A (collect (.ref d)) Q E s:=by have hlt:=r.lt;unfold collect;refine wpAny_bind (wpAny_runValue (codeAny_builtin F.entry_proto_collect ?_));rw[Around.under_plainId F.plain_proto_collect _];show wpAny _ A.in1 (newList []>>=fun l=>again (.builtin "list.__iadd__" ⟨[l,.ref d],[]⟩)) _ _ s;refine wpAny_bind (wpAny_newObj_type ?_);refine wpAny_pure ⟨plainId_quiet F.plain_list_iadd _,codeAny_builtin F.entry_list_iadd ?_⟩;rw[Around.under_plainId F.plain_list_iadd _];show wpAny _ A.in1 (Builtin.List.listExtendWith (.ref s.heap.objs.size) (.ref d) (.ref s.heap.objs.size)) _ _ _;refine kdl_extend (A:=A) (R:=fun r s'=>match r with
  |.ok (.ret v)=>wpAny (model prog w) A (match v with
   |.ref a=>do let o<-load a match o.data with|.seq xs _=>pure xs.toList|_=>unsupported "internal:collect"
   |_=>unsupported "internal:collect") Q E s'|.ok _=>False|.error e=>E e s') (s:={s with heap:=s.heap.push {cls:=.type "list",data:=.seq #[]}}) (Ks (es:=es) (ep:=ep) lo) hh (r.at fun o e=>Heap.get?_push_of_some _ e) s.heap.objs.size (Nat.ne_of_gt hlt) (Nat.ne_of_gt hlt) _ 0 (Heap.get?_push_size _ rfl) (fun h' tk acc c' hk hS hacc=>?_) hn;refine wpAny_bind (wpAny_load hS ?_);exact wpAny_pure (hQ h' tk acc (fun b o e=>hk b o (Nat.ne_of_lt (Heap.lt_size e)) (Heap.get?_push_of_some _ e)) (Heap.lt_size hS) hacc)
end
end HH
end
section
namespace HH
open PySem L2 PySem.Spec PyProof.Rows PySem.Calls PySem.W
noncomputable def jP(F H:Hp)(bs:List Addr):Hp:=fun b=>if b∈bs then H b else F b
theorem rG{F H:Hp}{bs:List Addr}(sm:aO F H)(ht:∀b∈bs,∃xs,H b=some (.tup xs)):Ext F H (jP F H bs) H:=by
 refine⟨.refl _,fun b o e=>?_,fun b o e=>?_,fun b n n'=>?_⟩
 . unfold jP;split;.exact sm b o e
   .exact e
 . unfold jP at e;split at e;.exact e
   .exact sm b o e
 . unfold jP at n';split at n';.rename_i hb;obtain⟨xs,e⟩:=ht b hb;rw[e];rfl
   .exact absurd n n'
theorem Ext.Fv{F H F1 F2 H2:Hp}(a:Ext F H F1 H)(b:Ext F1 H F2 H2):Ext F H F2 H2:=by
 refine⟨b.hs,a.fs.trans b.fs,b.sub,fun c n n'=>?_⟩;by_cases e:F1 c=none;.exact b.gr c e n'
 .exact a.gr c n e
theorem yZ{H:Hp}:∀{kvs:List (List Int×Int)}{ts:List (List Key×Addr×Value)},KT H (kvs.map xZ) ts->∀t∈ts,∃k:List Int,H t.2.1=some (.tup (k.map V.int))
 |[],_,.nil,t,h=>by cases h|p::kvs,_,.cons r q,t,h=>by
   rcases List.mem_cons.mp h with rfl|h;.exact⟨p.1,by rw[<-o5];exact r.2.1⟩
   .exact yZ q t h
theorem tO{K:PySem.W.Frag}{F H:Hp}:∀{kvs:List (List Int×Int)}{ts:List (List Key×Addr×Value)},KT H (kvs.map xZ) ts->(∀t∈ts,F t.2.1=H t.2.1)->aH K F (ts.map fun t=>V.ref t.2.1) (kvs.map fun p=>D.tup (p.1.map D.int))|[],_,.nil,_=>.nil|p::kvs,_,.cons (b:=t) r q,h=>by refine .cons ?_ (tO q fun t ht=>h t (List.mem_cons_of_mem _ ht));rw[Rep];exact⟨_,p.1.map V.int,rfl,jC.of (by rw[h t (by simp),<-o5];exact r.2.1),mC _⟩
theorem mL{β:Type}{f:β->Addr}:∀ts:List β,Vals (ts.map fun t=>V.ref (f t)) (ts.map fun t=>Value.ref (f t))|[]=>.nil|t::ts=>.cons rfl (mL ts)
theorem qp{es:Array DictEntry}{acc:Array Value}{ts:List (List Key×Addr×Value)}(he:es.toList.map (·.key)=ts.map fun t=>Value.ref t.2.1)(h:ItemsOf (fun i v=>∃e,es[i]?=some e/\v=e.key) acc es.size):acc.toList=ts.map fun t=>Value.ref t.2.1:=by rw[<-he];refine List.ext_getElem? fun i=>?_;rw[List.getElem?_map,Array.getElem?_toList,Array.getElem?_toList];cases q:acc[i]?with
 |none=>
   have:es[i]?=none:=by rw[Array.getElem?_eq_none_iff]at q ⊢;rw[<-h.1];exact q
   rw[this];rfl|some v=>obtain⟨e,e1,e2⟩:=h.2 i v q;rw[e1,e2];rfl
section
variable{X:Cx}{c:Call}{a:Expr}{pa:P}{pos:Pos}
theorem Fw(hc:X.calm=true):fc X (.builtin "sorted") (N6 X.K fun x=>blt .qI [x]):=by
 rintro pins s σ H xs us Q I r⟨x,hx,F,d,r',sm,px,he,k⟩;obtain⟨kvs,rfl⟩:∃kvs,d=.cg (.t kvs):=by cases d with
  |cg m=>cases m with|t kvs=>exact⟨kvs,rfl⟩|k kvs=>cases he
  |_=>cases he
 obtain⟨so,he⟩:=bw (show(if sortable (kvs.map fun p=>D.tup (p.1.map D.int))=true then some (R.own (jG (kvs.map fun p=>D.tup (p.1.map D.int))))else none)=some r' from he);subst he;obtain⟨q,ob,rfl,hq⟩:=px.cg sm;subst hx;obtain⟨u,rfl,rx⟩:=r.one;cases rx;obtain⟨ho,hz,hS,ts,rv,o',es,ep,g1,g2,g3,g4,g5⟩:=(show bL X.prog X.w H s.heap q (.fW ob (.dT (kvs.map xZ)))from I.hok q _ hq);have raw:iu s.heap q es ep:=⟨o',g1,g2,g3⟩;have hts:ts.length=kvs.length:=by rw[<-Paired.length rv,List.length_map]
 have hes:es.size=kvs.length:=by rw[<-Array.length_toList,g4,List.length_map,hts]
 have hke:es.toList.map (·.key)=ts.map fun t=>Value.ref t.2.1:=by rw[g4,List.map_map];rfl
 have so':=so;simp only[sortable,Bool.and_eq_true,Bool.or_eq_true,decide_eq_true_eq,List.length_map]at so';have h64:=so'.1;have hot:(kvs.map fun p=>D.tup (p.1.map D.int)).all nW=true:=by
  rcases so'.2 with h|h;.cases kvs with|nil=>rfl|cons p kvs=>simp[dC]at h
  .exact h
 generalize hds:(kvs.map fun p=>D.tup (p.1.map D.int))=ds at*;have Ej:ds.length=kvs.length:=by rw[<-hds,List.length_map]
 refine Calls.call_function_entry kind_sorted plain_sorted entry_sorted (args_sorted1 _) ?_;unfold Builtin.«sorted»;refine wpAny_bind (m:=checkCount "sorted" 1 1 _) (wpAny_pure ?_);refine wpAny_bind (xm (A:=X.A.in1) (I.ok.hd hc) hS raw (by rw[hes,sizeLine_eq];omega) fun h1 tk acc kp hsz hacc=>?_);have hia:=qp hke hacc;have hla:acc.toList.length=kvs.length:=by rw[hia,List.length_map,hts]
 have e0:Ext F H (jP F H (ts.map (·.2.1))) H:=rG sm fun b hb=>by obtain⟨t,ht,rfl⟩:=List.mem_map.mp hb;obtain⟨ks,e⟩:=yZ rv t ht;exact⟨_,e⟩
 have rs:aH X.K (jP F H (ts.map (·.2.1))) (ts.map fun t=>V.ref t.2.1) ds:=by rw[<-hds];exact tO rv fun t ht=>if_pos (List.mem_map.mpr ⟨t,ht,rfl⟩)
 have vv:Vals (ts.map fun t=>V.ref t.2.1) acc.toList:=by rw[hia];exact mL ts
 have tt:Paired (m6 s.heap) acc.toList ds:=um I e0.sub rs vv hot;generalize acc.toList=its at hla vv tt;generalize jP F H (ts.map (·.2.1))=F1 at e0 rs;generalize hys:(ts.map fun t=>V.ref t.2.1)=ys at rs vv;refine wpAny_bind (wpAny_newList ?_ (by rw[sizeLine_eq];omega));have hsz:=Nat.le_of_lt hsz;generalize hG:(h1.push {cls:=.type "list",data:=.seq its.toArray}:Heap)=H2;have ho2:H2.get? h1.objs.size=some (seqObj "list" its.toArray 0):=by rw[<-hG];exact Heap.get?_push_size _ rfl
 have lR:∀b o,s.heap.get? b=some o->H2.get? b=some o:=fun b o e=>by rw[<-hG];exact Heap.get?_push_of_some _ (kp b o e)
 have hne:∀b o,s.heap.get? b=some o->b≠h1.objs.size:=fun b o e=>Nat.ne_of_lt (Heap.lt_size (kp b o e));show wpAny _ _ _ _ _ {s with heap:=H2,toks:=tk};refine wpAny_bind (wpAny_holding (wpAny_call_entry slot_list_sort ⟨_,ho2,rfl⟩ entry_list_sort ?body (args_list_sort _)));case body=>
  refine mX (s:={s with heap:=H2,toks:=tk}) (κ:=tuples' (Value.type "int"!=Value.type "tuple")) ho2 so (by omega) tt zX (fun h' k' C hC h2=>?_) (fun h' k' u v d e hd he C hC=>?_) fun h' cc p k' p1 p2 e=>?_;.exact sJ (s:={s with heap:=h',toks:=tk}) (mK (fun b o z=>k' b o (hne b o z) (lR b o z)) tt) h2 hC
  .have kk:∀b o,s.heap.get? b=some o->h'.get? b=some o:=fun b o z=>k' b o (hne b o z) (lR b o z);exact Bx (s:={s with heap:=h',toks:=tk}) (gY kk hd) (gY kk he) hC
  . refine⟨_,rfl,wpAny_pure ⟨_,rfl,?_⟩⟩;have kk:∀b o,s.heap.get? b=some o->h'.get? b=some o:=fun b o z=>k' b o (hne b o z) (lR b o z);refine⟨.ref h1.objs.size,_,I.laid (t':=tk) (o:=.lst (pick .non p ys)) (h':=h') kk hsz ⟨by rw[jj p1,hla,sizeLine_eq];omega,pick .none p its,cc,p7 vv,e⟩,rfl,?_⟩;have YT:aH X.K F1 (pick .non p ys) (jG ds):=by rw[<-p2];exact pI rs
    exact wJ e0.sub YT (I.hok.fresh hsz) fun v F2 H2 x rn=>k v F2 H2 (e0.Fv x) rn
theorem Dy{x:Str}{p':Pos}(hx:x="sorted")(hc:X.calm=true)(hg:Gl X x)(hm:X.mg x=none)(ha:SX X c a pa)(hs:starEach [a] X.env=(false,eval a X.env)::starEach [] X.env:=by rfl):SX X c (.Call (.Name x p') [a] [] pos) (.blt .qI [pa]):=by subst hx;exact pZ (fun h=>fu (Fw hc) hg hm boot_sorted h (he:=hs)) ha (fun ρ=>rfl) rfl hs
end
end HH
end
section
namespace HH
open PySem L2 PySem.Spec PyProof.Rows
section
variable{X:Cx}{c:Call}{n:Nat}{pos:Pos}
theorem PX{x:Str}{k:Nat}{px apos cpos:Pos}(hN:X.N[k]?=some x)(hv:xX X.env.scope x)(hline:(apos.endLine==cpos.line)=true:=by rfl)(hbase:attributeBase (.Name x px) "reverse" X.env (eval (.Name x px) X.env)=eval (.Name x px) X.env:=by rfl)(hsw:swapsWith (.Call (.Attribute (.Name x px) "reverse" apos) [] [] cpos) none pos.line X.env=pure false:=by rfl)(hd:(x==("__debug__":Str))=false:=by decide)(hcd:(x==("__classdict__":Str))=false:=by decide):SS X c n (.Expr (.Call (.Attribute (.Name x px) "reverse" apos) [] [] cpos) pos) (.YF k):=by
 refine eU (oG (R4 PySem.F.plainAttrs_list PySem.F.slot_list_reverse PySem.F.type_list_reverse yK (gb hN hv hd hcd) hbase hline) hsw) ?_;rintro D σ H⟨F,ρ,fl,ρ',g,e,kk⟩;rw[HH.X19]at e;obtain⟨d0,ρ0,e0',eb⟩:=ao e;clear e;obtain⟨e0,xP⟩:=aF e0';clear e0';subst xP;obtain⟨a,xs,h1,h2⟩:=tQ g e0;split at eb;.rename_i bb ds q;cases eb;obtain⟨ad,zs,q1,q2,q3,q4⟩:=g.pg k _ ds q rfl;rw[h1]at q1;cases q1;exact⟨.ref a,h1,.inl ⟨rfl,xs,h2⟩,a,zs,rfl,rfl,q2,kk F σ _ (g.mut q h1 q4.rev)⟩
 .cases eb
end
end HH
end
section
namespace HH
open PySem L2 PySem.Spec PyProof.Rows PySem.Calls PySem.W
section
variable{prog:Program}{w:World}{A:Around}{E:Value->Shared->Prop}{s:Shared}{d v:Addr}{es:Array DictEntry}{ep i:Nat}
theorem Cq{Q:Value->Shared->Prop}(hv:KdlKeysView s.heap v d)(r:iu s.heap d es ep)(q:Q (.ref s.heap.objs.size) {s with heap:=s.heap.push {cls:=.type "dict_keyiterator",data:=.fields #[.ref d,.int 0 0,.int es.size 0,.int ep 0]}}):wpAny (model prog w) A (pyIter (.ref v)) Q E s:=by obtain⟨ov,v1,v2,v3⟩:=id hv;obtain⟨ob,g1,g2,g3⟩:=id r;refine wpAny_pyIter_slot hv.typeIs kdl_slot_keys_iter (wpAny_call_entry kdl_slot_keys_iter hv.typeIs kdl_entry_keys_iter ?bd (kdl_args_keys_iter _));unfold Builtin.«dict_keys.__iter__»;refine wpAny_bind (wpAny_pure (wpAny_bind ?_));unfold Builtin.Dict_items.dictOf;refine wpAny_bind (wpAny_field v1 v3 (x:=.ref d) rfl (wpAny_pure (wpAny_bind ?_)));unfold Builtin.Dict_items.newIterator;refine wpAny_bind (wpAny_dictEntries g1 g3 (wpAny_bind (wpAny_dictEpoch g1 g3 ?_)));simp only[show Builtin.Dict_items.ownsTuple "dict_keyiterator"=false by decide,Bool.false_eq_true,if_false];refine wpAny_newObj_type (wpAny_pure ⟨_,rfl,"dict_keyiterator",_,⟨_,Heap.get?_push_size _ rfl,rfl⟩,PySem.F.slot_dict_keyiterator_next.lookup,?_⟩);simpa[rawInt]using q
theorem Hz:KdlSrc prog w "dict_keys" v d es.size (fun i v=>∃e,es[i]?=some e/\v=e.key) (fun h=>KdlKeysView h v d/\iu h d es ep)where
 type:=fun _ r=>r.1.typeIs;there:=fun _ r=>⟨let⟨_,h1,_⟩:=r.1;Heap.lt_size h1,r.2.lt⟩;keep:=fun _ _ r hk=>⟨let⟨o,h1,q⟩:=r.1;⟨o,hk v (.inl rfl) o h1,q⟩,r.2.at fun o e=>hk d (.inr rfl) o e⟩;notList:=by decide
 notTuple:=by decide
 hint:=fun _ _ _ _ r hq=>kdl_hint_keys r.1.typeIs hq;iter:=fun _ _ hh r=>⟨_,_,(fun _ _ hq=>Cq r.1 r.2 hq),sI hh _ d (Nat.ne_of_lt r.2.lt) es ep,⟨⟨_,Heap.get?_push_size _ rfl,rfl,rfl⟩,r.2.at fun o e=>Heap.get?_push_of_some _ e⟩⟩
theorem uf{Q:List Value->Shared->Prop}(hh:A.handled=none)(hv:KdlKeysView s.heap v d)(r:iu s.heap d es ep)(hn:es.size<=sizeLine)(hQ:∀h' tk acc,(∀b o,s.heap.get? b=some o->h'.get? b=some o)->s.heap.objs.size<h'.objs.size->ItemsOf (fun i v=>∃e,es[i]?=some e/\v=e.key) acc es.size->Q acc.toList {s with heap:=h',toks:=tk}):wpAny (model prog w) A (collect (.ref v)) Q E s:=by
 have hlt:=r.lt;have hvl:v<s.heap.objs.size:=let⟨_,h1,_⟩:=hv;Heap.lt_size h1;unfold collect;refine wpAny_bind (wpAny_runValue (codeAny_builtin F.entry_proto_collect ?_));rw[Around.under_plainId F.plain_proto_collect _];show wpAny _ A.in1 (newList []>>=fun l=>again (.builtin "list.__iadd__" ⟨[l,.ref v],[]⟩)) _ _ s;refine wpAny_bind (wpAny_newObj_type (wpAny_pure ⟨plainId_quiet F.plain_list_iadd _,codeAny_builtin F.entry_list_iadd ?_⟩));rw[Around.under_plainId F.plain_list_iadd _];show wpAny _ A.in1 (Builtin.List.listExtendWith (.ref s.heap.objs.size) (.ref v) (.ref s.heap.objs.size)) _ _ _;refine kdl_extend (A:=A) (R:=fun r s'=>match r with
  |.ok (.ret v)=>wpAny (model prog w) A (match v with
   |.ref a=>do let o<-load a match o.data with|.seq xs _=>pure xs.toList|_=>unsupported "internal:collect"
   |_=>unsupported "internal:collect") Q E s'|.ok _=>False|.error e=>E e s') (s:={s with heap:=s.heap.push {cls:=.type "list",data:=.seq #[]}}) (Hz (es:=es) (ep:=ep)) hh ⟨let⟨o,h1,q⟩:=hv;⟨o,Heap.get?_push_of_some _ h1,q⟩,r.at fun o e=>Heap.get?_push_of_some _ e⟩ s.heap.objs.size (Nat.ne_of_gt hvl) (Nat.ne_of_gt hlt) _ 0 (Heap.get?_push_size _ rfl) (fun h' tk acc c' hk hS hacc=>?_) hn;exact wpAny_bind (wpAny_load hS (wpAny_pure (hQ h' tk acc (fun b o e=>hk b o (Nat.ne_of_lt (Heap.lt_size e)) (Heap.get?_push_of_some _ e)) (Heap.lt_size hS) hacc)))
end
noncomputable def vw(l d:Addr):Heap->Prop:=fun h=>KdlKeysView h l d
noncomputable def NQ:V->List V->Hp->VK->Prop:=fun x xs H Q=>∃q ob kvs,x=.ref q/\xs=[]/\H q=some (.fW ob (.dT (List.map xZ kvs)))/\∀l,H l=none->Q (.ref l) (upd H l (.ext (vw l q)))
section
variable{X:Cx}{c:Call}{a:Expr}{pa:P}{pos:Pos}
theorem J1:ZV X "dict.keys" NQ:=by rintro pins s σ H x xs v us Q I rx rv⟨q,ob,kvs,rfl,rfl,hq,k⟩;cases rx;cases rv;obtain⟨ho,hz,hS,ts,_,o',es,ep,g1,g2,g3,g4,g5⟩:=(show bL X.prog X.w H s.heap q (.fW ob (.dT (kvs.map xZ)))from I.hok q _ hq);have raw:iu s.heap q es ep:=⟨o',g1,g2,g3⟩;refine wpAny_call_entry PySem.F.slot_dict_keys raw.ty PySem.F.entry_dict_keys ?_ (PySem.F.args_dict_keys_1 _);show wpAny _ _ (Builtin.Dict.noArgs "keys" ⟨[Value.ref q],[]⟩>>=_) _ _ s;refine wpAny_bind ?_;unfold Builtin.Dict.noArgs;refine wpAny_bind (wpAny_notOrdered_dict raw.ty ?_);show wpAny _ _ (pure q) _ _ s;refine wpAny_pure ?_;show wpAny _ _ (Builtin.Dict.showsAll q>>=_) _ _ s;unfold Builtin.Dict.showsAll;rw[if_neg (fun z=>Bool.false_ne_true (hS.symm.trans z))];refine wpAny_bind (wpAny_pure (wpAny_bind (wpAny_newObj_type (wpAny_pure ⟨_,rfl,?_⟩))));have hn:KdlKeysView (s.heap.push {cls:=.type "dict_keys",data:=.fields #[.ref q]}) s.heap.objs.size q:=⟨_,Heap.get?_push_size _ rfl,rfl,rfl⟩;refine⟨.ref s.heap.objs.size,_,I.laid (t':=s.toks) (o:=.ext (vw s.heap.objs.size q)) (fun b o e=>Heap.get?_push_of_some _ e) (Nat.le_refl _) ⟨hn,⟨_,Heap.get?_push_size _ rfl⟩,fun h1 h2 z k=>?_⟩,rfl,k _ (I.hok.fresh (Nat.le_refl _))⟩;obtain⟨o,z1,z2⟩:=z;exact⟨o,k o z1,z2⟩
noncomputable def rVw(X:Cx):List V->Hp->VK->Prop:=fun xs H Q=>∃l q ob kvs,xs=[.ref l]/\H l=some (.ext (vw l q))/\H q=some (.fW ob (.dT (List.map xZ kvs)))/\sortable (kvs.map fun p=>D.tup (p.1.map D.int))=true/\∃F,aO F H/\∀v F' H',Ext F H F' H'->cM X.K F' H' H v (.own (jG (kvs.map fun p=>D.tup (p.1.map D.int))))->Q v H'
theorem abb(hc:X.calm=true):fc X (.builtin "sorted") (rVw X):=by
 rintro pins s σ H xs us Q I r⟨l,q,ob,kvs,hx,hl,hq,so,F,sm,k⟩;subst hx;obtain⟨u,rfl,rx⟩:=r.one;cases rx;obtain⟨YW,_,_⟩:=(show bL X.prog X.w H s.heap l (.ext (vw l q))from I.hok l _ hl);obtain⟨ho,hz,hS,ts,rv,o',es,ep,g1,g2,g3,g4,g5⟩:=(show bL X.prog X.w H s.heap q (.fW ob (.dT (kvs.map xZ)))from I.hok q _ hq);have raw:iu s.heap q es ep:=⟨o',g1,g2,g3⟩;have hts:ts.length=kvs.length:=by rw[<-Paired.length rv,List.length_map]
 have hes:es.size=kvs.length:=by rw[<-Array.length_toList,g4,List.length_map,hts]
 have hke:es.toList.map (·.key)=ts.map fun t=>Value.ref t.2.1:=by rw[g4,List.map_map];rfl
 have so':=so;simp only[sortable,Bool.and_eq_true,Bool.or_eq_true,decide_eq_true_eq,List.length_map]at so';have h64:=so'.1;have hot:(kvs.map fun p=>D.tup (p.1.map D.int)).all nW=true:=by
  rcases so'.2 with h|h;.cases kvs with|nil=>rfl|cons p kvs=>simp[dC]at h
  .exact h
 generalize hds:(kvs.map fun p=>D.tup (p.1.map D.int))=ds at*;have Ej:ds.length=kvs.length:=by rw[<-hds,List.length_map]
 refine Calls.call_function_entry kind_sorted plain_sorted entry_sorted (args_sorted1 _) ?_;unfold Builtin.«sorted»;refine wpAny_bind (m:=checkCount "sorted" 1 1 _) (wpAny_pure ?_);refine wpAny_bind (uf (A:=X.A.in1) (I.ok.hd hc) YW raw (by rw[hes,sizeLine_eq];omega) fun h1 tk acc kp hsz hacc=>?_);have hia:=qp hke hacc;have hla:acc.toList.length=kvs.length:=by rw[hia,List.length_map,hts]
 have e0:Ext F H (jP F H (ts.map (·.2.1))) H:=rG sm fun b hb=>by obtain⟨t,ht,rfl⟩:=List.mem_map.mp hb;obtain⟨ks,e⟩:=yZ rv t ht;exact⟨_,e⟩
 have rs:aH X.K (jP F H (ts.map (·.2.1))) (ts.map fun t=>V.ref t.2.1) ds:=by rw[<-hds];exact tO rv fun t ht=>if_pos (List.mem_map.mpr ⟨t,ht,rfl⟩)
 have vv:Vals (ts.map fun t=>V.ref t.2.1) acc.toList:=by rw[hia];exact mL ts
 have tt:Paired (m6 s.heap) acc.toList ds:=um I e0.sub rs vv hot;generalize acc.toList=its at hla vv tt;generalize jP F H (ts.map (·.2.1))=F1 at e0 rs;generalize hys:(ts.map fun t=>V.ref t.2.1)=ys at rs vv;refine wpAny_bind (wpAny_newList ?_ (by rw[sizeLine_eq];omega));have hsz:=Nat.le_of_lt hsz;generalize hG:(h1.push {cls:=.type "list",data:=.seq its.toArray}:Heap)=H2;have ho2:H2.get? h1.objs.size=some (seqObj "list" its.toArray 0):=by rw[<-hG];exact Heap.get?_push_size _ rfl
 have lR:∀b o,s.heap.get? b=some o->H2.get? b=some o:=fun b o e=>by rw[<-hG];exact Heap.get?_push_of_some _ (kp b o e)
 have hne:∀b o,s.heap.get? b=some o->b≠h1.objs.size:=fun b o e=>Nat.ne_of_lt (Heap.lt_size (kp b o e));show wpAny _ _ _ _ _ {s with heap:=H2,toks:=tk};refine wpAny_bind (wpAny_holding (wpAny_call_entry slot_list_sort ⟨_,ho2,rfl⟩ entry_list_sort ?body (args_list_sort _)));case body=>
  refine mX (s:={s with heap:=H2,toks:=tk}) (κ:=tuples' (Value.type "int"!=Value.type "tuple")) ho2 so (by omega) tt zX (fun h' k' C hC h2=>?_) (fun h' k' u v d e hd he C hC=>?_) fun h' cc p k' p1 p2 e=>?_;.exact sJ (s:={s with heap:=h',toks:=tk}) (mK (fun b o z=>k' b o (hne b o z) (lR b o z)) tt) h2 hC
  .have kk:∀b o,s.heap.get? b=some o->h'.get? b=some o:=fun b o z=>k' b o (hne b o z) (lR b o z);exact Bx (s:={s with heap:=h',toks:=tk}) (gY kk hd) (gY kk he) hC
  . refine⟨_,rfl,wpAny_pure ⟨_,rfl,?_⟩⟩;have kk:∀b o,s.heap.get? b=some o->h'.get? b=some o:=fun b o z=>k' b o (hne b o z) (lR b o z);refine⟨.ref h1.objs.size,_,I.laid (t':=tk) (o:=.lst (pick .non p ys)) (h':=h') kk hsz ⟨by rw[jj p1,hla,sizeLine_eq];omega,pick .none p its,cc,p7 vv,e⟩,rfl,?_⟩;have YT:aH X.K F1 (pick .non p ys) (jG ds):=by rw[<-p2];exact pI rs
    exact wJ e0.sub YT (I.hok.fresh hsz) fun v F2 H2 x rn=>k v F2 H2 (e0.Fv x) rn
theorem J2{o:Expr}{to:TE}{apos cpos:Pos}(ho:PE X o to)(hbase:attributeBase o "keys" X.env (eval o X.env)=eval o X.env:=by rfl)(hline:(apos.endLine==cpos.line)=true:=by rfl):PE X (.Call (.Attribute o "keys" apos) [] [] cpos) (fun σ H Q=>to σ H fun x H1=>NQ x [] H1 Q):=by intro pins s σ H Q I h;refine wpAny_Call_method0_late hbase hline (cL (ho pins s σ H _ I h) fun v s1⟨x,H1,I1,r1,q1⟩=>?_);obtain⟨q,ob,kvs,rfl,_,hq,k⟩:=id q1;cases r1;obtain⟨ho,hz,hS,ts,_,o',es,ep,g1,g2,g3,g4,g5⟩:=(show bL X.prog X.w H1 s1.heap q (.fW ob (.dT (kvs.map xZ)))from I1.hok q _ hq);refine⟨"dict","dict.keys",PySem.F.plainAttrs_dict,PySem.F.slot_dict_keys,PySem.F.type_dict_keys,⟨o',g1,g2.1⟩,fun b e=>?_,Calls.callWith_builtin rfl (PySem.evalArgs_none (J1 pins s1 σ H1 (.ref q) [] _ [] Q I1 rfl .nil q1))⟩;cases e;exact⟨o',g1,g2.2.1⟩
theorem K8{x:Str}{p' apos cpos:Pos}{o:Expr}(hx:x="sorted")(hc:X.calm=true)(hg:Gl X x)(hm:X.mg x=none)(hline:(apos.endLine==cpos.line)=true)(ha:SX X c o pa)(hbase:attributeBase o "keys" X.env (eval o X.env)=eval o X.env:=by rfl):SX X c (.Call (.Name x p') [.Call (.Attribute o "keys" apos) [] [] cpos] [] pos) (.blt .Mw [pa]):=by
 subst hx;obtain⟨ta,h1,h3⟩:=ha.dz;refine⟨dX (fu (abb hc) hg hm boot_sorted (cR (J2 h1 hbase hline) gD)) ?_,fun i h=>by cases h⟩;rintro σ H Q⟨F,ρ,r,ρ',g,e,k⟩;rw[HH.E16]at e;obtain⟨d,ρ1,e1,e2⟩:=ao e;have zz:=aF e2;clear e2;obtain⟨e2,e3⟩:=zz;subst e3;refine h3 g e1 fun v F' H' st pv=>?_;obtain⟨kvs,rfl⟩:∃kvs,d=.cg (.t kvs):=by cases d with
  |cg m=>cases m with|t kvs=>exact⟨kvs,rfl⟩|k kvs=>cases e2
  |_=>cases e2
 obtain⟨so,he⟩:=bw (show(if sortable (kvs.map fun p=>D.tup (p.1.map D.int))=true then some (R.own (jG (kvs.map fun p=>D.tup (p.1.map D.int))))else none)=some r from e2);subst he;obtain⟨q,ob,rfl,hq⟩:=pv.cg st.gs.sub;refine⟨q,ob,kvs,rfl,rfl,hq,fun l hl=>⟨l,q,ob,kvs,rfl,bj,aO.cN hl q _ hq,so,F',fun b o e=>aO.cN hl b o (st.gs.sub b o e),fun w F2 H2 x2 rn=>?_⟩⟩;have sm:aO H' (upd H' l (.ext (vw l q))):=aO.cN hl;have x3:Ext F' H' F2 H2:=⟨sm.trans x2.hs,x2.fs,x2.sub,fun b n n'=>by
  have:=x2.gr b n n';by_cases eb:b=l;.subst eb;rw[hl];rfl
  .rw[aM eb]at this;exact this⟩;have rn2:cM X.K F2 H2 H' w (.own (jG (kvs.map fun p=>D.tup (p.1.map D.int)))):=by obtain⟨b,xs,q1,q2,q3,q4,q5⟩:=rn;refine⟨b,xs,q1,q2,q3,q4,?_⟩;cases z:H' b with|none=>rfl|some o=>rw[sm b o z]at q5;cases q5
 exact k w F2 H2 (st.trans (x3.stp st.gs)) (.later st (rn2.pO st.gs))
end
end HH
end
section
namespace HH
open PySem L2 PySem.Spec PyProof.Rows
section
variable{X:Cx}{c:Call}{n:Nat}{pos:Pos}{body:List Stmt}{ss:List S}
theorem KD{x:Str}{np hpos:Pos}{hs:List Stmt}(hb:∀pins Jb,PassesOwn (model X.prog X.w) X.A X.env Jb->SB (Gz X pins Jb) c n body ss):SS X c n (.Try body [.ExceptHandler (some (.Name x np)) none hs hpos] [] [] pos) (.ifs (.con (.bl true)) ss []):=by
 rintro pins s σ H D I⟨F,ρ,fl,ρ',g,e,q⟩;refine wpAny_Try_except ?_;generalize hxe:(fun(e:Value)(s₁:Shared)=>wpAny (model X.prog X.w) X.A (noteFrame e X.env) (fun _ s₂=>wpAny (model X.prog X.w) X.A (setFlight e none) (fun _ s₃=>wpAny (model X.prog X.w) X.A (handleBy e X.env [.ExceptHandler (some (.Name x np)) none hs hpos]) (SP X pins D) X.xe s₃) X.xe s₂) X.xe s₁)=Jb;have hp:PassesOwn (model X.prog X.w) X.A X.env Jb:=by rw[<-hxe];exact PassesOwn.looking
 have z1:=hb pins Jb hp;unfold SB at z1;have e':jh c n ss ρ=.ok fl ρ':=by rw[HH.Zj]at e;exact e
 have w:=z1 [] s σ H D (KY I) ⟨F,ρ,fl,ρ',g,e',q⟩;refine wpAny_mono w (fun f s5 y=>?_) fun e s5 y=>y;cases f with|next=>obtain⟨a,b,c,d⟩:=y;show wpAny (model X.prog X.w) X.A (execs [] X.env) _ _ s5;exact wpAny_execs_nil ⟨a,b,oW c,d⟩|brk=>obtain⟨a,b,c,d⟩:=y;exact⟨a,b,oW c,d⟩|cont=>obtain⟨a,b,c,d⟩:=y;exact⟨a,b,oW c,d⟩|ret u=>obtain⟨a,b,c,d,y⟩:=y;exact⟨a,b,c,oW d,y⟩
end
end HH
end
section
set_option maxHeartbeats 4000000
namespace T
open PySem L2 PySem.Spec PyProof.Rows HH
local macro_rules|`(term|nofun)=>`(⟨rfl,rfl,rfl,by decide+kernel,rfl,by decide+kernel,by decide+kernel⟩)
local macro_rules|`(tactic|exists$e)=>`(tactic|with_reducible refine$e)
set_option hygiene false
local macro_rules|`(tactic|exists$i,$e)=>`(tactic|((with_reducible refine mq (i:=$i) ?_ ?_ ?_ ?_ ?_ ?_);exact nd;exact rfl;exact oi;rotate_left;rfl;exact oi;exact$e))
set_option hygiene true
local macro_rules|`(term|‹$l›)=>`((show(($l):List Str).Nodup by decide+kernel))
theorem hc:true=true:=rfl
theorem oi{α:Type}{a:α}{p:Prop}:a=a\/p:=.inl rfl
theorem bz{X:Cx}{c:Call}{a:Expr}{es:List Expr}{pa:P}{ps:List P}(ha:SX X c a pa)(hr:SG X c es ps)(h:nst a=true):SG X c (a::es) (pa::ps):=Lj ha hr (iw h)
theorem dY{X:Cx}{c:Call}{a:Expr}{es:List Expr}{pa:P}{ps:List P}(ha:SX X c a pa)(hr:SA X c es ps)(h:nst a=true):SA X c (a::es) (pa::ps):=oK ha hr (iw h)
variable{Pg:Program}{w:World}{K:PySem.W.Frag}{mg:Str->Option Value}{base:Heap}{f:Addr}{fd:FuncData}{k n:Nat}{c:Call}{cl:Nat->Addr}
noncomputable def top(i:Nat):Stmt:=PySem.Challenge.pw_hourhaul_k40_plans_of_rounds.main.body.getD i (.Pass ⟨0,0,0,0⟩)
noncomputable abbrev s0:=top 4
noncomputable def b0:List S:=[.asg 2 (.idx (.idx (.idx (.var 0) (.con (.int 1))) (.idx (.var 1) (.con (.int 0)))) (.con (.int 3))),.ret (.YC (.idx (.var 1) (.con (.int 1))) (.var 2) (.neg (.var 2)))]
noncomputable def f0:Fd:=⟨2,3,b0⟩
theorem sc0:aK ["net","step","hours"] ["net","step"] (aB s0):=nofun
include cl in
theorem d0(Fu:gj K "step_hours" "step_hours" s0 f fd):bV Pg w K mg base fU (k+1) f fd ["net","step"] (gn K 2 (fun args=>enter c n f0 args)):=by
 refine bF Fu sc0 rfl rfl fun cdv A outer s H E hr=>?_;have nd:=sc0.nd;refine aj ?_ ?_;.exists 2,az (az (az (sv 0) ak) (az (sv 1) ak)) ak
 exists aj ?_ ?_;.exists aJ ?_;exact Rt (dN (az (sv 1) ak)) (sv 2) (my (sv 2))
 exact au
noncomputable abbrev s1:=top 5
noncomputable def b1:List S:=[.ret (.blt .sum [.comp (.var 1) 1 [2] true none (.call 0 [.var 0,.var 2])])]
noncomputable def f1:Fd:=⟨2,2,b1⟩
theorem sc1:aK ["net","steps"] ["net","steps"] (aB s1):=nofun
include cl in
theorem d1(Fu:gj K "steps_hours" "steps_hours" s1 f fd)(dZ:mg "sum"=none)(iK:aA Pg w K mg base k c 0 "step_hours" 2):bV Pg w K mg base fU (k+1) f fd ["net","steps"] (gn K 2 (fun args=>enter c n f1 args)):=by
 refine bF Fu sc1 rfl rfl fun cdv A outer s H E hr=>?_;have nd:=sc1.nd;refine aj ?_ ?_;.exists aJ ?_;exact lZ rfl hc (by rfl) dZ (bB (N':=["net","steps","step"]) hc (nG rfl (by rfl)) (bD (sv 1)) (fun _ _ _ _ _=>aC (i:=2) ‹["net","steps","step"]› rfl (Or.inl rfl) (Or.inr rfl)) (cz (Nat.le_refl _)) (fun _ _ _ _ _=>bM) (fun _ _ _ _ _=>(dW iK hr (bz (sv 0) (bz (sv 2) aD rfl) rfl))))
 exact au
noncomputable abbrev s2:=top 7
noncomputable def b2:List S:=[.ret (.blt .all [.comp (.zip (.var 0) (.slice (.var 0) (.con (.int 1)) (.con .non))) 2 [1,2] false none (.cmp .lt (.var 1) (.var 2))])]
noncomputable def f2:Fd:=⟨1,1,b2⟩
theorem sc2:aK ["things"] ["things"] (aB s2):=nofun
include cl in
theorem d2(Fu:gj K "is_rising" "is_rising" s2 f fd)(cF:mg "all"=none)(tD:mg "zip"=none):bV Pg w K mg base fU (k+1) f fd ["things"] (gn K 1 (fun args=>enter c n f2 args)):=by
 refine bF Fu sc2 rfl rfl fun cdv A outer s H E hr=>?_;have nd:=sc2.nd;refine aj ?_ ?_;.exists aJ ?_;exact gG rfl hc (by rfl) cF (bB (N':=["things","one","other"]) hc (nG rfl (by rfl)) (GR rfl (by rfl) tD (sv 0) (lF (sv 0) (o7 ak) oV)) (fun _ _ _ _ _=>dh hc (aG (aC (i:=1) ‹["things","one","other"]› rfl (Or.inl rfl) (Or.inr rfl)) (aG (aC (i:=2) ‹["things","one","other"]› rfl (Or.inl rfl) (Or.inr rfl)) cC))) (dF rfl (aW (show 1<=1 by decide) (aW (show 1<=2 by decide) dJ))) (fun _ _ _ _ _=>bM) (fun _ _ _ _ _=>(eG (iJ (aR hr)) (sv 1) (sv 2) (aV _))))
 exact au
noncomputable abbrev s3:=top 9
noncomputable def b3:List S:=[.asg 2 (.lst []),.fG (.var 1) [3] true [.ifs (.or (.not (.chain .le .lt (.con (.int 0)) (.var 3) (.blt .len [.idx (.var 0) (.con (.int 1))]))) (.cmp .lt (.idx (.idx (.idx (.var 0) (.con (.int 1))) (.var 3)) (.con (.int 2))) (.con (.int 1)))) [.bad] [],.asg 4 (.idx (.idx (.var 0) (.con (.int 1))) (.var 3)),.ifs (.cmp .eq (.blt .len [.var 2]) (.con (.int 0))) [.app 2 (.idx (.var 4) (.con (.int 0)))] [],.ifs (.or (.cmp .ne (.idx (.var 4) (.con (.int 0))) (.idx (.var 2) (.neg (.con (.int 1))))) (.cmp .inn (.idx (.var 4) (.con (.int 1))) (.var 2))) [.bad] [],.app 2 (.idx (.var 4) (.con (.int 1)))],.ret (.blt .tuple [.var 2])]
noncomputable def f3:Fd:=⟨2,5,b3⟩
theorem sc3:aK ["net","walk","places","number","way"] ["net","walk"] (aB s3):=nofun
include cl in
theorem d3(Fu:gj K "walk_places" "walk_places" s3 f fd)(cU:mg "len"=none)(cD:mg "tuple"=none):bV Pg w K mg base fU (k+1) f fd ["net","walk"] (gn K 2 (fun args=>enter c n f3 args)):=by
 refine bF Fu sc3 rfl rfl fun cdv A outer s H E hr=>?_;have nd:=sc3.nd;refine aj ?_ ?_;.exists 2,cW aQ
 exists aj ?_ ?_;.exists cT (i:=3) ?_ ?_ ?_ ?_ ?_ ?_ ?_ ?_ ?_;exact PassesOwn.never;exact hc;exact nd;exact rfl;exact oi;exact bD (sv 1);(· exists aj ?_ ?_;(· exists cH ?_ ?_ ?_;exact SW.st (jO (fK (Hy jo (iJ (aR hr)) ak (sv 3) (gO rfl (by rfl) cU (az (sv 0) ak)))) (jg (bG (iJ (aR hr)) (az (az (az (sv 0) ak) (sv 3)) ak) ak (aV _))));(· exists aj ?_ ?_;exact GK;exact au);exact au);(· exists aj ?_ ?_;(· exists 4,az (az (sv 0) ak) (sv 3));(· exists aj ?_ ?_;(· exists cH ?_ ?_ ?_;exact bG (il (aR hr)) (gO rfl (by rfl) cU (sv 2)) ak (aV _);(· exists aj ?_ ?_;exact cI (k:=2) rfl (by first|exact Or.inl rfl|exact Or.inr (Or.inl rfl)) (az (sv 4) ak);exact au);exact au);(· exists aj ?_ ?_;(· exists cH ?_ ?_ ?_;exact SW.st (jO (bG (gM (aR hr)) (az (sv 4) ak) (az (sv 2) (my ak)) (aV _)) (jg (bG uM (az (sv 4) ak) (sv 2) (by with_unfolding_all rfl))));(· exists aj ?_ ?_;exact GK;exact au);exact au);(· exists aj ?_ ?_;exact cI (k:=2) rfl (by first|exact Or.inl rfl|exact Or.inr (Or.inl rfl)) (az (sv 4) ak);exact au)))));(· intro _;rfl);exact Or.inl rfl
 exists aj ?_ ?_;.exists aJ ?_;exact kJ rfl (by rfl) cD (sv 2)
 exact au
noncomputable abbrev s4:=top 10
noncomputable def b4:List S:=[.expr (.call 3 [.var 0,.var 1]),.ret (.blt .sum [.comp (.var 1) 1 [2] true none (.idx (.idx (.idx (.var 0) (.con (.int 1))) (.var 2)) (.con (.int 3)))])]
noncomputable def f4:Fd:=⟨2,2,b4⟩
theorem sc4:aK ["net","walk"] ["net","walk"] (aB s4):=nofun
include cl in
theorem d4(Fu:gj K "walk_length" "walk_length" s4 f fd)(dZ:mg "sum"=none)(gP:aA Pg w K mg base k c 3 "walk_places" 2):bV Pg w K mg base fU (k+1) f fd ["net","walk"] (gn K 2 (fun args=>enter c n f4 args)):=by
 refine bF Fu sc4 rfl rfl fun cdv A outer s H E hr=>?_;have nd:=sc4.nd;refine aj ?_ ?_;.exact(Mj (dW gP hr (bz (sv 0) (bz (sv 1) aD rfl) rfl)))
 exists aj ?_ ?_;.exists aJ ?_;exact lZ rfl hc (by rfl) dZ (bB (N':=["net","walk","number"]) hc (nG rfl (by rfl)) (bD (sv 1)) (fun _ _ _ _ _=>aC (i:=2) ‹["net","walk","number"]› rfl (Or.inl rfl) (Or.inr rfl)) (cz (Nat.le_refl _)) (fun _ _ _ _ _=>bM) (fun _ _ _ _ _=>(az (az (az (sv 0) ak) (sv 2)) ak)))
 exact au
noncomputable abbrev s5:=top 12
noncomputable def b5:List S:=[.ret (.blt .all [.comp (.zip (.var 1) (.idx (.var 0) (.con (.int 1)))) 2 [2,3] false none (.chain .le .le (.con (.int 0)) (.var 2) (.idx (.var 3) (.con (.int 2))))])]
noncomputable def f5:Fd:=⟨2,2,b5⟩
theorem sc5:aK ["net","stream"] ["net","stream"] (aB s5):=nofun
include cl in
theorem d5(Fu:gj K "within_rooms" "within_rooms" s5 f fd)(cF:mg "all"=none)(tD:mg "zip"=none):bV Pg w K mg base fU (k+1) f fd ["net","stream"] (gn K 2 (fun args=>enter c n f5 args)):=by
 refine bF Fu sc5 rfl rfl fun cdv A outer s H E hr=>?_;have nd:=sc5.nd;refine aj ?_ ?_;.exists aJ ?_;exact gG rfl hc (by rfl) cF (bB (N':=["net","stream","loads","way"]) hc (nG rfl (by rfl)) (GR rfl (by rfl) tD (sv 1) (az (sv 0) ak)) (fun _ _ _ _ _=>dh hc (aG (aC (i:=2) ‹["net","stream","loads","way"]› rfl (Or.inl rfl) (Or.inr rfl)) (aG (aC (i:=3) ‹["net","stream","loads","way"]› rfl (Or.inl rfl) (Or.inr rfl)) cC))) (dF rfl (aW (show 2<=2 by decide) (aW (show 2<=3 by decide) dJ))) (fun _ _ _ _ _=>bM) (fun _ _ _ _ _=>(vU jo jo ak (sv 2) (az (sv 3) ak))))
 exact au
noncomputable abbrev s6:=top 13
noncomputable def b6:List S:=[.ifs (.con (.bl true)) [.asg 3 (.call 3 [.var 0,.var 1])] [],.ret (.and (.cmp .ge (.var 2) (.con (.int 1))) (.and (.cmp .eq (.slice (.var 3) (.con .non) (.con (.int 1))) (.tup [.con (.int 0)])) (.cmp .eq (.slice (.var 3) (.neg (.con (.int 1))) (.con .non)) (.tup [.bin .sub (.idx (.var 0) (.con (.int 0))) (.con (.int 1))]))))]
noncomputable def f6:Fd:=⟨3,4,b6⟩
theorem sc6:aK ["net","walk","loads","places"] ["net","walk","loads"] (aB s6):=nofun
include cl in
theorem d6(Fu:gj K "is_round" "is_round" s6 f fd)(gP:aA Pg w K mg base k c 3 "walk_places" 2):bV Pg w K mg base fU (k+1) f fd ["net","walk","loads"] (gn K 3 (fun args=>enter c n f6 args)):=by
 refine bF Fu sc6 rfl rfl fun cdv A outer s H E hr=>?_;have nd:=sc6.nd;refine aj ?_ ?_;.exact(KD (fun _ _ hp=>(by exists aj ?_ ?_;(· exists 3,dW gP hr (bz (sv 0) (bz (sv 1) aD rfl) rfl));exact au)))
 exists aj ?_ ?_;.exists aJ ?_;exact mH (eG u9 (sv 2) ak (aV _)) (mH (eG (il (aR hr)) (lF (sv 3) oV (o7 ak)) (dO (dY ak aQ rfl)) (aV _)) (oF (eG (il (aR hr)) (lF (sv 3) (o7 (my ak)) oV) (dO (dY (aL dD (az (sv 0) ak) ak) aQ rfl)) (aV _)))).ev
 exact au
noncomputable abbrev s7:=top 14
noncomputable def b7:List S:=[.ret (.comp (.qW (.con (.int 0)) (.blt .len [.idx (.var 0) (.con (.int 1))])) 1 [2] true none (.blt .sum [.comp (.var 1) 2 [3,4] false (some (.cmp .inn (.var 2) (.var 3))) (.var 4)]))]
noncomputable def f7:Fd:=⟨2,2,b7⟩
theorem sc7:aK ["net","rounds"] ["net","rounds"] (aB s7):=nofun
include cl in
theorem d7(Fu:gj K "rounds_stream" "rounds_stream" s7 f fd)(cU:mg "len"=none)(aP:mg "range"=none)(dZ:mg "sum"=none):bV Pg w K mg base fU (k+1) f fd ["net","rounds"] (gn K 2 (fun args=>enter c n f7 args)):=by
 refine bF Fu sc7 rfl rfl fun cdv A outer s H E hr=>?_;have nd:=sc7.nd;refine aj ?_ ?_;.exists aJ ?_;exact bB (N':=["net","rounds","number"]) hc (nG rfl (by rfl)) (fO rfl (by rfl) aP (gO rfl (by rfl) cU (az (sv 0) ak))) (fun _ _ _ _ _=>aC (i:=2) ‹["net","rounds","number"]› rfl (Or.inr rfl) (Or.inl rfl)) (cz (Nat.le_refl _)) (fun _ _ _ _ _=>bM) (fun _ _ _ _ _=>(lZ rfl hc (by rfl) dZ (bB (N':=["net","rounds","number","walk","loads"]) hc (nG rfl (by rfl)) (bD (sv 1)) (fun _ _ _ _ _=>dh hc (aG (aC (i:=3) ‹["net","rounds","number","walk","loads"]› rfl (Or.inl rfl) (Or.inr rfl)) (aG (aC (i:=4) ‹["net","rounds","number","walk","loads"]› rfl (Or.inl rfl) (Or.inr rfl)) cC))) (dF rfl (aW (show 3<=3 by decide) (aW (show 3<=4 by decide) dJ))) (fun _ _ _ _ _=>oM (bG uM (sv 2) (sv 3) (by with_unfolding_all rfl))) (fun _ _ _ _ _=>(sv 4)))))
 exact au
noncomputable abbrev s8:=top 15
noncomputable def b8:List S:=[.ifs (.not (.blt .all [.comp (.var 1) 2 [2,3] false none (.call 6 [.var 0,.var 2,.var 3])])) [.ret (.con (.bl false))] [],.ret (.call 5 [.var 0,.call 7 [.var 0,.var 1]])]
noncomputable def f8:Fd:=⟨2,2,b8⟩
theorem sc8:aK ["net","rounds"] ["net","rounds"] (aB s8):=nofun
include cl in
theorem d8(Fu:gj K "rounds_fit" "rounds_fit" s8 f fd)(cF:mg "all"=none)(zM:aA Pg w K mg base k c 6 "is_round" 3)(oA:aA Pg w K mg base k c 7 "rounds_stream" 2)(qJ:aA Pg w K mg base k c 5 "within_rooms" 2):bV Pg w K mg base fU (k+1) f fd ["net","rounds"] (gn K 2 (fun args=>enter c n f8 args)):=by
 refine bF Fu sc8 rfl rfl fun cdv A outer s H E hr=>?_;have nd:=sc8.nd;refine aj ?_ ?_;.exists cH ?_ ?_ ?_;exact fK (dN (gG rfl hc (by rfl) cF (bB (N':=["net","rounds","walk","loads"]) hc (nG rfl (by rfl)) (bD (sv 1)) (fun _ _ _ _ _=>dh hc (aG (aC (i:=2) ‹["net","rounds","walk","loads"]› rfl (Or.inl rfl) (Or.inr rfl)) (aG (aC (i:=3) ‹["net","rounds","walk","loads"]› rfl (Or.inl rfl) (Or.inr rfl)) cC))) (dF rfl (aW (show 2<=2 by decide) (aW (show 2<=3 by decide) dJ))) (fun _ _ _ _ _=>bM) (fun _ _ _ _ _=>(dW zM hr (bz (sv 0) (bz (sv 2) (bz (sv 3) aD rfl) rfl) rfl))))));(· exists aj ?_ ?_;(· exists aJ ?_;exact fB);exact au);exact au
 exists aj ?_ ?_;.exists aJ ?_;exact dW qJ hr (bz (sv 0) (bz (dW oA hr (bz (sv 0) (bz (sv 1) aD rfl) rfl)) aD rfl) rfl)
 exact au
noncomputable abbrev s9:=top 17
noncomputable def b9:List S:=[.vf 2 true,.fG (.bin .add (.var 0) (.var 1)) [3,4,5] false [.tu 2 [.var 3,.var 4] (.bin .add (.zB 2 [.var 3,.var 4] (.con (.int 0))) (.var 5))],.ret (.comp (.blt .qI [.vw 2]) 2 [6,7] false none (.tup [.var 6,.var 7,.Th 2 [.var 6,.var 7]]))]
noncomputable def f9:Fd:=⟨2,6,b9⟩
theorem sc9:aK ["one","other","together","hour","way","loads"] ["one","other"] (aB s9):=nofun
include cl in
theorem d9(Fu:gj K "laid_plans" "laid_plans" s9 f fd)(dR:mg "sorted"=none):bV Pg w K mg base fU (k+1) f fd ["one","other"] (gn K 2 (fun args=>enter c n f9 args)):=by
 refine bF Fu sc9 rfl rfl fun cdv A outer s H E hr=>?_;have nd:=sc9.nd;refine aj ?_ ?_;.exact(wQ (i:=2) nd rfl (Or.inr rfl) (by rfl) (Or.inl rfl))
 exists aj ?_ ?_;.exact(lY PassesOwn.never hc (bD (aL bK (sv 0) (sv 1))) (dh hc (aG (aC (i:=3) nd rfl (Or.inl rfl) (Or.inl rfl)) (aG (aC (i:=4) nd rfl (Or.inl rfl) (Or.inl rfl)) (aG (aC (i:=5) nd rfl (Or.inl rfl) (Or.inl rfl)) cC)))) (pX rfl (dq _ _ (dq _ _ (dq _ _ lO 5) 4) 3)) (by exists aj ?_ ?_;exact xr (i:=2) (aR hr) rfl (by first|exact Or.inl rfl|exact Or.inr (Or.inl rfl)) (dY (sv 3) (dY (sv 4) aQ rfl) rfl) (aL bK (Bm (i:=2) (aR hr) rfl (by first|exact Or.inl rfl|exact Or.inr (Or.inl rfl)) (dY (sv 3) (dY (sv 4) aQ rfl) rfl) ak ⟨rfl,rfl,rfl,rfl⟩) (sv 5)) (by rfl);exact au))
 exists aj ?_ ?_;.exists aJ ?_;exact bB (N':=["one","other","together","hour#3","way#4","loads","hour","way"]) hc (nG rfl (by rfl)) (bD (Dy rfl hc (by rfl) dR (Nv (i:=2) rfl (by first|exact Or.inl rfl|exact Or.inr (Or.inl rfl))))) (fun _ _ _ _ _=>dh hc (aG (aC (i:=6) ‹["one","other","together","hour#3","way#4","loads","hour","way"]› rfl (Or.inl rfl) (Or.inr rfl)) (aG (aC (i:=7) ‹["one","other","together","hour#3","way#4","loads","hour","way"]› rfl (Or.inl rfl) (Or.inr rfl)) cC))) (dF rfl (aW (show 6<=6 by decide) (aW (show 6<=7 by decide) dJ))) (fun _ _ _ _ _=>bM) (fun _ _ _ _ _=>(dO (dY (sv 6) (dY (sv 7) (dY (Gs (i:=2) (aR hr) rfl (by first|exact Or.inl rfl|exact Or.inr (Or.inl rfl)|exact Or.inr (Or.inr rfl)) (dY (sv 6) (dY (sv 7) aQ rfl) rfl) (fun _ _=>rfl)) aQ rfl) rfl) rfl)))
 exact au
noncomputable abbrev W0:=top 18
noncomputable def b10:List S:=[.ret (.bin .add (.var 1) (.idx (.idx (.idx (.var 0) (.con (.int 1))) (.var 2)) (.con (.int 3))))]
noncomputable def Z5:Fd:=⟨3,3,b10⟩
theorem Wi:aK ["net","hour","way"] ["net","hour","way"] (aB W0):=nofun
include cl in
theorem d10(Fu:gj K "hour_out" "hour_out" W0 f fd):bV Pg w K mg base fU (k+1) f fd ["net","hour","way"] (gn K 3 (fun args=>enter c n Z5 args)):=by
 refine bF Fu Wi rfl rfl fun cdv A outer s H E hr=>?_;have nd:=Wi.nd;refine aj ?_ ?_;.exists aJ ?_;exact aL bK (sv 1) (az (az (az (sv 0) ak) (sv 2)) ak)
 exact au
noncomputable abbrev Y8:=top 20
noncomputable def b11:List S:=[.ret (.blt .max2 [.con (.int 0),.bin .add (.bin .sub (.var 0) (.var 1)) (.con (.int 1))])]
noncomputable def f11:Fd:=⟨2,2,b11⟩
theorem VG:aK ["last","length"] ["last","length"] (aB Y8):=nofun
include cl in
theorem d11(Fu:gj K "times_gone" "times_gone" Y8 f fd)(tE:mg "max"=none):bV Pg w K mg base fU (k+1) f fd ["last","length"] (gn K 2 (fun args=>enter c n f11 args)):=by
 refine bF Fu VG rfl rfl fun cdv A outer s H E hr=>?_;have nd:=VG.nd;refine aj ?_ ?_;.exists aJ ?_;exact Bd rfl hc (by rfl) tE (dY ak (dY (aL bK (aL dD (sv 0) (sv 1)) ak) aQ rfl) rfl)
 exact au
noncomputable abbrev s12:=top 21
noncomputable def b12:List S:=[.ret (.comp (.var 0) 1 [1] true (some (.cmp .ne (.idx (.var 1) (.con (.int 2))) (.con (.int 0)))) (.var 1))]
noncomputable def f12:Fd:=⟨1,1,b12⟩
theorem VJ:aK ["plan"] ["plan"] (aB s12):=nofun
include cl in
theorem d12(Fu:gj K "without_noughts" "without_noughts" s12 f fd):bV Pg w K mg base fU (k+1) f fd ["plan"] (gn K 1 (fun args=>enter c n f12 args)):=by
 refine bF Fu VJ rfl rfl fun cdv A outer s H E hr=>?_;have nd:=VJ.nd;refine aj ?_ ?_;.exists aJ ?_;exact bB (N':=["plan","triple"]) hc (nG rfl (by rfl)) (bD (sv 0)) (fun _ _ _ _ _=>aC (i:=1) ‹["plan","triple"]› rfl (Or.inl rfl) (Or.inr rfl)) (cz (Nat.le_refl _)) (fun _ _ _ _ _=>oM (bG (gM (aR hr)) (az (sv 1) ak) ak (aV _))) (fun _ _ _ _ _=>(sv 1))
 exact au
noncomputable abbrev s13:=top 22
noncomputable def b13:List S:=[.asg 4 (.lst []),.asg 5 (.var 1),.fG (.var 2) [6] true [.ifs (.idx (.var 6) (.con (.int 1))) [.app 4 (.tup [.var 5,.idx (.var 6) (.con (.int 0)),.var 3])] [],.aug 5 false (.call 0 [.var 0,.var 6]),.ifs (.not (.idx (.var 6) (.con (.int 1)))) [.app 4 (.tup [.var 5,.idx (.var 6) (.con (.int 0)),.neg (.var 3)])] []],.ret (.var 4)]
noncomputable def f13:Fd:=⟨4,7,b13⟩
theorem Wa:aK ["net","begun","steps","loads","triples","hour","step"] ["net","begun","steps","loads"] (aB s13):=nofun
include cl in
theorem d13(Fu:gj K "steps_plan" "steps_plan" s13 f fd)(iK:aA Pg w K mg base k c 0 "step_hours" 2):bV Pg w K mg base fU (k+1) f fd ["net","begun","steps","loads"] (gn K 4 (fun args=>enter c n f13 args)):=by
 refine bF Fu Wa rfl rfl fun cdv A outer s H E hr=>?_;have nd:=Wa.nd;refine aj ?_ ?_;.exists 4,cW aQ
 exists aj ?_ ?_;.exists 5,sv 1
 exists aj ?_ ?_;.exists cT (i:=6) ?_ ?_ ?_ ?_ ?_ ?_ ?_ ?_ ?_;exact PassesOwn.never;exact hc;exact nd;exact rfl;exact oi;exact bD (sv 2);(· exists aj ?_ ?_;(· exists cH ?_ ?_ ?_;exact dN (az (sv 6) ak);(· exists aj ?_ ?_;exact cI (k:=4) rfl (by first|exact Or.inl rfl|exact Or.inr (Or.inl rfl)) (dO (dY (sv 5) (dY (az (sv 6) ak) (dY (sv 3) aQ rfl) rfl) rfl));exact au);exact au);(· exists aj ?_ ?_;exact G3 (i:=5) (sub:=false) Ai nd rfl (Or.inl rfl) (dW iK hr (bz (sv 0) (bz (sv 6) aD rfl) rfl)) (Or.inl rfl);(· exists aj ?_ ?_;(· exists cH ?_ ?_ ?_;exact fK (dN (az (sv 6) ak));(· exists aj ?_ ?_;exact cI (k:=4) rfl (by first|exact Or.inl rfl|exact Or.inr (Or.inl rfl)) (dO (dY (sv 5) (dY (az (sv 6) ak) (dY (my (sv 3)) aQ rfl) rfl) rfl));exact au);exact au);exact au)));(· intro _;rfl);exact Or.inl rfl
 exists aj ?_ ?_;.exists aJ ?_;exact sv 4
 exact au
noncomputable abbrev s14:=top 23
noncomputable def b14:List S:=[.asg 3 (.lst []),.fG (.var 2) [4,5] false [.fG (.qW (.con (.int 0)) (.call 11 [.var 1,.call 1 [.var 0,.var 4]])) [6] true [.Mx 3 (.call 13 [.var 0,.var 6,.var 4,.var 5])]],.ret (.call 12 [.call 9 [.var 3,.lst []]])]
noncomputable def Zy:Fd:=⟨3,7,b14⟩
theorem V0:aK ["net","last","chains","triples","steps","loads","begun"] ["net","last","chains"] (aB s14):=nofun
include cl in
theorem d14(Fu:gj K "gone_plan" "gone_plan" s14 f fd)(aP:mg "range"=none)(vg:aA Pg w K mg base k c 9 "laid_plans" 2)(qX:aA Pg w K mg base k c 1 "steps_hours" 2)(vh:aA Pg w K mg base k c 13 "steps_plan" 4)(iM:aA Pg w K mg base k c 11 "times_gone" 2)(lU:aA Pg w K mg base k c 12 "without_noughts" 1):bV Pg w K mg base fU (k+1) f fd ["net","last","chains"] (gn K 3 (fun args=>enter c n Zy args)):=by
 refine bF Fu V0 rfl rfl fun cdv A outer s H E hr=>?_;have nd:=V0.nd;refine aj ?_ ?_;.exists 3,cW aQ
 exists aj ?_ ?_;.exact(lY PassesOwn.never hc (bD (sv 2)) (dh hc (aG (aC (i:=4) nd rfl (Or.inl rfl) (Or.inl rfl)) (aG (aC (i:=5) nd rfl (Or.inl rfl) (Or.inl rfl)) cC))) (pX rfl (dq _ _ (dq _ _ lO 5) 4)) (by exists aj ?_ ?_;(· exists cT (i:=6) ?_ ?_ ?_ ?_ ?_ ?_ ?_ ?_ ?_;exact PassesOwn.never;exact hc;exact nd;exact rfl;exact oi;exact fO rfl (by rfl) aP (dW iM hr (bz (sv 1) (bz (dW qX hr (bz (sv 0) (bz (sv 4) aD rfl) rfl)) aD rfl) rfl));(· exists aj ?_ ?_;exact OD (k:=3) rfl (by first|exact Or.inl rfl|exact Or.inr (Or.inl rfl)) (dW vh hr (bz (sv 0) (bz (sv 6) (bz (sv 4) (bz (sv 5) aD rfl) rfl) rfl) rfl));exact au);(· intro _;rfl);exact oi);exact au))
 exists aj ?_ ?_;.exists aJ ?_;exact dW lU hr (bz (dW vg hr (bz (sv 3) (bz (cW aQ) aD rfl) rfl)) aD rfl)
 exact au
noncomputable abbrev s15:=top 25
noncomputable def b15:List S:=[.ifs (.not (.call 8 [.var 0,.var 2])) [.ret (.con .non)] [],.ret (.blt .sum [.comp (.var 2) 2 [3,4] false none (.bin .mul (.var 4) (.call 11 [.var 1,.call 4 [.var 0,.var 3]]))])]
noncomputable def Z6:Fd:=⟨3,3,b15⟩
theorem Vy:aK ["net","last","rounds"] ["net","last","rounds"] (aB s15):=nofun
include cl in
theorem d15(Fu:gj K "rounds_bring" "rounds_bring" s15 f fd)(dZ:mg "sum"=none)(vm:aA Pg w K mg base k c 8 "rounds_fit" 2)(iM:aA Pg w K mg base k c 11 "times_gone" 2)(qY:aA Pg w K mg base k c 4 "walk_length" 2):bV Pg w K mg base fU (k+1) f fd ["net","last","rounds"] (gn K 3 (fun args=>enter c n Z6 args)):=by
 refine bF Fu Vy rfl rfl fun cdv A outer s H E hr=>?_;have nd:=Vy.nd;refine aj ?_ ?_;.exists cH ?_ ?_ ?_;exact fK (dN (dW vm hr (bz (sv 0) (bz (sv 2) aD rfl) rfl)));(· exists aj ?_ ?_;(· exists aJ ?_;exact Q4);exact au);exact au
 exists aj ?_ ?_;.exists aJ ?_;exact lZ rfl hc (by rfl) dZ (bB (N':=["net","last","rounds","walk","loads"]) hc (nG rfl (by rfl)) (bD (sv 2)) (fun _ _ _ _ _=>dh hc (aG (aC (i:=3) ‹["net","last","rounds","walk","loads"]› rfl (Or.inl rfl) (Or.inr rfl)) (aG (aC (i:=4) ‹["net","last","rounds","walk","loads"]› rfl (Or.inl rfl) (Or.inr rfl)) cC))) (dF rfl (aW (show 3<=3 by decide) (aW (show 3<=4 by decide) dJ))) (fun _ _ _ _ _=>bM) (fun _ _ _ _ _=>(aL jD (sv 4) (dW iM hr (bz (sv 1) (bz (dW qY hr (bz (sv 0) (bz (sv 3) aD rfl) rfl)) aD rfl) rfl)))))
 exact au
noncomputable abbrev s16:=top 26
noncomputable def b16:List S:=[.ret (.blt .tuple [.comp (.var 0) 1 [1] true none (.tup [.var 1,.con (.bl true)])])]
noncomputable def Za:Fd:=⟨1,1,b16⟩
theorem Yd:aK ["walk"] ["walk"] (aB s16):=nofun
include cl in
theorem d16(Fu:gj K "steps_forth" "steps_forth" s16 f fd)(cD:mg "tuple"=none):bV Pg w K mg base fU (k+1) f fd ["walk"] (gn K 1 (fun args=>enter c n Za args)):=by
 refine bF Fu Yd rfl rfl fun cdv A outer s H E hr=>?_;have nd:=Yd.nd;refine aj ?_ ?_;.exists aJ ?_;exact kJ rfl (by rfl) cD (bB (N':=["walk","number"]) hc (nG rfl (by rfl)) (bD (sv 0)) (fun _ _ _ _ _=>aC (i:=1) ‹["walk","number"]› rfl (Or.inl rfl) (Or.inr rfl)) (cz (Nat.le_refl _)) (fun _ _ _ _ _=>bM) (fun _ _ _ _ _=>(dO (dY (sv 1) (dY fB aQ rfl) rfl))))
 exact au
noncomputable abbrev s17:=top 27
noncomputable def b17:List S:=[.ret (.call 14 [.var 0,.var 1,.comp (.var 2) 2 [3,4] false none (.tup [.call 16 [.var 3],.var 4])])]
noncomputable def Zn:Fd:=⟨3,3,b17⟩
theorem Xa:aK ["net","last","rounds"] ["net","last","rounds"] (aB s17):=nofun
include cl in
theorem d17(Fu:gj K "rounds_plan" "rounds_plan" s17 f fd)(xT:aA Pg w K mg base k c 14 "gone_plan" 3)(qZ:aA Pg w K mg base k c 16 "steps_forth" 1):bV Pg w K mg base fU (k+1) f fd ["net","last","rounds"] (gn K 3 (fun args=>enter c n Zn args)):=by
 refine bF Fu Xa rfl rfl fun cdv A outer s H E hr=>?_;have nd:=Xa.nd;refine aj ?_ ?_;.exists aJ ?_;exact dW xT hr (bz (sv 0) (bz (sv 1) (bz (bB (N':=["net","last","rounds","walk","loads"]) hc (nG rfl (by rfl)) (bD (sv 2)) (fun _ _ _ _ _=>dh hc (aG (aC (i:=3) ‹["net","last","rounds","walk","loads"]› rfl (Or.inl rfl) (Or.inr rfl)) (aG (aC (i:=4) ‹["net","last","rounds","walk","loads"]› rfl (Or.inl rfl) (Or.inr rfl)) cC))) (dF rfl (aW (show 3<=3 by decide) (aW (show 3<=4 by decide) dJ))) (fun _ _ _ _ _=>bM) (fun _ _ _ _ _=>(dO (dY (dW qZ hr (bz (sv 3) aD rfl)) (dY (sv 4) aQ rfl) rfl)))) aD rfl) rfl) rfl)
 exact au
noncomputable abbrev s18:=top 29
noncomputable def b18:List S:=[.ifs (.not (.blt .all [.comp (.var 0) 3 [1,2,3] false none (.and (.cmp .ge (.var 1) (.con (.int 0))) (.cmp .ge (.var 3) (.con (.int 1))))])) [.ret (.con (.bl false))] [],.ret (.call 2 [.comp (.var 0) 3 [1,2,3] false none (.tup [.var 1,.var 2])])]
noncomputable def f18:Fd:=⟨1,1,b18⟩
theorem Xu:aK ["triples"] ["triples"] (aB s18):=nofun
include cl in
theorem d18(Fu:gj K "is_plan" "is_plan" s18 f fd)(cF:mg "all"=none)(xU:aA Pg w K mg base k c 2 "is_rising" 1):bV Pg w K mg base fU (k+1) f fd ["triples"] (gn K 1 (fun args=>enter c n f18 args)):=by
 refine bF Fu Xu rfl rfl fun cdv A outer s H E hr=>?_;have nd:=Xu.nd;refine aj ?_ ?_;.exists cH ?_ ?_ ?_;exact fK (dN (gG rfl hc (by rfl) cF (bB (N':=["triples","hour","way","loads"]) hc (nG rfl (by rfl)) (bD (sv 0)) (fun _ _ _ _ _=>dh hc (aG (aC (i:=1) ‹["triples","hour","way","loads"]› rfl (Or.inl rfl) (Or.inr rfl)) (aG (aC (i:=2) ‹["triples","hour","way","loads"]› rfl (Or.inl rfl) (Or.inr rfl)) (aG (aC (i:=3) ‹["triples","hour","way","loads"]› rfl (Or.inl rfl) (Or.inr rfl)) cC)))) (dF rfl (aW (show 1<=1 by decide) (aW (show 1<=2 by decide) (aW (show 1<=3 by decide) dJ)))) (fun _ _ _ _ _=>bM) (fun _ _ _ _ _=>(mH (eG u9 (sv 1) ak (aV _)) (oF (eG u9 (sv 3) ak (aV _))))))));(· exists aj ?_ ?_;(· exists aJ ?_;exact fB);exact au);exact au
 exists aj ?_ ?_;.exists aJ ?_;exact dW xU hr (bz (bB (N':=["triples","hour","way","loads"]) hc (nG rfl (by rfl)) (bD (sv 0)) (fun _ _ _ _ _=>dh hc (aG (aC (i:=1) ‹["triples","hour","way","loads"]› rfl (Or.inl rfl) (Or.inr rfl)) (aG (aC (i:=2) ‹["triples","hour","way","loads"]› rfl (Or.inl rfl) (Or.inr rfl)) (aG (aC (i:=3) ‹["triples","hour","way","loads"]› rfl (Or.inl rfl) (Or.inr rfl)) cC)))) (dF rfl (aW (show 1<=1 by decide) (aW (show 1<=2 by decide) (aW (show 1<=3 by decide) dJ)))) (fun _ _ _ _ _=>bM) (fun _ _ _ _ _=>(dO (dY (sv 1) (dY (sv 2) aQ rfl) rfl)))) aD rfl)
 exact au
noncomputable abbrev s19:=top 30
noncomputable def b19:List S:=[.ret (.and (.chain .le .lt (.con (.int 0)) (.idx (.var 2) (.con (.int 1))) (.blt .len [.idx (.var 0) (.con (.int 1))])) (.and (.cmp .le (.idx (.var 2) (.con (.int 2))) (.idx (.idx (.idx (.var 0) (.con (.int 1))) (.idx (.var 2) (.con (.int 1)))) (.con (.int 2)))) (.cmp .le (.call 10 [.var 0,.idx (.var 2) (.con (.int 0)),.idx (.var 2) (.con (.int 1))]) (.var 1))))]
noncomputable def Ph:Fd:=⟨3,3,b19⟩
theorem WN:aK ["net","last","triple"] ["net","last","triple"] (aB s19):=nofun
include cl in
theorem d19(Fu:gj K "triple_fits" "triple_fits" s19 f fd)(cU:mg "len"=none)(km:aA Pg w K mg base k c 10 "hour_out" 3):bV Pg w K mg base fU (k+1) f fd ["net","last","triple"] (gn K 3 (fun args=>enter c n Ph args)):=by
 refine bF Fu WN rfl rfl fun cdv A outer s H E hr=>?_;have nd:=WN.nd;refine aj ?_ ?_;.exists aJ ?_;exact mH (vU jo (iJ (aR hr)) ak (az (sv 2) ak) (gO rfl (by rfl) cU (az (sv 0) ak))) (mH (eG jo (az (sv 2) ak) (az (az (az (sv 0) ak) (az (sv 2) ak)) ak) (aV _)) (oF (eG jo (dW km hr (bz (sv 0) (bz (az (sv 2) ak) (bz (az (sv 2) ak) aD rfl) rfl) rfl)) (sv 1) (aV _)))).ev
 exact au
noncomputable abbrev s20:=top 31
noncomputable def b20:List S:=[.vf 3 false,.fG (.var 1) [4,5,6] false [.ifs (.cmp .eq (.idx (.idx (.idx (.var 0) (.con (.int 1))) (.var 5)) (.con (.int 1))) (.var 2)) [.asg 7 (.call 10 [.var 0,.var 4,.var 5]),.dput 3 (.var 7) (.bin .add (.Tg 3 (.var 7) (.con (.int 0))) (.var 6))] [],.ifs (.cmp .eq (.idx (.idx (.idx (.var 0) (.con (.int 1))) (.var 5)) (.con (.int 0))) (.var 2)) [.dput 3 (.var 4) (.bin .sub (.Tg 3 (.var 4) (.con (.int 0))) (.var 6))] []],.ret (.var 3)]
noncomputable def Zc:Fd:=⟨3,8,b20⟩
theorem W7:aK ["net","plan","place","changes","hour","way","loads","out"] ["net","plan","place"] (aB s20):=nofun
include cl in
theorem d20(Fu:gj K "changes_at" "changes_at" s20 f fd)(km:aA Pg w K mg base k c 10 "hour_out" 3):bV Pg w K mg base fU (k+1) f fd ["net","plan","place"] (gn K 3 (fun args=>enter c n Zc args)):=by
 refine bF Fu W7 rfl rfl fun cdv A outer s H E hr=>?_;have nd:=W7.nd;refine aj ?_ ?_;.exact(JZ (i:=3) nd rfl (Or.inl rfl) (by rfl) (Or.inl rfl))
 exists aj ?_ ?_;.exact(lY PassesOwn.never hc (bD (sv 1)) (dh hc (aG (aC (i:=4) nd rfl (Or.inl rfl) (Or.inl rfl)) (aG (aC (i:=5) nd rfl (Or.inl rfl) (Or.inl rfl)) (aG (aC (i:=6) nd rfl (Or.inl rfl) (Or.inl rfl)) cC)))) (pX rfl (dq _ _ (dq _ _ (dq _ _ lO 6) 5) 4)) (by exists aj ?_ ?_;(· exists cH ?_ ?_ ?_;exact bG (il (aR hr)) (az (az (az (sv 0) ak) (sv 5)) ak) (sv 2) (aV _);(· exists aj ?_ ?_;(· exists 7,dW km hr (bz (sv 0) (bz (sv 4) (bz (sv 5) aD rfl) rfl) rfl));(· exists aj ?_ ?_;exact zU (i:=3) (aR hr) rfl (by first|exact Or.inl rfl|exact Or.inr (Or.inl rfl)) (sv 7) (aL bK (Fb (i:=3) (aR hr) rfl (by first|exact Or.inl rfl|exact Or.inr (Or.inl rfl)) (sv 7) ak ⟨rfl,rfl,rfl,rfl⟩) (sv 6)) (by rfl);exact au));exact au);(· exists aj ?_ ?_;(· exists cH ?_ ?_ ?_;exact bG (il (aR hr)) (az (az (az (sv 0) ak) (sv 5)) ak) (sv 2) (aV _);(· exists aj ?_ ?_;exact zU (i:=3) (aR hr) rfl (by first|exact Or.inl rfl|exact Or.inr (Or.inl rfl)) (sv 4) (aL dD (Fb (i:=3) (aR hr) rfl (by first|exact Or.inl rfl|exact Or.inr (Or.inl rfl)) (sv 4) ak ⟨rfl,rfl,rfl,rfl⟩) (sv 6)) (by rfl);exact au);exact au);exact au)))
 exists aj ?_ ?_;.exists aJ ?_;exact sv 3
 exact au
noncomputable abbrev s21:=top 32
noncomputable def b21:List S:=[.asg 3 (.call 20 [.var 0,.var 1,.var 2]),.asg 4 (.con (.int 0)),.fG (.blt .xO [.var 3]) [5] true [.aug 4 false (.bin .Ja (.var 3) (.var 5)),.ifs (.cmp .lt (.var 4) (.con (.int 0))) [.ret (.con (.bl false))] []],.ret (.con (.bl true))]
noncomputable def VL:Fd:=⟨3,6,b21⟩
theorem Ye:aK ["net","plan","place","changes","standing","hour"] ["net","plan","place"] (aB s21):=nofun
include cl in
theorem d21(Fu:gj K "never_short" "never_short" s21 f fd)(dR:mg "sorted"=none)(iQ:aA Pg w K mg base k c 20 "changes_at" 3):bV Pg w K mg base fU (k+1) f fd ["net","plan","place"] (gn K 3 (fun args=>enter c n VL args)):=by
 refine bF Fu Ye rfl rfl fun cdv A outer s H E hr=>?_;have nd:=Ye.nd;refine aj ?_ ?_;.exists 3,dW iQ hr (bz (sv 0) (bz (sv 1) (bz (sv 2) aD rfl) rfl) rfl)
 exists aj ?_ ?_;.exists 4,ak
 exists aj ?_ ?_;.exists cT (i:=5) ?_ ?_ ?_ ?_ ?_ ?_ ?_ ?_ ?_;exact PassesOwn.never;exact hc;exact nd;exact rfl;exact oi;exact bD (FQ rfl hc (by rfl) dR (sv 3));(· exists aj ?_ ?_;exact G3 (i:=4) (sub:=false) Ai nd rfl (Or.inl rfl) (Bj (aR hr) (sv 3) (sv 5) (fun _ _=>rfl)) (Or.inl rfl);(· exists aj ?_ ?_;(· exists cH ?_ ?_ ?_;exact bG (iJ (aR hr)) (sv 4) ak (aV _);(· exists aj ?_ ?_;(· exists aJ ?_;exact fB);exact au);exact au);exact au));(· intro _;rfl);exact Or.inl rfl
 exists aj ?_ ?_;.exists aJ ?_;exact fB
 exact au
noncomputable abbrev s22:=top 33
noncomputable def b22:List S:=[.ifs (.or (.not (.call 18 [.var 2])) (.not (.blt .all [.comp (.var 2) 1 [3] true none (.call 19 [.var 0,.var 1,.var 3])]))) [.ret (.con (.bl false))] [],.ret (.blt .all [.comp (.qW (.con (.int 1)) (.idx (.var 0) (.con (.int 0)))) 1 [3] true none (.call 21 [.var 0,.var 2,.var 3])])]
noncomputable def Zk:Fd:=⟨3,3,b22⟩
theorem WX:aK ["net","last","plan"] ["net","last","plan"] (aB s22):=nofun
include cl in
theorem d22(Fu:gj K "plan_right" "plan_right" s22 f fd)(cF:mg "all"=none)(aP:mg "range"=none)(Ec:aA Pg w K mg base k c 18 "is_plan" 1)(rm:aA Pg w K mg base k c 21 "never_short" 3)(rA:aA Pg w K mg base k c 19 "triple_fits" 3):bV Pg w K mg base fU (k+1) f fd ["net","last","plan"] (gn K 3 (fun args=>enter c n Zk args)):=by
 refine bF Fu WX rfl rfl fun cdv A outer s H E hr=>?_;have nd:=WX.nd;refine aj ?_ ?_;.exists cH ?_ ?_ ?_;exact SW.st (jO (fK (dN (dW Ec hr (bz (sv 2) aD rfl)))) (jg (fK (dN (gG rfl hc (by rfl) cF (bB (N':=["net","last","plan","triple"]) hc (nG rfl (by rfl)) (bD (sv 2)) (fun _ _ _ _ _=>aC (i:=3) ‹["net","last","plan","triple"]› rfl (Or.inl rfl) (Or.inr rfl)) (cz (Nat.le_refl _)) (fun _ _ _ _ _=>bM) (fun _ _ _ _ _=>(dW rA hr (bz (sv 0) (bz (sv 1) (bz (sv 3) aD rfl) rfl) rfl)))))))));(· exists aj ?_ ?_;(· exists aJ ?_;exact fB);exact au);exact au
 exists aj ?_ ?_;.exists aJ ?_;exact gG rfl hc (by rfl) cF (bB (N':=["net","last","plan","place"]) hc (nG rfl (by rfl)) (uI rfl (by rfl) aP ak (az (sv 0) ak)) (fun _ _ _ _ _=>aC (i:=3) ‹["net","last","plan","place"]› rfl (Or.inl rfl) (Or.inr rfl)) (cz (Nat.le_refl _)) (fun _ _ _ _ _=>bM) (fun _ _ _ _ _=>(dW rm hr (bz (sv 0) (bz (sv 2) (bz (sv 3) aD rfl) rfl) rfl))))
 exact au
noncomputable abbrev s23:=top 34
noncomputable def b23:List S:=[.ret (.and (.cmp .ne (.idx (.idx (.idx (.var 0) (.con (.int 1))) (.var 1)) (.con (.int 1))) (.con (.int 0))) (.cmp .ne (.idx (.idx (.idx (.var 0) (.con (.int 1))) (.var 1)) (.con (.int 0))) (.bin .sub (.idx (.var 0) (.con (.int 0))) (.con (.int 1)))))]
noncomputable def Um:Fd:=⟨2,2,b23⟩
theorem XM:aK ["net","number"] ["net","number"] (aB s23):=nofun
include cl in
theorem d23(Fu:gj K "is_clean_way" "is_clean_way" s23 f fd):bV Pg w K mg base fU (k+1) f fd ["net","number"] (gn K 2 (fun args=>enter c n Um args)):=by
 refine bF Fu XM rfl rfl fun cdv A outer s H E hr=>?_;have nd:=XM.nd;refine aj ?_ ?_;.exists aJ ?_;exact mH (eG (gM (aR hr)) (az (az (az (sv 0) ak) (sv 1)) ak) ak (aV _)) (oF (eG (gM (aR hr)) (az (az (az (sv 0) ak) (sv 1)) ak) (aL dD (az (sv 0) ak) ak) (aV _)))
 exact au
noncomputable abbrev s24:=top 35
noncomputable def b24:List S:=[.ifs (.or (.not (.call 22 [.var 0,.var 1,.var 2])) (.not (.blt .all [.comp (.var 2) 3 [3,4,5] false none (.call 23 [.var 0,.var 4])]))) [.ret (.con (.bl false))] [],.ret (.blt .all [.comp (.qW (.con (.int 1)) (.bin .sub (.idx (.var 0) (.con (.int 0))) (.con (.int 1)))) 1 [3] true none (.cmp .eq (.call 25 [.var 0,.var 2,.var 3,.var 1]) (.con (.int 0)))])]
noncomputable def Zd:Fd:=⟨3,3,b24⟩
theorem WT:aK ["net","last","plan"] ["net","last","plan"] (aB s24):=nofun
include cl in
theorem d24(Fu:gj K "plan_clean" "plan_clean" s24 f fd)(cF:mg "all"=none)(aP:mg "range"=none)(qK:aA Pg w K mg base k c 23 "is_clean_way" 2)(vp:aA Pg w K mg base k c 22 "plan_right" 3)(jq:aA Pg w K mg base k c 25 "stands_at" 4):bV Pg w K mg base fU (k+1) f fd ["net","last","plan"] (gn K 3 (fun args=>enter c n Zd args)):=by
 refine bF Fu WT rfl rfl fun cdv A outer s H E hr=>?_;have nd:=WT.nd;refine aj ?_ ?_;.exists cH ?_ ?_ ?_;exact SW.st (jO (fK (dN (dW vp hr (bz (sv 0) (bz (sv 1) (bz (sv 2) aD rfl) rfl) rfl)))) (jg (fK (dN (gG rfl hc (by rfl) cF (bB (N':=["net","last","plan","hour","way","loads"]) hc (nG rfl (by rfl)) (bD (sv 2)) (fun _ _ _ _ _=>dh hc (aG (aC (i:=3) ‹["net","last","plan","hour","way","loads"]› rfl (Or.inl rfl) (Or.inr rfl)) (aG (aC (i:=4) ‹["net","last","plan","hour","way","loads"]› rfl (Or.inl rfl) (Or.inr rfl)) (aG (aC (i:=5) ‹["net","last","plan","hour","way","loads"]› rfl (Or.inl rfl) (Or.inr rfl)) cC)))) (dF rfl (aW (show 3<=3 by decide) (aW (show 3<=4 by decide) (aW (show 3<=5 by decide) dJ)))) (fun _ _ _ _ _=>bM) (fun _ _ _ _ _=>(dW qK hr (bz (sv 0) (bz (sv 4) aD rfl) rfl)))))))));(· exists aj ?_ ?_;(· exists aJ ?_;exact fB);exact au);exact au
 exists aj ?_ ?_;.exists aJ ?_;exact gG rfl hc (by rfl) cF (bB (N':=["net","last","plan","place"]) hc (nG rfl (by rfl)) (uI rfl (by rfl) aP ak (aL dD (az (sv 0) ak) ak)) (fun _ _ _ _ _=>aC (i:=3) ‹["net","last","plan","place"]› rfl (Or.inl rfl) (Or.inr rfl)) (cz (Nat.le_refl _)) (fun _ _ _ _ _=>bM) (fun _ _ _ _ _=>(eG (il (aR hr)) (dW jq hr (bz (sv 0) (bz (sv 2) (bz (sv 3) (bz (sv 1) aD rfl) rfl) rfl) rfl)) ak (aV _))))
 exact au
noncomputable abbrev s25:=top 36
noncomputable def b25:List S:=[.asg 4 (.call 20 [.var 0,.var 1,.var 2]),.ret (.blt .sum [.comp (.blt .keys [.var 4]) 1 [5] true (some (.cmp .le (.var 5) (.var 3))) (.bin .Ja (.var 4) (.var 5))])]
noncomputable def Yu:Fd:=⟨4,5,b25⟩
theorem XH:aK ["net","plan","place","hour","changes"] ["net","plan","place","hour"] (aB s25):=nofun
include cl in
theorem d25(Fu:gj K "stands_at" "stands_at" s25 f fd)(dZ:mg "sum"=none)(iQ:aA Pg w K mg base k c 20 "changes_at" 3):bV Pg w K mg base fU (k+1) f fd ["net","plan","place","hour"] (gn K 4 (fun args=>enter c n Yu args)):=by
 refine bF Fu XH rfl rfl fun cdv A outer s H E hr=>?_;have nd:=XH.nd;refine aj ?_ ?_;.exists mq (i:=4) ?_ ?_ ?_ ?_ ?_ ?_;exact nd;exact rfl;exact Or.inr rfl;rotate_left;rfl;exact oi;exact dW iQ hr (bz (sv 0) (bz (sv 1) (bz (sv 2) aD rfl) rfl) rfl)
 exists aj ?_ ?_;.exists aJ ?_;exact lZ rfl hc (by rfl) dZ (bB (N':=["net","plan","place","hour","changes","at"]) hc (nG rfl (by rfl)) (LQ (sv 4)) (fun _ _ _ _ _=>aC (i:=5) ‹["net","plan","place","hour","changes","at"]› rfl (Or.inl rfl) (Or.inr rfl)) (cz (Nat.le_refl _)) (fun _ _ _ _ _=>oM (bG jo (sv 5) (sv 3) (aV _))) (fun _ _ _ _ _=>(Bj (aR hr) (sv 4) (sv 5) (fun _ _=>rfl))))
 exact au
noncomputable abbrev s26:=top 37
noncomputable def b26:List S:=[.ret (.call 25 [.var 0,.var 1,.bin .sub (.idx (.var 0) (.con (.int 0))) (.con (.int 1)),.var 2])]
noncomputable def Wt:Fd:=⟨3,3,b26⟩
theorem WD:aK ["net","plan","hour"] ["net","plan","hour"] (aB s26):=nofun
include cl in
theorem d26(Fu:gj K "brought_by" "brought_by" s26 f fd)(jq:aA Pg w K mg base k c 25 "stands_at" 4):bV Pg w K mg base fU (k+1) f fd ["net","plan","hour"] (gn K 3 (fun args=>enter c n Wt args)):=by
 refine bF Fu WD rfl rfl fun cdv A outer s H E hr=>?_;have nd:=WD.nd;refine aj ?_ ?_;.exists aJ ?_;exact dW jq hr (bz (sv 0) (bz (sv 1) (bz (aL dD (az (sv 0) ak) ak) (bz (sv 2) aD rfl) rfl) rfl) rfl)
 exact au
noncomputable abbrev s27:=top 39
noncomputable def b27:List S:=[.ret (.lst [.blt .max2 [.con (.int 0),.bin .sub (.var 0) (.bin .pow (.con (.int 10)) (.con (.int 18)))],.bin .mod (.var 0) (.bin .pow (.con (.int 10)) (.con (.int 18))),.con (.int 0)])]
noncomputable def Zb:Fd:=⟨1,1,b27⟩
theorem Vk:aK ["cell"] ["cell"] (aB s27):=nofun
include cl in
theorem d27(Fu:gj K "_law_pool" "_law_pool" s27 f fd)(tE:mg "max"=none):bV Pg w K mg base fU (k+1) f fd ["cell"] (gn K 1 (fun args=>enter c n Zb args)):=by
 refine bF Fu Vk rfl rfl fun cdv A outer s H E hr=>?_;have nd:=Vk.nd;refine aj ?_ ?_;.exists aJ ?_;exact cW (dY (Bd rfl hc (by rfl) tE (dY ak (dY (aL dD (sv 0) (aL Bf ak ak)) aQ rfl) rfl)) (dY (aL fP (sv 0) (aL Bf ak ak)) (dY ak aQ rfl) rfl) rfl)
 exact au
noncomputable abbrev s28:=top 40
noncomputable def b28:List S:=[.ifs (.cmp .gt (.idx (.var 0) (.con (.int 0))) (.con (.int 0))) [.asg 2 (.bin .mod (.idx (.var 0) (.con (.int 0))) (.var 1)),.zE 0 (.con (.int 0)) (.bin .fdiv (.idx (.var 0) (.con (.int 0))) (.var 1)),.ret (.var 2)] [],.zE 0 (.con (.int 2)) (.bin .add (.idx (.var 0) (.con (.int 2))) (.con (.int 1))),.asg 3 (.bin .mod (.bin .add (.idx (.var 0) (.con (.int 1))) (.bin .mul (.con (.int 7919)) (.idx (.var 0) (.con (.int 2))))) (.con (.int 1000000007))),.asg 4 (.bin .mod (.bin .mul (.bin .add (.var 3) (.con (.int 11))) (.bin .add (.var 3) (.con (.int 48271)))) (.con (.int 998244353))),.ret (.bin .mod (.bin .fdiv (.bin .mod (.bin .mul (.var 4) (.var 4)) (.con (.int 2147483647))) (.con (.int 8))) (.var 1))]
noncomputable def Zx:Fd:=⟨2,5,b28⟩
theorem VB:aK ["pool","base","digit","mixed","stir"] ["pool","base"] (aB s28):=nofun
include cl in
theorem d28(Fu:gj K "_law_next" "_law_next" s28 f fd):bV Pg w K mg base fU (k+1) f fd ["pool","base"] (gn K 2 (fun args=>enter c n Zx args)):=by
 refine bF Fu VB rfl rfl fun cdv A outer s H E hr=>?_;have nd:=VB.nd;refine aj ?_ ?_;.exists cH ?_ ?_ ?_;exact bG uA (az (sv 0) ak) ak (aV _);(· exists aj ?_ ?_;(· exists 2,aL fP (az (sv 0) ak) (sv 1));(· exists aj ?_ ?_;exact oY (k:=0) rfl (by first|exact Or.inl rfl|exact Or.inr (Or.inl rfl)) ak (aL wN (az (sv 0) ak) (sv 1));(· exists aj ?_ ?_;(· exists aJ ?_;exact sv 2);exact au)));exact au
 exists aj ?_ ?_;.exact(oY (k:=0) rfl (by first|exact Or.inl rfl|exact Or.inr (Or.inl rfl)) ak (aL bK (az (sv 0) ak) ak))
 exists aj ?_ ?_;.exists 3,aL fP (aL bK (az (sv 0) ak) (aL jD ak (az (sv 0) ak))) ak
 exists aj ?_ ?_;.exists 4,aL fP (aL jD (aL bK (sv 3) ak) (aL bK (sv 3) ak)) ak
 exists aj ?_ ?_;.exists aJ ?_;exact aL fP (aL wN (aL fP (aL jD (sv 4) (sv 4)) ak) ak) (sv 1)
 exact au
noncomputable abbrev s29:=top 41
noncomputable def b29:List S:=[.asg 2 (.blt .list [.slice (.var 0) (.con .non) (.var 1)]),.fG (.qW (.var 1) (.blt .len [.var 0])) [3] true [.zE 2 (.bin .mod (.var 3) (.var 1)) (.bin .add (.bin .mul (.idx (.var 2) (.bin .mod (.var 3) (.var 1))) (.con (.int 31))) (.idx (.var 0) (.var 3)))],.ret (.var 2)]
noncomputable def Zo:Fd:=⟨2,4,b29⟩
theorem Wn:aK ["script","most","cells","k"] ["script","most"] (aB s29):=nofun
include cl in
theorem d29(Fu:gj K "_law_cells" "_law_cells" s29 f fd)(cU:mg "len"=none)(iR:mg "list"=none)(aP:mg "range"=none):bV Pg w K mg base fU (k+1) f fd ["script","most"] (gn K 2 (fun args=>enter c n Zo args)):=by
 refine bF Fu Wn rfl rfl fun cdv A outer s H E hr=>?_;have nd:=Wn.nd;refine aj ?_ ?_;.exists 2,uK rfl (by rfl) iR (lF (sv 0) oV (o7 (sv 1)))
 exists aj ?_ ?_;.exists cT (i:=3) ?_ ?_ ?_ ?_ ?_ ?_ ?_ ?_ ?_;exact PassesOwn.never;exact hc;exact nd;exact rfl;exact oi;exact uI rfl (by rfl) aP (sv 1) (gO rfl (by rfl) cU (sv 0));(· exists aj ?_ ?_;exact oY (k:=2) rfl (by first|exact Or.inl rfl|exact Or.inr (Or.inl rfl)) (aL fP (sv 3) (sv 1)) (aL bK (aL jD (az (sv 2) (aL fP (sv 3) (sv 1))) ak) (az (sv 0) (sv 3)));exact au);(· intro _;rfl);exact Or.inl rfl
 exists aj ?_ ?_;.exists aJ ?_;exact sv 2
 exact au
noncomputable abbrev s30:=top 42
noncomputable def b30:List S:=[.asg 3 (.call 28 [.var 0,.var 1]),.asg 4 (.bin .mod (.bin .add (.bin .add (.var 3) (.con (.int 1))) (.call 28 [.var 0,.bin .sub (.var 1) (.con (.int 1))])) (.var 1)),.ifs (.and (.cmp .lt (.bin .add (.var 2) (.con (.int 1))) (.var 1)) (.cmp .gt (.call 28 [.var 0,.con (.int 3)]) (.con (.int 0)))) [.par 3 4 (.var 2) (.bin .add (.var 2) (.con (.int 1)))] [.ifs (.and (.cmp .gt (.var 3) (.var 4)) (.cmp .gt (.call 28 [.var 0,.con (.int 3)]) (.con (.int 0)))) [.par 3 4 (.var 4) (.var 3)] []],.asg 5 (.idx (.lst [.con (.int 1),.con (.int 2),.con (.int 3),.con (.int 5),.con (.int 0),.con (.int 1),.con (.int 4),.bin .add (.con (.int 1)) (.call 28 [.var 0,.con (.int 9)])]) (.call 28 [.var 0,.con (.int 8)])),.ret (.tup [.var 3,.var 4,.var 5,.idx (.lst [.con (.int 1),.con (.int 1),.con (.int 1),.con (.int 2),.con (.int 2),.con (.int 3),.con (.int 1),.con (.int 4)]) (.call 28 [.var 0,.con (.int 8)])])]
noncomputable def Zi:Fd:=⟨3,6,b30⟩
theorem Vs:aK ["pool","many","k","begin","end","room"] ["pool","many","k"] (aB s30):=nofun
include cl in
theorem d30(Fu:gj K "_law_way" "_law_way" s30 f fd)(aU:aA Pg w K mg base k c 28 "_law_next" 2):bV Pg w K mg base fU (k+1) f fd ["pool","many","k"] (gn K 3 (fun args=>enter c n Zi args)):=by
 refine bF Fu Vs rfl rfl fun cdv A outer s H E hr=>?_;have nd:=Vs.nd;refine aj ?_ ?_;.exists 3,dW aU hr (bz (sv 0) (bz (sv 1) aD rfl) rfl)
 exists aj ?_ ?_;.exists 4,aL fP (aL bK (aL bK (sv 3) ak) (dW aU hr (bz (sv 0) (bz (aL dD (sv 1) ak) aD rfl) rfl))) (sv 1)
 exists aj ?_ ?_;.exists cH ?_ ?_ ?_;exact SW.st (yE (bG (iJ (aR hr)) (aL bK (sv 2) ak) (sv 1) (aV _)) (uH (bG uA (dW aU hr (bz (sv 0) (bz ak aD rfl) rfl)) ak (aV _))));(· exists aj ?_ ?_;exact Im (i:=3) (j:=4) hc nd rfl rfl (by decide) rfl rfl (sv 2) (aL bK (sv 2) ak);exact au);(· exists aj ?_ ?_;(· exists cH ?_ ?_ ?_;exact SW.st (yE (bG uA (sv 3) (sv 4) (aV _)) (uH (bG uA (dW aU hr (bz (sv 0) (bz ak aD rfl) rfl)) ak (aV _))));(· exists aj ?_ ?_;exact Im (i:=3) (j:=4) hc nd rfl rfl (by decide) rfl rfl (sv 4) (sv 3);exact au);exact au);exact au)
 exists aj ?_ ?_;.exists 5,az (cW (jA [1,2,3,5,0,1,4] rfl (dY (aL bK ak (dW aU hr (bz (sv 0) (bz ak aD rfl) rfl))) aQ rfl))) (dW aU hr (bz (sv 0) (bz ak aD rfl) rfl))
 exists aj ?_ ?_;.exists aJ ?_;exact dO (dY (sv 3) (dY (sv 4) (dY (sv 5) (dY (az (cW (jA [1,1,1,2,2,3,1,4] rfl aQ)) (dW aU hr (bz (sv 0) (bz ak aD rfl) rfl))) aQ rfl) rfl) rfl) rfl)
 exact au
noncomputable abbrev s31:=top 43
noncomputable def b31:List S:=[.asg 1 (.idx (.lst [.con (.int 3),.con (.int 4),.con (.int 3),.con (.int 4),.con (.int 2),.con (.int 5),.con (.int 6),.con (.int 4)]) (.call 28 [.var 0,.con (.int 8)])),.asg 2 (.idx (.lst [.con (.int 5),.con (.int 3),.con (.int 4),.con (.int 6),.con (.int 2),.con (.int 7),.con (.int 8),.con (.int 10),.con (.int 12),.con (.int 1),.con (.int 0),.con (.int 5)]) (.call 28 [.var 0,.con (.int 12)])),.ret (.tup [.var 1,.blt .tuple [.comp (.qW (.con (.int 0)) (.var 2)) 1 [3] true none (.call 30 [.var 0,.var 1,.var 3])]])]
noncomputable def ZM:Fd:=⟨1,3,b31⟩
theorem WQ:aK ["pool","many","count"] ["pool"] (aB s31):=nofun
include cl in
theorem d31(Fu:gj K "_law_net" "_law_net" s31 f fd)(aP:mg "range"=none)(cD:mg "tuple"=none)(aU:aA Pg w K mg base k c 28 "_law_next" 2)(zN:aA Pg w K mg base k c 30 "_law_way" 3):bV Pg w K mg base fU (k+1) f fd ["pool"] (gn K 1 (fun args=>enter c n ZM args)):=by
 refine bF Fu WQ rfl rfl fun cdv A outer s H E hr=>?_;have nd:=WQ.nd;refine aj ?_ ?_;.exists mq (i:=1) ?_ ?_ ?_ ?_ ?_ ?_;exact nd;exact rfl;exact Or.inr rfl;rotate_left;rfl;exact oi;exact az (cW (jA [3,4,3,4,2,5,6,4] rfl aQ)) (dW aU hr (bz (sv 0) (bz ak aD rfl) rfl))
 exists aj ?_ ?_;.exists 2,az (cW (jA [5,3,4,6,2,7,8,10,12,1,0,5] rfl aQ)) (dW aU hr (bz (sv 0) (bz ak aD rfl) rfl))
 exists aj ?_ ?_;.exists aJ ?_;exact dO (dY (sv 1) (dY (kJ rfl (by rfl) cD (bB (N':=["pool","many","count","k"]) hc (nG rfl (by rfl)) (fO rfl (by rfl) aP (sv 2)) (fun _ _ _ _ _=>aC (i:=3) ‹["pool","many","count","k"]› rfl (Or.inl rfl) (Or.inr rfl)) (cz (Nat.le_refl _)) (fun _ _ _ _ _=>bM) (fun _ _ _ _ _=>(dW zN hr (bz (sv 0) (bz (sv 1) (bz (sv 3) aD rfl) rfl) rfl))))) aQ rfl) rfl)
 exact au
noncomputable abbrev s32:=top 44
noncomputable def b32:List S:=[.asg 3 (.lst [.con (.int 0)]),.fG (.var 1) [4] true [.ifs (.or (.cmp .lt (.var 4) (.con (.int 0))) (.or (.cmp .ge (.var 4) (.blt .len [.idx (.var 0) (.con (.int 1))])) (.cmp .ne (.idx (.idx (.idx (.var 0) (.con (.int 1))) (.var 4)) (.con (.int 0))) (.idx (.var 3) (.neg (.con (.int 1))))))) [.ret (.con (.bl false))] [],.ifs (.or (.cmp .eq (.idx (.idx (.idx (.var 0) (.con (.int 1))) (.var 4)) (.con (.int 2))) (.con (.int 0))) (.cmp .inn (.idx (.idx (.idx (.var 0) (.con (.int 1))) (.var 4)) (.con (.int 1))) (.var 3))) [.ret (.con (.bl false))] [],.app 3 (.idx (.idx (.idx (.var 0) (.con (.int 1))) (.var 4)) (.con (.int 1)))],.ret (.cmp .eq (.idx (.var 3) (.neg (.con (.int 1)))) (.var 2))]
noncomputable def Y5:Fd:=⟨3,5,b32⟩
theorem V4:aK ["net","walk","end","places","way"] ["net","walk","end"] (aB s32):=nofun
include cl in
theorem d32(Fu:gj K "_law_walk_to" "_law_walk_to" s32 f fd)(cU:mg "len"=none):bV Pg w K mg base fU (k+1) f fd ["net","walk","end"] (gn K 3 (fun args=>enter c n Y5 args)):=by
 refine bF Fu V4 rfl rfl fun cdv A outer s H E hr=>?_;have nd:=V4.nd;refine aj ?_ ?_;.exists 3,cW (dY ak aQ rfl)
 exists aj ?_ ?_;.exists cT (i:=4) ?_ ?_ ?_ ?_ ?_ ?_ ?_ ?_ ?_;exact PassesOwn.never;exact hc;exact nd;exact rfl;exact oi;exact bD (sv 1);(· exists aj ?_ ?_;(· exists cH ?_ ?_ ?_;exact SW.st (jO (bG (iJ (aR hr)) (sv 4) ak (aV _)) (jO (bG u9 (sv 4) (gO rfl (by rfl) cU (az (sv 0) ak)) (aV _)) (jg (bG (gM (aR hr)) (az (az (az (sv 0) ak) (sv 4)) ak) (az (sv 3) (my ak)) (aV _)))));(· exists aj ?_ ?_;(· exists aJ ?_;exact fB);exact au);exact au);(· exists aj ?_ ?_;(· exists cH ?_ ?_ ?_;exact SW.st (jO (bG (il (aR hr)) (az (az (az (sv 0) ak) (sv 4)) ak) ak (aV _)) (jg (bG uM (az (az (az (sv 0) ak) (sv 4)) ak) (sv 3) (by with_unfolding_all rfl))));(· exists aj ?_ ?_;(· exists aJ ?_;exact fB);exact au);exact au);(· exists aj ?_ ?_;exact cI (k:=3) rfl (by first|exact Or.inl rfl|exact Or.inr (Or.inl rfl)) (az (az (az (sv 0) ak) (sv 4)) ak);exact au)));(· intro _;rfl);exact Or.inl rfl
 exists aj ?_ ?_;.exists aJ ?_;exact eG (il (aR hr)) (az (sv 3) (my ak)) (sv 2) (aV _)
 exact au
noncomputable abbrev s33:=top 45
noncomputable def b33:List S:=[.ret (.blt .sum [.comp (.var 1) 1 [2] true none (.idx (.idx (.idx (.var 0) (.con (.int 1))) (.var 2)) (.con (.int 3)))])]
noncomputable def Zr:Fd:=⟨2,2,b33⟩
theorem Wm:aK ["net","walk"] ["net","walk"] (aB s33):=nofun
include cl in
theorem d33(Fu:gj K "_law_length" "_law_length" s33 f fd)(dZ:mg "sum"=none):bV Pg w K mg base fU (k+1) f fd ["net","walk"] (gn K 2 (fun args=>enter c n Zr args)):=by
 refine bF Fu Wm rfl rfl fun cdv A outer s H E hr=>?_;have nd:=Wm.nd;refine aj ?_ ?_;.exists aJ ?_;exact lZ rfl hc (by rfl) dZ (bB (N':=["net","walk","way"]) hc (nG rfl (by rfl)) (bD (sv 1)) (fun _ _ _ _ _=>aC (i:=2) ‹["net","walk","way"]› rfl (Or.inl rfl) (Or.inr rfl)) (cz (Nat.le_refl _)) (fun _ _ _ _ _=>bM) (fun _ _ _ _ _=>(az (az (az (sv 0) ak) (sv 2)) ak)))
 exact au
noncomputable abbrev Ge:=top 46
noncomputable def b34:List S:=[.asg 2 (.bin .mul (.lst [.con (.int 0)]) (.blt .len [.idx (.var 0) (.con (.int 1))])),.fG (.var 1) [3,4] false [.ifs (.or (.cmp .lt (.var 4) (.con (.int 1))) (.not (.call 32 [.var 0,.var 3,.bin .sub (.idx (.var 0) (.con (.int 0))) (.con (.int 1))]))) [.ret (.con (.bl false))] [],.fG (.var 3) [5] true [.zE 2 (.var 5) (.bin .add (.idx (.var 2) (.var 5)) (.var 4))]],.ret (.blt .all [.comp (.qW (.con (.int 0)) (.blt .len [.var 2])) 1 [6] true none (.cmp .le (.idx (.var 2) (.var 6)) (.idx (.idx (.idx (.var 0) (.con (.int 1))) (.var 6)) (.con (.int 2))))])]
noncomputable def Zf:Fd:=⟨2,6,b34⟩
theorem Xi:aK ["net","rounds","gone","walk","loads","way"] ["net","rounds"] (aB Ge):=nofun
include cl in
theorem d34(Fu:gj K "_law_fit" "_law_fit" Ge f fd)(cF:mg "all"=none)(cU:mg "len"=none)(aP:mg "range"=none)(qL:aA Pg w K mg base k c 32 "_law_walk_to" 3):bV Pg w K mg base fU (k+1) f fd ["net","rounds"] (gn K 2 (fun args=>enter c n Zf args)):=by
 refine bF Fu Xi rfl rfl fun cdv A outer s H E hr=>?_;have nd:=Xi.nd;refine aj ?_ ?_;.exists mq (i:=2) ?_ ?_ ?_ ?_ ?_ ?_;exact nd;exact rfl;exact Or.inr rfl;rotate_left;rfl;exact oi;exact aL jD (cW (dY ak aQ rfl)) (gO rfl (by rfl) cU (az (sv 0) ak))
 exists aj ?_ ?_;.exact(lY PassesOwn.never hc (bD (sv 1)) (dh hc (aG (aC (i:=3) nd rfl (Or.inl rfl) (Or.inl rfl)) (aG (aC (i:=4) nd rfl (Or.inl rfl) (Or.inl rfl)) cC))) (pX rfl (dq _ _ (dq _ _ lO 4) 3)) (by exists aj ?_ ?_;(· exists cH ?_ ?_ ?_;exact SW.st (jO (bG (iJ (aR hr)) (sv 4) ak (aV _)) (jg (fK (dN (dW qL hr (bz (sv 0) (bz (sv 3) (bz (aL dD (az (sv 0) ak) ak) aD rfl) rfl) rfl))))));(· exists aj ?_ ?_;(· exists aJ ?_;exact fB);exact au);exact au);(· exists aj ?_ ?_;(· exists cT (i:=5) ?_ ?_ ?_ ?_ ?_ ?_ ?_ ?_ ?_;exact PassesOwn.never;exact hc;exact nd;exact rfl;exact oi;exact bD (sv 3);(· exists aj ?_ ?_;exact oY (k:=2) rfl (by first|exact Or.inl rfl|exact Or.inr (Or.inl rfl)) (sv 5) (aL bK (az (sv 2) (sv 5)) (sv 4));exact au);(· intro _;rfl);exact oi);exact au)))
 exists aj ?_ ?_;.exists aJ ?_;exact gG rfl hc (by rfl) cF (bB (N':=["net","rounds","gone","walk","loads","way#5","way"]) hc (nG rfl (by rfl)) (fO rfl (by rfl) aP (gO rfl (by rfl) cU (sv 2))) (fun _ _ _ _ _=>aC (i:=6) ‹["net","rounds","gone","walk","loads","way#5","way"]› rfl (Or.inl rfl) (Or.inr rfl)) (cz (Nat.le_refl _)) (fun _ _ _ _ _=>bM) (fun _ _ _ _ _=>(eG jo (az (sv 2) (sv 6)) (az (az (az (sv 0) ak) (sv 6)) ak) (aV _))))
 exact au
noncomputable abbrev s35:=top 47
noncomputable def b35:List S:=[.asg 2 (.lst []),.asg 3 (.con (.int 0)),.fG (.qW (.con (.int 0)) (.con (.int 6))) [4] true [.asg 5 (.comp (.qW (.con (.int 0)) (.blt .len [.idx (.var 1) (.con (.int 1))])) 1 [7] true (some (.cmp .eq (.idx (.idx (.idx (.var 1) (.con (.int 1))) (.var 7)) (.con (.int 0))) (.var 3))) (.var 7)),.ifs (.and (.cmp .ne (.var 5) (.lst [])) (.cmp .lt (.var 3) (.bin .sub (.idx (.var 1) (.con (.int 0))) (.con (.int 1))))) [.asg 6 (.idx (.var 5) (.call 28 [.var 0,.blt .len [.var 5]])),.app 2 (.var 6),.asg 3 (.idx (.idx (.idx (.var 1) (.con (.int 1))) (.var 6)) (.con (.int 1)))] []],.ret (.blt .tuple [.var 2])]
noncomputable def f35:Fd:=⟨2,7,b35⟩
theorem VP:aK ["pool","net","walk","here","turn","some","way"] ["pool","net"] (aB s35):=nofun
include cl in
theorem d35(Fu:gj K "_law_some_walk" "_law_some_walk" s35 f fd)(cU:mg "len"=none)(aP:mg "range"=none)(cD:mg "tuple"=none)(aU:aA Pg w K mg base k c 28 "_law_next" 2):bV Pg w K mg base fU (k+1) f fd ["pool","net"] (gn K 2 (fun args=>enter c n f35 args)):=by
 refine bF Fu VP rfl rfl fun cdv A outer s H E hr=>?_;have nd:=VP.nd;refine aj ?_ ?_;.exists 2,cW aQ
 exists aj ?_ ?_;.exists mq (i:=3) ?_ ?_ ?_ ?_ ?_ ?_;exact nd;exact rfl;exact Or.inr rfl;rotate_left;rfl;exact oi;exact ak
 exists aj ?_ ?_;.exists cT (i:=4) ?_ ?_ ?_ ?_ ?_ ?_ ?_ ?_ ?_;exact PassesOwn.never;exact hc;exact nd;exact rfl;exact oi;exact fO rfl (by rfl) aP ak;(· exists aj ?_ ?_;exact LR (i:=5) (N':=["pool","net","walk","here","turn","some","way#6","way"]) hc nd rfl (Or.inl rfl) (nG rfl (by rfl)) (fO rfl (by rfl) aP (gO rfl (by rfl) cU (az (sv 1) ak))) (fun _ _ _ _ _=>aC (i:=7) ‹["pool","net","walk","here","turn","some","way#6","way"]› rfl (Or.inl rfl) (Or.inr rfl)) (cz (Nat.le_refl _)) (fun _ _ _ _ _=>oM (bG (il (aR hr)) (az (az (az (sv 1) ak) (sv 7)) ak) (sv 3) (aV _))) (fun _ _ _ _ _=>(sv 7)) (by rfl) (by intro _;rfl) (Or.inl rfl);(· exists aj ?_ ?_;(· exists cH ?_ ?_ ?_;exact SW.st (yE (bG (gM (aR hr)) (sv 5) (cW aQ) (aV _)) (uH (bG (iJ (aR hr)) (sv 3) (aL dD (az (sv 1) ak) ak) (aV _))));(· exists aj ?_ ?_;(· exists 6,az (sv 5) (dW aU hr (bz (sv 0) (bz (gO rfl (by rfl) cU (sv 5)) aD rfl) rfl)));(· exists aj ?_ ?_;exact cI (k:=2) rfl (by first|exact Or.inl rfl|exact Or.inr (Or.inl rfl)) (sv 6);(· exists aj ?_ ?_;(· exists mq (i:=3) ?_ ?_ ?_ ?_ ?_ ?_;exact nd;exact rfl;exact Or.inr rfl;rotate_left;rfl;exact oi;exact az (az (az (sv 1) ak) (sv 6)) ak);exact au)));exact au);exact au));(· intro _;rfl);exact Or.inl rfl
 exists aj ?_ ?_;.exists aJ ?_;exact kJ rfl (by rfl) cD (sv 2)
 exact au
noncomputable abbrev s36:=top 48
noncomputable def b36:List S:=[.asg 2 (.lst []),.fG (.qW (.con (.int 0)) (.call 28 [.var 0,.con (.int 6)])) [3] true [.asg 4 (.call 35 [.var 0,.var 1]),.fG (.lst [.bin .add (.con (.int 1)) (.call 28 [.var 0,.con (.int 4)]),.con (.int 1)]) [5] true [.ifs (.call 34 [.var 1,.bin .add (.var 2) (.lst [.tup [.var 4,.var 5]])]) [.app 2 (.tup [.var 4,.var 5])] []]],.ret (.var 2)]
noncomputable def Zg:Fd:=⟨2,6,b36⟩
theorem Vp:aK ["pool","net","found","turn","walk","loads"] ["pool","net"] (aB s36):=nofun
include cl in
theorem d36(Fu:gj K "_law_rounds" "_law_rounds" s36 f fd)(aP:mg "range"=none)(zO:aA Pg w K mg base k c 34 "_law_fit" 2)(aU:aA Pg w K mg base k c 28 "_law_next" 2)(m9:aA Pg w K mg base k c 35 "_law_some_walk" 2):bV Pg w K mg base fU (k+1) f fd ["pool","net"] (gn K 2 (fun args=>enter c n Zg args)):=by
 refine bF Fu Vp rfl rfl fun cdv A outer s H E hr=>?_;have nd:=Vp.nd;refine aj ?_ ?_;.exists 2,cW aQ
 exists aj ?_ ?_;.exists cT (i:=3) ?_ ?_ ?_ ?_ ?_ ?_ ?_ ?_ ?_;exact PassesOwn.never;exact hc;exact nd;exact rfl;exact oi;exact fO rfl (by rfl) aP (dW aU hr (bz (sv 0) (bz ak aD rfl) rfl));(· exists aj ?_ ?_;(· exists 4,dW m9 hr (bz (sv 0) (bz (sv 1) aD rfl) rfl));(· exists aj ?_ ?_;(· exists cT (i:=5) ?_ ?_ ?_ ?_ ?_ ?_ ?_ ?_ ?_;exact PassesOwn.never;exact hc;exact nd;exact rfl;exact oi;exact bD (cW (dY (aL bK ak (dW aU hr (bz (sv 0) (bz ak aD rfl) rfl))) (dY ak aQ rfl) rfl));(· exists aj ?_ ?_;(· exists cH ?_ ?_ ?_;exact dN (dW zO hr (bz (sv 1) (bz (aL bK (sv 2) (cW (dY (dO (dY (sv 4) (dY (sv 5) aQ rfl) rfl)) aQ rfl))) aD rfl) rfl));(· exists aj ?_ ?_;exact cI (k:=2) rfl (by first|exact Or.inl rfl|exact Or.inr (Or.inl rfl)) (dO (dY (sv 4) (dY (sv 5) aQ rfl) rfl));exact au);exact au);exact au);(· intro _;rfl);exact oi);exact au));(· intro _;rfl);exact Or.inl rfl
 exists aj ?_ ?_;.exists aJ ?_;exact sv 2
 exact au
noncomputable abbrev s37:=top 49
noncomputable def b37:List S:=[.vf 3 true,.fG (.var 2) [4,5] false [.fG (.qW (.con (.int 0)) (.bin .add (.bin .sub (.var 1) (.call 33 [.var 0,.var 4])) (.con (.int 1)))) [6] true [.asg 7 (.var 6),.fG (.var 4) [8] true [.tu 3 [.var 7,.var 8] (.bin .add (.zB 3 [.var 7,.var 8] (.con (.int 0))) (.var 5)),.asg 7 (.bin .add (.var 7) (.idx (.idx (.idx (.var 0) (.con (.int 1))) (.var 8)) (.con (.int 3))))]]],.ret (.comp (.blt .Mw [.vw 3]) 2 [9,10] false none (.tup [.var 9,.var 10,.Th 3 [.var 9,.var 10]]))]
noncomputable def Zm:Fd:=⟨3,9,b37⟩
theorem V7:aK ["net","last","rounds","loads","walk","more","begun","at","way"] ["net","last","rounds"] (aB s37):=nofun
include cl in
theorem d37(Fu:gj K "_law_due" "_law_due" s37 f fd)(aP:mg "range"=none)(dR:mg "sorted"=none)(rB:aA Pg w K mg base k c 33 "_law_length" 2):bV Pg w K mg base fU (k+1) f fd ["net","last","rounds"] (gn K 3 (fun args=>enter c n Zm args)):=by
 refine bF Fu V7 rfl rfl fun cdv A outer s H E hr=>?_;have nd:=V7.nd;refine aj ?_ ?_;.exact(wQ (i:=3) nd rfl (Or.inr rfl) (by rfl) (Or.inl rfl))
 exists aj ?_ ?_;.exact(lY PassesOwn.never hc (bD (sv 2)) (dh hc (aG (aC (i:=4) nd rfl (Or.inl rfl) (Or.inl rfl)) (aG (aC (i:=5) nd rfl (Or.inl rfl) (Or.inl rfl)) cC))) (pX rfl (dq _ _ (dq _ _ lO 5) 4)) (by exists aj ?_ ?_;(· exists cT (i:=6) ?_ ?_ ?_ ?_ ?_ ?_ ?_ ?_ ?_;exact PassesOwn.never;exact hc;exact nd;exact rfl;exact oi;exact fO rfl (by rfl) aP (aL bK (aL dD (sv 1) (dW rB hr (bz (sv 0) (bz (sv 4) aD rfl) rfl))) ak);(· exists aj ?_ ?_;(· exists 7,sv 6);(· exists aj ?_ ?_;(· exists cT (i:=8) ?_ ?_ ?_ ?_ ?_ ?_ ?_ ?_ ?_;exact PassesOwn.never;exact hc;exact nd;exact rfl;exact oi;exact bD (sv 4);(· exists aj ?_ ?_;exact xr (i:=3) (aR hr) rfl (by first|exact Or.inl rfl|exact Or.inr (Or.inl rfl)) (dY (sv 7) (dY (sv 8) aQ rfl) rfl) (aL bK (Bm (i:=3) (aR hr) rfl (by first|exact Or.inl rfl|exact Or.inr (Or.inl rfl)) (dY (sv 7) (dY (sv 8) aQ rfl) rfl) ak ⟨rfl,rfl,rfl,rfl⟩) (sv 5)) (by rfl);(· exists aj ?_ ?_;(· exists 7,aL bK (sv 7) (az (az (az (sv 0) ak) (sv 8)) ak));exact au));(· intro _;rfl);exact oi);exact au));(· intro _;rfl);exact oi);exact au))
 exists aj ?_ ?_;.exists aJ ?_;exact bB (N':=["net","last","rounds","loads","walk","more","begun","at#7","way#8","at","way"]) hc (nG rfl (by rfl)) (bD (K8 rfl hc (by rfl) dR rfl (Nv (i:=3) rfl (by first|exact Or.inl rfl|exact Or.inr (Or.inl rfl))))) (fun _ _ _ _ _=>dh hc (aG (aC (i:=9) ‹["net","last","rounds","loads","walk","more","begun","at#7","way#8","at","way"]› rfl (Or.inl rfl) (Or.inr rfl)) (aG (aC (i:=10) ‹["net","last","rounds","loads","walk","more","begun","at#7","way#8","at","way"]› rfl (Or.inl rfl) (Or.inr rfl)) cC))) (dF rfl (aW (show 9<=9 by decide) (aW (show 9<=10 by decide) dJ))) (fun _ _ _ _ _=>bM) (fun _ _ _ _ _=>(dO (dY (sv 9) (dY (sv 10) (dY (Gs (i:=3) (aR hr) rfl (by first|exact Or.inl rfl|exact Or.inr (Or.inl rfl)|exact Or.inr (Or.inr rfl)) (dY (sv 9) (dY (sv 10) aQ rfl) rfl) (fun _ _=>rfl)) aQ rfl) rfl) rfl)))
 exact au
noncomputable abbrev s38:=top 50
noncomputable def b38:List S:=[.fG (.bin .add (.lst [.con (.int 0)]) (.call 29 [.var 0,.con (.int 12)])) [1] true [.asg 2 (.call 27 [.var 1]),.asg 3 (.call 31 [.var 2]),.asg 4 (.call 36 [.var 2,.var 3]),.fG (.qW (.con (.int 0)) (.con (.int 3))) [5] true [.asg 6 (.call 28 [.var 2,.con (.int 13)]),.asg 7 (.call 37 [.var 3,.var 6,.var 4]),.asg 8 (.blt .list [.var 4]),.asg 9 (.call 17 [.var 3,.var 6,.var 8]),.ifs (.or (.not (.inst [.list] (.var 9))) (.or (.cmp .ne (.var 9) (.var 7)) (.cmp .ne (.var 8) (.var 4)))) [.ret (.con (.bl false))] [],.ifs (.not (.blt .all [.comp (.var 9) 1 [10] true none (.inst [.tuple] (.var 10))])) [.ret (.con (.bl false))] [],.ifs (.cmp .Mv (.call 24 [.var 3,.var 6,.blt .list [.var 9]]) (.con (.bl true))) [.ret (.con (.bl false))] [],.ifs (.cmp .ne (.call 26 [.var 3,.var 9,.var 6]) (.call 15 [.var 3,.var 6,.var 4])) [.ret (.con (.bl false))] [],.YF 9,.app 9 (.tup [.con (.int 0),.con (.int 0),.con (.int 1)]),.ifs (.cmp .ne (.call 17 [.var 3,.var 6,.var 8]) (.var 7)) [.ret (.con (.bl false))] []]],.ret (.con (.bl true))]
noncomputable def ZW:Fd:=⟨1,10,b38⟩
theorem V6:aK ["script","cell","pool","net","rounds","turn","last","due","handed","found"] ["script"] (aB s38):=nofun
include cl in
theorem d38(Fu:gj K "law" "law" s38 f fd)(cF:mg "all"=none)(dU:mg "isinstance"=none)(iR:mg "list"=none)(aP:mg "range"=none)(cD:mg "tuple"=none)(vq:aA Pg w K mg base k c 29 "_law_cells" 2)(zP:aA Pg w K mg base k c 37 "_law_due" 3)(zQ:aA Pg w K mg base k c 31 "_law_net" 1)(aU:aA Pg w K mg base k c 28 "_law_next" 2)(xV:aA Pg w K mg base k c 27 "_law_pool" 1)(rC:aA Pg w K mg base k c 36 "_law_rounds" 2)(vy:aA Pg w K mg base k c 26 "brought_by" 3)(vz:aA Pg w K mg base k c 24 "plan_clean" 3)(qM:aA Pg w K mg base k c 15 "rounds_bring" 3)(jV:aA Pg w K mg base k c 17 "rounds_plan" 3):bV Pg w K mg base fU (k+1) f fd ["script"] (gn K 1 (fun args=>enter c n ZW args)):=by
 refine bF Fu V6 rfl rfl fun cdv A outer s H E hr=>?_;have nd:=V6.nd;refine aj ?_ ?_;.exists cT (i:=1) ?_ ?_ ?_ ?_ ?_ ?_ ?_ ?_ ?_;exact PassesOwn.never;exact hc;exact nd;exact rfl;exact oi;exact bD (aL bK (cW (dY ak aQ rfl)) (dW vq hr (bz (sv 0) (bz ak aD rfl) rfl)));(· exists aj ?_ ?_;(· exists 2,dW xV hr (bz (sv 1) aD rfl));(· exists aj ?_ ?_;(· exists 3,dW zQ hr (bz (sv 2) aD rfl));(· exists aj ?_ ?_;(· exists 4,dW rC hr (bz (sv 2) (bz (sv 3) aD rfl) rfl));(· exists aj ?_ ?_;(· exists cT (i:=5) ?_ ?_ ?_ ?_ ?_ ?_ ?_ ?_ ?_;exact PassesOwn.never;exact hc;exact nd;exact rfl;exact oi;exact fO rfl (by rfl) aP ak;(· exists aj ?_ ?_;(· exists 6,dW aU hr (bz (sv 2) (bz ak aD rfl) rfl));(· exists aj ?_ ?_;(· exists 7,dW zP hr (bz (sv 3) (bz (sv 6) (bz (sv 4) aD rfl) rfl) rfl));(· exists aj ?_ ?_;(· exists 8,uK rfl (by rfl) iR (sv 4));(· exists aj ?_ ?_;(· exists 9,dW jV hr (bz (sv 3) (bz (sv 6) (bz (sv 8) aD rfl) rfl) rfl));(· exists aj ?_ ?_;(· exists cH ?_ ?_ ?_;exact SW.st (jO (fK (dN (vK .list rfl (by rfl) dU (sv 9) (by rfl) iR (by kernel_rfl) (by decide) (by rfl)))) (jO (bG (gM (aR hr)) (sv 9) (sv 7) (aV _)) (jg (bG (gM (aR hr)) (sv 8) (sv 4) (aV _)))));(· exists aj ?_ ?_;(· exists aJ ?_;exact fB);exact au);exact au);(· exists aj ?_ ?_;(· exists cH ?_ ?_ ?_;exact fK (dN (gG rfl hc (by rfl) cF (bB (N':=["script","cell","pool","net","rounds","turn","last","due","handed","found","triple"]) hc (nG rfl (by rfl)) (bD (sv 9)) (fun _ _ _ _ _=>aC (i:=10) ‹["script","cell","pool","net","rounds","turn","last","due","handed","found","triple"]› rfl (Or.inl rfl) (Or.inr rfl)) (cz (Nat.le_refl _)) (fun _ _ _ _ _=>bM) (fun _ _ _ _ _=>(vK .tuple rfl (by rfl) dU (sv 10) (by rfl) cD (by kernel_rfl) (by decide) (by rfl))))));(· exists aj ?_ ?_;(· exists aJ ?_;exact fB);exact au);exact au);(· exists aj ?_ ?_;(· exists cH ?_ ?_ ?_;exact bG Fj (dW vz hr (bz (sv 3) (bz (sv 6) (bz (uK rfl (by rfl) iR (sv 9)) aD rfl) rfl) rfl)) fB (aV _);(· exists aj ?_ ?_;(· exists aJ ?_;exact fB);exact au);exact au);(· exists aj ?_ ?_;(· exists cH ?_ ?_ ?_;exact bG (gM (aR hr)) (dW vy hr (bz (sv 3) (bz (sv 9) (bz (sv 6) aD rfl) rfl) rfl)) (dW qM hr (bz (sv 3) (bz (sv 6) (bz (sv 4) aD rfl) rfl) rfl)) (aV _);(· exists aj ?_ ?_;(· exists aJ ?_;exact fB);exact au);exact au);(· exists aj ?_ ?_;exact PX (k:=9) rfl (by first|exact Or.inl rfl|exact Or.inr (Or.inl rfl));(· exists aj ?_ ?_;exact cI (k:=9) rfl (by first|exact Or.inl rfl|exact Or.inr (Or.inl rfl)) (dO (jA [0,0,1] rfl aQ));(· exists aj ?_ ?_;(· exists cH ?_ ?_ ?_;exact bG (gM (aR hr)) (dW jV hr (bz (sv 3) (bz (sv 6) (bz (sv 8) aD rfl) rfl) rfl)) (sv 7) (aV _);(· exists aj ?_ ?_;(· exists aJ ?_;exact fB);exact au);exact au);exact au)))))))))));(· intro _;rfl);exact oi);exact au))));(· intro _;rfl);exact Or.inl rfl
 exists aj ?_ ?_;.exists aJ ?_;exact fB
 exact au
end T
end
section
namespace T
open PySem L2 PySem.Spec PyProof.Rows HH
noncomputable def Γ:Tab:=fun i=>[f0,f1,f2,f3,f4,f5,f6,f7,f8,f9,Z5,f11,f12,f13,Zy,Z6,Za,Zn,f18,Ph,Zc,VL,Zk,Um,Zd,Yu,Wt,Zb,Zx,Zo,Zi,ZM,Y5,Zr,Zf,f35,Zg,Zm,ZW][i]?
end T
end
section
namespace T
open HH
noncomputable abbrev big:Int:=1606938044258990275541962092341162602522202993782792835301376
theorem cu{w n:Nat}{x y z m:Int}{Q:R->List Sl->Prop}(h0:0<m)(h2:m<big)(k:∀d x z:Int,0<=d->d<m->Q (.val (.int d)) [.own true [.int x,.int y,.int z],.val false (.int m)]):(run Γ w (n+1) 28 [.own true [.int x,.int y,.int z],.val false (.int m)]).sat Q:=by
 have h3:m<1606938044258990275541962092341162602522202993782792835301376:=h2;refine aN (d:=Zx) rfl rfl (by decide) ?_;first|apply aa|apply aq
 simp[Zx];constructor
 . intro _;first|apply aa|apply aq
   simp[h0];apply aa;simp[h0,h3,qz];apply aa;simp;exact k _ _ _ (Int.emod_nonneg _ (by omega)) (Int.emod_lt_of_pos _ h0)
 . intro _;first|apply aa|apply aq
   simp[qz];apply aa;simp;generalize hq:(y+7919*(z+1))%1000000007=q;have q0:0<=q/\q<1000000007:=by omega
   have q1:-18446744073709551616<q+11/\q+11<18446744073709551616:=by omega
   first|apply aa|apply aq
   simp[q1];generalize hs:(q+11)*(q+48271)%998244353=st;have q2:-18446744073709551616<st/\st<18446744073709551616:=by omega
   first|apply aa|apply aq
   simp[q2,h0];exact k _ _ _ (Int.emod_nonneg _ (by omega)) (Int.emod_lt_of_pos _ h0)
theorem Eo{w n:Nat}{x:Int}{Q:R->List Sl->Prop}(k:∀a b c:Int,Q (.own [.int a,.int b,.int c]) [.val false (.int x)]):(run Γ w (n+1) 27 [.val false (.int x)]).sat Q:=by
 refine aN (d:=Zb) rfl rfl (by decide) ?_;first|apply aa|apply aq
 simp[Zb];exact k _ _ _
end T
end
section
namespace T
open HH
theorem yo{cs:List Int}{k m:Nat}{x:Int}(hm:0<m)(hl:cs.length=m):∃c:Int,at' (cs.map D.int) ((k:Int)%(m:Int))=some (.int c)/\qz (cs.map D.int).length ((k:Int)%(m:Int))=some (k%m):=by
 have h:k%m<cs.length:=by rw[hl];exact Nat.mod_lt _ hm
 rw[show(k:Int)%(m:Int)=((k%m:Nat):Int)by simp];exact⟨cs[k%m],GC (by simp[h]),QV (by simpa using h)⟩
inductive JC(ns:List Int)(m:Nat)(_:Nat)(ρ:List Sl):Prop where|mk(cs:List Int)(s:Sl)(q0:ρ=[.val false (.lst (ns.map D.int)),.val false (.int m),.own false (cs.map D.int),s])(q1:fr s=true)(q2:cs.length=min m ns.length)
theorem Ci{w n m:Nat}{ns:List Int}{Q:R->List Sl->Prop}(hm:0<m)(hm2:m<=63)(hn:ns.length<=63)(k:∀cs:List Int,cs.length<=m->Q (.own (cs.map D.int)) [.val false (.lst (ns.map D.int)),.val false (.int m)]):(run Γ w (n+1) 29 [.val false (.lst (ns.map D.int)),.val false (.int m)]).sat Q:=by
 refine aN (d:=Zo) rfl rfl (by decide) ?_;first|apply aa|apply aq
 simp[Zo,JR,part,FJ];apply aa;simp;refine⟨by omega,?_⟩;refine ie (JC ns m) ?_ ?_ ⟨ns.take m,.aZ,?_,rfl,by simp⟩
 . rintro i _ hi⟨cs,s,rfl,hs,hl⟩;have hl2:cs.length=m:=by omega
   obtain⟨c,e1,e2⟩:=yo (cs:=cs) (k:=i) (x:=0) hm hl2;obtain⟨x,hx⟩:∃x:Int,at' (ns.map D.int) ((m:Int)+(i:Int))=some (.int x):=by rw[show(m:Int)+(i:Int)=((m+i:Nat):Int)by simp];exact⟨ns[m+i]'(by omega),GC (by simp)⟩
   simp[hs];apply aa;rw[List.length_map]at e2;simp[hm,e1,e2,hx];exact⟨cs.set (i%m) (c*31+x),.val false (.int (m+i)),by simp,rfl,by simpa using hl⟩
 . rintro _⟨cs,s,rfl,hs,hl⟩;first|apply aa|apply aq
   simp;exact k cs (by omega)
 .simp[cut,cX,List.map_take]
theorem ym{w n m:Nat}{M:Int}{ns:List Int}{Q:R->List Sl->Prop}(hM:M=(m:Int))(hm:0<m)(hm2:m<=63)(hn:ns.length<=63)(k:∀cs:List Int,cs.length<=m->Q (.own (cs.map D.int)) [.val false (.lst (ns.map D.int)),.val false (.int M)]):(run Γ w (n+1) 29 [.val false (.lst (ns.map D.int)),.val false (.int M)]).sat Q:=by subst hM;exact Ci hm hm2 hn k
end T
end
section
namespace T
open HH
structure Wy where(s t r h:Int)
noncomputable def Wy.d(w:Wy):D:=.tup [.int w.s,.int w.t,.int w.r,.int w.h]
structure Wy.Ok(m:Int)(w:Wy):Prop where
 s0:0<=w.s
 s1:w.s<m
 t0:0<=w.t
 t1:w.t<m
 ne:w.s≠w.t
 r0:0<=w.r
 r1:w.r<=1000000000
 h0:1<=w.h
 h1:w.h<=1000000
theorem other{a b m:Int}(h1:0<=a)(h2:a<m)(h3:0<=b)(h4:b<m-1):0<=(a+1+b)%m/\(a+1+b)%m<m/\(a+1+b)%m≠a:=by
 by_cases h:a+1+b<m;.rw[Int.emod_eq_of_lt (by omega) h];omega
 . have e:(a+1+b)%m=a+1+b-m:=by rw[<-Int.sub_emod_right,Int.emod_eq_of_lt (by omega) (by omega)]
   rw[e];omega
theorem Lk{ds:List D}{k:Nat}(h:∀d∈ds,du k d=true):du (k+1) (.lst ds)=true:=by rw[du];exact List.all_eq_true.mpr h
theorem El{ds:List D}{k:Nat}(h:∀d∈ds,du k d=true):du (k+1) (.tup ds)=true:=by rw[du];exact List.all_eq_true.mpr h
noncomputable def aY(m:Int)(ws:List Wy):D:=.tup [.int m,.tup (ws.map Wy.d)]
structure bW(m:Int)(ws:List Wy):Prop where
 m0:2<=m
 m1:m<=6
 len:ws.length<=12
 ok:∀w∈ws,w.Ok m
@[simp]theorem aek{m:Int}{ws:List Wy}:vB (aY m ws) (.int 0)=some (.val (.int m)):=rfl
@[simp]theorem ad9{m:Int}{ws:List Wy}:vB (aY m ws) (.int 1)=some (.val (.tup (ws.map Wy.d))):=rfl
end T
end
section
namespace T
open HH
theorem Ay{ns:List Int}{i lo hi:Int}(h0:0<=i)(h1:i<(ns.length:Int))(k:∀x∈ns,lo<=x/\x<=hi):∃r,at' (ns.map D.int) i=some (.int r)/\lo<=r/\r<=hi:=by
 have hk:i.toNat<ns.length:=by omega
 refine⟨ns[i.toNat],?_,k _ (List.getElem_mem hk)⟩;rw[qG h0 (by simpa using h1)];simp[hk]
theorem GP{a:Int}(h:a<=1000000000000000000000):a<big:=by show _<(1606938044258990275541962092341162602522202993782792835301376:Int);omega
theorem KN{w n:Nat}{x y z m p:Int}{Q:R->List Sl->Prop}(h0:2<=m)(h2:m<=6)(p0:0<=p)(k:∀(v:Wy)(x z:Int),v.Ok m->v.r<=9->v.h<=4->Q (.val v.d) [.own true [.int x,.int y,.int z],.val false (.int m),.val false (.int p)]):(run Γ w (n+2) 30 [.own true [.int x,.int y,.int z],.val false (.int m),.val false (.int p)]).sat Q:=by
 refine aN (d:=Zi) rfl rfl (by decide) ?_;first|apply aa|apply aq
 simp[Zi];refine cu (by omega) (GP (by omega)) fun a x z ha1 ha2=>?_;simp;apply aa;simp;refine cu (by omega) (GP (by omega)) fun b x z hb1 hb2=>?_;obtain⟨t0,t1,tn⟩:=other ha1 ha2 hb1 hb2;simp[show 0<m by omega];generalize(a+1+b)%m=t at*;refine uE (fun ρ=>∃x z s t,ρ=[.own true [.int x,.int y,.int z],.val false (.int m),.val false (.int p),.val false (.int s),.val false (.int t),.aZ]/\0<=s/\s<m/\0<=t/\t<m/\s≠t) ?_ ?_
 . by_cases hp:p+1<m
   . simp[hp];refine cu (by decide) (by decide) fun c x z _ _=>?_;simp;refine⟨fun _=>?_,fun _=>?_⟩
     . first|apply aa|apply aq
       simp;exact⟨_,_,_,_,⟨⟨rfl,rfl⟩,rfl,rfl⟩,by omega⟩
     . first|apply aa|apply aq
       by_cases hab:t<a
       . simp[hab];refine cu (by decide) (by decide) fun c x z _ _=>?_;simp;refine⟨fun _=>?_,fun _=>?_⟩
         . first|apply aa|apply aq
           simp;exact⟨_,_,_,_,⟨⟨rfl,rfl⟩,rfl,rfl⟩,by omega⟩
         .exact⟨_,_,_,_,⟨⟨rfl,rfl⟩,rfl,rfl⟩,by omega⟩
       .simp[hab];exact⟨_,_,_,_,⟨⟨rfl,rfl⟩,rfl,rfl⟩,by omega⟩
   . simp[hp];first|apply aa|apply aq
     by_cases hab:t<a
     . simp[hab];refine cu (by decide) (by decide) fun c x z _ _=>?_;simp;refine⟨fun _=>?_,fun _=>?_⟩
       . first|apply aa|apply aq
         simp;exact⟨_,_,_,_,⟨⟨rfl,rfl⟩,rfl,rfl⟩,by omega⟩
       .exact⟨_,_,_,_,⟨⟨rfl,rfl⟩,rfl,rfl⟩,by omega⟩
     .simp[hab];exact⟨_,_,_,_,⟨⟨rfl,rfl⟩,rfl,rfl⟩,by omega⟩
 rintro _⟨x,z,s,t,rfl,s0,s1,t0,t1,ne⟩;first|apply aa|apply aq
 simp;refine cu (by decide) (by decide) fun c x z c0 c1=>?_;simp;refine cu (by decide) (by decide) fun d x z d0 d1=>?_;obtain⟨r,e,r0,r1⟩:=Ay (ns:=[1,2,3,5,0,1,4,1+c]) (lo:=0) (hi:=9) d0 (by simpa using d1) (by simp;omega);simp only[List.map_cons,List.map_nil]at e;simp[e];apply aa;simp;refine cu (by decide) (by decide) fun d x z d0 d1=>?_;obtain⟨h,e,h0',h1⟩:=Ay (ns:=[1,1,1,2,2,3,1,4]) (lo:=1) (hi:=4) d0 (by simpa using d1) (by simp);simp only[List.map_cons,List.map_nil]at e;simp[e];exact k ⟨s,t,r,h⟩ x z ⟨s0,s1,t0,t1,ne,r0,by show r<=_;omega,h0',by show h<=_;omega⟩ r1 h1
inductive FN(y m c:Int)(ρ:List Sl):Prop where|mk(x z:Int)(s:Sl)(q0:ρ=[.own true [.int x,.int y,.int z],.val false (.int m),.val false (.int c),s])(q1:fr s=true)
noncomputable def WyP(m:Int)(d:D):Prop:=∃v:Wy,d=v.d/\v.Ok m/\v.r<=9/\v.h<=4
theorem wys{m:Int}:∀{xs:List D},(∀x∈xs,WyP m x)->∃ws:List Wy,xs=ws.map Wy.d/\∀v∈ws,v.Ok m/\v.r<=9/\v.h<=4|[],_=>⟨[],rfl,by simp⟩|x::xs,h=>by obtain⟨v,rfl,h1⟩:=h x (by simp);obtain⟨ws,rfl,h2⟩:=wys (m:=m) (xs:=xs) fun y hy=>h y (by simp[hy]);exact⟨v::ws,rfl,fun u hu=>by
    rcases List.mem_cons.mp hu with rfl|hu;.exact h1
    .exact h2 u hu⟩
theorem Lw{w n:Nat}{x y z:Int}{Q:R->List Sl->Prop}(k:∀(m:Int)(ws:List Wy)(x z:Int),bW m ws->(∀v∈ws,v.r<=9/\v.h<=4)->Q (.val (aY m ws)) [.own true [.int x,.int y,.int z]]):(run Γ w (n+3) 31 [.own true [.int x,.int y,.int z]]).sat Q:=by
 refine aN (d:=ZM) rfl rfl (by decide) ?_;first|apply aa|apply aq
 simp[ZM];refine cu (by decide) (by decide) fun d x z d0 d1=>?_;obtain⟨m,e,m0,m1⟩:=Ay (ns:=[3,4,3,4,2,5,6,4]) (lo:=2) (hi:=6) d0 (by simpa using d1) (by simp);simp only[List.map_cons,List.map_nil]at e;simp[e];apply aa;simp;refine cu (by decide) (by decide) fun d x z d0 d1=>?_;obtain⟨c,e,c0,c1⟩:=Ay (ns:=[5,3,4,6,2,7,8,10,12,1,0,5]) (lo:=0) (hi:=12) d0 (by simpa using d1) (by simp);simp only[List.map_cons,List.map_nil]at e;simp[e];apply aa;simp;refine⟨by omega,fun _=>?_,by show _<=16777216;omega⟩;refine Cv (FN y m c) (WyP m) ⟨x,z,.aZ,rfl,rfl⟩ ?_ ?_;.rintro d hd _⟨x,z,s,rfl,hs⟩;obtain⟨j,_,rfl⟩:=List.mem_map.mp hd;simp[hs];refine KN m0 m1 (by omega) fun v x z hv hr hh=>?_;simp;exact⟨⟨v,rfl,hv,hr,hh⟩,_,_,_,rfl,rfl⟩
 .rintro xs _⟨x,z,s,rfl,hs⟩hl hx;obtain⟨ws,rfl,hw⟩:=wys hx;simp at hl;simp;exact k m ws x z ⟨m0,m1,by omega,fun v hv=>(hw v hv).1⟩ fun v hv=>(hw v hv).2
end T
end
section
namespace T
open HH
@[simp]theorem aee{α β:Type}{a:α}{ρ:List Sl}{f:α->List Sl->Res β}:(Res.ok a ρ).bind f=f a ρ:=rfl
@[simp]theorem Yc{α β:Type}{f:α->List Sl->Res β}:(Res.stuck:Res α).bind f=.stuck:=rfl
@[simp]theorem J3{α:Type}{a:α}{ρ:List Sl}:lift (some a) ρ=.ok a ρ:=rfl
theorem iY{ws:List Wy}{k:Int}(h0:0<=k)(h1:k<(ws.length:Int)):∃v,ws[k.toNat]?=some v/\v∈ws/\at' (ws.map Wy.d) k=some v.d:=by
 have hk:k.toNat<ws.length:=by omega
 refine⟨ws[k.toNat],by simp[hk],List.getElem_mem hk,?_⟩;rw[qG h0 (by simpa using h1)];simp[hk]
theorem nJ{v:Wy}:vB v.d (.int 0)=some (.val (.int v.s)):=by simp[Wy.d]
theorem nQ{v:Wy}:vB v.d (.int 1)=some (.val (.int v.t)):=by simp[Wy.d]
theorem vH{v:Wy}:vB v.d (.int 2)=some (.val (.int v.r)):=by simp[Wy.d]
theorem Fy{v:Wy}:vB v.d (.int 3)=some (.val (.int v.h)):=by simp[Wy.d]
end T
end
section
namespace T
open HH
noncomputable def dj(ws:List Wy)(ps:List Int)(k:Int):Option (List Int):=if 0<=k/\k<ws.length then match ws[k.toNat]?with|some v=>if v.r<1 then none else if ps=[]then(if v.t=v.s then none else some [v.s,v.t])else if ps.getLast?=some v.s/\v.t∉ps then some (ps++[v.t])else none|none=>none else none
noncomputable def ni:List S:=match b3 with|_::.fG _ _ _ b::_=>b|_=>[]
noncomputable abbrev WF(m:Int)(ws:List Wy)(s1:Sl)(ps:List Int)(k:Int)(s4:Sl):List Sl:=[.val false (aY m ws),s1,.own false (ps.map D.int),.val false (.int k),s4]
theorem yP{c:Call}{n:Nat}{m k:Int}{ws:List Wy}{s1 s4:Sl}{v:Wy}(h4:fr s4=true)(e1:0<=k)(e2:k<(ws.length:Int))(ev:at' (ws.map Wy.d) k=some v.d)(hr:¬ v.r<1)(hne:v.s≠v.t):jh c n ni (WF m ws s1 [] k s4)=.ok .next (WF m ws s1 [v.s,v.t] k (.val false v.d)):=by
 have hin:cm .inn (.int v.t) (.lst [.int v.s])=some false:=by have:=uh (S:=[v.s]) (i:=v.t);simpa[Ne.symm hne]using this
 have hl:at' [D.int v.s] (-1)=some (.int v.s):=oO (l:=[]);have l0:0<lim:=by show 0<16777216;omega
 have l1:1<lim:=by show 1<16777216;omega
 simp[ni,b3,jh,e1,e2,ev,nJ,nQ,vH,hr,h4,hin,hl,l0,l1]
theorem Ml{c:Call}{n:Nat}{m k z:Int}{ws:List Wy}{ps:List Int}{s1 s4:Sl}{v:Wy}(h4:fr s4=true)(hps:ps.length<=1000)(e1:0<=k)(e2:k<(ws.length:Int))(ev:at' (ws.map Wy.d) k=some v.d)(hr:¬ v.r<1)(hz:ps.getLast?=some z)(hs:v.s=z)(ht:v.t∉ps):jh c n ni (WF m ws s1 ps k s4)=.ok .next (WF m ws s1 (ps++[v.t]) k (.val false v.d)):=by
 have hne:ps≠[]:=by rintro rfl;simp at hz
 have hlen:¬(ps.length:Int)=0:=by have:0<ps.length:=List.length_pos_iff.mpr hne;omega
 have hl:at' (ps.map D.int) (-1)=some (.int z):=by obtain⟨l,x,rfl⟩:∃l x,ps=l++[x]:=⟨ps.dropLast,ps.getLast hne,(List.dropLast_concat_getLast hne).symm⟩;rw[List.map_append,List.map_singleton,oO];simpa using hz
 have l1:ps.length<lim:=by show _<16777216;omega
 have hin:cm .inn (.int v.t) (.lst (ps.map D.int))=some false:=by rw[uh];simp[ht]
 simp[ni,b3,jh,e1,e2,ev,nJ,nQ,vH,hr,h4,hin,hl,l1,hne,hs]
end T
end
section
namespace T
open HH
noncomputable def iH(ws:List Wy):List Int->List Int->Option (List Int)|[],ps=>some ps|k::r,ps=>match dj ws ps k with|some qs=>iH ws r qs|none=>none
noncomputable def hh(ws:List Wy)(k:Int):Int:=match ws[k.toNat]?with|some v=>v.h|none=>0
noncomputable def tot(ws:List Wy)(l:List Int):Int:=(l.map (hh ws)).sum
theorem iy{ws:List Wy}{ps qs:List Int}{k:Int}(h:dj ws ps k=some qs):0<=k/\k<(ws.length:Int)/\qs.length<=ps.length+2/\qs≠[]:=by
 unfold dj at h;by_cases e:0<=k/\k<(ws.length:Int)
 . rw[if_pos e]at h;refine⟨e.1,e.2,?_⟩;split at h
   . split at h;.cases h
     . split at h
       . split at h;.cases h
         .cases h;rename_i z _;rw[z];simp
       . split at h;.cases h;simp
         .cases h
   .cases h
 .rw[if_neg e]at h;cases h
theorem yO{ws:List Wy}:∀{l ps qs:List Int},iH ws l ps=some qs->∀k∈l,0<=k/\k<(ws.length:Int)|[],_,_,_,k,hk=>by cases hk|a::l,ps,qs,h,k,hk=>by rw[iH]at h;cases e:dj ws ps a with|none=>rw[e]at h;cases h|some rs=>
     rw[e]at h;rcases List.mem_cons.mp hk with rfl|hk;.exact⟨(iy e).1,(iy e).2.1⟩
     .exact yO h k hk
theorem KR{c:Call}{n:Nat}{m k:Int}{ws:List Wy}{ps qs:List Int}{s1 s4:Sl}(hk:bW m ws)(h4:fr s4=true)(hps:ps.length<=1000)(h:dj ws ps k=some qs):∃Vj,fr Vj=true/\jh c n ni (WF m ws s1 ps k s4)=.ok .next (WF m ws s1 qs k Vj):=by
 have oE:=iy h;obtain⟨v,hv,hm,ha⟩:=iY oE.1 oE.2.1;have vo:=hk.ok v hm;unfold dj at h;rw[if_pos ⟨oE.1,oE.2.1⟩,hv]at h;simp only at h;split at h;.cases h
 . rename_i hr;split at h
   . rename_i hp;subst hp;split at h;.cases h
     .cases h;exact⟨_,rfl,yP (c:=c) (n:=n) (m:=m) (s1:=s1) h4 oE.1 oE.2.1 ha hr vo.ne⟩
   . split at h;.rename_i hp hc;cases h;exact⟨_,rfl,Ml (c:=c) (n:=n) (m:=m) (s1:=s1) h4 hps oE.1 oE.2.1 ha hr hc.1 rfl hc.2⟩
     .cases h
theorem LC{c:Call}{n:Nat}{m:Int}{ws:List Wy}{s1:Sl}(hk:bW m ws):∀(l ps qs:List Int)(s3 s4:Sl),fr s3=true->fr s4=true->ps.length+2*l.length<=1000->iH ws l ps=some qs->∃s3' Vj,j8 [3] true (jh c n ni) (l.map D.int) [.val false (aY m ws),s1,.own false (ps.map D.int),s3,s4]=.ok .next [.val false (aY m ws),s1,.own false (qs.map D.int),s3',Vj]:=by intro l;induction l with|nil=>intro ps qs s3 s4 _ _ _ h;rw[iH]at h;cases h;exact⟨_,_,rfl⟩|cons k l ih=>
   intro ps qs s3 s4 h3 h4 hl h;simp only[List.length_cons]at hl;have hb:cV [.val false (aY m ws),s1,.own false (ps.map D.int),s3,s4] [3] true (.int k)=some (WF m ws s1 ps k s4):=by simp[h3,WF]
   rw[iH]at h;cases e:dj ws ps k with|none=>rw[e]at h;cases h|some rs=>rw[e]at h;obtain⟨Vj,f4,t1⟩:=KR (c:=c) (n:=n) (k:=k) (s1:=s1) hk h4 (ps:=ps) (by omega) e;have:=(iy e).2.2.1;obtain⟨s3',adp,hi⟩:=ih rs qs (.val false (.int k)) Vj rfl f4 (by omega) h;refine⟨s3',adp,?_⟩;rw[<-hi,List.map_cons,j8,hb];simp only[t1];rfl
noncomputable abbrev A2(m:Int)(ws:List Wy)(l:List Int):List Sl:=[.val false (aY m ws),.val false (.tup (l.map D.int))]
theorem rZ{w n:Nat}{m:Int}{ws:List Wy}{l qs:List Int}(hk:bW m ws)(hl:l.length<=100)(h:iH ws l []=some qs):run Γ w (n+1) 3 (A2 m ws l)=.ok (.val (.tup (qs.map D.int))) (A2 m ws l):=by obtain⟨s3,s4,z⟩:=LC (c:=run Γ w n) (n:=w) (s1:=.val false (.tup (l.map D.int))) hk l [] qs .aZ .aZ rfl rfl (by simp;omega) h;rw[wF (d:=⟨2,5,[.asg 2 (.lst []),.fG (.var 1) [3] true ni,.ret (.blt .tuple [.var 2])]⟩) rfl];generalize ni=B at z ⊢;unfold enter;rw[List.map_nil]at z;simp[jh,z]
inductive F2c(a b:Sl)(ρ:List Sl):Prop where|mk(s:Sl)(q0:ρ=[a,b,s])(q1:fr s=true)
theorem BV{ws:List Wy}{k:Int}(h0:0<=k)(h1:k<(ws.length:Int)):∃v:Wy,at' (ws.map Wy.d) k=some v.d/\v.h=hh ws k:=by obtain⟨v,hv,_,ha⟩:=iY h0 h1;exact⟨v,ha,by unfold hh;rw[hv]⟩
noncomputable def gH(ws:List Wy):D->D|.int k=>.int (hh ws k)|d=>d
theorem CK{w n:Nat}{m:Int}{ws:List Wy}{l qs:List Int}{Q:R->List Sl->Prop}(hk:bW m ws)(hl:l.length<=100)(h:iH ws l []=some qs)(q:Q (.val (.int (tot ws l))) (A2 m ws l)):(run Γ w (n+2) 4 (A2 m ws l)).sat Q:=by
 refine aN (d:=f4) rfl rfl (by decide) ?_;first|apply aa|apply aq
 simp[f4,rZ hk hl h];apply aa;have hlim:l.length<=lim:=by show _<=16777216;omega
 simp[hlim];refine bf (F2c _ _) (gH ws) ⟨.aZ,rfl,rfl⟩ ?_ ?_;.rintro d hd _⟨s,rfl,hs⟩;obtain⟨k,hk',rfl⟩:=List.mem_map.mp hd;obtain⟨k0,k1⟩:=yO h k hk';obtain⟨v,ha,hv⟩:=BV k0 k1;simp[hs,ha,Fy,gH,hv];exact⟨_,rfl,rfl⟩
 rintro _⟨s,rfl,hs⟩;have e1:(l.map D.int).map (gH ws)=(l.map (hh ws)).map D.int:=by simp[gH]
 rw[e1,gU];simp;exact q
end T
end
section
namespace T
open HH
noncomputable def gd:Nat->D->Bool|_,.non=>true|_,.int _=>true|k+1,.tup ds=>decide (ds.length<=1000)&&ds.all (gd k)|k+1,.lst ds=>decide (ds.length<=1000)&&ds.all (gd k)|_,_=>false
theorem BL{α:Type}{l:List α}:(l.map fun _=>D.bl true).mapM ye=some (l.map fun _=>true):=by induction l with|nil=>rfl|cons a l ih=>simp[ih]
theorem all_true{α:Type}{l:List α}:(l.map fun _=>true).all id=true:=by simp
theorem lB:∀(k:Nat)(d:D),gd k d=true->iV d d=true:=by
 have seq:∀(k:Nat),(∀d,gd k d=true->iV d d=true)->∀ds:List D,ds.all (gd k)=true->fZ ds ds=true:=by intro k ih ds;induction ds with|nil=>intro _;rw[fZ]|cons d ds ihd=>intro h;rw[List.all_cons,Bool.and_eq_true]at h;rw[fZ,ih d h.1,ihd h.2];rfl
 intro k;induction k with
 |zero=>intro d g;cases d with|non=>rfl|int i=>exact beq_self_eq_true _|bl b=>cases g|str s=>cases g|cg s=>cases g|tup ds=>cases g|lst ds=>cases g
 |succ k ih=>intro d g;cases d with|non=>rfl|int i=>exact beq_self_eq_true _|bl b=>cases g|str s=>cases g|cg s=>cases g|tup ds=>rw[gd,Bool.and_eq_true]at g;exact seq k ih ds g.2|lst ds=>rw[gd,Bool.and_eq_true]at g;exact seq k ih ds g.2
theorem Pz:∀(k j:Nat)(d:D),k<=j->gd k d=true->du j d=true:=by intro k;induction k with
 |zero=>intro j d _ g;cases d with|non=>rw[du]|int i=>rw[du]|bl b=>cases g|str s=>cases g|cg s=>cases g|tup ds=>cases g|lst ds=>cases g
 |succ k ih=>intro j d hj g;cases d with|non=>rw[du]|int i=>rw[du]|bl b=>cases g|str s=>cases g|cg s=>cases g|tup ds=>rw[gd,Bool.and_eq_true]at g;obtain⟨j,rfl⟩:∃i,j=i+1:=⟨j-1,by omega⟩;exact El fun d hd=>ih j d (by omega) (List.all_eq_true.mp g.2 d hd)|lst ds=>rw[gd,Bool.and_eq_true]at g;obtain⟨j,rfl⟩:∃i,j=i+1:=⟨j-1,by omega⟩;exact Lk fun d hd=>ih j d (by omega) (List.all_eq_true.mp g.2 d hd)
theorem ne_self{k:Nat}{d:D}(hk:k<=8)(h:gd k d=true):cm .ne d d=some false:=by show yD d d=_;unfold yD;rw[Pz k 8 d hk h,lB k d h];rfl
end T
end
section
namespace T
open HH
noncomputable abbrev Rd:=List Int×Int
noncomputable def RD(r:Rd):D:=.tup [.tup (r.1.map D.int),.int r.2]
theorem v9{n:Nat}{S:List Int}:du (n+1) (.tup (S.map D.int))=true:=by rw[du,List.all_eq_true];intro d hd;obtain⟨i,_,rfl⟩:=List.mem_map.mp hd;cases n<;>rfl
theorem v8{S T:List Int}:cm .eq (.tup (S.map D.int)) (.tup (T.map D.int))=some (S==T):=by show Ip _ _=_;unfold Ip;rw[v9,v9,pqt,qu];rfl
theorem Lr{cs:List Int}{a b:Option Int}:cut (cs.map D.int) a b=(cut cs a b).map D.int:=by unfold cut;simp
noncomputable def ue(m:Int)(ws:List Wy)(r:Rd):Bool:=match iH ws r.1 []with|some ps=>decide (1<=r.2)&&(cut ps none (some 1)==[0])&&(cut ps (some (-1)) none==[m-1])|none=>false
theorem v7{w n:Nat}{m:Int}{ws:List Wy}{r:Rd}{Q:R->List Sl->Prop}(hk:bW m ws)(hl:r.1.length<=100)(h:ue m ws r=true)(q:Q (.val (.bl true)) [.val false (aY m ws),.val false (.tup (r.1.map D.int)),.val false (.int r.2)]):(run Γ w (n+2) 6 [.val false (aY m ws),.val false (.tup (r.1.map D.int)),.val false (.int r.2)]).sat Q:=by unfold ue at h;cases e:iH ws r.1 []with|none=>rw[e]at h;cases h|some ps=>
   rw[e]at h;simp only[Bool.and_eq_true,decide_eq_true_eq]at h;obtain⟨⟨h1,h2⟩,h3⟩:=h;have e1:=rZ (w:=w) (n:=n) hk hl e;have e2:=v8 (S:=cut ps none (some 1)) (T:=[0]);have e3:=v8 (S:=cut ps (some (-1)) none) (T:=[m-1]);simp only[List.map_cons,List.map_nil]at e2 e3;rw[h2]at e2;rw[h3]at e3;refine aN (d:=f6) rfl rfl (by decide) ?_;first|apply aa|apply aq
   simp[f6];apply aa;simp[e1];apply aa;simp[h1,JR,part,FJ,Lr,e2,e3];exact q
noncomputable def cj(rs:List Rd)(k:Int):Int:=(rs.filterMap fun r=>if k∈r.1 then some r.2 else none).sum
noncomputable def Cg(ws:List Wy)(rs:List Rd):List Int:=(List.range ws.length).map fun(k:Nat)=>cj rs (k:Int)
noncomputable def gS(k:Int):D->Option D|.tup [.tup ds,d]=>if(ds.any fun y=>iV y (.int k))=true then some d else none|_=>none
theorem R0{k x:Int}{l:List Int}:gS k (.tup [.tup (l.map D.int),.int x])=if k∈l then some (.int x)else none:=by show(if((l.map D.int).any fun y=>iV y (.int k))=true then some (D.int x)else none)=_;rw[tH];by_cases h:k∈l<;>simp[h]
theorem QZ{k:Int}(rs:List Rd):(rs.map RD).filterMap (gS k)=(rs.filterMap fun r=>if k∈r.1 then some r.2 else none).map D.int:=by induction rs with|nil=>rfl|cons r rs ih=>rw[List.map_cons,List.filterMap_cons,List.filterMap_cons,ih];have e:gS k (RD r)=if k∈r.1 then some (.int r.2)else none:=R0;rw[e];by_cases h:k∈r.1<;>simp[h]
inductive FS1(a b:Sl)(ρ:List Sl):Prop where|mk(s:Sl)(q0:ρ=[a,b,s])(q1:fr s=true)
inductive FS2(a b:Sl)(ρ:List Sl):Prop where|mk(s:Sl)(t:Sl)(q0:ρ=[a,b,s,t])(q1:fr s=true)(q2:fr t=true)
inductive FS3(a b c:Sl)(ρ:List Sl):Prop where|mk(s:Sl)(t:Sl)(q0:ρ=[a,b,c,s,t])(q1:fr s=true)(q2:fr t=true)
noncomputable def gN(rs:List Rd):D->D|.int k=>.int (cj rs k)|d=>d
theorem pB{n:Nat}{d:D}(h:d∈(List.range n).map fun(k:Nat)=>D.int (k:Int)):∃i:Int,d=.int i/\0<=i/\i<(n:Int):=by rw[List.mem_map]at h;obtain⟨k,h1,rfl⟩:=h;rw[List.mem_range]at h1;exact⟨k,rfl,by omega,by omega⟩
theorem yX{w n:Nat}{b:Bool}{m:Int}{ws:List Wy}{rs:List Rd}{Q:R->List Sl->Prop}(hk:bW m ws)(hl:rs.length<=100)(q:Q (.own ((Cg ws rs).map D.int)) [.val false (aY m ws),.own b (rs.map RD)]):(run Γ w (n+1) 7 [.val false (aY m ws),.own b (rs.map RD)]).sat Q:=by
 have hlen:=hk.len;refine aN (d:=f7) rfl rfl (by decide) ?_;first|apply aa|apply aq
 simp[f7];refine⟨by omega,fun _=>?_,by show _<=16777216;omega⟩;refine bf (FS1 _ _) (gN rs) ⟨.aZ,rfl,rfl⟩ ?_ ?_
 . rintro d hd _⟨s,rfl,hs⟩;obtain⟨k,rfl,k0,k1⟩:=pB hd;simp[hs];refine⟨fun _=>?_,by show _<=16777216;omega⟩;refine mz (FS3 _ _ _) (gS k) ⟨.aZ,.aZ,rfl,rfl,rfl⟩ ?_ ?_
   . rintro d hd _⟨s,t,rfl,hs,ht⟩;obtain⟨r,hr,rfl⟩:=List.mem_map.mp hd;by_cases h:k∈r.1;.simp[hs,ht,RD,R0,HW,h];exact⟨_,_,rfl,rfl,rfl⟩
     .simp[hs,ht,RD,R0,HW,h];exact⟨_,_,rfl,rfl,rfl⟩
   rintro _⟨s,t,rfl,hs,ht⟩;rw[QZ];simp[gU];exact⟨rfl,_,rfl,rfl⟩
 rintro _⟨s,rfl,hs⟩;have e:((List.range ws.length).map fun(k:Nat)=>D.int (k:Int)).map (gN rs)=(Cg ws rs).map D.int:=by simp[Cg,gN]
 rw[e];simpa using q
noncomputable def within(ws:List Wy)(fs:List Int):Bool:=(fs.zip ws).all fun p=>decide (0<=p.1)&&decide (p.1<=p.2.r)
noncomputable def gW:D->D|.tup [.int l,.tup [_,_,.int r,_]]=>.bl (decide (0<=l)&&decide (l<=r))|d=>d
@[simp]theorem gW_t{l r:Int}{a b c:D}:gW (.tup [.int l,.tup [a,b,.int r,c]])=.bl (decide (0<=l)&&decide (l<=r)):=rfl
theorem aa6{ws:List Wy}:∀{fs:List Int},((fs.map D.int).zip (ws.map Wy.d)).map (fun p=>D.tup [p.1,p.2])=(fs.zip ws).map fun p=>D.tup [.int p.1,p.2.d]:=by intro fs;rw[List.zip_map,List.map_map];rfl
theorem eO{bs:List Bool}:(bs.map D.bl).mapM ye=some bs:=by induction bs with|nil=>rfl|cons b bs ih=>simp[ih]
theorem zc{w n:Nat}{m:Int}{ws:List Wy}{fs:List Int}{Q:R->List Sl->Prop}(hk:bW m ws)(hl:fs.length<=100)(q:∀a b,Q (.val (.bl (within ws fs))) [a,b]):(run Γ w (n+1) 5 [.val false (aY m ws),.own false (fs.map D.int)]).sat Q:=by
 have hlen:=hk.len;refine aN (d:=f5) rfl rfl (by decide) ?_;first|apply aa|apply aq
 simp[f5];rw[aa6];refine⟨fun _=>?_,by show _<=16777216;omega⟩;refine bf (FS2 _ _) gW ⟨.aZ,.aZ,rfl,rfl,rfl⟩ ?_ ?_
 . rintro d hd _⟨s,t,rfl,hs,ht⟩;obtain⟨p,hp,rfl⟩:=List.mem_map.mp hd;by_cases h:0<=p.1;.simp[hs,ht,h,Wy.d];exact⟨_,_,rfl,rfl,rfl⟩
   .simp[hs,ht,h,Wy.d];exact⟨_,_,rfl,rfl,rfl⟩
 rintro _⟨s,t,rfl,hs,ht⟩;have e:((fs.zip ws).map fun p=>D.tup [.int p.1,p.2.d]).map gW=((fs.zip ws).map fun p=>decide (0<=p.1)&&decide (p.1<=p.2.r)).map D.bl:=by rw[List.map_map,List.map_map];rfl
 rw[e,eO];simp;have:=q (.val false (aY m ws)) (.val false (.lst (fs.map D.int)));unfold within at this;simpa using this
noncomputable def fit(m:Int)(ws:List Wy)(rs:List Rd):Bool:=rs.all (ue m ws)&&within ws (Cg ws rs)
theorem GX{l:List Int}:(l.map D.int).filterMap oh=l:=by rw[List.filterMap_map];induction l with|nil=>rfl|cons a l ih=>simp[ih]
noncomputable def gRd(m:Int)(ws:List Wy):D->D|.tup [.tup ds,.int l]=>.bl (ue m ws (ds.filterMap oh,l))|d=>d
noncomputable def vM(rs:List Rd):Prop:=rs.length<=100/\∀r∈rs,r.1.length<=100
theorem Et{ws:List Wy}{rs:List Rd}:(Cg ws rs).length=ws.length:=by simp[Cg]
theorem JM{w n:Nat}{b:Bool}{m:Int}{ws:List Wy}{rs:List Rd}{Q:R->List Sl->Prop}(hk:bW m ws)(hr:vM rs)(hf:fit m ws rs=true)(q:Q (.val (.bl true)) [.val false (aY m ws),.own b (rs.map RD)]):(run Γ w (n+3) 8 [.val false (aY m ws),.own b (rs.map RD)]).sat Q:=by
 have hlen:=hk.len;have hrl:=hr.1;unfold fit at hf;rw[Bool.and_eq_true]at hf;refine aN (d:=f8) rfl rfl (by decide) ?_;first|apply aa|apply aq
 simp[f8];refine⟨fun _=>?_,by show _<=16777216;omega⟩;refine bf (FS2 _ _) (fun _=>.bl true) ⟨.aZ,.aZ,rfl,rfl,rfl⟩ ?_ ?_;.rintro d hd _⟨s,t,rfl,hs,ht⟩;obtain⟨r,hrm,rfl⟩:=List.mem_map.mp hd;simp[hs,ht,RD];refine v7 hk (hr.2 r hrm) (List.all_eq_true.mp hf.1 r hrm) ?_;simp;exact⟨_,_,rfl,rfl,rfl⟩
 rintro _⟨s,t,rfl,hs,ht⟩;rw[List.map_map,show((fun _=>D.bl true)∘ RD)=fun _:Rd=>D.bl true from rfl,BL];simp[all_true];apply aa;simp;refine yX hk hrl ?_;simp;refine zc hk (by rw[Et];omega) fun a b=>?_;rw[hf.2];simpa[cQ,fj]using q
noncomputable def gJ(m:Int)(ws:List Wy)(l:List Int):Bool:=match iH ws l [0]with|some ps=>ps.getLast?==some (m-1)|none=>false
theorem oZ{ws:List Wy}:∀{l ps qs:List Int},ps≠[]->iH ws l ps=some qs->∃r,qs=ps++r|[],ps,qs,_,h=>by rw[iH]at h;cases h;exact⟨[],by simp⟩|k::l,ps,qs,hp,h=>by rw[iH]at h;cases e:dj ws ps k with|none=>rw[e]at h;cases h|some rs=>
     rw[e]at h;have he:∃x,rs=ps++[x]:=by
      unfold dj at e;simp only[if_neg hp]at e;split at e
      . split at e
        . split at e;.cases e
          . split at e;.cases e;exact⟨_,rfl⟩
            .cases e
        .cases e
      .cases e
     obtain⟨x,rfl⟩:=he;obtain⟨r,rfl⟩:=oZ (by simp) h;exact⟨x::r,by simp⟩
theorem NK{a:Int}{l:List Int}:cut (a::l) none (some 1)=[a]:=by unfold cut cX;simp
theorem GJ{l:List Int}{x:Int}:cut (l++[x]) (some (-1)) none=[x]:=by
 have e:(-1+((l.length:Int)+1)).toNat=l.length:=by omega
 unfold cut cX;simp[e]
theorem Dk{ps:List Int}{z:Int}(h:ps≠[]):(cut ps (some (-1)) none==[z])=(ps.getLast?==some z):=by obtain⟨l,x,rfl⟩:∃l x,ps=l++[x]:=⟨_,_,(List.dropLast_concat_getLast h).symm⟩;rw[GJ];simp
theorem Km{m:Int}{ws:List Wy}{r:Rd}(hk:bW m ws):ue m ws r=(decide (1<=r.2)&&gJ m ws r.1):=by
 have m0:=hk.m0;unfold ue gJ
 cases hl:r.1 with|nil=>
   have:¬(0:Int)=m-1:=by omega
   simp[iH,this,cut]|cons k l=>
   rw[iH,iH];unfold dj;by_cases e:0<=k/\k<(ws.length:Int)
   . obtain⟨v,hv,hm,ha⟩:=iY e.1 e.2;have vo:=hk.ok v hm;simp only[if_pos e,hv];by_cases hr:v.r<1;.simp[hr]
     . have hts:¬ v.t=v.s:=fun z=>vo.ne z.symm;simp only[if_neg hr,if_pos rfl,if_neg hts];rw[if_neg (by simp:¬([0]:List Int)=[])];by_cases h0:v.s=0;.have ht0:¬ v.t=0:=fun z=>hts (by rw[z,h0]);have hc:([0]:List Int).getLast?=some v.s/\v.t∉([0]:List Int):=⟨by rw[h0];rfl,by simpa using ht0⟩;rw[if_pos hc,h0];show(match iH ws l [0,v.t]with|some ps=>_|none=>_)=(_&&match iH ws l ([0]++[v.t])with|some ps=>_|none=>_);rw[show([0]:List Int)++[v.t]=[0,v.t]from rfl];cases hg:iH ws l [0,v.t]with|none=>simp|some ps=>
           obtain⟨x,hx⟩:=oZ (by simp) hg;have hne:ps≠[]:=by rw[hx];simp
           have h1:cut ps none (some 1)=[0]:=by rw[hx];exact NK
           simp only[h1,Dk hne];simp
       .have hc:¬(([0]:List Int).getLast?=some v.s/\v.t∉([0]:List Int)):=fun z=>h0 (by have:=z.1;simp at this;exact this.symm);rw[if_neg hc];show(match iH ws l [v.s,v.t]with|some ps=>_|none=>_)=_;cases hg:iH ws l [v.s,v.t]with|none=>simp|some ps=>
           obtain⟨x,hx⟩:=oZ (by simp) hg;have h1:cut ps none (some 1)=[v.s]:=by rw[hx];exact NK
           simp[h1,h0]
   .simp only[if_neg e];simp
end T
end
section
namespace T
open HH
inductive JK(m:Int)(ws:List Wy)(l:List Int)(r:List D)(ρ:List Sl):Prop where|mk(rest ps:List Int)(s3:Sl)(q0:r=rest.map D.int)(q1:ρ=[.val false (aY m ws),.val false (.tup (l.map D.int)),.val false (.int (m-1)),.own false (ps.map D.int),s3])(q2:fr s3=true)(q3:ps≠[])(q4:iH ws rest ps=iH ws l [0])(q5:ps.length+2*rest.length<=1000)
theorem Dq{w n:Nat}{m:Int}{ws:List Wy}{l:List Int}{Q:R->List Sl->Prop}(hk:bW m ws)(hl:l.length<=100)(q:Q (.val (.bl (gJ m ws l))) [.val false (aY m ws),.val false (.tup (l.map D.int)),.val false (.int (m-1))]):(run Γ w (n+1) 32 [.val false (aY m ws),.val false (.tup (l.map D.int)),.val false (.int (m-1))]).sat Q:=by
 refine aN (d:=Y5) rfl rfl (by decide) ?_;first|apply aa|apply aq
 simp[Y5];apply aa;simp;refine bZ (JK m ws l) ?_ ?_ ⟨l,[0],.aZ,rfl,rfl,rfl,by simp,rfl,by simp;omega⟩;.rintro d r _⟨rest,ps,s3,er,rfl,h3,hp,hg,hlen⟩;cases rest with|nil=>cases er|cons k rest=>
     cases er;simp only[List.length_cons]at hlen;simp[h3];have no:dj ws ps k=none->gJ m ws l=false:=fun e=>by unfold gJ;rw[<-hg,iH,e]
     obtain⟨z,hz⟩:∃z,ps.getLast?=some z:=⟨_,List.getLast?_eq_some_getLast hp⟩;have hl':at' (ps.map D.int) (-1)=some (.int z):=by obtain⟨l,x,rfl⟩:∃l x,ps=l++[x]:=⟨ps.dropLast,ps.getLast hp,(List.dropLast_concat_getLast hp).symm⟩;rw[List.map_append,List.map_singleton,oO];simpa using hz
     apply aa;by_cases e:0<=k/\k<(ws.length:Int)
     . obtain⟨v,hv,hm,ha⟩:=iY e.1 e.2;have vo:=hk.ok v hm;have r0:=vo.r0;have k1:¬ k<0:=by omega
       have k2:¬(ws.length:Int)<=k:=by omega
       have e0:dj ws ps k=(if v.r<1 then none else if ps.getLast?=some v.s/\v.t∉ps then some (ps++[v.t])else none):=by unfold dj;rw[if_pos e,hv];simp only[if_neg hp]
       have l1:ps.length<lim:=by show _<16777216;omega
       by_cases hzs:v.s=z
       . simp[k1,k2,ha,nJ,hl',hzs];first|apply aa|apply aq
         by_cases hr:v.r=0
         . simp[ha,vH,hr];first|apply aa|apply aq
           simp;rw[no (by rw[e0,if_pos (by omega)])]at q;exact q
         . by_cases ht:v.t∈ps
           . simp[ha,nQ,vH,hr,uh,ht];first|apply aa|apply aq
             simp;rw[no (by rw[e0];split<;>simp[ht])]at q;exact q
           . simp[ha,nQ,vH,hr,uh,ht];first|apply aa|apply aq
             simp[ha,nQ,l1];rw[if_neg (by omega),if_pos ⟨by rw[hz,hzs],ht⟩]at e0;rw[iH,e0]at hg;exact⟨rest,ps++[v.t],.val false (.int k),rfl,by simp,rfl,by simp,hg,by simp;omega⟩
       . simp[k1,k2,ha,nJ,hl',hzs];first|apply aa|apply aq
         simp;rw[no (by rw[e0,hz];split<;>simp[Ne.symm hzs])]at q;exact q
     . have e0:dj ws ps k=none:=by unfold dj;rw[if_neg e]
       rw[no e0]at q;by_cases k1:k<0
       . simp[k1];first|apply aa|apply aq
         simp;exact q
       . have k2:(ws.length:Int)<=k:=by omega
         simp[k1,k2];apply aa;simp;exact q
 .rintro _⟨rest,ps,s3,er,rfl,h3,hp,hg,hlen⟩;cases rest with|cons _ _=>cases er|nil=>
     rw[iH]at hg;obtain⟨z,hz⟩:∃z,ps.getLast?=some z:=⟨_,List.getLast?_eq_some_getLast hp⟩;have hl':at' (ps.map D.int) (-1)=some (.int z):=by obtain⟨l,x,rfl⟩:∃l x,ps=l++[x]:=⟨ps.dropLast,ps.getLast hp,(List.dropLast_concat_getLast hp).symm⟩;rw[List.map_append,List.map_singleton,oO];simpa using hz
     apply aa;simp[hl'];unfold gJ at q;rw[<-hg]at q;simp only[hz]at q;have:(some z==some (m-1))=(z==m-1):=rfl;rw[this]at q;exact q
theorem BW{ws:List Wy}{m:Int}(hk:bW m ws):∀{l ps qs:List Int},ps≠[]->iH ws l ps=some qs->l.Nodup/\∀k∈l,∀v,ws[k.toNat]?=some v->v.t∉ps|[],ps,qs,_,h=>⟨List.nodup_nil,by simp⟩|k::l,ps,qs,hp,h=>by rw[iH]at h;cases e:dj ws ps k with|none=>rw[e]at h;cases h|some rs=>
     rw[e]at h;have oE:=iy e;obtain⟨v,hv,hm,ha⟩:=iY oE.1 oE.2.1;have he:rs=ps++[v.t]/\v.t∉ps:=by
      unfold dj at e;rw[if_pos ⟨oE.1,oE.2.1⟩,hv]at e;simp only[if_neg hp]at e;split at e;.cases e
      . split at e;.rename_i hc;cases e;exact⟨rfl,hc.2⟩
        .cases e
     obtain⟨h1,h2⟩:=BW hk (l:=l) (ps:=rs) (by rw[he.1];simp) h;refine⟨List.nodup_cons.mpr ⟨fun hkl=>?_,h1⟩,fun j hj u hu=>?_⟩;.have:=h2 k hkl v hv;rw[he.1]at this;exact this (by simp)
     . rcases List.mem_cons.mp hj with rfl|hj;.rw[hv]at hu;cases hu;exact he.2
       .have:=h2 j hj u hu;rw[he.1]at this;exact fun z=>this (by simp[z])
theorem uT{m:Int}{ws:List Wy}{l:List Int}(hk:bW m ws)(h:gJ m ws l=true):l.Nodup/\∀k∈l,0<=k/\k<(ws.length:Int):=by unfold gJ at h;cases e:iH ws l [0]with|none=>rw[e]at h;cases h|some ps=>exact⟨(BW hk (by simp) e).1,yO e⟩
noncomputable def kh(n:Nat)(f:Int->Int):List Int:=(List.range n).map fun(k:Nat)=>f (k:Int)
theorem Hc{n:Nat}{f:Int->Int}{k x:Int}(h0:0<=k):(kh n f).set k.toNat x=kh n (fun j=>if j=k then x else f j):=by
 apply List.ext_getElem;.simp[kh]
 . intro i h1 h2;simp[kh]at h1 ⊢;rw[List.getElem_set];by_cases h:k.toNat=i;.rw[if_pos h,if_pos (by omega)]
   .rw[if_neg h,if_neg (by omega)];simp
theorem By{n:Nat}{f:Int->Int}{k:Int}(h0:0<=k)(h1:k<(n:Int)):at' ((kh n f).map D.int) k=some (.int (f k)):=by
 have:k.toNat<n:=by omega
 rw[qG h0 (by simp[kh];omega)];simp[kh,this];congr 1;omega
theorem yl{rs:List Rd}{r:Rd}{k:Int}:cj (rs++[r]) k=cj rs k+if k∈r.1 then r.2 else 0:=by unfold cj;rw[List.filterMap_append,List.sum_append];by_cases h:k∈r.1<;>simp[h]
theorem PN{n:Nat}{k:Int}(h0:0<=k)(h1:k<(n:Int)):qz n k=some k.toNat:=by unfold qz;simp[h0,h1]
inductive JX(m:Int)(ws:List Wy)(a1:Sl)(rs:List Rd)(r:List D)(ρ:List Sl):Prop where|mk(done rest:List Rd)(s3 s4 s5:Sl)(q0:rs=done++rest)(q1:r=rest.map RD)(q2:ρ=[.val false (aY m ws),a1,.own false ((kh ws.length (cj done)).map D.int),s3,s4,s5])(q3:fr s3=true)(q4:fr s4=true)(q5:fr s5=true)(q6:∀r∈done,1<=r.2/\gJ m ws r.1=true)
inductive JM2(a0 a1 a3 a4:Sl)(ws:List Wy)(f:Int->Int)(l:List Int)(x:Int)(r:List D)(ρ:List Sl):Prop where|mk(done rest:List Int)(s5:Sl)(q0:l=done++rest)(q1:r=rest.map D.int)(q2:ρ=[a0,a1,.own false ((kh ws.length (fun k=>f k+if k∈done then x else 0)).map D.int),a3,a4,s5])(q3:fr s5=true)
theorem Iu{rs:List Rd}{k:Int}(h:∀r∈rs,1<=r.2):0<=cj rs k:=by induction rs with|nil=>simp[cj]|cons r rs ih=>
   have h1:=h r (by simp);have h2:=ih fun x hx=>h x (List.mem_cons_of_mem _ hx);unfold cj at h2 ⊢;rw[List.filterMap_cons];by_cases e:k∈r.1;.simp only[if_pos e,List.sum_cons];omega
   .simp only[if_neg e];exact h2
noncomputable def zu(m:Int)(ws:List Wy)(rs:List Rd):Bool:=(rs.all fun r=>decide (1<=r.2)&&gJ m ws r.1)&&((List.range ws.length).all fun(k:Nat)=>match ws[k]?with|some v=>decide (cj rs (k:Int)<=v.r)|none=>true)
theorem Mm{ws:List Wy}{f:Nat->Int}(h:∀k,0<=f k):(((List.range ws.length).map f).zip ws).all (fun p=>decide (0<=p.1)&&decide (p.1<=p.2.r))=((List.range ws.length).all fun(k:Nat)=>match ws[k]?with|some v=>decide (f k<=v.r)|none=>true):=by
 rw[Bool.eq_iff_iff,List.all_eq_true,List.all_eq_true];constructor
 . intro z k hk;have hk':k<ws.length:=by simpa using hk
   rw[List.getElem?_eq_getElem hk'];have hz:k<(((List.range ws.length).map f).zip ws).length:=by simp;omega
   have:=z _ (List.getElem_mem hz);rw[List.getElem_zip]at this;simp at this ⊢;exact this.2
 . intro z p hp;obtain⟨k,hk,e⟩:=List.getElem_of_mem hp;rw[List.getElem_zip]at e;have hk':k<ws.length:=by simp at hk;omega
   have:=z k (by simpa using hk');rw[List.getElem?_eq_getElem hk']at this;subst e;simp at this ⊢;exact⟨h k,this⟩
theorem p6{m:Int}{ws:List Wy}{rs:List Rd}(hk:bW m ws):fit m ws rs=zu m ws rs:=by
 unfold fit zu;have e1:rs.all (ue m ws)=rs.all fun r=>decide (1<=r.2)&&gJ m ws r.1:=by congr 1;funext r;exact Km hk
 rw[e1];cases h:rs.all fun r=>decide (1<=r.2)&&gJ m ws r.1 with|false=>rfl|true=>
   have h1:∀r∈rs,1<=r.2:=fun r hr=>by have:=List.all_eq_true.mp h r hr;simp at this;exact this.1
   rw[Bool.true_and,Bool.true_and];exact Mm (f:=fun(k:Nat)=>cj rs (k:Int)) fun k=>Iu h1
inductive FX(a b c d e f:Sl)(ρ:List Sl):Prop where|mk(s:Sl)(q0:ρ=[a,b,c,d,e,f,s])(q1:fr s=true)
noncomputable def gL(ws:List Wy)(rs:List Rd):D->D
 |.int k=>match ws[k.toNat]?with|some v=>.bl (decide (cj rs k<=v.r))|none=>.bl true
 |d=>d
theorem HN{w n:Nat}{b:Bool}{m:Int}{ws:List Wy}{rs:List Rd}{Q:R->List Sl->Prop}(hk:bW m ws)(hr:vM rs)(q:Q (.val (.bl (fit m ws rs))) [.val false (aY m ws),.own b (rs.map RD)]):(run Γ w (n+2) 34 [.val false (aY m ws),.own b (rs.map RD)]).sat Q:=by
 rw[p6 hk]at q;have hlen:=hk.len;refine aN (d:=Zf) rfl rfl (by decide) ?_;first|apply aa|apply aq
 simp[Zf];refine⟨by show _<=16777216;omega,?_⟩;first|apply aa|apply aq
 simp;have e0:List.replicate ws.length (D.int 0)=(kh ws.length (cj [])).map D.int:=by
  unfold kh cj;apply List.ext_getElem;.simp
  .intro i h1 h2;simp
 rw[e0];refine bZ (JX m ws (.lent (rs.map RD)) rs) ?_ ?_ ⟨[],rs,.aZ,.aZ,.aZ,rfl,rfl,rfl,rfl,rfl,rfl,by simp⟩;.rintro d r _⟨done,rest,s3,s4,s5,e1,er,rfl,h3,h4,h5,hd⟩;cases rest with|nil=>cases er|cons rd rest=>
     cases er;have hrm:rd∈rs:=by rw[e1];simp
     have no:(decide (1<=rd.2)&&gJ m ws rd.1)=false->zu m ws rs=false:=fun z=>by
      unfold zu;have:(rs.all fun r=>decide (1<=r.2)&&gJ m ws r.1)=false:=by rw[List.all_eq_false];exact⟨rd,hrm,by simpa using z⟩
      rw[this];rfl
     simp[h3,h4,RD];apply aa;by_cases hl:rd.2<1
     . simp[hl];first|apply aa|apply aq
       simp;rw[no (by simp;intro z;omega)]at q;exact q
     .simp[hl];refine Dq hk (hr.2 rd hrm) ?_;simp;cases hw:gJ m ws rd.1 with|false=>simp;apply aa;simp;rw[no (by simp[hw])]at q;exact q|true=>
         have hrd:=uT hk hw;simp;apply aa;simp;refine bZ (JM2 (.val false (aY m ws)) (.lent (rs.map RD)) (.val false (.tup (rd.1.map D.int))) (.val false (.int rd.2)) ws (cj done) rd.1 rd.2) ?_ ?_ ⟨[],rd.1,s5,rfl,rfl,by simp,h5⟩;.rintro d r _⟨tG,xW,s5,e2,er2,rfl,h5⟩;cases xW with|nil=>cases er2|cons k xW=>
             cases er2;obtain⟨k0,k1⟩:=hrd.2 k (by rw[e2];simp);have hkn:k∉tG:=by have hn:=hrd.1;rw[e2,List.nodup_append]at hn;exact fun z=>hn.2.2 k z k (by simp) rfl
             simp[h5];apply aa;have ea:=By (n:=ws.length) (f:=fun k=>cj done k+if k∈tG then rd.2 else 0) k0 k1;have ex:=PN (n:=(kh ws.length fun k=>cj done k+if k∈tG then rd.2 else 0).length) k0 (by simp[kh];exact k1);simp[ea,ex,hkn];refine⟨tG++[k],xW,.val false (.int k),by rw[e2];simp,rfl,?_,rfl⟩;have es:=Hc (n:=ws.length) (f:=fun k=>cj done k+if k∈tG then rd.2 else 0) (k:=k) (x:=cj done k+rd.2) k0;rw[<-List.map_set,es];congr 6;funext j;by_cases hj:j=k;.simp[hj]
             .simp[hj]
         .rintro _⟨tG,xW,s5,e2,er2,rfl,h5⟩;cases xW with|cons _ _=>cases er2|nil=>
             rw[List.append_nil]at e2;subst e2;simp;refine⟨done++[rd],rest,.val false (.tup (rd.1.map D.int)),.val false (.int rd.2),s5,by rw[e1];simp,rfl,?_,rfl,rfl,h5,fun r hr=>?_⟩;.congr 6;funext k;rw[yl]
             . rcases List.mem_append.mp hr with hr|hr;.exact hd r hr
               .rw[List.mem_singleton.mp hr];exact⟨by omega,hw⟩
 .rintro _⟨done,rest,s3,s4,s5,e1,er,rfl,h3,h4,h5,hd⟩;cases rest with|cons _ _=>cases er|nil=>
     rw[List.append_nil]at e1;subst e1;simp;apply aa;have hsl:(kh ws.length (cj rs)).length=ws.length:=by simp[kh]
     simp[hsl];refine⟨by omega,fun _=>?_,by show _<=16777216;omega⟩;refine bf (FX _ _ _ _ _ _) (gL ws rs) ⟨.aZ,rfl,rfl⟩ ?_ ?_;.rintro d hd' _⟨s,rfl,hs⟩;obtain⟨k,rfl,k0,k1⟩:=pB hd';obtain⟨v,hv,hm,ha⟩:=iY k0 k1;simp[hs,By k0 k1,ha,vH,gL,hv];exact⟨_,rfl,rfl⟩
     rintro _⟨s,rfl,hs⟩;have e:((List.range ws.length).map fun(k:Nat)=>D.int (k:Int)).map (gL ws rs)=((List.range ws.length).map fun(k:Nat)=>match ws[k]?with|some v=>decide (cj rs (k:Int)<=v.r)|none=>true).map D.bl:=by rw[List.map_map,List.map_map];apply List.map_congr_left;intro k _;simp only[Function.comp,gL,Int.toNat_natCast];cases ws[k]?<;>rfl
     rw[e,eO];unfold zu at q;have h1:(rs.all fun r=>decide (1<=r.2)&&gJ m ws r.1)=true:=by rw[List.all_eq_true];intro r hr;have:=hd r hr;simp[this.1,this.2]
     rw[h1,Bool.true_and]at q;simp;have q2:=q;rw[show((List.range ws.length).all fun(k:Nat)=>match ws[k]?with|some v=>decide (cj rs (k:Int)<=v.r)|none=>true)=(((List.range ws.length).map fun(k:Nat)=>match ws[k]?with|some v=>decide (cj rs (k:Int)<=v.r)|none=>true).all id)by rw[List.all_map];rfl]at q2;simpa using q2
end T
end
section
namespace T
open HH
theorem ints_of{xs:List D}(h:∀x∈xs,∃i,x=D.int i):∃l:List Int,xs=l.map D.int:=by induction xs with|nil=>exact⟨[],rfl⟩|cons x xs ih=>obtain⟨i,rfl⟩:=h x (by simp);obtain⟨l,rfl⟩:=ih fun y hy=>h y (List.mem_cons_of_mem _ hy);exact⟨i::l,rfl⟩
noncomputable def ZR(ws:List Wy)(l:List Int):Prop:=∀k∈l,0<=k/\k<(ws.length:Int)
theorem QJ{ws:List Wy}{xs:List D}(h:∀x∈xs,∃i:Int,x=D.int i/\0<=i/\i<(ws.length:Int)):∃l:List Int,xs=l.map D.int/\ZR ws l:=by
 obtain⟨l,rfl⟩:=ints_of fun x hx=>by obtain⟨i,e,_⟩:=h x hx;exact⟨i,e⟩
 refine⟨l,rfl,fun k hk=>?_⟩;obtain⟨i,e,h1⟩:=h (.int k) (List.mem_map.mpr ⟨k,hk,rfl⟩);cases e;exact h1
theorem o6{ps:List Int}:cm .ne (.lst (ps.map D.int)) (.lst [])=some (!(ps==[])):=BR (T:=[])
inductive abe(y:Int)(m:Int)(ws:List Wy)(k:Nat)(ρ:List Sl):Prop where|mk(x z h:Int)(l:List Int)(s4 s5 s6:Sl)(q0:ρ=[.own true [.int x,.int y,.int z],.val false (aY m ws),.own false (l.map D.int),.val false (.int h),s4,s5,s6])(q1:fr s4=true)(q2:fr s5=true)(q3:fr s6=true)(q4:ZR ws l)(q5:l.length<=k)
inductive abh(a0 a1 a2 a3 a4 a5 a6:Sl)(ρ:List Sl):Prop where|mk(s:Sl)(q0:ρ=[a0,a1,a2,a3,a4,a5,a6,s])(q1:fr s=true)
theorem Lh{w n:Nat}{x y z m:Int}{ws:List Wy}{Q:R->List Sl->Prop}(hk:bW m ws)(q:∀(x z:Int)(l:List Int),ZR ws l->l.length<=6->Q (.val (.tup (l.map D.int))) [.own true [.int x,.int y,.int z],.val false (aY m ws)]):(run Γ w (n+2) 35 [.own true [.int x,.int y,.int z],.val false (aY m ws)]).sat Q:=by
 have hlen:=hk.len;refine aN (d:=f35) rfl rfl (by decide) ?_;first|apply aa|apply aq
 simp[f35];apply aa;simp;apply aa;simp;refine ie (N:=6) (g:=fun(k:Nat)=>D.int (k:Int)) (abe y m ws) ?_ ?_ ⟨x,z,0,[],.aZ,.aZ,.aZ,rfl,rfl,rfl,rfl,by simp[ZR],by simp⟩
 . rintro i _ hi⟨x,z,h,l,s4,s5,s6,rfl,h4,h5,h6,hl,hll⟩;simp[h4];apply aa;simp;refine⟨by omega,fun _=>?_,by show _<=16777216;omega⟩;refine Du (abh _ _ _ _ _ _ _) (fun d=>∃i:Int,d=.int i/\0<=i/\i<(ws.length:Int)) ⟨.aZ,rfl,rfl⟩ ?_ ?_
   . rintro d hd _⟨s,rfl,hs⟩;obtain⟨k,rfl,k0,k1⟩:=pB hd;obtain⟨v,hv,hm,ha⟩:=iY k0 k1;by_cases c1:v.s=h;.simp[hs,ha,nJ,c1];exact⟨⟨k0,k1⟩,_,rfl,rfl⟩
     .simp[hs,ha,nJ,c1];exact⟨_,rfl,rfl⟩
   rintro xs _⟨s,rfl,hs⟩hxl hx;obtain⟨os,rfl,hos⟩:=QJ hx;have hol:os.length<=12:=by simp at hxl;omega
   simp[h5];apply aa;cases hoe:os==[]with|true=>have adq:os=[]:=eq_of_beq hoe;subst adq;have:=o6 (ps:=[]);simp at this;simp[this];exact⟨x,z,h,l,_,_,_,rfl,rfl,rfl,h6,hl,by omega⟩|false=>
     have ho1:0<os.length:=by cases os with|nil=>cases hoe|cons _ _=>simp
     by_cases hpm:h<m-1
     . simp[o6,hoe,hpm];first|apply aa|apply aq
       simp;refine cu (by omega) (by show _<(1606938044258990275541962092341162602522202993782792835301376:Int);omega) fun d x z hd1 hd2=>?_;have hdn:d.toNat<os.length:=by omega
       have ha:at' (os.map D.int) d=some (.int os[d.toNat]):=by rw[qG hd1 (by simpa using hd2)];simp[hdn]
       obtain⟨k,hke⟩:∃k,os[d.toNat]=k:=⟨_,rfl⟩;obtain⟨k0,k1⟩:0<=k/\k<(ws.length:Int):=hos k (by rw[<-hke];exact List.getElem_mem hdn);rw[hke]at ha;obtain⟨v,hv,hm,hav⟩:=iY k0 k1;have l1:l.length<lim:=by show _<16777216;omega
       simp[ha,h6];apply aa;simp[l1];apply aa;simp[hav,nQ];refine⟨x,z,v.t,l++[k],.val false (.int i),.own false (os.map D.int),.val false (.int k),by simp,rfl,rfl,rfl,fun j hj=>?_,by simp;omega⟩;rcases List.mem_append.mp hj with hj|hj;.exact hl j hj
       .rw[List.mem_singleton.mp hj];exact⟨k0,k1⟩
     .simp[o6,hoe,hpm];exact⟨x,z,h,l,_,_,_,rfl,rfl,rfl,h6,hl,by omega⟩
 . rintro _⟨x,z,h,l,s4,s5,s6,rfl,h4,h5,h6,hl,hll⟩;first|apply aa|apply aq
   simp;exact q x z l hl hll
noncomputable def Ke(k:Nat)(rs:List Rd):Prop:=rs.length<=k/\∀r∈rs,r.1.length<=6
inductive JRs(y:Int)(m:Int)(ws:List Wy)(k:Nat)(ρ:List Sl):Prop where|mk(x z:Int)(rs:List Rd)(s3 s4 s5:Sl)(q0:ρ=[.own true [.int x,.int y,.int z],.val false (aY m ws),.own false (rs.map RD),s3,s4,s5])(q1:fr s3=true)(q2:fr s4=true)(q3:fr s5=true)(q4:Ke (2*k) rs)(q5:fit m ws rs=true)
inductive JLr(a0 a1 a3:Sl)(m:Int)(ws:List Wy)(l:List Int)(k:Nat)(r:List D)(ρ:List Sl):Prop where|mk(rs:List Rd)(s5:Sl)(q0:ρ=[a0,a1,.own false (rs.map RD),a3,.val false (.tup (l.map D.int)),s5])(q1:fr s5=true)(q2:Ke k rs)(q3:rs.length+r.length<=k)(q4:fit m ws rs=true)(q5:∀d∈r,∃i,d=D.int i)
theorem Lx{m:Int}{ws:List Wy}(hk:bW m ws):fit m ws []=true:=by rw[p6 hk];unfold zu;rw[List.all_nil,Bool.true_and,List.all_eq_true];intro k hk';rw[List.mem_range]at hk';rw[List.getElem?_eq_getElem hk'];have:=(hk.ok _ (List.getElem_mem hk')).r0;show decide (cj [] (k:Int)<=ws[k].r)=true;rw[decide_eq_true_eq];exact this
theorem yQ{w n:Nat}{x y z m:Int}{ws:List Wy}{Q:R->List Sl->Prop}(hk:bW m ws)(q:∀(x z:Int)(rs:List Rd),Ke 10 rs->fit m ws rs=true->Q (.own (rs.map RD)) [.own true [.int x,.int y,.int z],.val false (aY m ws)]):(run Γ w (n+3) 36 [.own true [.int x,.int y,.int z],.val false (aY m ws)]).sat Q:=by
 refine aN (d:=Zg) rfl rfl (by decide) ?_;first|apply aa|apply aq
 simp[Zg];apply aa;simp;refine cu (by decide) (by decide) fun c x z hc1 hc2=>?_;simp;obtain⟨N,hN⟩:∃N:Nat,(N:Int)=c:=⟨c.toNat,by omega⟩;rw[<-hN,Int.toNat_natCast];have hN5:N<=5:=by omega
 refine⟨by omega,?_⟩;refine ie (g:=fun(k:Nat)=>D.int (k:Int)) (JRs y m ws) ?_ ?_ ⟨x,z,[],.aZ,.aZ,.aZ,rfl,rfl,rfl,rfl,by simp[Ke],Lx hk⟩
 . rintro i _ hi⟨x,z,rs,s3,s4,s5,rfl,h3,h4,h5,hr,Jc⟩;have hrl:=hr.1;simp[h3];apply aa;simp;refine Lh hk fun x z l hl hll=>?_;simp[h4];apply aa;simp;refine cu (by decide) (by decide) fun d1 x z hd1 hd2=>?_;simp;refine bZ (JLr (.own true [.int x,.int y,.int z]) (.val false (aY m ws)) (.val false (.int i)) m ws l (2*(i+1))) ?_ ?_ ⟨rs,s5,rfl,h5,⟨by omega,hr.2⟩,by simp;omega,Jc,fun d hd=>?_⟩
   . rintro d r _⟨us,s5,rfl,h5,hu,hul,Jc,hd⟩;obtain⟨ld,rfl⟩:=hd d (by simp);simp only[List.length_cons]at hul;have l0:us.length+1<=lim:=by show _<=16777216;omega
     have l1:us.length<lim:=by show _<16777216;omega
     simp[h5];apply aa;simp[l0];have adt:us.map RD++[D.tup [.tup (l.map D.int),.int ld]]=(us++[(l,ld)]).map RD:=by simp[RD]
     have hu2:∀r∈us++[(l,ld)],r.1.length<=6:=fun r h=>by
      rcases List.mem_append.mp h with h|h;.exact hu.2 r h
      .rw[List.mem_singleton.mp h];exact hll
     rw[adt];refine HN hk ⟨by simp;omega,fun r h=>Nat.le_trans (hu2 r h) (by decide)⟩ ?_;simp;constructor
     . intro adu;first|apply aa|apply aq
       simp[l1];exact⟨us++[(l,ld)],.val false (.int ld),by simp[RD],rfl,⟨by simp;omega,hu2⟩,by simp;omega,adu,fun d h=>hd d (List.mem_cons_of_mem _ h)⟩
     .intro _;exact⟨us,_,rfl,rfl,hu,by omega,Jc,fun d h=>hd d (List.mem_cons_of_mem _ h)⟩
   .rintro _⟨us,s5,rfl,h5,hu,hul,Jc,hd⟩;simp;exact⟨x,z,us,_,_,s5,rfl,rfl,rfl,h5,hu,Jc⟩
   .simp at hd;rcases hd with rfl|rfl<;>exact⟨_,rfl⟩
 . rintro _⟨x,z,rs,s3,s4,s5,rfl,h3,h4,h5,hr,Jc⟩;first|apply aa|apply aq
   simp;exact q x z rs ⟨Nat.le_trans hr.1 (by omega),hr.2⟩ Jc
end T
end
section
namespace T
open HH
theorem mj{m:Int}{ws:List Wy}{l:List Int}(hk:bW m ws):0<=tot ws l:=by
 have Jp:∀k,0<=hh ws k:=fun k=>by unfold hh;cases e:ws[k.toNat]?with|none=>exact Int.le_refl _|some v=>have:=(hk.ok v (List.mem_of_getElem? e)).h0;simp only;omega
 induction l with|nil=>exact Int.le_refl _|cons a l ih=>have:=Jp a;simp only[tot,List.map_cons,List.sum_cons]at ih ⊢;omega
noncomputable def Er(ws:List Wy)(last:Int)(l:List Int):Int:=if 0<last-tot ws l+1 then last-tot ws l+1 else 0
noncomputable def JV(ws:List Wy)(last:Int)(rs:List Rd):Int:=(rs.map fun r=>r.2*Er ws last r.1).sum
theorem XD{m last:Int}{ws:List Wy}{l:List Int}(hk:bW m ws)(hl:last<=1000000000000000000):-18446744073709551616<Er ws last l/\Er ws last l<18446744073709551616:=by have:=mj (l:=l) hk;unfold Er;split<;>omega
theorem sG{w n:Nat}{a b:Int}{Q:R->List Sl->Prop}(q:Q (.val (.int (if 0<a-b+1 then a-b+1 else 0))) [.val false (.int a),.val false (.int b)]):(run Γ w (n+1) 11 [.val false (.int a),.val false (.int b)]).sat Q:=by
 refine aN (d:=f11) rfl rfl (by decide) ?_;first|apply aa|apply aq
 simp[f11];exact q
theorem Lz{m:Int}{ws:List Wy}{r:Rd}(h:ue m ws r=true):∃qs,iH ws r.1 []=some qs:=by unfold ue at h;cases e:iH ws r.1 []with|none=>rw[e]at h;cases h|some qs=>exact⟨qs,rfl⟩
noncomputable def gB(ws:List Wy)(last:Int):D->D|.tup [.tup ds,.int l]=>.int (l*Er ws last (ds.filterMap oh))|d=>d
theorem Vw{ws:List Wy}{last:Int}{r:Rd}:gB ws last (RD r)=.int (r.2*Er ws last r.1):=by show D.int (r.2*Er ws last ((r.1.map D.int).filterMap oh))=_;rw[GX]
theorem Ck{w n:Nat}{b:Bool}{m last:Int}{ws:List Wy}{rs:List Rd}{Q:R->List Sl->Prop}(hk:bW m ws)(hl:last<=1000000000000000000)(hr:vM rs)(hf:fit m ws rs=true)(q:Q (.val (.int (JV ws last rs))) [.val false (aY m ws),.val false (.int last),.own b (rs.map RD)]):(run Γ w (n+4) 15 [.val false (aY m ws),.val false (.int last),.own b (rs.map RD)]).sat Q:=by
 have hrl:=hr.1;have hgo:∀r∈rs,∃qs,iH ws r.1 []=some qs:=fun r hrm=>by unfold fit at hf;rw[Bool.and_eq_true]at hf;exact Lz (List.all_eq_true.mp hf.1 r hrm)
 refine aN (d:=Z6) rfl rfl (by decide) ?_;first|apply aa|apply aq
 simp[Z6];refine JM hk hr hf ?_;simp;apply aa;simp;refine⟨fun _=>?_,by show _<=16777216;omega⟩;refine bf (FS3 _ _ _) (gB ws last) ⟨.aZ,.aZ,rfl,rfl,rfl⟩ ?_ ?_;.rintro d hd _⟨s,t,rfl,hs,ht⟩;obtain⟨r,hrm,rfl⟩:=List.mem_map.mp hd;obtain⟨qs,hg⟩:=hgo r hrm;have tb:=XD (l:=r.1) hk hl;simp[hs,ht,RD];refine CK hk (hr.2 r hrm) hg ?_;simp;refine sG ?_;rw[show(if 0<last-tot ws r.1+1 then last-tot ws r.1+1 else 0)=Er ws last r.1 from rfl];simp[tb];rw[show D.tup [.tup (r.1.map D.int),.int r.2]=RD r from rfl,Vw];exact⟨rfl,_,_,rfl,rfl,rfl⟩
 rintro _⟨s,t,rfl,hs,ht⟩;have e:(rs.map RD).map (gB ws last)=(rs.map fun r=>r.2*Er ws last r.1).map D.int:=by simp[Vw]
 rw[e,gU];simp;simpa[JV]using q
theorem Ey{w n:Nat}{m:Int}{ws:List Wy}{l:List Int}{Q:R->List Sl->Prop}(hl:l.length<=100)(h:∀k∈l,0<=k/\k<(ws.length:Int))(q:Q (.val (.int (tot ws l))) (A2 m ws l)):(run Γ w (n+1) 33 (A2 m ws l)).sat Q:=by
 refine aN (d:=Zr) rfl rfl (by decide) ?_;first|apply aa|apply aq
 have hlim:l.length<=lim:=by show _<=16777216;omega
 simp[Zr,hlim];refine bf (F2c _ _) (gH ws) ⟨.aZ,rfl,rfl⟩ ?_ ?_;.rintro d hd _⟨s,rfl,hs⟩;obtain⟨k,hk',rfl⟩:=List.mem_map.mp hd;obtain⟨k0,k1⟩:=h k hk';obtain⟨v,ha,hv⟩:=BV k0 k1;simp[hs,ha,Fy,gH,hv];exact⟨_,rfl,rfl⟩
 rintro _⟨s,rfl,hs⟩;have e1:(l.map D.int).map (gH ws)=(l.map (hh ws)).map D.int:=by simp[gH]
 rw[e1,gU];simp;exact q
theorem Vx{rs:List Rd}(h:vM rs):gd 3 (.lst (rs.map RD))=true:=by
 rw[gd,Bool.and_eq_true,decide_eq_true_eq];refine⟨by simp;exact Nat.le_trans h.1 (by decide),List.all_eq_true.mpr fun d hd=>?_⟩;obtain⟨r,hr,rfl⟩:=List.mem_map.mp hd;have h1:=h.2 r hr;have h2:r.1.length<=1000:=by omega
 simp[RD,gd,h2]
end T
end
section
namespace T
open HH
noncomputable def sm{α:Type}(f:α->Int):List α->Int|[]=>0|a::l=>f a+sm f l
section
variable{α β:Type}{f g:α->Int}{l k:List α}
@[simp]theorem Ik:sm f []=0:=rfl
@[simp]theorem aX{a:α}:sm f (a::l)=f a+sm f l:=rfl
theorem mU:sm f (l++k)=sm f l+sm f k:=by induction l with|nil=>simp|cons a l ih=>simp[ih];omega
theorem dI(h:∀a∈l,f a=g a):sm f l=sm g l:=by induction l with|nil=>rfl|cons a l ih=>rw[aX,aX,h a (by simp),ih fun b hb=>h b (by simp[hb])]
theorem uW(h:l.Perm k):sm f l=sm f k:=by induction h with|nil=>rfl|cons a _ ih=>simp[ih]|swap a b l=>simp;omega|trans _ _ h1 h2=>rw[h1,h2]
theorem Rv:sm (fun a=>f a+g a) l=sm f l+sm g l:=by induction l with|nil=>rfl|cons a l ih=>simp only[aX,ih];omega
theorem R6:sm (fun a=>f a-g a) l=sm f l-sm g l:=by induction l with|nil=>rfl|cons a l ih=>simp only[aX,ih];omega
theorem O7{c:Int}:sm (fun a=>f a*c) l=sm f l*c:=by induction l with|nil=>simp|cons a l ih=>simp only[aX,ih,Int.add_mul]
theorem XC(h:∀a∈l,f a<=g a):sm f l<=sm g l:=by induction l with|nil=>simp|cons a l ih=>have h1:=h a (by simp);have h2:=ih fun b hb=>h b (by simp[hb]);simp only[aX];omega
theorem jB(h:∀a∈l,f a=0):sm f l=0:=by induction l with|nil=>rfl|cons a l ih=>rw[aX,h a (by simp),ih fun b hb=>h b (by simp[hb])];rfl
theorem tW{q:β->α}{l:List β}:sm f (l.map q)=sm (fun b=>f (q b)) l:=by induction l with|nil=>rfl|cons a l ih=>simp only[List.map_cons,aX,ih]
end
structure Tr where(h w l:Int)
noncomputable def Tr.d(x:Tr):D:=.tup [.int x.h,.int x.w,.int x.l]
noncomputable def CV:D->Tr|.tup [.int h,.int w,.int l]=>⟨h,w,l⟩|_=>⟨0,0,0⟩
@[simp]theorem acS{h w l:Int}:CV (.tup [.int h,.int w,.int l])=⟨h,w,l⟩:=rfl
@[simp]theorem aaU{x:Tr}:CV x.d=x:=rfl
@[simp]theorem abg{i:Int}:eZ (.int i)=i:=rfl
noncomputable def wy(ws:List Wy)(k:Int):Wy:=(ws[k.toNat]?).getD ⟨0,0,0,0⟩
noncomputable def yC(ws:List Wy)(x:Tr):Prop:=0<=x.w/\x.w<(ws.length:Int)
theorem pC{ws:List Wy}{k:Int}(h0:0<=k)(h1:k<(ws.length:Int)):at' (ws.map Wy.d) k=some (wy ws k).d/\wy ws k∈ws:=by
 obtain⟨v,h2,h3,h4⟩:=iY h0 h1;have:wy ws k=v:=by unfold wy;rw[h2];rfl
 rw[this];exact⟨h4,h3⟩
theorem abA{x:Tr}:vB x.d (.int 0)=some (.val (.int x.h)):=by simp[Tr.d]
theorem Mh{x:Tr}:vB x.d (.int 1)=some (.val (.int x.w)):=by simp[Tr.d]
theorem Rp{x:Tr}:vB x.d (.int 2)=some (.val (.int x.l)):=by simp[Tr.d]
noncomputable def nM(ws:List Wy)(x:Tr):Int:=x.h+(wy ws x.w).h
noncomputable def M6(ws:List Wy)(p:Int)(P:Int->Bool)(x:Tr):Int:=if(wy ws x.w).t=p/\P (nM ws x)=true then x.l else 0
noncomputable def M7(ws:List Wy)(p:Int)(P:Int->Bool)(x:Tr):Int:=if(wy ws x.w).s=p/\P x.h=true then x.l else 0
noncomputable def fX(t:Int):Int->Bool:=fun k=>decide (k<=t)
noncomputable def come(ws:List Wy)(pl:List Tr)(p t:Int):Int:=sm (M6 ws p (fX t)) pl
noncomputable def left(ws:List Wy)(pl:List Tr)(p t:Int):Int:=sm (M7 ws p (fX t)) pl
noncomputable def stP(ws:List Wy)(pl:List Tr)(p:Int)(P:Int->Bool):Int:=sm (fun x=>M6 ws p P x-M7 ws p P x) pl
theorem yW{ws:List Wy}{pl:List Tr}{p t:Int}:stP ws pl p (fX t)=come ws pl p t-left ws pl p t:=R6
noncomputable def LS(s:Sl)(ds:List D):Prop:=(∃b,s=.own b ds)\/∃b,s=.val b (.lst ds)
theorem lu{ρ:List Sl}{k:Nat}{s:Sl}{ds:List D}{e:Ev}(h:ρ[k]?=some s)(hs:LS s ds):∃s',srcOf (some k) e ρ=.ok ds (ρ.set k s')/\∀ρ',ρ'[k]?=some s'->bH ρ (some k) ρ'=ρ'.set k s:=by
 have hk:=(List.getElem?_eq_some_iff.mp h).1;rcases hs with⟨b,rfl⟩|⟨b,rfl⟩;.exact⟨.lent ds,by unfold srcOf;simp only[h],fun ρ' _=>by unfold bH;simp only[h]⟩
 . refine⟨.val b (.lst ds),?_,fun ρ' h'=>?_⟩;.unfold srcOf;simp only[h,sy,J3];obtain⟨h1,h2⟩:=List.getElem?_eq_some_iff.mp h;rw[<-h2,List.set_getElem_self]
   .unfold bH;simp only[h];obtain⟨h1,h2⟩:=List.getElem?_eq_some_iff.mp h';rw[<-h2,List.set_getElem_self]
noncomputable def LT(s:Sl)(ds:List D):Prop:=LS s ds\/s=.lent ds
noncomputable def gv{κ:Type}[DecidableEq κ](kvs:List (κ×Int))(k:κ):Int:=((kvs.find? fun kv=>decide (kv.1=k)).map (·.2)).getD 0
noncomputable def xG{κ:Type}(P:κ->Bool)(kvs:List (κ×Int)):Int:=sm (fun kv=>if P kv.1=true then kv.2 else 0) kvs
section
variable{κ:Type}[DecidableEq κ]
theorem lg{a k:κ}{b:Int}{r:List (κ×Int)}:gv ((a,b)::r) k=if a=k then b else gv r k:=by unfold gv;by_cases h:a=k<;>simp[h]
theorem Bw{k:κ}:∀{r:List (κ×Int)},k∉r.map (·.1)->gv r k=0|[],_=>rfl|(a,b)::r,h=>by simp at h;rw[lg,if_neg (fun e=>h.1 e.symm),Bw (r:=r) (by simpa using h.2)]
theorem Ce{a k:κ}{b v:Int}{r:List (κ×Int)}(hn:a∉r.map (·.1)):putD ((a,b)::r) k v=if a=k then(a,v)::r else(a,b)::putD r k v:=by
 unfold putD;by_cases h:a=k;.subst h;rw[if_pos (by simp),if_pos rfl];simp;refine(List.map_congr_left (g:=id) fun kv hkv=>?_).trans (by simp);rw[if_neg];rfl;intro e;exact hn (List.mem_map.mpr ⟨kv,hkv,e⟩)
 . rw[if_neg h];by_cases h2:(r.any fun kv=>decide (kv.1=k))=true;.rw[if_pos h2,if_pos (by simp[h2])];simp[h]
   .rw[if_neg h2,if_neg (by simp[h];simpa using h2)];simp
theorem j6{k:κ}{v:Int}:∀{r:List (κ×Int)},(r.map (·.1)).Nodup->((putD r k v).map (·.1)).Nodup/\(putD r k v).length<=r.length+1/\(∀j∈(putD r k v).map (·.1),j=k\/j∈r.map (·.1))/\∀P,xG P (putD r k v)=xG P r+if P k=true then v-gv r k else 0
 |[],_=>by simp[putD,xG,gv]|(a,b)::r,h=>by
   simp only[List.map_cons,List.nodup_cons]at h;obtain⟨i1,i2,i3,i4⟩:=j6 (k:=k) (v:=v) (r:=r) h.2;rw[Ce h.1];by_cases e:a=k;.subst e;rw[if_pos rfl];refine⟨by simpa using h,by simp,fun j hj=>.inr (by simpa using hj),fun P=>?_⟩;have:=Bw h.1;simp only[xG,aX,lg,if_true];split<;>omega
   . rw[if_neg e];refine⟨?_,by simp;omega,fun j hj=>?_,fun P=>?_⟩
     . simp only[List.map_cons,List.nodup_cons];refine⟨fun hm=>?_,i1⟩;rcases i3 a hm with z|z;.exact e z
       .exact h.1 z
     . simp only[List.map_cons,List.mem_cons]at hj ⊢;rcases hj with rfl|hj;.exact .inr (.inl rfl)
       . rcases i3 j hj with z|z;.exact .inl z
         .exact .inr (.inr z)
     .have:=i4 P;simp only[xG,aX,lg,if_neg e]at this ⊢;omega
theorem jf{P:κ->Bool}:∀{r:List (κ×Int)},(r.map (·.1)).Nodup->xG P r=sm (fun k=>if P k=true then gv r k else 0) (r.map (·.1))|[],_=>rfl|(a,b)::r,h=>by simp only[List.map_cons,List.nodup_cons]at h;have ih:=jf (P:=P) (r:=r) h.2;simp only[xG,aX,List.map_cons]at ih ⊢;rw[ih,lg,if_pos rfl];congr 1;refine dI fun k hk=>?_;have hne:¬ a=k:=fun e=>h.1 (by rw[e];exact hk);rw[lg,if_neg hne]
end
theorem uG{k:Int}:∀{r:List (Int×Int)},k∈r.map (·.1)->sO (.cg (.k r)) (.int k)=some (.val (.int (gv r k)))
 |[],h=>by simp at h|(a,b)::r,h=>by
   by_cases e:a=k;.simp[sO,Dc.get,gv,e]
   .simp at h;have ih:=uG (k:=k) (r:=r) (by rcases h with h|h;exact absurd h.symm e;simpa using h);simp[sO,Dc.get,gv,e]at ih ⊢;exact ih
end T
end
section
namespace T
open HH
theorem HF{c:Call}{x:Nat}{k d:P}{ρ:List Sl}:ev c (.Tg x k d) ρ=match ρ[x]?with
 |some (.cZ _)=>(dz (isVar k) (ev c k) ρ).bind fun kd ρ=>(dz (isVar d) (ev c d) ρ).bind fun dd ρ=>match ρ[x]?with|some (.cZ m)=>lift ((m.get kd).bind fun o=>(oh dd).map fun v=>.val (.int (o.getD v))) ρ|_=>.stuck
 |_=>.stuck:=(rfl)
theorem Lp{c:Call}{n x:Nat}{ρ:List Sl}:ex c n (.vf x false) ρ=match ρ[x]?with|some .aZ=>.ok .next (ρ.set x (.cZ (.k [])))|_=>.stuck:=(rfl)
theorem Bu{c:Call}{n x:Nat}{k e:P}{ρ:List Sl}:ex c n (.dput x k e) ρ=(ev c e ρ).bind fun r ρ=>match ρ[x]?with
 |some (.cZ _)=>(dz (isVar k) (ev c k) ρ).bind fun kd ρ=>match ρ[x]?,r with
   |some (.cZ m),.val (.int v)=>match m.put kd v with|some m'=>.ok .next (ρ.set x (.cZ m'))|none=>.stuck
   |_,_=>.stuck
 |_=>.stuck:=(rfl)
@[simp]theorem TF{x:Nat}{k d:P}:isVar (.Tg x k d)=none:=rfl
@[simp]theorem VM:uD .Ja=sO:=rfl
theorem nA{w n:Nat}{m h k:Int}{ws:List Wy}{Q:R->List Sl->Prop}(h0:0<=k)(h1:k<(ws.length:Int))(q:Q (.val (.int (h+(wy ws k).h))) [.val false (aY m ws),.val false (.int h),.val false (.int k)]):(run Γ w (n+1) 10 [.val false (aY m ws),.val false (.int h),.val false (.int k)]).sat Q:=by
 refine aN (d:=Z5) rfl rfl (by decide) ?_;first|apply aa|apply aq
 simpa[Z5,(pC h0 h1).1,Fy]using q
noncomputable def KP(ws:List Wy)(p:Int)(P:Int->Bool)(x:Tr):Int:=M6 ws p P x-M7 ws p P x
inductive JCh(ws:List Wy)(pl:List Tr)(p:Int)(a0 a1 a2:Sl)(r:List D)(ρ:List Sl):Prop where|mk(rest:List Tr)(kvs:List (Int×Int))(s4 s5 s6 s7:Sl)(q0:ρ=[a0,a1,a2,.cZ (.k kvs),s4,s5,s6,s7])(q1:A4 (fr s4=true) (fr s5=true) (fr s6=true) (fr s7=true))(q2:r=rest.map Tr.d)(q3:(∀x∈rest,yC ws x))(q4:(kvs.map (·.1)).Nodup)(q5:kvs.length+rest.length<=pl.length)(q6:∀P,xG P kvs+sm (KP ws p P) rest=sm (KP ws p P) pl)
theorem FZ{kvs:List (Int×Int)}{i:Int}:(Dc.get (.k kvs) (.int i))=some ((kvs.find? fun kv=>decide (kv.1=i)).map (·.2)):=rfl
theorem Od{kvs:List (Int×Int)}{i v:Int}(h:kvs.length<lim):Dc.put (.k kvs) (.int i) v=some (.k (putD kvs i v)):=by show(if _ then _ else _)=_;rw[if_pos h]
theorem gw{w n:Nat}{m p:Int}{ws:List Wy}{pl:List Tr}{s1:Sl}{Q:R->List Sl->Prop}(hs:LS s1 (pl.map Tr.d))(hw:∀x∈pl,yC ws x)(hne:∀v∈ws,v.s≠v.t)(hl:pl.length<=1000)(q:∀kvs:List (Int×Int),(kvs.map (·.1)).Nodup->kvs.length<=pl.length->(∀P,xG P kvs=stP ws pl p P)->Q (.val (.cg (.k kvs))) [.val false (aY m ws),s1,.val false (.int p)]):(run Γ w (n+2) 20 [.val false (aY m ws),s1,.val false (.int p)]).sat Q:=by
 refine aN (d:=Zc) rfl rfl (by decide) ?_;first|apply aa|apply aq
 simp[Zc,Lp];apply aa;obtain⟨s',e1,e2⟩:=lu (ρ:=[.val false (aY m ws),s1,.val false (.int p),.cZ (.k []),.aZ,.aZ,.aZ,.aZ]) (k:=1) (e:=ev (run Γ w (n+1)) (.var 1)) rfl hs;simp[-dB,-cY,e1];refine bZ (JCh ws pl p _ s' _) ?_ ?_ ⟨pl,[],.aZ,.aZ,.aZ,.aZ,rfl,⟨rfl,rfl,rfl,rfl⟩,rfl,hw,by simp,by simp,fun P=>by simp[xG]⟩;.rintro d r _⟨rest,kvs,s4,s5,s6,s7,rfl,⟨h4,h5,h6,h7⟩,hr,hi,hn,hk,hd⟩;cases rest with|nil=>cases hr|cons x rest=>
     obtain⟨rfl,rfl⟩:d=x.d/\r=rest.map Tr.d:=by simpa using hr
     have hx:=hi x (by simp);obtain⟨hg,hmem⟩:=pC hx.1 hx.2;have hne':=hne _ hmem;have hi':∀y∈rest,yC ws y:=fun y hy=>hi y (by simp[hy]);simp at hk;have hlim:kvs.length<lim:=by show _<16777216;omega
     simp[Tr.d,h4,h5,h6];by_cases c1:(wy ws x.w).t=p
     . have c2:(wy ws x.w).s≠p:=fun z=>hne' (z.trans c1.symm);obtain⟨p1,p2,p3,p4⟩:=j6 (k:=nM ws x) (v:=gv kvs (nM ws x)+x.l) hn;first|apply aa|apply aq
       simp[hg,nQ,c1];apply aa;simp;refine nA hx.1 hx.2 ?_;simp[h7];apply aa;simp[Bu,HF,FZ];rw[show(Option.map (fun x=>x.snd) (List.find? (fun kv=>decide (kv.fst=x.h+(wy ws x.w).h)) kvs)).getD 0=gv kvs (nM ws x)from rfl,Od hlim];simp;apply aa;simp[hg,nJ,c2];refine⟨rest,putD kvs (nM ws x) (gv kvs (nM ws x)+x.l),_,_,_,_,rfl,⟨rfl,rfl,rfl,rfl⟩,rfl,hi',p1,by omega,fun P=>?_⟩;have:=hd P;rw[p4 P];simp only[aX,KP,M6,M7,c1,c2,true_and,false_and,if_false]at this ⊢;split<;>split at this<;>simp_all<;>omega
     . by_cases c2:(wy ws x.w).s=p
       . obtain⟨p1,p2,p3,p4⟩:=j6 (k:=x.h) (v:=gv kvs x.h-x.l) hn;first|apply aa|apply aq
         simp[hg,nQ,c1];apply aa;simp[hg,nJ,c2];apply aa;simp[Bu,HF,FZ];rw[show(Option.map (fun x=>x.snd) (List.find? (fun kv=>decide (kv.fst=x.h)) kvs)).getD 0=gv kvs x.h from rfl,Od hlim];simp;refine⟨rest,_,_,_,_,_,rfl,⟨rfl,rfl,rfl,h7⟩,rfl,hi',p1,by omega,fun P=>?_⟩;have:=hd P;rw[p4 P];simp only[aX,KP,M6,M7,c1,c2,true_and,false_and,if_false]at this ⊢;split<;>split at this<;>simp_all<;>omega
       . first|apply aa|apply aq
         simp[hg,nQ,c1];apply aa;simp[hg,nJ,c2];refine⟨rest,_,_,_,_,_,rfl,⟨rfl,rfl,rfl,h7⟩,rfl,hi',hn,by omega,fun P=>?_⟩;have:=hd P;simp only[aX,KP,M6,M7,c1,c2,false_and,if_false]at this ⊢;omega
 . rintro _⟨rest,kvs,s4,s5,s6,s7,rfl,_,hr,hi,hn,hk,hd⟩;have hr':rest=[]:=by cases rest with|nil=>rfl|cons _ _=>cases hr
   subst hr';rw[e2 _ rfl];first|apply aa|apply aq
   simp;exact q kvs hn (by simpa using hk) fun P=>by have:=hd P;simp at this;exact this
inductive F5(a0 a1 a2 a3 a4:Sl)(ρ:List Sl):Prop where|mk(s:Sl)(q0:ρ=[a0,a1,a2,a3,a4,s])(q1:fr s=true)
end T
end
section
namespace T
open HH
theorem En{kvs:List (Int×Int)}:blt .keys [.cg (.k kvs)]=some (.val (.tup ((kvs.map (·.1)).map D.int))):=by show some _=some _;simp
theorem fsm{P:Int->Bool}{kvs:List (Int×Int)}:∀l:List Int,∃ns:List Int,(l.map D.int).filterMap (fun d=>if P (eZ d)=true then some (D.int (gv kvs (eZ d)))else none)=ns.map D.int/\ns.sum=sm (fun k=>if P k=true then gv kvs k else 0) l
 |[]=>⟨[],rfl,rfl⟩|k::l=>by
   obtain⟨ns,h1,h2⟩:=fsm (P:=P) (kvs:=kvs) l;by_cases h:P k=true;.exact⟨gv kvs k::ns,by simp[h];simpa using h1,by simp[h,h2]⟩
   .exact⟨ns,by simp[h];simpa using h1,by simp[h,h2]⟩
noncomputable def gK(P:Int->Bool)(kvs:List (Int×Int))(d:D):Option D:=if P (eZ d)=true then some (D.int (gv kvs (eZ d)))else none
theorem iI{w n:Nat}{m p t:Int}{ws:List Wy}{pl:List Tr}{s1:Sl}{Q:R->List Sl->Prop}(hs:LS s1 (pl.map Tr.d))(hw:∀x∈pl,yC ws x)(hne:∀v∈ws,v.s≠v.t)(hl:pl.length<=1000)(q:Q (.val (.int (stP ws pl p (fX t)))) [.val false (aY m ws),s1,.val false (.int p),.val false (.int t)]):(run Γ w (n+3) 25 [.val false (aY m ws),s1,.val false (.int p),.val false (.int t)]).sat Q:=by
 refine aN (d:=Yu) rfl rfl (by decide) ?_;refine uE (fun ρ=>∃kvs:List (Int×Int),ρ=[.val false (aY m ws),s1,.val false (.int p),.val false (.int t),.val false (.cg (.k kvs))]/\(kvs.map (·.1)).Nodup/\kvs.length<=pl.length/\∀P,xG P kvs=stP ws pl p P) ?_ ?_
 . rcases hs with⟨b,rfl⟩|⟨b,rfl⟩;.simp[Yu];refine gw (.inl ⟨_,rfl⟩) hw hne hl fun kvs h1 h2 h3=>?_;simp;exact⟨h1,h2,h3⟩
   .simp[Yu];refine gw (.inr ⟨_,rfl⟩) hw hne hl fun kvs h1 h2 h3=>?_;simp;exact⟨h1,h2,h3⟩
 . rintro _⟨kvs,rfl,h1,h2,h3⟩;first|apply aa|apply aq
   simp[En];refine⟨fun _=>?_,by show _<=16777216;omega⟩;refine mz (F5 _ _ _ _ _) (gK (fX t) kvs) ⟨.aZ,rfl,rfl⟩ ?_ ?_
   . rintro d hd _⟨s,rfl,hs⟩;obtain⟨⟨k,v⟩,hk,rfl⟩:=List.mem_map.mp hd;have hf:=uG (r:=kvs) (k:=k) (List.mem_map.mpr ⟨_,hk,rfl⟩);by_cases c:k<=t;.simp[hs,c,hf,gK,fX];exact⟨_,rfl,rfl⟩
     .simp[hs,c,gK,fX];exact⟨_,rfl,rfl⟩
   . rintro _⟨s,rfl,hs⟩;obtain⟨ns,e1,e2⟩:=fsm (P:=fX t) (kvs:=kvs) (kvs.map (·.1));rw[List.map_map]at e1;have e3:kvs.filterMap (gK (fX t) kvs ∘ D.int ∘ fun x=>x.1)=ns.map D.int:=by rw[<-List.filterMap_map];exact e1
     simp[e3];rw[e2,<-jf h1,h3];exact q
end T
end
section
namespace T
open HH
theorem wZ{w n:Nat}{m t:Int}{ws:List Wy}{pl:List Tr}{s1:Sl}{Q:R->List Sl->Prop}(hs:LS s1 (pl.map Tr.d))(hw:∀x∈pl,yC ws x)(hne:∀v∈ws,v.s≠v.t)(hl:pl.length<=1000)(q:Q (.val (.int (stP ws pl (m-1) (fX t)))) [.val false (aY m ws),s1,.val false (.int t)]):(run Γ w (n+4) 26 [.val false (aY m ws),s1,.val false (.int t)]).sat Q:=by
 refine aN (d:=Wt) rfl rfl (by decide) ?_;first|apply aa|apply aq
 rcases hs with⟨b,rfl⟩|⟨b,rfl⟩;.simp[Wt];refine iI (.inl ⟨_,rfl⟩) hw hne hl ?_;simpa using q
 .simp[Wt];refine iI (.inr ⟨_,rfl⟩) hw hne hl ?_;simpa using q
end T
end
section
namespace T
open HH
noncomputable def pre(kvs:List (Int×Int)):Int->List Int->Bool|_,[]=>true|st,k::r=>if st+gv kvs k<0 then false else pre kvs (st+gv kvs k) r
theorem Am{kvs:List (Int×Int)}:∀{ks:List Int}{st:Int},ks.Pairwise (·<·)->(pre kvs st ks=true↔∀t,(∃k∈ks,k<=t)->0<=st+sm (fun k=>if fX t k=true then gv kvs k else 0) ks)
 |[],st,_=>by simp[pre]|k::r,st,h=>by
   rw[List.pairwise_cons]at h;have ih:=Am (kvs:=kvs) (ks:=r) (st:=st+gv kvs k) h.2;have z:∀t,¬(∃j∈r,j<=t)->sm (fun k=>if fX t k=true then gv kvs k else 0) r=0:=fun t hn=>jB fun j hj=>by rw[if_neg];simp only[fX,decide_eq_true_eq];intro hle;exact hn ⟨j,hj,hle⟩
   rw[pre];by_cases c:st+gv kvs k<0;.rw[if_pos c];refine⟨fun q=>(by cases q),fun q=>?_⟩;have:=q k ⟨k,by simp,Int.le_refl _⟩;rw[aX,z k (fun⟨j,hj,hle⟩=>by have:=h.1 j hj;omega)]at this;simp[fX]at this;omega
   . rw[if_neg c,ih];constructor
     . intro q t⟨j,hj,hle⟩;have hk:k<=t:=by
        rcases List.mem_cons.mp hj with rfl|hj;.exact hle
        .have:=h.1 j hj;omega
       have e:(if fX t k=true then gv kvs k else 0)=gv kvs k:=by simp[fX,hk]
       rw[aX,e];by_cases hr:∃j∈r,j<=t;.have:=q t hr;omega
       .rw[z t hr];omega
     . intro q t⟨j,hj,hle⟩;have hk:k<=t:=by have:=h.1 j hj;omega
       have:=q t ⟨k,by simp,hk⟩;have e:(if fX t k=true then gv kvs k else 0)=gv kvs k:=by simp[fX,hk]
       rw[aX,e]at this;omega
theorem Jq{kvs:List (Int×Int)}{ks:List Int}(hn:(kvs.map (·.1)).Nodup)(hp:ks.Perm (kvs.map (·.1)))(hs:ks.Pairwise (·<=·)):pre kvs 0 ks=true↔∀t,0<=xG (fX t) kvs:=by
 have hlt:ks.Pairwise (·<·):=by have hd:ks.Pairwise (·≠·):=hp.nodup_iff.mpr hn;exact(hs.and hd).imp fun⟨h1,h2⟩=>by omega
 rw[Am hlt];have e:∀t,xG (fX t) kvs=sm (fun k=>if fX t k=true then gv kvs k else 0) ks:=fun t=>by rw[jf hn];exact(uW hp).symm
 constructor
 . intro q t;by_cases c:∃k∈ks,k<=t;.have:=q t c;rw[e];omega
   .rw[e,jB fun j hj=>by rw[if_neg];simp only[fX,decide_eq_true_eq];intro hle;exact c ⟨j,hj,hle⟩];exact Int.le_refl _
 .intro q t _;have:=q t;rw[e]at this;omega
theorem G9{ns:List Int}:∃ks:List Int,jG (ns.map D.int)=ks.map D.int/\ks.Perm ns/\ks.Pairwise (·<=·):=by
 have hp:=kZ (ns.map D.int);have hs:=jY (ns.map D.int);have e:jG (ns.map D.int)=((jG (ns.map D.int)).map eZ).map D.int:=by rw[List.map_map];refine((List.map_congr_left fun d hd=>?_).trans (List.map_id _)).symm;obtain⟨i,_,rfl⟩:=List.mem_map.mp (hp.mem_iff.mp hd);rfl
 refine⟨_,e,?_,?_⟩;.have:=hp.map eZ;rw[List.map_map]at this;exact this.trans (.of_eq ((List.map_congr_left fun d _=>rfl).trans (List.map_id _)))
 .rw[List.pairwise_map];refine hs.imp_of_mem fun{a b}ha hb h=>?_;obtain⟨i,_,rfl⟩:=List.mem_map.mp (hp.mem_iff.mp ha);obtain⟨j,_,rfl⟩:=List.mem_map.mp (hp.mem_iff.mp hb);simp[lr,bQ,bu]at h;show i<=j;omega
theorem DW{kvs:List (Int×Int)}(h:kvs.length<1000):blt .xO [.cg (.k kvs)]=some (.own (jG ((kvs.map (·.1)).map D.int))):=by
 have e:(kvs.map fun p=>D.int p.1)=(kvs.map (·.1)).map D.int:=by simp
 show(if _ then _ else _)=_;rw[if_pos,e];rw[e];have h:=(show kvs.length<=16777216 by omega);simp[sortable,h,dC]
inductive JNs(kvs:List (Int×Int))(b:Bool)(a0 a1 a2 a3:Sl)(r:List D)(ρ:List Sl):Prop where|mk(ks:List Int)(st:Int)(s:Sl)(q0:ρ=[a0,a1,a2,a3,.val false (.int st),s])(q1:fr s=true)(q2:r=ks.map D.int)(q3:(∀k∈ks,k∈kvs.map (·.1)))(q4:pre kvs st ks=b)
theorem sE{w n:Nat}{m p:Int}{ws:List Wy}{pl:List Tr}{s1:Sl}{Q:R->List Sl->Prop}(hs1:LS s1 (pl.map Tr.d))(hw:∀x∈pl,yC ws x)(hne:∀v∈ws,v.s≠v.t)(hl:pl.length<1000)(q:∀r:Bool,(r=true↔∀t,0<=stP ws pl p (fX t))->Q (.val (.bl r)) [.val false (aY m ws),s1,.val false (.int p)]):(run Γ w (n+3) 21 [.val false (aY m ws),s1,.val false (.int p)]).sat Q:=by
 refine aN (d:=VL) rfl rfl (by decide) ?_;refine uE (fun ρ=>∃kvs:List (Int×Int),ρ=[.val false (aY m ws),s1,.val false (.int p),.val false (.cg (.k kvs)),.aZ,.aZ]/\(kvs.map (·.1)).Nodup/\kvs.length<=pl.length/\∀P,xG P kvs=stP ws pl p P) ?_ ?_
 . rcases hs1 with⟨b,rfl⟩|⟨b,rfl⟩;.simp[VL];refine gw (.inl ⟨_,rfl⟩) hw hne (by omega) fun kvs h1 h2 h3=>?_;simp;exact⟨h1,h2,h3⟩
   .simp[VL];refine gw (.inr ⟨_,rfl⟩) hw hne (by omega) fun kvs h1 h2 h3=>?_;simp;exact⟨h1,h2,h3⟩
 rintro _⟨kvs,rfl,h1,h2,h3⟩;first|apply aa|apply aq
 simp;apply aa;obtain⟨ks,e,hp,hs⟩:=G9 (ns:=kvs.map (·.1));have hq:=q _ ((Jq h1 hp hs).trans ⟨fun z t=>by rw[<-h3];exact z t,fun z t=>by rw[h3];exact z t⟩);simp[DW (show kvs.length<1000 by omega)];rw[List.map_map]at e;have e':jG (kvs.map (D.int ∘ fun x=>x.1))=ks.map D.int:=e;simp[e'];refine bZ (JNs kvs (pre kvs 0 ks) _ _ _ _) ?_ ?_ ⟨ks,0,.aZ,rfl,rfl,rfl,fun k hk=>hp.mem_iff.mp hk,rfl⟩;.rintro d r _⟨ks',st,s,rfl,hf,hr,hk,hb⟩;cases ks' with|nil=>cases hr|cons k ks'=>
     obtain⟨rfl,rfl⟩:d=.int k/\r=ks'.map D.int:=by simpa using hr
     have hg:=uG (r:=kvs) (hk k (by simp));simp[hf];apply aa;simp[hg];apply aa;rw[pre]at hb;by_cases c:st+gv kvs k<0;.rw[if_pos c]at hb;simp[c];apply aa;simp;rw[<-hb]at hq;exact hq
     .rw[if_neg c]at hb;simp[c];exact⟨ks',_,_,rfl,rfl,rfl,fun j hj=>hk j (by simp[hj]),hb⟩
 . rintro _⟨ks',st,s,rfl,hf,hr,hk,hb⟩;have hr':ks'=[]:=by cases ks' with|nil=>rfl|cons _ _=>cases hr
   subst hr';rw[pre]at hb;first|apply aa|apply aq
   simp;rw[<-hb]at hq;exact hq
end T
end
section
namespace T
open HH
noncomputable def dH:List Tr->Bool|a::b::r=>bu [a.h,a.w] [b.h,b.w]&&dH (b::r)|_=>true
noncomputable def Tr.k(x:Tr):D:=.tup [.int x.h,.int x.w]
theorem rE:∀pl:List Tr,(((pl.map Tr.k).zip (pl.map Tr.k).tail).map fun p=>bu (bQ p.1) (bQ p.2)).all id=dH pl|[]=>rfl|[_]=>rfl|a::b::r=>by have ih:=rE (b::r);simp only[List.map_cons,List.tail_cons,List.zip_cons_cons,List.all_cons,dH]at ih ⊢;rw[ih];rfl
noncomputable def RV:D->D|.tup [a,b]=>.bl (bu (bQ a) (bQ b))|d=>d
inductive F1(a0:Sl)(ρ:List Sl):Prop where|mk(s:Sl)(t:Sl)(q0:ρ=[a0,s,t])(q1:fr s=true)(q2:fr t=true)
theorem aa8{a b:Tr}:cm .lt a.k b.k=some (bu (bQ a.k) (bQ b.k)):=rfl
theorem zr{w n:Nat}{b:Bool}{pl:List Tr}{Q:R->List Sl->Prop}(hl:pl.length<=1000)(q:Q (.val (.bl (dH pl))) [.val b (.lst (pl.map Tr.k))]):(run Γ w (n+1) 2 [.own b (pl.map Tr.k)]).sat Q:=by
 refine aN (d:=f2) rfl rfl (by decide) ?_;first|apply aa|apply aq
 have ec:cut (pl.map Tr.k) (some 1) none=(pl.map Tr.k).tail:=by cases pl with|nil=>rfl|cons a r=>simp[cut,cX];exact List.take_of_length_le (by simp)
 simp[f2,JR,part,FJ,ec];refine⟨fun _=>?_,by show _<=16777217;omega⟩;refine bf (F1 _) RV ⟨.aZ,.aZ,rfl,rfl,rfl⟩ ?_ ?_;.rintro d hd _⟨s,t,rfl,hs,ht⟩;obtain⟨⟨x,y⟩,hxy,rfl⟩:=List.mem_map.mp hd;have hx:=List.of_mem_zip hxy;obtain⟨a,_,rfl⟩:=List.mem_map.mp hx.1;obtain⟨c,_,rfl⟩:=List.mem_map.mp (List.mem_of_mem_tail hx.2);simp[hs,ht,aa8,RV];exact⟨_,_,rfl,rfl,rfl⟩
 . rintro _⟨s,t,rfl,hs,ht⟩;have e:=rE pl;have e2:(((pl.map Tr.k).zip (pl.map Tr.k).tail).map fun p=>D.tup [p.1,p.2]).map RV=((((pl.map Tr.k).zip (pl.map Tr.k).tail).map fun p=>bu (bQ p.1) (bQ p.2))).map D.bl:=by rw[List.map_map,List.map_map];rfl
   rw[e2];simp only[mO,ju,eO,Option.map_some,bN,bT,jX,e];simp;exact q
noncomputable def Eg(x:Tr):Bool:=decide (0<=x.h)&&decide (1<=x.l)
noncomputable def ZC(d:D):D:=.bl (Eg (CV d))
noncomputable def Qv(d:D):D:=(CV d).k
inductive F3(a0:Sl)(ρ:List Sl):Prop where|mk(s:Sl)(t:Sl)(u:Sl)(q0:ρ=[a0,s,t,u])(q1:fr s=true)(q2:fr t=true)(q3:fr u=true)
theorem qw{w n:Nat}{s0:Sl}{pl:List Tr}{Q:R->List Sl->Prop}(hs0:LS s0 (pl.map Tr.d))(hl:pl.length<=1000)(q:Q (.val (.bl (pl.all Eg&&dH pl))) [s0]):(run Γ w (n+2) 18 [s0]).sat Q:=by
 have hlim:pl.length<=lim:=by show _<=16777216;omega
 refine aN (d:=f18) rfl rfl (by decide) ?_;first|apply aa|apply aq
 obtain⟨s',e1,e2⟩:=lu (ρ:=[s0]) (k:=0) (e:=ev (run Γ w (n+1)) (.var 0)) rfl hs0;simp[f18,-dB,-cY,e1,hlim];refine bf (F3 _) ZC ⟨.aZ,.aZ,.aZ,rfl,rfl,rfl,rfl⟩ ?_ ?_
 . rintro d hd _⟨s,t,u,rfl,hs,ht,hu⟩;obtain⟨x,_,rfl⟩:=List.mem_map.mp hd;by_cases c:0<=x.h;.simp[hs,ht,hu,Tr.d,c,ZC,Eg];first|exact⟨_,_,_,rfl,rfl,rfl,rfl⟩|exact⟨rfl,_,_,_,rfl,rfl,rfl,rfl⟩
   .simp[hs,ht,hu,Tr.d,c,ZC,Eg];first|exact⟨_,_,_,rfl,rfl,rfl,rfl⟩|exact⟨rfl,_,_,_,rfl,rfl,rfl,rfl⟩
 rintro _⟨s,t,u,rfl,hs,ht,hu⟩;have e3:(pl.map Tr.d).map ZC=(pl.map Eg).map D.bl:=by rw[List.map_map,List.map_map];rfl
 have e4:(pl.map Eg).all id=pl.all Eg:=by rw[List.all_map];rfl
 rw[e3];simp only[List.take_succ_cons,List.take_zero];rw[e2 _ rfl];simp only[mO,ju,eO,Option.map_some,bN,bT,jX,e4];simp only[yM,zp,bN,List.set_cons_zero];cases hc:pl.all Eg with|false=>rw[hc]at q;simp;apply aa;simp;simpa using q|true=>
   rw[hc]at q;simp;apply aa;simp[-dB,-cY,e1,hlim];refine bf (F3 _) Qv ⟨.aZ,.aZ,.aZ,rfl,rfl,rfl,rfl⟩ ?_ ?_;.rintro d hd _⟨s,t,u,rfl,hs,ht,hu⟩;obtain⟨x,_,rfl⟩:=List.mem_map.mp hd;simp[hs,ht,hu,Tr.d,Qv];first|exact⟨_,_,_,rfl,rfl,rfl,rfl⟩|exact⟨rfl,_,_,_,rfl,rfl,rfl,rfl⟩
   rintro _⟨s,t,u,rfl,hs,ht,hu⟩;have e5:(pl.map Tr.d).map Qv=pl.map Tr.k:=by rw[List.map_map];rfl
   rw[e5];simp only[List.take_succ_cons,List.take_zero];rw[e2 _ rfl];simp;refine zr hl ?_;simpa using q
noncomputable def CZ(ws:List Wy)(last:Int)(x:Tr):Prop:=yC ws x/\x.l<=(wy ws x.w).r/\nM ws x<=last
noncomputable def nU(ws:List Wy)(last:Int)(x:Tr):Bool:=@decide (CZ ws last x) (Classical.propDecidable _)
theorem qd{ws:List Wy}{last:Int}{x:Tr}:nU ws last x=true↔CZ ws last x:=by unfold nU;simp
theorem uo{ws:List Wy}{last:Int}{x:Tr}(h:¬ CZ ws last x):nU ws last x=false:=by unfold nU;simp[h]
theorem GD{w n:Nat}{m last:Int}{ws:List Wy}{x:Tr}{Q:R->List Sl->Prop}(q:Q (.val (.bl (nU ws last x))) [.val false (aY m ws),.val false (.int last),.val false x.d]):(run Γ w (n+2) 19 [.val false (aY m ws),.val false (.int last),.val false x.d]).sat Q:=by
 refine aN (d:=Ph) rfl rfl (by decide) ?_;first|apply aa|apply aq
 by_cases c0:0<=x.w
 . by_cases c1:x.w<(ws.length:Int)
   . obtain⟨hg,hm⟩:=pC c0 c1;by_cases c2:x.l<=(wy ws x.w).r
     . simp[Ph,abA,Mh,Rp,c0,c1,hg,vH,c2];refine nA c0 c1 ?_;simp;have:nU ws last x=decide (x.h+(wy ws x.w).h<=last):=by rw[Bool.eq_iff_iff,qd,decide_eq_true_eq];exact⟨fun h=>h.2.2,fun h=>⟨⟨c0,c1⟩,c2,h⟩⟩
       rw[this]at q;exact q
     .rw[uo fun h=>c2 h.2.1]at q;simp[Ph,Mh,Rp,c0,c1,hg,vH,c2];exact q
   .rw[uo fun h=>c1 h.1.2]at q;simp[Ph,Mh,c0,c1];exact q
 .rw[uo fun h=>c0 h.1.1]at q;simp[Ph,Mh,c0];exact q
inductive F3b(a0 a1 a2:Sl)(ρ:List Sl):Prop where|mk(s:Sl)(q0:ρ=[a0,a1,a2,s])(q1:fr s=true)
structure kj(m:Int)(ws:List Wy)(last:Int)(pl:List Tr):Prop where
 ok:pl.all Eg=true
 Cd:dH pl=true
 fit:∀x∈pl,CZ ws last x
 st:∀p,1<=p->p<m->∀t,0<=stP ws pl p (fX t)
noncomputable def RQ(ws:List Wy)(last:Int)(d:D):D:=.bl (nU ws last (CV d))
theorem Tc{ws:List Wy}{last:Int}{x:Tr}:RQ ws last x.d=.bl (nU ws last x):=rfl
noncomputable def iC(ws:List Wy)(pl:List Tr)(p:Int):Bool:=@decide (∀t,0<=stP ws pl p (fX t)) (Classical.propDecidable _)
noncomputable def yg(ws:List Wy)(pl:List Tr)(d:D):D:=.bl (iC ws pl (eZ d))
theorem run_eq{x:Res R}{r:R}{ρ:List Sl}(h:x.sat fun a b=>a=r/\b=ρ):x=.ok r ρ:=by obtain⟨a,b,e,rfl,rfl⟩:=sat_iff.mp h;exact e
theorem Dg{w n:Nat}{a0 a1 s2:Sl}{pl:List Tr}(hs:LS s2 (pl.map Tr.d))(hl:pl.length<=1000):ev (run Γ w (n+2)) (.call 18 [.var 2]) [a0,a1,s2]=.ok (.val (.bl (pl.all Eg&&dH pl))) [a0,a1,s2]:=by
 refine run_eq ?_;rcases hs with⟨b,rfl⟩|⟨b,rfl⟩;.simp;refine qw (.inl ⟨_,rfl⟩) hl ?_;simp
 .simp;refine qw (.inr ⟨_,rfl⟩) hl ?_;simp
theorem Hm{w n:Nat}{m p:Int}{a1 s2:Sl}{ws:List Wy}{pl:List Tr}(hs:LS s2 (pl.map Tr.d))(hw:∀x∈pl,yC ws x)(hne:∀v∈ws,v.s≠v.t)(hl:pl.length<1000):ev (run Γ w (n+3)) (.call 21 [.var 0,.var 2,.var 3]) [.val false (aY m ws),a1,s2,.val false (.int p)]=.ok (.val (.bl (iC ws pl p))) [.val false (aY m ws),a1,s2,.val false (.int p)]:=by
 have e:∀r:Bool,(r=true↔∀t,0<=stP ws pl p (fX t))->r=iC ws pl p:=fun r hr=>by rw[Bool.eq_iff_iff,hr];unfold iC;simp
 refine run_eq ?_;rcases hs with⟨b,rfl⟩|⟨b,rfl⟩;.simp;refine sE (.inl ⟨_,rfl⟩) hw hne hl fun r hr=>?_;simp[e r hr]
 .simp;refine sE (.inr ⟨_,rfl⟩) hw hne hl fun r hr=>?_;simp[e r hr]
theorem jU{w n:Nat}{m last:Int}{s2:Sl}{ws:List Wy}{pl:List Tr}{Q:R->List Sl->Prop}(hs2:LS s2 (pl.map Tr.d))(hm:0<=m/\m<=1000)(hne:∀v∈ws,v.s≠v.t)(hl:pl.length<1000)(q:∀r:Bool,(r=true↔kj m ws last pl)->Q (.val (.bl r)) [.val false (aY m ws),.val false (.int last),s2]):(run Γ w (n+4) 22 [.val false (aY m ws),.val false (.int last),s2]).sat Q:=by
 have hlim:pl.length<=lim:=by show _<=16777216;omega
 refine aN (d:=Zk) rfl rfl (by decide) ?_;first|apply aa|apply aq
 obtain⟨s',g1,g2⟩:=lu (ρ:=[.val false (aY m ws),.val false (.int last),s2]) (k:=2) (e:=ev (run Γ w (n+3)) (.var 2)) rfl hs2;simp[Zk,-uq,Dg hs2 (show pl.length<=1000 by omega),-dB,-cY];refine⟨fun c1=>?_,fun c1 c2=>?_⟩
 . first|apply aa|apply aq
   simp;refine q false ⟨fun h=>(by cases h),fun h=>?_⟩;rcases c1 with⟨x,hx,hz⟩|hz;.have:=List.all_eq_true.mp h.ok x hx;rw[hz]at this;cases this
   .have:=h.Cd;rw[hz]at this;cases this
 simp[g1,hlim,-dB,-cY];refine bf (F3b _ _ _) (RQ ws last) ⟨.aZ,rfl,rfl⟩ ?_ ?_;.rintro d hd _⟨s,rfl,hs⟩;obtain⟨x,_,rfl⟩:=List.mem_map.mp hd;simp[hs];refine GD ?_;simp[Tc];exact⟨_,rfl,rfl⟩
 rintro _⟨s,rfl,hs⟩;have e1:(pl.map Tr.d).map (RQ ws last)=(pl.map (nU ws last)).map D.bl:=by rw[List.map_map,List.map_map];rfl
 have e4:(pl.map (nU ws last)).all id=pl.all (nU ws last):=by rw[List.all_map];rfl
 rw[e1];simp only[List.take_succ_cons,List.take_zero];rw[g2 _ rfl];simp only[mO,ju,eO,Option.map_some,bN,bT,jX,e4];simp only[yM,zp,bN,List.set_cons_zero,List.set_cons_succ];cases hc:pl.all (nU ws last)with|false=>simp;apply aa;simp;refine q false ⟨fun h=>(by cases h),fun h=>?_⟩;rw[List.all_eq_true.mpr fun x hx=>qd.mpr (h.fit x hx)]at hc;cases hc|true=>
   have hf:∀x∈pl,CZ ws last x:=fun x hx=>qd.mp (List.all_eq_true.mp hc x hx);simp;apply aa;simp[show m<=1000000000 by omega,show-1000000000<=m by omega];refine⟨fun _=>?_,by omega⟩;refine bf (F3b _ _ _) (yg ws pl) ⟨.aZ,rfl,rfl⟩ ?_ ?_;.rintro d hd _⟨s,rfl,hs⟩;obtain⟨k,_,rfl⟩:=List.mem_map.mp hd;simp[hs,-uq,Hm hs2 (fun x hx=>(hf x hx).1) hne hl,yg];exact⟨_,rfl,rfl⟩
   rintro _⟨s,rfl,hs⟩;generalize hL:(List.range (m.toNat-1)).map (fun(k:Nat)=>(1+(k:Int)))=L;have e2:((List.range (m.toNat-1)).map fun(k:Nat)=>D.int (1+(k:Int))).map (yg ws pl)=(L.map (iC ws pl)).map D.bl:=by rw[<-hL,List.map_map,List.map_map,List.map_map];rfl
   have e5:(L.map (iC ws pl)).all id=L.all (iC ws pl):=by rw[List.all_map];rfl
   rw[e2];simp only[mO,ju,eO,Option.map_some,bN,bT,jX,e5];simp;refine q _ ?_;rw[List.all_eq_true];constructor
   . intro h;refine⟨?_,?_,hf,fun p h1 h2=>?_⟩;.rw[List.all_eq_true];exact c1
     .exact c2
     . have:p∈L:=by rw[<-hL,List.mem_map];exact⟨(p-1).toNat,by rw[List.mem_range];omega,by omega⟩
       have:=h p this;unfold iC at this;simpa using this
   .intro h p hp;rw[<-hL,List.mem_map]at hp;obtain⟨k,hk,rfl⟩:=hp;rw[List.mem_range]at hk;unfold iC;simp only[decide_eq_true_eq];exact h.st _ (by omega) (by omega)
end T
end
section
namespace T
open HH
noncomputable def sS(a b:Tr):Prop:=a.h<b.h\/a.h=b.h/\a.w<b.w
theorem Ar{a b:Tr}:bu [a.h,a.w] [b.h,b.w]=true↔sS a b:=by simp[bu,sS]
theorem eN:∀{pl:List Tr},dH pl=true↔pl.Pairwise sS
 |[]=>by simp[dH]|[a]=>by simp[dH]|a::b::r=>by
   have ih:=eN (pl:=b::r);simp only[dH,Bool.and_eq_true,Ar,ih];rw[List.pairwise_cons (a:=a)];refine⟨fun⟨h1,h2⟩=>⟨fun c hc=>?_,h2⟩,fun⟨h1,h2⟩=>⟨h1 b (by simp),h2⟩⟩;rcases List.mem_cons.mp hc with rfl|hc;.exact h1
   .have:=(List.pairwise_cons.mp h2).1 c hc;unfold sS at*;omega
noncomputable def neT(a b:Tr):Prop:=¬(a.h=b.h/\a.w=b.w)
end T
end
section
namespace T
open HH
theorem Bv{c:Call}{x:Nat}{ks:List P}{d:P}{ρ:List Sl}:ev c (.zB x ks d) ρ=match ρ[x]?with
 |some (.cZ _)=>(evs c ks ρ).bind fun m8 ρ=>(dz (isVar d) (ev c d) ρ).bind fun dd ρ=>match ρ[x]?with|some (.cZ m)=>lift ((m.uJ m8).bind fun o=>(oh dd).map fun v=>.val (.int (o.getD v))) ρ|_=>.stuck
 |_=>.stuck:=(rfl)
theorem Gm{c:Call}{x:Nat}{ks:List P}{ρ:List Sl}:ev c (.Th x ks) ρ=(lift (pk ρ x) ρ).bind fun _ ρ=>(evs c ks ρ).bind fun m8 ρ=>(lift (pk ρ x) ρ).bind fun dd ρ=>lift (qD dd m8) ρ:=(rfl)
theorem Ng{c:Call}{x:Nat}{ρ:List Sl}:ev c (.vw x) ρ=match ρ[x]?with|some (.cZ m)=>.ok (.val (.cg m)) (ρ.set x (.val false (.cg m)))|_=>.stuck:=(rfl)
theorem xq{c:Call}{n x:Nat}{ρ:List Sl}:ex c n (.vf x true) ρ=match ρ[x]?with|some .aZ=>.ok .next (ρ.set x (.cZ (.t [])))|_=>.stuck:=(rfl)
theorem xH{c:Call}{n x:Nat}{ks:List P}{e:P}{ρ:List Sl}:ex c n (.tu x ks e) ρ=(ev c e ρ).bind fun r ρ=>match ρ[x]?with
 |some (.cZ _)=>(evs c ks ρ).bind fun m8 ρ=>match ρ[x]?,r with
   |some (.cZ m),.val (.int v)=>match m.KQ m8 v with|some m'=>.ok .next (ρ.set x (.cZ m'))|none=>.stuck
   |_,_=>.stuck
 |_=>.stuck:=(rfl)
@[simp]theorem Ow{x:Nat}{ks:List P}{d:P}:isVar (.zB x ks d)=none:=rfl
@[simp]theorem U0{x:Nat}{ks:List P}:isVar (.Th x ks)=none:=rfl
@[simp]theorem Vl{x:Nat}:isVar (.vw x)=none:=rfl
theorem oU{kvs:List (List Int×Int)}{a b:Int}:Dc.uJ (.t kvs) [.int a,.int b]=some ((kvs.find? fun kv=>decide (kv.1=[a,b])).map (·.2)):=rfl
theorem Hk{kvs:List (List Int×Int)}{a b v:Int}(h:kvs.length<lim):Dc.KQ (.t kvs) [.int a,.int b] v=some (.t (putD kvs [a,b] v)):=by show(if _ then _ else _)=_;rw[if_pos ⟨rfl,h⟩];rfl
noncomputable def Tr.kz(x:Tr):List Int:=[x.h,x.w]
noncomputable def wl(P:List Int->Bool)(x:Tr):Int:=if P x.kz=true then x.l else 0
inductive JLd(all:List Tr)(a0 a1:Sl)(r:List D)(ρ:List Sl):Prop where|mk(rest:List Tr)(kvs:List (List Int×Int))(s3 s4 s5:Sl)(q0:ρ=[a0,a1,.cZ (.t kvs),s3,s4,s5])(q1:A3 (fr s3=true) (fr s4=true) (fr s5=true))(q2:r=rest.map Tr.d)(q3:(kvs.map (·.1)).Nodup)(q4:kvs.length+rest.length<=all.length)(q5:(∀k∈kvs.map (·.1),∃x∈all,k=x.kz))(q6:(∀x∈rest,x∈all))(q7:∀P,xG P kvs+sm (wl P) rest=sm (wl P) all)
theorem pR{k:List Int}:∀{r:List (List Int×Int)},k∈r.map (·.1)->(r.find? fun kv=>decide (kv.1=k)).map (·.2)=some (gv r k)
 |[],h=>by simp at h|(a,b)::r,h=>by
   by_cases e:a=k;.simp[gv,e]
   .simp at h;have ih:=pR (k:=k) (r:=r) (by rcases h with h|h;exact absurd h.symm e;simpa using h);simp[gv,e]at ih ⊢;exact ih
noncomputable def Nt(kvs:List (List Int×Int))(k:List Int):Tr:=⟨k.headD 0,k.tail.headD 0,gv kvs k⟩
inductive F6l(a0 a1 a2 a3 a4 a5:Sl)(ρ:List Sl):Prop where|mk(s:Sl)(t:Sl)(q0:ρ=[a0,a1,a2,a3,a4,a5,s,t])(q1:fr s=true)(q2:fr t=true)
noncomputable def keyOf:D->List Int|.tup ds=>ds.map eZ|_=>[]
theorem pY{kvs:List (List Int×Int)}(h:kvs.length<1000)(hk:∀k∈kvs.map (·.1),∃x:Tr,k=x.kz):blt .qI [.cg (.t kvs)]=some (.own (jG (kvs.map fun p=>.tup (p.1.map D.int)))):=by show(if _ then _ else _)=_;rw[if_pos];have h:=(show kvs.length<=16777216 by omega);simp only[sortable,List.length_map,h,decide_true,Bool.true_and,Bool.or_eq_true];right;rw[List.all_eq_true];intro d hd;obtain⟨p,hp,rfl⟩:=List.mem_map.mp hd;obtain⟨x,e⟩:=hk p.1 (List.mem_map.mpr ⟨p,hp,rfl⟩);rw[e];rfl
theorem xj{kvs:List (List Int×Int)}(hn:(kvs.map (·.1)).Nodup)(hk:∀k∈kvs.map (·.1),∃x:Tr,k=x.kz):∃ks:List Tr,(jG (kvs.map fun p=>.tup (p.1.map D.int)))=ks.map (fun y=>D.tup [.int y.h,.int y.w])/\(ks.map Tr.kz).Perm (kvs.map (·.1))/\(∀y∈ks,y.l=gv kvs y.kz)/\dH ks=true:=by
 have hp:=kZ (kvs.map fun p=>D.tup (p.1.map D.int));have hs:=jY (kvs.map fun p=>D.tup (p.1.map D.int));have hmem:∀d∈jG (kvs.map fun p=>D.tup (p.1.map D.int)),∃x:Tr,x.kz∈kvs.map (·.1)/\d=.tup [.int x.h,.int x.w]:=fun d hd=>by obtain⟨p,hp,rfl⟩:=List.mem_map.mp (hp.mem_iff.mp hd);have h1:p.1∈kvs.map (·.1):=List.mem_map.mpr ⟨p,hp,rfl⟩;obtain⟨x,e⟩:=hk p.1 h1;exact⟨x,by rw[<-e];exact h1,by rw[e];rfl⟩
 have e1:jG (kvs.map fun p=>D.tup (p.1.map D.int))=((jG (kvs.map fun p=>D.tup (p.1.map D.int))).map fun d=>Nt kvs (keyOf d)).map fun y=>D.tup [.int y.h,.int y.w]:=by rw[List.map_map];refine((List.map_congr_left fun d hd=>?_).trans (List.map_id _)).symm;obtain⟨x,_,rfl⟩:=hmem d hd;rfl
 have e2:((jG (kvs.map fun p=>D.tup (p.1.map D.int))).map fun d=>Nt kvs (keyOf d)).map Tr.kz=(jG (kvs.map fun p=>D.tup (p.1.map D.int))).map keyOf:=by rw[List.map_map];refine List.map_congr_left fun d hd=>?_;obtain⟨x,_,rfl⟩:=hmem d hd;rfl
 have pk:((jG (kvs.map fun p=>D.tup (p.1.map D.int))).map keyOf).Perm (kvs.map (·.1)):=by have:=hp.map keyOf;rw[List.map_map]at this;refine this.trans (.of_eq (List.map_congr_left fun p hp=>?_));obtain⟨x,e⟩:=hk p.1 (List.mem_map.mpr ⟨p,hp,rfl⟩);show keyOf (.tup (p.1.map D.int))=p.1;rw[e];rfl
 refine⟨_,e1,by rw[e2];exact pk,fun y hy=>?_,?_⟩;.obtain⟨d,hd,rfl⟩:=List.mem_map.mp hy;obtain⟨x,_,rfl⟩:=hmem d hd;rfl
 . rw[eN,List.pairwise_map];have hnd:(jG (kvs.map fun p=>D.tup (p.1.map D.int))).Pairwise fun a b=>keyOf a≠keyOf b:=by have:=pk.nodup_iff.mpr hn;rw[List.Nodup,List.pairwise_map]at this;exact this
   refine(hs.and hnd).imp_of_mem fun{a b}ha hb⟨h1,h2⟩=>?_;obtain⟨x,_,rfl⟩:=hmem a ha;obtain⟨y,_,rfl⟩:=hmem b hb;have h2':¬(x.h=y.h/\x.w=y.w):=fun⟨z1,z2⟩=>h2 (by show[x.h,x.w]=[y.h,y.w];rw[z1,z2]);have h1':¬(bu [y.h,y.w] [x.h,x.w]=true):=by simpa[lr,bQ]using h1
   rw[show(bu [y.h,y.w] [x.h,x.w]=true)=sS y x from propext Ar]at h1';show sS x y;unfold sS at h1' ⊢;omega
theorem Ir{w n:Nat}{s0 s1:Sl}{one other:List Tr}{Q:R->List Sl->Prop}(h0:LS s0 (one.map Tr.d))(h1:LS s1 (other.map Tr.d))(hl:one.length+other.length<1000)(q:∀ks:List Tr,dH ks=true->ks.length<=one.length+other.length->(∀P,sm (wl P) ks=sm (wl P) one+sm (wl P) other)->(∀y∈ks,∃x∈one++other,y.kz=x.kz)->Q (.own (ks.map Tr.d)) [s0,s1]):(run Γ w (n+1) 9 [s0,s1]).sat Q:=by
 have hp0:pk [s0,s1,.cZ (.t []),.aZ,.aZ,.aZ] 0=some (.lst (one.map Tr.d)):=by rcases h0 with⟨b,rfl⟩|⟨b,rfl⟩<;>rfl
 have hp1:pk [s0,s1,.cZ (.t []),.aZ,.aZ,.aZ] 1=some (.lst (other.map Tr.d)):=by rcases h1 with⟨b,rfl⟩|⟨b,rfl⟩<;>rfl
 have hlim:one.length+other.length<=lim:=by show _<=16777216;omega
 refine aN (d:=f9) rfl rfl (by decide) ?_;first|apply aa|apply aq
 simp[f9,xq];apply aa;simp[hp0,hp1,hlim];rw[<-List.map_append];refine bZ (JLd (one++other) s0 s1) ?_ ?_ ⟨one++other,[],.aZ,.aZ,.aZ,rfl,⟨rfl,rfl,rfl⟩,rfl,by simp,by simp,by simp,fun _ h=>h,fun P=>by simp[xG]⟩;.rintro d r _⟨rest,kvs,s3,s4,s5,rfl,⟨h3,h4,h5⟩,hr,hn,hk,hm,hi,hd⟩;cases rest with|nil=>cases hr|cons x rest=>
     obtain⟨rfl,rfl⟩:d=x.d/\r=rest.map Tr.d:=by simpa using hr
     simp at hk;have YX:kvs.length<lim:=by show _<16777216;omega
     obtain⟨p1,p2,p3,p4⟩:=j6 (k:=x.kz) (v:=gv kvs x.kz+x.l) hn;simp[Tr.d,h3,h4,h5];apply aa;simp[xH,Bv,oU];rw[show(Option.map (fun x=>x.snd) (List.find? (fun kv=>decide (kv.fst=[x.h,x.w])) kvs)).getD 0=gv kvs x.kz from rfl,Hk YX];simp;refine⟨rest,putD kvs x.kz (gv kvs x.kz+x.l),_,_,_,rfl,⟨rfl,rfl,rfl⟩,rfl,p1,by simp;omega,fun k hk=>?_,fun y hy=>hi y (by simp[hy]),fun P=>?_⟩
     . rcases p3 k hk with rfl|z;.exact⟨x,hi x (by simp),rfl⟩
       .exact hm k z
     .have:=hd P;rw[p4 P];simp only[aX,wl]at this ⊢;split<;>split at this<;>simp_all<;>omega
 . rintro _⟨rest,kvs,s3,s4,s5,rfl,⟨h3,h4,h5⟩,hr,hn,hk,hm,hi,hd⟩;have hr':rest=[]:=by cases rest with|nil=>rfl|cons _ _=>cases hr
   subst hr';simp at hk;have hk':∀k∈kvs.map (·.1),∃x:Tr,k=x.kz:=fun k hk=>by obtain⟨x,_,e⟩:=hm k hk;exact⟨x,e⟩
   obtain⟨ks,g1,g2,g3,g4⟩:=xj hn hk';have hlk:ks.length=kvs.length:=by have:=g2.length_eq;simpa using this
   apply aa;simp[Ng,pY (show kvs.length<1000 by omega) hk',g1];refine⟨fun _=>?_,by show _<=16777216;omega⟩;refine bf (F6l _ _ _ _ _ _) (fun d=>(Nt kvs (keyOf d)).d) ⟨.aZ,.aZ,rfl,rfl,rfl⟩ ?_ ?_
   . rintro d hd' _⟨s,t,rfl,hs,ht⟩;obtain⟨y,hy,rfl⟩:=List.mem_map.mp hd';have hky:y.kz∈kvs.map (·.1):=g2.mem_iff.mp (List.mem_map.mpr ⟨y,hy,rfl⟩);have hgt:qD (.cg (.t kvs)) [.int y.h,.int y.w]=some (.val (.int (gv kvs y.kz))):=by rw[show qD (.cg (.t kvs)) [.int y.h,.int y.w]=(Dc.uJ (.t kvs) [.int y.h,.int y.w]).bind (fun o=>o.map fun v=>R.val (.int v))from rfl,oU,Option.bind_some];have z:=pR hky;rw[show y.kz=[y.h,y.w]from rfl]at z ⊢;rw[z];rfl
     simp[hs,ht,Gm,hgt,keyOf,Nt,Tr.d];exact⟨rfl,_,_,rfl,rfl,rfl⟩
   . rintro _⟨s,t,rfl,hs,ht⟩;have e:(ks.map (fun y=>D.tup [.int y.h,.int y.w])).map (fun d=>(Nt kvs (keyOf d)).d)=ks.map Tr.d:=by rw[List.map_map];refine List.map_congr_left fun y hy=>?_;show(Tr.mk y.h y.w (gv kvs y.kz)).d=y.d;rw[<-g3 y hy]
     rw[e];simp;refine q ks g4 (by omega) (fun P=>?_) fun y hy=>?_;.have h1:=hd P;rw[mU]at h1;simp at h1;rw[<-h1,jf hn,<-uW g2,tW];refine dI fun y hy=>?_;unfold wl;rw[g3 y hy]
     .obtain⟨x,hx,e⟩:=hm _ (g2.mem_iff.mp (List.mem_map.mpr ⟨y,hy,rfl⟩));exact⟨x,hx,e⟩
end T
end
section
namespace T
open HH
theorem Hf{g:Tr->Int}:∀{l:List Tr},(∀x∈l,0<=g x)->∀y∈l,g y<=sm g l
 |[],_,y,hy=>by cases hy|x::l,h,y,hy=>by
   rw[aX];have h0:=h x (by simp);have hl:∀z∈l,0<=g z:=fun z hz=>h z (by simp[hz]);rcases List.mem_cons.mp hy with rfl|hy
   . have:0<=sm g l:=by have:=XC (f:=fun _=>0) (g:=g) (l:=l) hl;rwa[jB fun _ _=>rfl]at this
     omega
   .have:=Hf hl y hy;omega
theorem zZ{y:Tr}:∀{l:List Tr},(∀x∈l,¬(x.h=y.h/\x.w=y.w))->sm (fun x=>if x.h=y.h/\x.w=y.w then x.l else 0) l=0|[],_=>rfl|x::l,h=>by rw[aX,if_neg (h x (by simp)),zZ fun z hz=>h z (by simp[hz])];rfl
theorem tZ{y:Tr}:∀{l:List Tr},l.Pairwise sS->y∈l->sm (fun x=>if x.h=y.h/\x.w=y.w then x.l else 0) l=y.l
 |x::l,h,hy=>by
   rw[List.pairwise_cons]at h;rw[aX];rcases List.mem_cons.mp hy with rfl|hy;.rw[if_pos ⟨rfl,rfl⟩,zZ fun z hz=>by have:=h.1 z hz;unfold sS at this;omega];omega
   .rw[if_neg (by have:=h.1 y hy;unfold sS at this;omega),tZ h.2 hy];omega
theorem Ad{y:Tr}:∀{l:List Tr},sm (fun x=>if x.h=y.h/\x.w=y.w then x.l else 0) l≠0->∃x∈l,x.h=y.h/\x.w=y.w
 |[],h=>absurd rfl h|x::l,h=>by
   by_cases c:x.h=y.h/\x.w=y.w;.exact⟨x,by simp,c⟩
   .rw[aX,if_neg c]at h;obtain⟨z,hz,e⟩:=Ad (y:=y) (l:=l) (by omega);exact⟨z,by simp[hz],e⟩
theorem BK{a b:List Tr}(ha:a.Pairwise sS)(hb:b.Pairwise sS)(hp:∀x∈a,1<=x.l)(h:∀y:Tr,sm (fun x=>if x.h=y.h/\x.w=y.w then x.l else 0) a=sm (fun x=>if x.h=y.h/\x.w=y.w then x.l else 0) b):∀y∈a,y∈b:=fun y hy=>by
 have e1:=tZ ha hy;have:=hp y hy;rw[h y]at e1;obtain⟨z,hz,z1,z2⟩:=Ad (y:=y) (l:=b) (by omega);have e2:=tZ hb hz;rw[z1,z2,e1]at e2;have:z=y:=by obtain⟨z3,z4,z5⟩:=z;obtain⟨y3,y4,y5⟩:=y;simp at*;exact⟨z1,z2,e2.symm⟩
 rwa[<-this]
theorem Jx{a b:List Tr}(ha:a.Pairwise sS)(hb:b.Pairwise sS)(hp:∀x∈a,1<=x.l)(hq:∀x∈b,1<=x.l)(h:∀y:Tr,sm (fun x=>if x.h=y.h/\x.w=y.w then x.l else 0) a=sm (fun x=>if x.h=y.h/\x.w=y.w then x.l else 0) b):a=b:=by
 have nd:∀{l:List Tr},l.Pairwise sS->l.Nodup:=fun h=>h.imp fun{x y}z e=>by subst e;unfold sS at z;omega
 have pm:a.Perm b:=(List.perm_ext_iff_of_nodup (nd ha) (nd hb)).mpr fun y=>⟨BK ha hb hp h y,BK hb ha hq (fun y=>(h y).symm) y⟩;exact List.Perm.eq_of_pairwise (le:=sS) (fun x y _ _ h1 h2=>by unfold sS at*;omega) ha hb pm
theorem zT{y:Tr}{l:List Tr}:sm (wl fun k=>k==y.kz) l=sm (fun x=>if x.h=y.h/\x.w=y.w then x.l else 0) l:=dI fun x _=>by
 unfold wl Tr.kz;by_cases c:x.h=y.h/\x.w=y.w;.rw[if_pos c,if_pos (by simp[c])]
 .rw[if_neg c,if_neg (by simpa using c)]
end T
end
section
namespace T
open HH
noncomputable def Bal(ws:List Wy)(pl:List Tr):Prop:=∀p,1<=p->∀t,left ws pl p t<=come ws pl p t
structure Pl(last:Int)(ws:List Wy)(pl:List Tr):Prop where
 ok:∀x∈pl,0<=x.h/\1<=x.l/\CZ ws last x
 Cd:dH pl=true
 bal:Bal ws pl
theorem Pl.inw{last:Int}{ws:List Wy}{pl:List Tr}(h:Pl last ws pl):∀x∈pl,yC ws x:=fun x hx=>(h.ok x hx).2.2.1
theorem Pl.right{m last:Int}{ws:List Wy}{pl:List Tr}(h:Pl last ws pl):kj m ws last pl:=by
 refine⟨?_,h.Cd,fun x hx=>(h.ok x hx).2.2,fun p h1 _ t=>?_⟩;.rw[List.all_eq_true];intro x hx;have:=h.ok x hx;simp[Eg,this]
 .rw[yW];have:=h.bal p h1 t;omega
end T
end
section
namespace T
open HH
noncomputable def atK(h k:Int)(x:Tr):Int:=if x.h=h/\x.w=k then x.l else 0
noncomputable def pJ(ws:List Wy)(pl:List Tr)(h k:Int):Int:=(wy ws k).r-sm (atK h k) pl
noncomputable def OpenK(ws:List Wy)(pl:List Tr)(last h here k:Int):Prop:=(0<=k/\k<(ws.length:Int))/\(wy ws k).s=here/\0<(wy ws k).t/\h+(wy ws k).h<=last/\0<pJ ws pl h k
end T
end
section
namespace T
open HH
noncomputable def one(p:Int×Int):Tr:=⟨p.1,p.2,1⟩
structure Way(m last:Int)(ws:List Wy)(pl:List Tr)(here arr:Int)(js:List (Int×Int)):Prop where
 ok:∀p∈js,(0<=p.1/\p.1<arr)/\(0<=p.2/\p.2<(ws.length:Int))/\p.1+(wy ws p.2).h<=last/\(wy ws p.2).t≠0/\(wy ws p.2).s≠m-1/\0<pJ ws pl p.1 p.2
 dis:js.Pairwise fun a b=>a.1<b.1
 st:∀p,1<=p->∀t,0<=stP ws (js.map one) p (fX t)now:∀p,1<=p->∀t,arr<=t->stP ws (js.map one) p (fX t)=if p=here then 1 else 0
 ar:0<=arr/\arr<=last
 he:0<=here/\here<m
 ne:js=[]->here=0
theorem JN{m last here arr h k:Int}{ws:List Wy}{pl:List Tr}{js:List (Int×Int)}(hk:bW m ws)(w:Way m last ws pl here arr js)(ha:arr<=h)(hm:here<m-1)(ho:OpenK ws pl last h here k):Way m last ws pl (wy ws k).t (h+(wy ws k).h) (js++[(h,k)]):=by
 obtain⟨⟨k0,k1⟩,o1,o2,o3,o4⟩:=ho;have hv:=hk.ok _ (pC k0 k1).2;have a0:=w.ar.1;have hh:=hv.h0;have e:∀p t,stP ws ((js++[(h,k)]).map one) p (fX t)=stP ws (js.map one) p (fX t)+((if(wy ws k).t=p/\h+(wy ws k).h<=t then 1 else 0)-(if(wy ws k).s=p/\h<=t then 1 else 0)):=fun p t=>by
  have e1:KP ws p (fX t) (one (h,k))=(if(wy ws k).t=p/\h+(wy ws k).h<=t then 1 else 0)-(if(wy ws k).s=p/\h<=t then 1 else 0):=by unfold KP M6 M7 nM fX one;simp only[decide_eq_true_eq]
  rw[List.map_append];show sm (KP ws p (fX t)) (js.map one++[one (h,k)])=sm (KP ws p (fX t)) (js.map one)+_;rw[mU];show _+(KP ws p (fX t) (one (h,k))+0)=_;rw[e1];omega
 refine⟨fun p hp=>?_,?_,fun p h1 t=>?_,fun p h1 t ht=>?_,⟨by omega,o3⟩,⟨hv.t0,hv.t1⟩,fun z=>by simp at z⟩
 . rcases List.mem_append.mp hp with hp|hp;.obtain⟨b1,b2⟩:=w.ok p hp;exact⟨⟨b1.1,by omega⟩,b2⟩
   .rw[List.mem_singleton.mp hp];exact⟨⟨by show 0<=h;omega,by show h<_;omega⟩,⟨k0,k1⟩,o3,by show(wy ws k).t≠0;omega,by show(wy ws k).s≠_;omega,o4⟩
 .rw[List.pairwise_append];refine⟨w.dis,by simp,fun a ha' b hb=>?_⟩;rw[List.mem_singleton.mp hb];have:=(w.ok a ha').1;show a.1<h;omega
 . rw[e];have s0:=w.st p h1 t;by_cases c:(wy ws k).s=p/\h<=t;.have:=w.now p h1 t (by omega);rw[if_pos (by omega)]at this;rw[if_pos c];split<;>omega
   .rw[if_neg c];split<;>omega
 . rw[e,w.now p h1 t (by omega)];by_cases c1:(wy ws k).t=p
   . rw[if_pos (⟨c1,ht⟩:(wy ws k).t=p/\_),if_pos c1.symm];have:¬ p=here:=by rw[<-c1,<-o1];exact fun z=>hv.ne z.symm
     rw[if_neg this,if_neg (fun z=>this (by rw[<-z.1,o1]))];rfl
   . rw[if_neg (fun z=>c1 z.1:¬((wy ws k).t=p/\h+(wy ws k).h<=t)),if_neg (fun z=>c1 z.symm:¬ p=(wy ws k).t)];by_cases c2:p=here;.rw[if_pos c2,if_pos ⟨by rw[o1,c2],by omega⟩];rfl
     .rw[if_neg c2,if_neg (fun z=>c2 (by rw[<-z.1,o1]))];rfl
noncomputable def lod(l:Int)(p:Int×Int):Tr:=⟨p.1,p.2,l⟩
theorem HX{ws:List Wy}{l p:Int}{P:Int->Bool}{js:List (Int×Int)}:stP ws (js.map (lod l)) p P=stP ws (js.map one) p P*l:=by
 unfold stP;rw[tW,tW,<-O7];refine dI fun x _=>?_;show(if(wy ws x.2).t=p/\P (x.1+(wy ws x.2).h)=true then l else 0)-(if(wy ws x.2).s=p/\P x.1=true then l else 0)=((if(wy ws x.2).t=p/\P (x.1+(wy ws x.2).h)=true then 1 else 0)-(if(wy ws x.2).s=p/\P x.1=true then 1 else 0))*l;rw[Int.sub_mul];congr 1;.split<;>simp
 .split<;>simp
end T
end
section
namespace T
open HH
noncomputable def Zu(a b:Tr):Prop:=a.h<b.h\/a.h=b.h/\a.w<=b.w
noncomputable def Bt(g:Int->Int->Int)(pl:List Tr):Int:=sm (fun x=>g x.h x.w*x.l) pl
structure Mg(ts acc rest:List Tr):Prop where
 Cd:acc.Pairwise sS
 ord:∀a∈acc,∀x∈rest,Zu a x
 rst:rest.Pairwise Zu
 sum:∀g,Bt g acc+Bt g rest=Bt g ts
 key:∀a∈acc,∃y∈ts,y.h=a.h/\y.w=a.w
 pos:∀a∈acc,1<=a.l
 sub:∀x∈rest,x∈ts
 len:acc.length+rest.length<=ts.length
end T
end
section
namespace T
open HH
structure Cl(m last:Int)(ws:List Wy)(pl:List Tr):Prop where
 way:∀x∈pl,(wy ws x.w).t≠0/\(wy ws x.w).s≠m-1
 st:∀p,1<=p->p<m-1->∀t,last<=t->stP ws pl p (fX t)=0
structure Cp(m last:Int)(ws:List Wy)(pl:List Tr):Prop where
 ok:∀x∈pl,0<=x.h/\1<=x.l/\yC ws x/\nM ws x<=last/\(wy ws x.w).t≠0/\(wy ws x.w).s≠m-1
 room:∀h k,0<=k->k<(ws.length:Int)->0<=pJ ws pl h k
 st:∀p,1<=p->∀t,0<=stP ws pl p (fX t)cl:∀p,1<=p->p<m-1->∀t,last<=t->stP ws pl p (fX t)=0
theorem Ek{h k:Int}:∀{J:List Tr},J.Pairwise neT->(sm (atK h k) J=0/\∀x∈J,¬(x.h=h/\x.w=k))\/∃x∈J,(x.h=h/\x.w=k)/\sm (atK h k) J=x.l
 |[],_=>.inl ⟨rfl,by simp⟩|x::J,hp=>by
   rw[List.pairwise_cons]at hp;by_cases c:x.h=h/\x.w=k;.refine .inr ⟨x,by simp,c,?_⟩;rw[aX,jB fun y hy=>by have:=hp.1 y hy;unfold atK;rw[if_neg];intro z;exact this ⟨by rw[c.1,z.1],by rw[c.2,z.2]⟩];simp[atK,c]
   . rcases Ek (h:=h) (k:=k) hp.2 with⟨z,z2⟩|⟨y,hy,c2,e⟩
     . refine .inl ⟨?_,?_⟩;.rw[aX,z,atK,if_neg c];rfl
       . intro y hy;rcases List.mem_cons.mp hy with rfl|hy;.exact c
         .exact z2 y hy
     .exact .inr ⟨y,by simp[hy],c2,by rw[aX,e,atK,if_neg c];omega⟩
theorem Fg{ws:List Wy}{a b:List Tr}{p:Int}{P:Int->Bool}:stP ws (a++b) p P=stP ws a p P+stP ws b p P:=mU
theorem uN{ws:List Wy}{pl:List Tr}{p:Int}{P:Int->Bool}:stP ws pl p P=Bt (fun h k=>(if(wy ws k).t=p/\P (h+(wy ws k).h)=true then 1 else 0)-(if(wy ws k).s=p/\P h=true then 1 else 0)) pl:=by
 unfold stP Bt;refine dI fun x _=>?_;unfold M6 M7 nM;rw[Int.sub_mul];congr 1;.split<;>simp
 .split<;>simp
theorem Ho{h k:Int}{pl:List Tr}:sm (atK h k) pl=Bt (fun a b=>if a=h/\b=k then 1 else 0) pl:=by unfold Bt;refine dI fun x _=>?_;unfold atK;by_cases c:x.h=h/\x.w=k<;>simp[c]
theorem Xl{m last:Int}{ws:List Wy}{ts pl:List Tr}(h:Cp m last ws ts)(g:Mg ts pl []):Pl last ws pl/\Cl m last ws pl:=by
 have hsum:∀f,Bt f pl=Bt f ts:=fun f=>by have:=g.sum f;simpa[Bt]using this
 have hst:∀p P,stP ws pl p P=stP ws ts p P:=fun p P=>by rw[uN,hsum,<-uN]
 have hne:pl.Pairwise neT:=g.Cd.imp fun{a b}h=>by unfold sS at h;unfold neT;omega
 refine⟨⟨fun x hx=>?_,eN.mpr g.Cd,fun p h1 t=>?_⟩,⟨fun x hx=>?_,fun p h1 h2 t ht=>?_⟩⟩
 . obtain⟨y,hy,e1,e2⟩:=g.key x hx;obtain⟨a1,a2,a3,a4,a5,a6⟩:=h.ok y hy;have hin:yC ws x:=by unfold yC at*;omega
   refine⟨by omega,g.pos x hx,hin,?_,?_⟩
   . have h1:=h.room x.h x.w hin.1 hin.2;unfold pJ at h1;have h2:sm (atK x.h x.w) pl=sm (atK x.h x.w) ts:=by rw[Ho,hsum,<-Ho]
     rcases Ek (h:=x.h) (k:=x.w) hne with⟨_,z⟩|⟨y,hy,c,e⟩;.exact absurd ⟨rfl,rfl⟩ (z x hx)
     . have:y=x:=by
        have hxy:∀a∈pl,∀b∈pl,a.h=b.h->a.w=b.w->a=b:=by
         intro a ha b hb e1 e2;rcases List.getElem_of_mem ha with⟨i,hi,rfl⟩;rcases List.getElem_of_mem hb with⟨j,hj,rfl⟩;rw[List.pairwise_iff_getElem]at hne;rcases Nat.lt_trichotomy i j with hij|hij|hij;.exact absurd ⟨e1,e2⟩ (hne i j hi hj hij)
         .subst hij;rfl
         .exact absurd ⟨e1.symm,e2.symm⟩ (hne j i hj hi hij)
        exact hxy y hy x hx c.1 c.2
       subst this;omega
   .unfold nM at*;rw[<-e1,<-e2];exact a4
 .have:=h.st p h1 t;rw[<-hst,yW]at this;omega
 .obtain⟨y,hy,e1,e2⟩:=g.key x hx;obtain⟨_,_,_,_,a5,a6⟩:=h.ok y hy;rw[<-e2];exact⟨a5,a6⟩
 .rw[hst];exact h.cl p h1 h2 t ht
end T
end
section
namespace T
open HH
structure Gf(m:Int)(ws:List Wy)(last:Int)(pl:List Tr):Prop where
 right:kj m ws last pl
 way:∀x∈pl,(wy ws x.w).t≠0/\(wy ws x.w).s≠m-1
 st:∀p,1<=p->p<m-1->stP ws pl p (fX last)=0
noncomputable def Jh(m:Int)(ws:List Wy)(k:Int):Bool:=!decide ((wy ws k).t=0)&&!decide ((wy ws k).s=m-1)
theorem uX{w n:Nat}{m k:Int}{ws:List Wy}{Q:R->List Sl->Prop}(h0:0<=k)(h1:k<(ws.length:Int))(q:Q (.val (.bl (Jh m ws k))) [.val false (aY m ws),.val false (.int k)]):(run Γ w (n+1) 23 [.val false (aY m ws),.val false (.int k)]).sat Q:=by
 refine aN (d:=Um) rfl rfl (by decide) ?_;first|apply aa|apply aq
 have hg:=(pC h0 h1).1;unfold Jh at q;by_cases c1:(wy ws k).t=0;.simp[c1]at q;simpa[Um,hg,nJ,nQ,c1]using q
 . by_cases c2:(wy ws k).s=m-1;.simp[c1,c2]at q;simpa[Um,hg,nJ,nQ,c1,c2]using q
   . have e:((wy ws k).s==m-1)=false:=by simp[c2]
     simp[c1,c2]at q;simpa[Um,hg,nJ,nQ,c1,e]using q
noncomputable def cwD(m:Int)(ws:List Wy):D->D|.tup [.int _,.int k,.int _]=>.bl (Jh m ws k)|d=>d
noncomputable def noD(ws:List Wy)(pl:List Tr)(last:Int):D->D|.int p=>.bl (stP ws pl p (fX last)==0)|d=>d
inductive F6(a0 a1 a2:Sl)(ρ:List Sl):Prop where|mk(s:Sl)(t:Sl)(u:Sl)(q0:ρ=[a0,a1,a2,s,t,u])(q1:fr s=true)(q2:fr t=true)(q3:fr u=true)
theorem Gu{w n:Nat}{m last:Int}{s2:Sl}{ws:List Wy}{pl:List Tr}(hs:LS s2 (pl.map Tr.d))(hm:0<=m/\m<=1000)(hne:∀v∈ws,v.s≠v.t)(hl:pl.length<1000):∃r:Bool,(r=true↔kj m ws last pl)/\ev (run Γ w (n+4)) (.call 22 [.var 0,.var 1,.var 2]) [.val false (aY m ws),.val false (.int last),s2]=.ok (.val (.bl r)) [.val false (aY m ws),.val false (.int last),s2]:=by
 refine⟨@decide _ (Classical.propDecidable (kj m ws last pl)),by simp,run_eq ?_⟩;have e:∀r:Bool,(r=true↔kj m ws last pl)->r=@decide _ (Classical.propDecidable (kj m ws last pl)):=fun r hr=>by rw[Bool.eq_iff_iff,hr];simp
 rcases hs with⟨b,rfl⟩|⟨b,rfl⟩;.simp;refine jU (.inl ⟨_,rfl⟩) hm hne hl fun r hr=>?_;simp[e r hr]
 .simp;refine jU (.inr ⟨_,rfl⟩) hm hne hl fun r hr=>?_;simp[e r hr]
theorem Dh{w n:Nat}{m p last:Int}{s2:Sl}{ws:List Wy}{pl:List Tr}(hs:LS s2 (pl.map Tr.d))(hw:∀x∈pl,yC ws x)(hne:∀v∈ws,v.s≠v.t)(hl:pl.length<=1000):ev (run Γ w (n+3)) (.call 25 [.var 0,.var 2,.var 3,.var 1]) [.val false (aY m ws),.val false (.int last),s2,.val false (.int p)]=.ok (.val (.int (stP ws pl p (fX last)))) [.val false (aY m ws),.val false (.int last),s2,.val false (.int p)]:=by
 refine run_eq ?_;rcases hs with⟨b,rfl⟩|⟨b,rfl⟩;.simp;refine iI (.inl ⟨_,rfl⟩) hw hne hl ?_;simp
 .simp;refine iI (.inr ⟨_,rfl⟩) hw hne hl ?_;simp
theorem qR{w n:Nat}{m last:Int}{s2:Sl}{ws:List Wy}{pl:List Tr}{Q:R->List Sl->Prop}(hs2:LS s2 (pl.map Tr.d))(hm:0<=m/\m<=1000)(hne:∀v∈ws,v.s≠v.t)(hl:pl.length<1000)(q:∀r:Bool,(r=true↔Gf m ws last pl)->Q (.val (.bl r)) [.val false (aY m ws),.val false (.int last),s2]):(run Γ w (n+5) 24 [.val false (aY m ws),.val false (.int last),s2]).sat Q:=by
 have hlim:pl.length<=lim:=by show _<=16777216;omega
 refine aN (d:=Zd) rfl rfl (by decide) ?_;first|apply aa|apply aq
 obtain⟨s',g1,g2⟩:=lu (ρ:=[.val false (aY m ws),.val false (.int last),s2]) (k:=2) (e:=ev (run Γ w (n+4)) (.var 2)) rfl hs2;obtain⟨r,hr,er⟩:=Gu (w:=w) (n:=n) (last:=last) hs2 hm hne hl;simp[Zd,-uq,er,-dB,-cY];cases r with|false=>simp;apply aa;simp;refine q false ⟨fun h=>(by cases h),fun h=>?_⟩;have:=hr.mpr h.right;cases this|true=>
   have hR:=hr.mp rfl;have YZ:∀x∈pl,yC ws x:=fun x hx=>(hR.fit x hx).1;simp[g1,hlim,-dB,-cY];refine bf (F6 _ _ _) (cwD m ws) ⟨.aZ,.aZ,.aZ,rfl,rfl,rfl,rfl⟩ ?_ ?_;.rintro d hd _⟨s,t,u,rfl,hs,ht,hu⟩;obtain⟨x,hx,rfl⟩:=List.mem_map.mp hd;have hi:=YZ x hx;simp[Tr.d,hs,ht,hu];refine uX hi.1 hi.2 ?_;simp[cwD];exact⟨_,_,_,rfl,rfl,rfl,rfl⟩
   rintro _⟨s,t,u,rfl,hs,ht,hu⟩;have e1:(pl.map Tr.d).map (cwD m ws)=(pl.map fun x=>Jh m ws x.w).map D.bl:=by rw[List.map_map,List.map_map];rfl
   have e4:(pl.map fun x=>Jh m ws x.w).all id=pl.all fun x=>Jh m ws x.w:=by rw[List.all_map];rfl
   rw[e1];simp only[List.take_succ_cons,List.take_zero];rw[g2 _ rfl];simp only[mO,ju,eO,Option.map_some,bN,bT,jX,e4];simp only[yM,zp,bN,List.set_cons_zero,List.set_cons_succ];have hcw:(pl.all fun x=>Jh m ws x.w)=true↔∀x∈pl,(wy ws x.w).t≠0/\(wy ws x.w).s≠m-1:=by
    rw[List.all_eq_true];refine⟨fun h x hx=>?_,fun h x hx=>?_⟩;.have:=h x hx;unfold Jh at this;simpa using this
    .have:=h x hx;unfold Jh;simpa using this
   cases hc:pl.all fun x=>Jh m ws x.w with|false=>simp;apply aa;simp;refine q false ⟨fun h=>(by cases h),fun h=>?_⟩;rw[hcw.mpr h.way]at hc;cases hc|true=>
     simp;apply aa;simp[show m-1<=1000000000 by omega,show-1000000000<=m-1 by omega];refine⟨fun _=>?_,by omega⟩;refine bf (F3b _ _ _) (noD ws pl last) ⟨.aZ,rfl,rfl⟩ ?_ ?_;.rintro d hd _⟨s,rfl,hs⟩;obtain⟨k,_,rfl⟩:=List.mem_map.mp hd;simp[hs,-uq,Dh hs2 YZ hne (show pl.length<=1000 by omega),noD];exact⟨_,rfl,rfl⟩
     rintro _⟨s,rfl,hs⟩;generalize hL:(List.range (m.toNat-1-1)).map (fun(k:Nat)=>(1+(k:Int)))=L;have e2:((List.range (m.toNat-1-1)).map fun(k:Nat)=>D.int (1+(k:Int))).map (noD ws pl last)=(L.map fun p=>stP ws pl p (fX last)==0).map D.bl:=by rw[<-hL,List.map_map,List.map_map,List.map_map];rfl
     have e5:(L.map fun p=>stP ws pl p (fX last)==0).all id=L.all fun p=>stP ws pl p (fX last)==0:=by rw[List.all_map];rfl
     rw[e2];simp only[mO,ju,eO,Option.map_some,bN,bT,jX,e5];simp only[List.take_succ_cons,List.take_zero];refine q _ ?_;rw[List.all_eq_true];constructor
     . intro h;refine⟨hR,hcw.mp hc,fun p h1 h2=>?_⟩;have:p∈L:=by rw[<-hL,List.mem_map];exact⟨(p-1).toNat,by rw[List.mem_range];omega,by omega⟩
       have:=h p this;simpa using this
     .intro h p hp;rw[<-hL,List.mem_map]at hp;obtain⟨k,hk,rfl⟩:=hp;rw[List.mem_range]at hk;rw[h.st _ (by omega) (by omega)];rfl
theorem Ep{m last T:Int}{ws:List Wy}{pl:List Tr}(h:Pl last ws pl)(c:Cl m last ws pl)(hT:last<=T):Gf m ws T pl:=by
 refine⟨⟨?_,h.Cd,fun x hx=>?_,fun p h1 _ t=>?_⟩,c.way,fun p h1 h2=>c.st p h1 h2 T hT⟩;.rw[List.all_eq_true];intro x hx;have:=h.ok x hx;simp[Eg,this]
 .obtain⟨_,_,a1,a2,a3⟩:=h.ok x hx;exact⟨a1,a2,by omega⟩
 .rw[yW];have:=h.bal p h1 t;omega
end T
end
section
namespace T
open HH
theorem Wz{ws:List Wy}{k:Int}:hh ws k=(wy ws k).h:=by unfold hh wy;cases ws[k.toNat]?<;>rfl
noncomputable def prs(ws:List Wy):List Int->Int->List (Int×Int)|[],_=>[]|k::r,h=>(h,k)::prs ws r (h+hh ws k)
noncomputable def uV(ws:List Wy)(l:List Int)(b x:Int):List Tr:=(prs ws l b).map (lod x)
theorem pq{ws:List Wy}{l:List Int}{k b x:Int}:uV ws (k::l) b x=⟨b,k,x⟩::uV ws l (b+hh ws k) x:=rfl
theorem zW{ws:List Wy}:∀{l:List Int}{b:Int},(prs ws l b).length=l.length|[],_=>rfl|_::l,_=>by rw[prs,List.length_cons,zW,List.length_cons]
theorem jH{ws:List Wy}{l:List Int}{b x:Int}:(uV ws l b x).length=l.length:=by unfold uV;rw[List.length_map,zW]
theorem lD{ws:List Wy}{k:Int}{l:List Int}:tot ws (k::l)=hh ws k+tot ws l:=by simp[tot]
theorem wB{ws:List Wy}{m:Int}(hk:bW m ws){z:Int}:∀{l ps qs:List Int},ps≠[]->iH ws l ps=some qs->qs.getLast?=some z->z∈ps->l=[]|[],_,_,_,_,_,_=>rfl|k::l,ps,qs,hp,h,hz,hm=>by exfalso;obtain⟨r,hr⟩:=oZ hp h;rw[iH]at h;cases e:dj ws ps k with|none=>rw[e]at h;cases h|some rs=>
     rw[e]at h;have oE:=iy e;obtain⟨v,hv,hmm,ha⟩:=iY oE.1 oE.2.1;have he:rs=ps++[v.t]/\v.t∉ps:=by
      unfold dj at e;rw[if_pos ⟨oE.1,oE.2.1⟩,hv]at e;simp only[if_neg hp]at e;split at e;.cases e
      . split at e;.rename_i hc;cases e;exact⟨rfl,hc.2⟩
        .cases e
     have hl:l=[]:=wB hk (ps:=rs) (by rw[he.1];simp) h hz (by rw[he.1];simp[hm]);subst hl;have h2:some rs=some qs:=h;cases h2;rw[he.1]at hz;simp at hz;rw[hz]at he;exact he.2 hm
theorem Hg{ws:List Wy}{h k:Int}:pJ ws [] h k=(wy ws k).r:=by unfold pJ;simp
theorem VN{m last:Int}{ws:List Wy}(hk:bW m ws):∀{l ps qs:List Int}{js:List (Int×Int)}{here arr:Int},iH ws l ps=some qs->0∈ps->ps.getLast?=some here->qs.getLast?=some (m-1)->arr+tot ws l<=last->Way m last ws [] here arr js->Way m last ws [] (m-1) (arr+tot ws l) (js++prs ws l arr)
 |[],ps,qs,js,here,arr,h,h0,hl,hq,ht,w=>by rw[iH]at h;cases h;rw[hl]at hq;cases hq;simpa[prs,tot]using w|k::l,ps,qs,js,here,arr,h,h0,hl,hq,ht,w=>by
   have hp:ps≠[]:=by rintro rfl;simp at hl
   have Y0:here∈ps:=List.mem_of_getLast? hl;have hne:here≠m-1:=fun e=>by have:=wB hk hp h hq (e▸Y0);cases this
   have hw:=w.he;rw[iH]at h;cases e:dj ws ps k with|none=>rw[e]at h;cases h|some rs=>
     rw[e]at h;have oE:=iy e;obtain⟨v,hv,hmm,ha⟩:=iY oE.1 oE.2.1;have ev:wy ws k=v:=by unfold wy;rw[hv];rfl
     have vo:=hk.ok v hmm;have v0:=vo.t0;have he:rs=ps++[v.t]/\v.t∉ps/\¬ v.r<1/\ps.getLast?=some v.s:=by
      unfold dj at e;rw[if_pos ⟨oE.1,oE.2.1⟩,hv]at e;simp only[if_neg hp]at e;split at e;.cases e
      . split at e;.rename_i hr hc;cases e;exact⟨rfl,hc.2,hr,hc.1⟩
        .cases e
     have es:v.s=here:=by have:=he.2.2.2;rw[hl]at this;cases this;rfl
     have Jp:hh ws k=v.h:=by rw[Wz,ev]
     rw[lD,Jp]at ht;have t0:=mj (l:=l) hk;have t1:v.t≠0:=fun z=>he.2.1 (z▸h0);have w2:=JN (h:=arr) (k:=k) hk w (Int.le_refl _) (by omega) ⟨⟨oE.1,oE.2.1⟩,by rw[ev];exact es,by rw[ev];omega,by rw[ev];omega,by rw[Hg,ev];omega⟩;rw[ev]at w2;have:=VN hk (l:=l) (ps:=rs) (qs:=qs) (here:=v.t) (arr:=arr+v.h) h (by rw[he.1];simp[h0]) (by rw[he.1];simp) hq (by omega) w2;rw[lD,Jp];rw[show arr+(v.h+tot ws l)=arr+v.h+tot ws l by omega];rw[prs,Jp];simpa using this
structure Jy(m last x:Int)(ws:List Wy)(J:List Tr):Prop where
 ok:∀y∈J,0<=y.h/\1<=y.l/\yC ws y/\nM ws y<=last/\(wy ws y.w).t≠0/\(wy ws y.w).s≠m-1
 st:∀p,1<=p->∀t,0<=stP ws J p (fX t)cl:∀p,1<=p->∀t,last<=t->stP ws J p (fX t)=if p=m-1 then x else 0
theorem WL{m last b x:Int}{ws:List Wy}{l:List Int}(hk:bW m ws)(h:gJ m ws l=true)(hb:0<=b)(hx:1<=x)(ht:b+tot ws l<=last):Jy m last x ws (uV ws l b x):=by have m0:=hk.m0;unfold gJ at h;cases e:iH ws l [0]with|none=>rw[e]at h;cases h|some qs=>
   rw[e]at h;have hq:qs.getLast?=some (m-1):=by simpa using h
   have t0:=mj (l:=l) hk;have w:=VN (m:=m) (last:=last) (js:=[]) (here:=0) (arr:=b) hk e (by simp) (by simp) hq ht ⟨by simp,by simp,fun p h1 t=>Int.le_refl _,fun p h1 t ht=>by rw[if_neg (by omega)];rfl,⟨hb,by omega⟩,⟨by omega,by omega⟩,fun _=>rfl⟩;rw[List.nil_append]at w;refine⟨fun y hy=>?_,fun p h1 t=>?_,fun p h1 t h2=>?_⟩;.obtain⟨p,hp,rfl⟩:=List.mem_map.mp hy;obtain⟨a1,a2,a3,a4,a5,a6⟩:=w.ok p hp;exact⟨a1.1,hx,a2,a3,a4,a5⟩
   .unfold uV;rw[HX];exact Int.mul_nonneg (w.st p h1 t) (by omega)
   . unfold uV;rw[HX,w.now p h1 t (by omega)];by_cases c:p=m-1;.rw[if_pos c,if_pos c];omega
     .rw[if_neg c,if_neg c];omega
theorem Fz{m last:Int}{ws:List Wy}:Jy m last 0 ws []:=⟨by simp,fun _ _ _=>Int.le_refl _,fun p _ _ _=>by split<;>rfl⟩
theorem Hv{m last x y:Int}{ws:List Wy}{J K:List Tr}(a:Jy m last x ws J)(b:Jy m last y ws K):Jy m last (x+y) ws (J++K):=by
 refine⟨fun z hz=>?_,fun p h1 t=>?_,fun p h1 t ht=>?_⟩
 . rcases List.mem_append.mp hz with hz|hz;.exact a.ok z hz
   .exact b.ok z hz
 .rw[Fg];have:=a.st p h1 t;have:=b.st p h1 t;omega
 .rw[Fg,a.cl p h1 t ht,b.cl p h1 t ht];split<;>omega
noncomputable def eX(ws:List Wy)(r:Rd):Nat->List Tr|0=>[]|n+1=>eX ws r n++uV ws r.1 n r.2
noncomputable def nT(ws:List Wy)(last:Int)(l:List Int):Nat:=(last-tot ws l+1).toNat
noncomputable def runs(ws:List Wy)(last:Int):List Rd->List Tr|[]=>[]|r::rs=>eX ws r (nT ws last r.1)++runs ws last rs
theorem kY{ws:List Wy}{last:Int}:∀{a b:List Rd},runs ws last (a++b)=runs ws last a++runs ws last b|[],b=>rfl|r::a,b=>by rw[List.cons_append,runs,runs,kY,List.append_assoc]
theorem jw{ws:List Wy}{last:Int}{a:List Rd}{r:Rd}:runs ws last (a++[r])=runs ws last a++eX ws r (nT ws last r.1):=by rw[kY,runs,runs,List.append_nil]
theorem Ny{ws:List Wy}{last:Int}{l:List Int}:Er ws last l=(nT ws last l:Int):=by unfold Er nT;split<;>omega
theorem lL{ws:List Wy}{r:Rd}:∀{n:Nat},(eX ws r n).length=n*r.1.length|0=>by simp[eX]|n+1=>by rw[eX,List.length_append,lL,jH,Nat.succ_mul]
theorem Aj{m last:Int}{ws:List Wy}{r:Rd}(hk:bW m ws)(h:gJ m ws r.1=true)(hx:1<=r.2):∀n:Nat,n<=nT ws last r.1->Jy m last (r.2*(n:Int)) ws (eX ws r n)|0,_=>by simpa[eX]using Fz|n+1,hn=>by rw[eX];have:=Hv (Aj hk h hx n (by omega)) (WL (b:=(n:Int)) (last:=last) hk h (by omega) hx (by unfold nT at hn;omega));rw[show r.2*((n+1:Nat):Int)=r.2*(n:Int)+r.2 by rw[Int.natCast_add,Int.mul_add];simp];exact this
theorem BJ{m last:Int}{ws:List Wy}(hk:bW m ws):∀{rs:List Rd},(∀r∈rs,1<=r.2/\gJ m ws r.1=true)->Jy m last (JV ws last rs) ws (runs ws last rs)|[],_=>by simpa[runs,JV]using Fz|r::rs,h=>by have h1:=h r (by simp);have:=Hv (Aj (last:=last) hk h1.2 h1.1 _ (Nat.le_refl _)) (BJ hk (rs:=rs) fun r hr=>h r (by simp[hr]));rw[runs];rw[show JV ws last (r::rs)=r.2*(nT ws last r.1:Int)+JV ws last rs by unfold JV;rw[List.map_cons,List.sum_cons,Ny]];exact this
noncomputable def off(ws:List Wy):List Int->Int->Int|[],_=>0|j::l,k=>if j=k then 0 else hh ws j+off ws l k
theorem Iv{ws:List Wy}{h k x:Int}:∀{l:List Int}{b:Int},l.Nodup->sm (atK h k) (uV ws l b x)=if k∈l/\h=b+off ws l k then x else 0
 |[],b,_=>by simp[uV,prs]|j::l,b,hn=>by
   rw[List.nodup_cons]at hn;rw[pq,aX,Iv hn.2,show off ws (j::l) k=if j=k then 0 else hh ws j+off ws l k from rfl];show(if b=h/\j=k then x else 0)+_=_;by_cases c:j=k
   . subst c;have:¬(j∈l/\h=b+hh ws j+off ws l j):=fun z=>hn.1 z.1;rw[if_neg this,if_pos rfl];by_cases c2:b=h;.rw[if_pos ⟨c2,rfl⟩,if_pos ⟨by simp,by omega⟩];omega
     .rw[if_neg (fun z=>c2 z.1),if_neg (fun z=>c2 (by have:=z.2;omega))];rfl
   . rw[if_neg (fun z=>c z.2),if_neg c];have e:(k∈l/\h=b+hh ws j+off ws l k)↔(k∈j::l/\h=b+(hh ws j+off ws l k)):=by
      rw[List.mem_cons];constructor;.rintro⟨z1,z2⟩;exact⟨.inr z1,by omega⟩
      . rintro⟨z1,z2⟩;rcases z1 with z1|z1;.exact absurd z1.symm c
        .exact⟨z1,by omega⟩
     by_cases d:k∈l/\h=b+hh ws j+off ws l k;.rw[if_pos d,if_pos (e.mp d)];omega
     .rw[if_neg d,if_neg (fun z=>d (e.mpr z))];rfl
theorem Bp{ws:List Wy}{h k:Int}{r:Rd}(hn:r.1.Nodup)(hx:1<=r.2):∀n:Nat,sm (atK h k) (eX ws r n)=if k∈r.1/\0<=h-off ws r.1 k/\h-off ws r.1 k<(n:Int)then r.2 else 0
 |0=>by rw[if_neg (by omega)];rfl|n+1=>by
   rw[eX,mU,Bp hn hx n,Iv hn];by_cases c:k∈r.1
   . by_cases d:h=(n:Int)+off ws r.1 k;.rw[if_neg (by omega),if_pos ⟨c,d⟩,if_pos ⟨c,by omega,by omega⟩];omega
     . rw[if_neg (fun z=>d z.2:¬(k∈r.1/\h=(n:Int)+off ws r.1 k))];by_cases e:0<=h-off ws r.1 k/\h-off ws r.1 k<(n:Int);.rw[if_pos ⟨c,e⟩,if_pos ⟨c,by omega,by omega⟩];omega
       .rw[if_neg (fun z=>e z.2),if_neg (fun z=>e ⟨z.2.1,by have:=z.2.2;omega⟩)];rfl
   .rw[if_neg (fun z=>c z.1),if_neg (fun z=>c z.1),if_neg (fun z=>c z.1)];rfl
theorem Ah{ws:List Wy}{last h k:Int}:∀{rs:List Rd},(∀r∈rs,r.1.Nodup/\1<=r.2)->sm (atK h k) (runs ws last rs)<=cj rs k
 |[],_=>by simp[runs,cj]|r::rs,hh=>by
   have h1:=hh r (by simp);have ih:=Ah (ws:=ws) (last:=last) (h:=h) (k:=k) (rs:=rs) fun r hr=>hh r (by simp[hr]);rw[runs,mU,Bp h1.1 h1.2];have e:cj (r::rs) k=(if k∈r.1 then r.2 else 0)+cj rs k:=by unfold cj;by_cases c:k∈r.1<;>simp[c]
   rw[e];by_cases c:k∈r.1;.rw[if_pos c];split<;>omega
   .rw[if_neg c,if_neg (fun z=>c z.1)];omega
theorem rN{m:Int}{ws:List Wy}{rs:List Rd}(hk:bW m ws)(h:fit m ws rs=true):(∀r∈rs,1<=r.2/\gJ m ws r.1=true)/\∀k,0<=k->k<(ws.length:Int)->cj rs k<=(wy ws k).r:=by
 rw[p6 hk]at h;unfold zu at h;rw[Bool.and_eq_true]at h;refine⟨fun r hr=>?_,fun k k0 k1=>?_⟩;.have:=List.all_eq_true.mp h.1 r hr;rw[Bool.and_eq_true,decide_eq_true_eq]at this;exact this
 . have:=List.all_eq_true.mp h.2 k.toNat (List.mem_range.mpr (by omega));have hlt:k.toNat<ws.length:=by omega
   rw[List.getElem?_eq_getElem hlt]at this;simp only[decide_eq_true_eq]at this;rw[show((k.toNat:Nat):Int)=k by omega]at this;unfold wy;rw[List.getElem?_eq_getElem hlt];exact this
theorem K3{m last:Int}{ws:List Wy}{rs:List Rd}(hk:bW m ws)(h:fit m ws rs=true):Cp m last ws (runs ws last rs)/\stP ws (runs ws last rs) (m-1) (fX last)=JV ws last rs:=by obtain⟨h1,h2⟩:=rN hk h;have m0:=hk.m0;have j:=BJ (last:=last) hk h1;refine⟨⟨j.ok,fun a k k0 k1=>?_,j.st,fun p p1 p2 t ht=>by rw[j.cl p p1 t ht,if_neg (by omega)]⟩,by rw[j.cl (m-1) (by omega) last (Int.le_refl _),if_pos rfl]⟩;have:=Ah (ws:=ws) (last:=last) (h:=a) (k:=k) (rs:=rs) fun r hr=>⟨(uT hk (h1 r hr).2).1,(h1 r hr).1⟩;have:=h2 k k0 k1;unfold pJ;omega
theorem xg{ws:List Wy}{last:Int}(hl:last<=12)(ht:∀l,0<=tot ws l):∀{rs:List Rd},(∀r∈rs,r.1.length<=6)->(runs ws last rs).length<=78*rs.length
 |[],_=>by simp[runs]|r::rs,h=>by
   have ih:=xg hl ht (rs:=rs) fun r hr=>h r (by simp[hr]);have h1:=h r (by simp);have h2:=ht r.1;have h3:nT ws last r.1<=13:=by unfold nT;omega
   have h4:nT ws last r.1*r.1.length<=13*6:=Nat.mul_le_mul h3 h1;rw[runs,List.length_append,lL,List.length_cons];omega
end T
end
section
namespace T
open HH
theorem cover:∀l:List Tr,∃K:List (List Int),K.Nodup/\∀x∈l,x.kz∈K
 |[]=>⟨[],List.nodup_nil,by simp⟩|x::l=>by
   obtain⟨K,h1,h2⟩:=cover l;by_cases c:x.kz∈K;.exact⟨K,h1,fun y hy=>by rcases List.mem_cons.mp hy with rfl|hy;exact c;exact h2 y hy⟩
   .exact⟨x.kz::K,List.nodup_cons.mpr ⟨c,h1⟩,fun y hy=>by rcases List.mem_cons.mp hy with rfl|hy;simp;simp[h2 y hy]⟩
theorem Iz{c:List Int->Int}{a:List Int}:∀{K:List (List Int)},K.Nodup->a∈K->sm (fun k=>if k=a then c k else 0) K=c a
 |k::K,hn,ha=>by
   rw[List.nodup_cons]at hn;rw[aX];by_cases e:k=a;.subst e;rw[if_pos rfl,jB (l:=K) fun j hj=>if_neg (fun z:j=k=>hn.1 (z▸hj))];omega
   .rw[if_neg e,Iz hn.2 (by rcases List.mem_cons.mp ha with z|z;exact absurd z.symm e;exact z)];omega
theorem pU{g:Int->Int->Int}{K:List (List Int)}(hn:K.Nodup):∀{l:List Tr},(∀x∈l,x.kz∈K)->Bt g l=sm (fun k=>g (k.headD 0) (k.tail.headD 0)*sm (wl fun j=>j==k) l) K
 |[],_=>by rw[jB fun k _=>by rw[Ik,Int.mul_zero]];rfl|x::l,h=>by
   have ih:=pU (g:=g) hn (l:=l) fun y hy=>h y (by simp[hy]);have e:sm (fun k=>g (k.headD 0) (k.tail.headD 0)*sm (wl fun j=>j==k) (x::l)) K=sm (fun k=>(if k=x.kz then g (k.headD 0) (k.tail.headD 0)*x.l else 0)+g (k.headD 0) (k.tail.headD 0)*sm (wl fun j=>j==k) l) K:=by
    refine dI fun k _=>?_;rw[aX,Int.mul_add];congr 1;unfold wl;by_cases c:k=x.kz;.rw[if_pos c,if_pos (by rw[c];simp)]
    .rw[if_neg c,if_neg (by simpa using fun z=>c z.symm),Int.mul_zero]
   rw[e,Rv,<-ih,Iz hn (h x (by simp))];rfl
theorem Fe{ks P:List Tr}(hs:∀Q,sm (wl Q) ks=sm (wl Q) P)(g:Int->Int->Int):Bt g ks=Bt g P:=by obtain⟨K,h1,h2⟩:=cover (ks++P);rw[pU h1 (l:=ks) fun x hx=>h2 x (by simp[hx]),pU h1 (l:=P) fun x hx=>h2 x (by simp[hx])];exact dI fun k _=>by rw[hs]
theorem uZ{ks P:List Tr}(hP:∀x∈P,1<=x.l)(hr:dH ks=true)(hs:∀Q,sm (wl Q) ks=sm (wl Q) P)(hk:∀y∈ks,∃x∈P,y.kz=x.kz):∀y∈ks,1<=y.l:=fun y hy=>by
 rw[eN]at hr;have e:=tZ hr hy;rw[<-zT,hs,zT]at e;obtain⟨x,hx,ek⟩:=hk y hy;have e1:y.h=x.h/\y.w=x.w:=by simpa[Tr.kz]using ek
 have:=Hf (g:=fun x=>if x.h=y.h/\x.w=y.w then x.l else 0) (l:=P) (fun z hz=>by have:=hP z hz;show 0<=(if z.h=y.h/\z.w=y.w then z.l else 0);split<;>omega) x hx;have hp:=hP x hx;simp only[e1,and_self,if_true]at this;simp only[e1]at e;omega
theorem mg_of{ks P:List Tr}(hP:∀x∈P,1<=x.l)(hr:dH ks=true)(hs:∀Q,sm (wl Q) ks=sm (wl Q) P)(hk:∀y∈ks,∃x∈P,y.kz=x.kz)(hl:ks.length<=P.length):Mg P ks []:=by
 refine⟨eN.mp hr,by simp,by simp,fun g=>?_,fun a ha=>?_,uZ hP hr hs hk,by simp,by simpa using hl⟩;.rw[Fe hs];simp[Bt]
 . obtain⟨x,hx,e⟩:=hk a ha;have e1:a.h=x.h/\a.w=x.w:=by simpa[Tr.kz]using e
   exact⟨x,hx,e1.1.symm,e1.2.symm⟩
theorem Bl{ks js P:List Tr}(hP:∀x∈P,1<=x.l)(h1:dH ks=true)(h2:∀Q,sm (wl Q) ks=sm (wl Q) P)(h3:∀y∈ks,∃x∈P,y.kz=x.kz)(g1:dH js=true)(g2:∀Q,sm (wl Q) js=sm (wl Q) P)(g3:∀y∈js,∃x∈P,y.kz=x.kz):ks=js:=Jx (eN.mp h1) (eN.mp g1) (uZ hP h1 h2 h3) (uZ hP g1 g2 g3) fun y=>by rw[<-zT,<-zT,h2,g2]
structure Ld(P ks:List Tr):Prop where
 Cd:dH ks=true
 sum:∀Q,sm (wl Q) ks=sm (wl Q) P
 key:∀y∈ks,∃x∈P,y.kz=x.kz
 len:ks.length<=P.length
end T
end
section
namespace T
open HH
structure DK(ts:List Tr)(kvs:List (List Int×Int)):Prop where
 nd:(kvs.map (·.1)).Nodup
 len:kvs.length<=ts.length
 key:∀k∈kvs.map (·.1),∃x∈ts,k=x.kz
 sum:∀P,xG P kvs=sm (wl P) ts
theorem RZ:DK [] []:=⟨List.nodup_nil,Nat.le_refl _,by simp,fun _=>rfl⟩
theorem Q9{ts:List Tr}{kvs:List (List Int×Int)}{x:Tr}(h:DK ts kvs):DK (ts++[x]) (putD kvs x.kz (gv kvs x.kz+x.l)):=by
 obtain⟨p1,p2,p3,p4⟩:=j6 (k:=x.kz) (v:=gv kvs x.kz+x.l) h.nd;refine⟨p1,by have:=h.len;simp;omega,fun k hk=>?_,fun P=>?_⟩
 . rcases p3 k hk with rfl|z;.exact⟨x,by simp,rfl⟩
   .obtain⟨y,hy,e⟩:=h.key k z;exact⟨y,by simp[hy],e⟩
 .rw[p4 P,h.sum P,mU];simp only[aX,Ik,wl];split<;>omega
theorem pK{ws:List Wy}{k x:Int}:∀{l:List Int}{b:Int},uV ws (l++[k]) b x=uV ws l b x++[⟨b+tot ws l,k,x⟩]|[],b=>by simp[uV,prs,tot,lod]|j::l,b=>by rw[List.cons_append,pq,pK,pq,List.cons_append,lD];congr 4;omega
theorem v5{ws:List Wy}{l:List Int}{k:Int}:tot ws (l++[k])=tot ws l+hh ws k:=by simp[tot]
theorem Ew{m:Int}{ws:List Wy}{l:List Int}(hk:bW m ws):tot ws l<=1000000*(l.length:Int):=by
 have Jp:∀k,hh ws k<=1000000:=fun k=>by unfold hh;cases e:ws[k.toNat]?with|none=>show(0:Int)<=_;omega|some v=>have:=(hk.ok v (List.mem_of_getElem? e)).h1;simp only;omega
 induction l with|nil=>simp[tot]|cons a l ih=>have:=Jp a;rw[lD,List.length_cons];omega
inductive JD3(a0 a1 a2 a4 a5 a6:Sl)(ws:List Wy)(base:List Tr)(l:List Int)(b x:Int)(r:List D)(ρ:List Sl):Prop where|mk(pre post:List Int)(kvs:List (List Int×Int))(s8:Sl)(q0:l=pre++post)(q1:r=post.map D.int)(q2:ρ=[a0,a1,a2,.cZ (.t kvs),a4,a5,a6,.val false (.int (b+tot ws pre)),s8])(q3:fr s8=true)(q4:DK (base++uV ws pre b x) kvs)
inductive JD2(a0 a1 a2 a4 a5:Sl)(ws:List Wy)(base:List Tr)(rd:Rd)(i:Nat)(ρ:List Sl):Prop where|mk(kvs:List (List Int×Int))(s6 s7 s8:Sl)(q0:ρ=[a0,a1,a2,.cZ (.t kvs),a4,a5,s6,s7,s8])(q1:A3 (fr s6=true) (fr s7=true) (fr s8=true))(q2:DK (base++eX ws rd i) kvs)
inductive JD1(a0 a1 a2:Sl)(ws:List Wy)(last:Int)(rs:List Rd)(r:List D)(ρ:List Sl):Prop where|mk(done rest:List Rd)(kvs:List (List Int×Int))(s4 s5 s6 s7 s8:Sl)(q0:rs=done++rest)(q1:r=rest.map RD)(q2:ρ=[a0,a1,a2,.cZ (.t kvs),s4,s5,s6,s7,s8])(q3:A5 (fr s4=true) (fr s5=true) (fr s6=true) (fr s7=true) (fr s8=true))(q4:DK (runs ws last done) kvs)
inductive FD(a0 a1 a2 a3 a4 a5 a6 a7 a8:Sl)(ρ:List Sl):Prop where|mk(s:Sl)(t:Sl)(q0:ρ=[a0,a1,a2,a3,a4,a5,a6,a7,a8,s,t])(q1:fr s=true)(q2:fr t=true)
theorem Hx{kvs:List (List Int×Int)}(h:kvs.length<1000)(hk:∀k∈kvs.map (·.1),∃x:Tr,k=x.kz):blt .Mw [.cg (.t kvs)]=some (.own (jG (kvs.map fun p=>.tup (p.1.map D.int)))):=pY h hk
theorem Ak{ws:List Wy}{r:Rd}:∀{i N:Nat},i<=N->(eX ws r i).length<=(eX ws r N).length:=fun{i N}h=>by rw[lL,lL];exact Nat.mul_le_mul_right _ h
theorem Kc{w n:Nat}{m last:Int}{ws:List Wy}{rs:List Rd}{b:Bool}{Q:R->List Sl->Prop}(hk:bW m ws)(hr:∀r∈rs,r.1.length<=6/\∀k∈r.1,0<=k/\k<(ws.length:Int))(hl:last<=12)(hl0:0<=last)(hn:(runs ws last rs).length<900)(q:∀ks:List Tr,Ld (runs ws last rs) ks->Q (.own (ks.map Tr.d)) [.val false (aY m ws),.val false (.int last),.own b (rs.map RD)]):(run Γ w (n+2) 37 [.val false (aY m ws),.val false (.int last),.own b (rs.map RD)]).sat Q:=by
 refine aN (d:=Zm) rfl rfl (by decide) ?_;first|apply aa|apply aq
 simp[Zm,xq];apply aa;simp;refine bZ (JD1 _ _ _ ws last rs) ?_ ?_ ⟨[],rs,[],.aZ,.aZ,.aZ,.aZ,.aZ,rfl,rfl,rfl,⟨rfl,rfl,rfl,rfl,rfl⟩,RZ⟩;.rintro d r _⟨done,rest,kvs,s4,s5,s6,s7,s8,e1,er,rfl,⟨h4,h5,h6,h7,h8⟩,hd⟩;cases rest with|nil=>cases er|cons rd rest=>
     cases er;have hrm:rd∈rs:=by rw[e1];simp
     obtain⟨hr6,hrk⟩:=hr rd hrm;have t0:=mj (l:=rd.1) hk;have t1:=Ew (l:=rd.1) hk;have hlen:(runs ws last done).length+(eX ws rd (nT ws last rd.1)).length<900:=by
      have e2:rs=done++[rd]++rest:=by rw[e1];simp
      rw[e2,kY,jw,List.length_append,List.length_append]at hn;omega
     simp[RD,h4,h5];apply aa;simp;refine Ey (by omega) hrk ?_;simp;refine⟨by omega,?_⟩;rw[show(last-tot ws rd.1+1).toNat=nT ws last rd.1 from rfl];refine ie (g:=fun(k:Nat)=>D.int (k:Int)) (JD2 _ _ _ _ _ ws (runs ws last done) rd) ?_ ?_ ⟨kvs,s6,s7,s8,rfl,⟨h6,h7,h8⟩,by simpa[eX]using hd⟩
     . rintro i _ hi⟨kvs,s6,s7,s8,rfl,⟨h6,h7,h8⟩,hd⟩;have hli:=Ak (ws:=ws) (r:=rd) (show i+1<=nT ws last rd.1 by omega);rw[eX,List.length_append,jH]at hli;simp[h6];apply aa;simp[h7];apply aa;simp;refine bZ (JD3 _ _ _ _ _ _ ws (runs ws last done++eX ws rd i) rd.1 i rd.2) ?_ ?_ ⟨[],rd.1,kvs,s8,rfl,rfl,(by simp[tot];exact⟨rfl,rfl,rfl,rfl,rfl,rfl⟩),h8,by simpa[uV,prs]using hd⟩;.rintro d r _⟨pre,post,kvs,s8,e3,er,rfl,h8,hd⟩;cases post with|nil=>cases er|cons k post=>
           cases er;have hkm:k∈rd.1:=by rw[e3];simp
           obtain⟨k0,k1⟩:=hrk k hkm;obtain⟨v,ha,hv⟩:=BV k0 k1;have hpl:pre.length<rd.1.length:=by rw[e3];simp
           have hkl:kvs.length<lim:=by have h1:=hd.len;rw[List.length_append,List.length_append,jH]at h1;show _<16777216;omega
           have hadd:=Q9 (x:=⟨i+tot ws pre,k,rd.2⟩) hd;rw[List.append_assoc,<-pK]at hadd;simp[h8];apply aa;simp[xH,Bv,oU];rw[show(Option.map (fun x=>x.snd) (List.find? (fun kv=>decide (kv.fst=[(i:Int)+tot ws pre,k])) kvs)).getD 0=gv kvs (Tr.kz ⟨i+tot ws pre,k,rd.2⟩)from rfl,Hk hkl];simp;apply aa;simp[ha,Fy,hv];refine⟨pre++[k],post,_,.val false (.int k),by rw[e3];simp,rfl,?_,rfl,hadd⟩;rw[v5,Int.add_assoc];rfl
       .rintro _⟨pre,post,kvs,s8,e3,er,rfl,h8,hd⟩;cases post with|cons _ _=>cases er|nil=>rw[List.append_nil]at e3;subst e3;simp;exact⟨kvs,_,_,s8,rfl,⟨rfl,rfl,h8⟩,by rw[eX,<-List.append_assoc];exact hd⟩
     .rintro _⟨kvs,s6,s7,s8,rfl,⟨h6,h7,h8⟩,hd⟩;simp;exact⟨done++[rd],rest,kvs,_,_,s6,s7,s8,by rw[e1];simp,rfl,rfl,⟨rfl,rfl,h6,h7,h8⟩,by rw[jw];exact hd⟩
 .rintro _⟨done,rest,kvs,s4,s5,s6,s7,s8,e1,er,rfl,⟨h4,h5,h6,h7,h8⟩,hd⟩;cases rest with|cons _ _=>cases er|nil=>
     rw[List.append_nil]at e1;subst e1;have hk':∀k∈kvs.map (·.1),∃x:Tr,k=x.kz:=fun k hk=>by obtain⟨x,_,e⟩:=hd.key k hk;exact⟨x,e⟩
     obtain⟨ks,g1,g2,g3,g4⟩:=xj hd.nd hk';have hlk:ks.length=kvs.length:=by have:=g2.length_eq;simpa using this
     have hkl:=hd.len;simp;apply aa;simp[Ng,Hx (show kvs.length<1000 by omega) hk',g1];refine⟨fun _=>?_,by show _<=16777216;omega⟩;refine bf (FD _ _ _ _ _ _ _ _ _) (fun d=>(Nt kvs (keyOf d)).d) ⟨.aZ,.aZ,rfl,rfl,rfl⟩ ?_ ?_
     . rintro d hd' _⟨s,t,rfl,hs,ht⟩;obtain⟨y,hy,rfl⟩:=List.mem_map.mp hd';have hky:y.kz∈kvs.map (·.1):=g2.mem_iff.mp (List.mem_map.mpr ⟨y,hy,rfl⟩);have hgt:qD (.cg (.t kvs)) [.int y.h,.int y.w]=some (.val (.int (gv kvs y.kz))):=by rw[show qD (.cg (.t kvs)) [.int y.h,.int y.w]=(Dc.uJ (.t kvs) [.int y.h,.int y.w]).bind (fun o=>o.map fun v=>R.val (.int v))from rfl,oU,Option.bind_some];have z:=pR hky;rw[show y.kz=[y.h,y.w]from rfl]at z ⊢;rw[z];rfl
       simp[hs,ht,Gm,hgt,keyOf,Nt,Tr.d];exact⟨rfl,_,_,rfl,rfl,rfl⟩
     . rintro _⟨s,t,rfl,hs,ht⟩;have e:(ks.map (fun y=>D.tup [.int y.h,.int y.w])).map (fun d=>(Nt kvs (keyOf d)).d)=ks.map Tr.d:=by rw[List.map_map];refine List.map_congr_left fun y hy=>?_;show(Tr.mk y.h y.w (gv kvs y.kz)).d=y.d;rw[<-g3 y hy]
       rw[e];simp;refine q ks ⟨g4,fun P=>?_,fun y hy=>?_,by omega⟩;.rw[<-hd.sum P,jf hd.nd,<-uW g2,tW];refine dI fun y hy=>?_;unfold wl;rw[g3 y hy]
       .obtain⟨x,hx,e⟩:=hd.key _ (g2.mem_iff.mp (List.mem_map.mpr ⟨y,hy,rfl⟩));exact⟨x,hx,e⟩
end T
end
section
namespace T
open HH
noncomputable def SD(k:Int):D:=.tup [.int k,.bl true]
noncomputable def CD(r:Rd):D:=.tup [.tup (r.1.map SD),.int r.2]
theorem Wc{k:Int}:vB (SD k) (.int 0)=some (.val (.int k)):=by simp[SD]
theorem P0{k:Int}:vB (SD k) (.int 1)=some (.val (.bl true)):=by simp[SD]
theorem jN{w n:Nat}{m k:Int}{ws:List Wy}{Q:R->List Sl->Prop}(h0:0<=k)(h1:k<(ws.length:Int))(q:Q (.val (.int (hh ws k))) [.val false (aY m ws),.val false (SD k)]):(run Γ w (n+1) 0 [.val false (aY m ws),.val false (SD k)]).sat Q:=by
 obtain⟨v,ha,hv⟩:=BV h0 h1;refine aN (d:=f0) rfl rfl (by decide) ?_;first|apply aa|apply aq
 simp[f0,Wc,ha,Fy,hv];apply aa;simp[P0];exact q
noncomputable def gH2(ws:List Wy):D->D|.tup [.int k,_]=>.int (hh ws k)|d=>d
inductive F2s(a b:Sl)(ρ:List Sl):Prop where|mk(s:Sl)(q0:ρ=[a,b,s])(q1:fr s=true)
theorem qi{w n:Nat}{m:Int}{ws:List Wy}{l:List Int}{Q:R->List Sl->Prop}(hl:l.length<=100)(h:∀k∈l,0<=k/\k<(ws.length:Int))(q:Q (.val (.int (tot ws l))) [.val false (aY m ws),.val false (.tup (l.map SD))]):(run Γ w (n+2) 1 [.val false (aY m ws),.val false (.tup (l.map SD))]).sat Q:=by
 refine aN (d:=f1) rfl rfl (by decide) ?_;first|apply aa|apply aq
 simp[f1,show l.length<=lim by show _<=16777216;omega];refine bf (F2s _ _) (gH2 ws) ⟨.aZ,rfl,rfl⟩ ?_ ?_;.rintro d hd _⟨s,rfl,hs⟩;obtain⟨k,hk',rfl⟩:=List.mem_map.mp hd;obtain⟨k0,k1⟩:=h k hk';simp[hs];refine jN k0 k1 ?_;simp[gH2,SD];exact⟨_,rfl,rfl⟩
 rintro _⟨s,rfl,hs⟩;have e1:(l.map SD).map (gH2 ws)=(l.map (hh ws)).map D.int:=by simp[gH2,SD]
 rw[e1,gU];simp;exact q
inductive JSp(a0 a1 a2 a3:Sl)(ws:List Wy)(l:List Int)(b x:Int)(r:List D)(ρ:List Sl):Prop where|mk(pre post:List Int)(s6:Sl)(q0:l=pre++post)(q1:r=post.map SD)(q2:ρ=[a0,a1,a2,a3,.own false ((uV ws pre b x).map Tr.d),.val false (.int (b+tot ws pre)),s6])(q3:fr s6=true)
theorem qT{w n:Nat}{m b x:Int}{ws:List Wy}{l:List Int}{Q:R->List Sl->Prop}(hl:l.length<=100)(h:∀k∈l,0<=k/\k<(ws.length:Int))(q:Q (.own ((uV ws l b x).map Tr.d)) [.val false (aY m ws),.val false (.int b),.val false (.tup (l.map SD)),.val false (.int x)]):(run Γ w (n+2) 13 [.val false (aY m ws),.val false (.int b),.val false (.tup (l.map SD)),.val false (.int x)]).sat Q:=by
 refine aN (d:=f13) rfl rfl (by decide) ?_;first|apply aa|apply aq
 simp[f13];apply aa;simp;apply aa;simp;refine bZ (JSp _ _ _ _ ws l b x) ?_ ?_ ⟨[],l,.aZ,rfl,rfl,(by simp[tot,uV,prs];exact⟨rfl,rfl,rfl,rfl⟩),rfl⟩;.rintro d r _⟨pre,post,s6,e1,er,rfl,h6⟩;cases post with|nil=>cases er|cons k post=>
     cases er;obtain⟨k0,k1⟩:=h k (by rw[e1];simp);have hp:pre.length<=100:=by rw[e1]at hl;simp at hl;omega
     simp[h6];apply aa;simp[P0];apply aa;simp[Wc,show(uV ws pre b x).length<lim by rw[jH];show _<16777216;omega];apply aa;simp;refine jN k0 k1 ?_;simp;apply aa;simp[P0];refine⟨pre++[k],post,.val false (SD k),by rw[e1];simp,rfl,?_,rfl⟩;rw[pK,v5,List.map_append,Int.add_assoc];rfl
 .rintro _⟨pre,post,s6,e1,er,rfl,h6⟩;cases post with|cons _ _=>cases er|nil=>rw[List.append_nil]at e1;subst e1;simp;apply aa;simp;exact q
noncomputable def Xb(d:D):Option D:=if(CV d).l=0 then none else some d
inductive F1n(a:Sl)(ρ:List Sl):Prop where|mk(s:Sl)(q0:ρ=[a,s])(q1:fr s=true)
theorem wO{w n:Nat}{b:Bool}{ks:List Tr}{Q:R->List Sl->Prop}(hl:ks.length<1000)(h:∀y∈ks,1<=y.l)(q:∀a,Q (.own (ks.map Tr.d)) [a]):(run Γ w (n+1) 12 [.own b (ks.map Tr.d)]).sat Q:=by
 refine aN (d:=f12) rfl rfl (by decide) ?_;first|apply aa|apply aq
 simp[f12,show ks.length<=lim by show _<=16777216;omega];refine mz (F1n _) Xb ⟨.aZ,rfl,rfl⟩ ?_ ?_
 . rintro d hd _⟨s,rfl,hs⟩;obtain⟨y,hy,rfl⟩:=List.mem_map.mp hd;have:=h y hy;have c:¬ y.l=0:=by omega
   simp[hs,Rp,c,Xb];exact⟨_,rfl,rfl⟩
 rintro _⟨s,rfl,hs⟩;have e:(ks.map Tr.d).filterMap Xb=ks.map Tr.d:=by
  rw[List.filterMap_map];have:∀l:List Tr,(∀y∈l,1<=y.l)->l.filterMap (Xb ∘ Tr.d)=l.map Tr.d:=by intro l;induction l with|nil=>intro _;rfl|cons y l ih=>
     intro h;have c:¬ y.l=0:=by have:=h y (by simp);omega
     have e:(Xb ∘ Tr.d) y=some y.d:=if_neg c;rw[List.filterMap_cons,ih fun z hz=>h z (by simp[hz]),e];rfl
  exact this ks h
 rw[e];simp;exact q _
inductive JG2(a0 a1 a2 a4 a5:Sl)(ws:List Wy)(base:List Tr)(rd:Rd)(i:Nat)(ρ:List Sl):Prop where|mk(s6:Sl)(q0:ρ=[a0,a1,a2,.own false ((base++eX ws rd i).map Tr.d),a4,a5,s6])(q1:fr s6=true)
inductive JG1(a0 a1 a2:Sl)(ws:List Wy)(last:Int)(rs:List Rd)(r:List D)(ρ:List Sl):Prop where|mk(done rest:List Rd)(s4 s5 s6:Sl)(q0:rs=done++rest)(q1:r=rest.map CD)(q2:ρ=[a0,a1,a2,.own false ((runs ws last done).map Tr.d),s4,s5,s6])(q3:fr s4=true)(q4:fr s5=true)(q5:fr s6=true)
theorem uw{w n:Nat}{m last:Int}{ws:List Wy}{rs:List Rd}{b:Bool}{Q:R->List Sl->Prop}(hk:bW m ws)(hr:∀r∈rs,(r.1.length<=6/\∀k∈r.1,0<=k/\k<(ws.length:Int))/\1<=r.2)(hl:last<=12)(hl0:0<=last)(hn:(runs ws last rs).length<900)(hP:∀x∈runs ws last rs,1<=x.l)(q:∀(ks:List Tr)(a:Sl),Ld (runs ws last rs) ks->Q (.own (ks.map Tr.d)) [.val false (aY m ws),.val false (.int last),a]):(run Γ w (n+3) 14 [.val false (aY m ws),.val false (.int last),.own b (rs.map CD)]).sat Q:=by
 refine aN (d:=Zy) rfl rfl (by decide) ?_;first|apply aa|apply aq
 simp[Zy];apply aa;simp;refine bZ (JG1 _ _ _ ws last rs) ?_ ?_ ⟨[],rs,.aZ,.aZ,.aZ,rfl,rfl,rfl,rfl,rfl,rfl⟩;.rintro d r _⟨done,rest,s4,s5,s6,e1,er,rfl,h4,h5,h6⟩;cases rest with|nil=>cases er|cons rd rest=>
     cases er;obtain⟨⟨hr6,hrk⟩,hr1⟩:=hr rd (by rw[e1];simp);have t0:=mj (l:=rd.1) hk;have t1:=Ew (l:=rd.1) hk;have hlen:(runs ws last done).length+(eX ws rd (nT ws last rd.1)).length<900:=by
      have e2:rs=done++[rd]++rest:=by rw[e1];simp
      rw[e2,kY,jw,List.length_append,List.length_append]at hn;omega
     simp[CD,h4,h5];apply aa;simp;refine qi (by omega) hrk ?_;simp;refine sG ?_;have e3:(if 0<last-tot ws rd.1+1 then last-tot ws rd.1+1 else 0)=(nT ws last rd.1:Int):=Ny;have e4:nT ws last rd.1<=13:=by unfold nT;omega
     rw[e3];simp;refine⟨by omega,?_⟩;refine ie (g:=fun(k:Nat)=>D.int (k:Int)) (JG2 _ _ _ _ _ ws (runs ws last done) rd) ?_ ?_ ⟨s6,(by rw[eX,List.append_nil]),h6⟩;.rintro i _ hi⟨s6,rfl,h6⟩;have hli:=Ak (ws:=ws) (r:=rd) (show i+1<=nT ws last rd.1 by omega);rw[eX,List.length_append,jH]at hli;simp[h6];apply aa;simp;refine qT (by omega) hrk ?_;simp[jH,show(runs ws last done).length+((eX ws rd i).length+rd.1.length)<=lim by show _<=16777216;omega,show(runs ws last done).length+(eX ws rd i).length+rd.1.length<=lim by show _<=16777216;omega];exact⟨.val false (.int i),(by rw[eX];simp),rfl⟩
     .rintro _⟨s6,rfl,h6⟩;simp;exact⟨done++[rd],rest,.val false (.tup (rd.1.map SD)),.val false (.int rd.2),s6,by rw[e1];simp,rfl,(by rw[jw];simp),rfl,rfl,h6⟩
 .rintro _⟨done,rest,s4,s5,s6,e1,er,rfl,h4,h5,h6⟩;cases rest with|cons _ _=>cases er|nil=>rw[List.append_nil]at e1;subst e1;simp;apply aa;simp;refine Ir (other:=[]) (.inl ⟨_,rfl⟩) (.inl ⟨_,rfl⟩) (by simp;omega) fun ks k1 k2 k3 k4=>?_;have Ej:Ld (runs ws last rs) ks:=⟨k1,fun P=>by rw[k3 P];simp,fun y hy=>by simpa using k4 y hy,by simpa using k2⟩;simp;refine wO (by have:=Ej.len;omega) (uZ hP Ej.Cd Ej.sum Ej.key) fun a=>?_;simp;exact q ks _ Ej
noncomputable def gF:D->D|.int k=>SD k|d=>d
theorem CQ{w n:Nat}{l:List Int}{Q:R->List Sl->Prop}(hl:l.length<=100)(q:Q (.val (.tup (l.map SD))) [.val false (.tup (l.map D.int))]):(run Γ w (n+1) 16 [.val false (.tup (l.map D.int))]).sat Q:=by
 refine aN (d:=Za) rfl rfl (by decide) ?_;first|apply aa|apply aq
 simp[Za,show l.length<=lim by show _<=16777216;omega];refine bf (F1n _) gF ⟨.aZ,rfl,rfl⟩ ?_ ?_;.rintro d hd _⟨s,rfl,hs⟩;obtain⟨k,hk',rfl⟩:=List.mem_map.mp hd;simp[hs,gF,SD];exact⟨_,rfl,rfl⟩
 rintro _⟨s,rfl,hs⟩;have e1:(l.map D.int).map gF=l.map SD:=by simp[gF]
 rw[e1];simp;exact q
noncomputable def gC:D->D|.tup [.tup ds,d]=>.tup [.tup (ds.map gF),d]|d=>d
theorem Ym{r:Rd}:gC (RD r)=CD r:=by show D.tup [.tup ((r.1.map D.int).map gF),.int r.2]=_;rw[show(r.1.map D.int).map gF=r.1.map SD by simp[gF]];rfl
inductive F3r(a0 a1 a2:Sl)(ρ:List Sl):Prop where|mk(s:Sl)(t:Sl)(q0:ρ=[a0,a1,a2,s,t])(q1:fr s=true)(q2:fr t=true)
theorem jd{w n:Nat}{m last:Int}{ws:List Wy}{rs:List Rd}{b:Bool}{Q:R->List Sl->Prop}(hk:bW m ws)(hrl:rs.length<=100)(hr:∀r∈rs,(r.1.length<=6/\∀k∈r.1,0<=k/\k<(ws.length:Int))/\1<=r.2)(hl:last<=12)(hl0:0<=last)(hn:(runs ws last rs).length<900)(hP:∀x∈runs ws last rs,1<=x.l)(q:∀ks:List Tr,Ld (runs ws last rs) ks->Q (.own (ks.map Tr.d)) [.val false (aY m ws),.val false (.int last),.own b (rs.map RD)]):(run Γ w (n+4) 17 [.val false (aY m ws),.val false (.int last),.own b (rs.map RD)]).sat Q:=by
 refine aN (d:=Zn) rfl rfl (by decide) ?_;first|apply aa|apply aq
 simp[Zn,show rs.length<=lim by show _<=16777216;omega];refine bf (F3r _ _ _) gC ⟨.aZ,.aZ,rfl,rfl,rfl⟩ ?_ ?_;.rintro d hd _⟨s,t,rfl,hs,ht⟩;obtain⟨r,hrm,rfl⟩:=List.mem_map.mp hd;rw[Ym];simp[hs,ht,RD];refine CQ (by have:=(hr r hrm).1.1;omega) ?_;simp[CD];exact⟨_,_,rfl,rfl,rfl⟩
 rintro _⟨s,t,rfl,hs,ht⟩;have e1:(rs.map RD).map gC=rs.map CD:=by simp[Ym]
 rw[e1];simp;refine uw hk hr hl hl0 hn hP fun ks a Ej=>?_;simp;exact q ks Ej
end T
end
section
namespace T
open HH
theorem Q0{n:Nat}(h:n<=1000):n<=lim:=Nat.le_trans h (by show 1000<=16777216;decide)
theorem Ro{n:Nat}(h:n<=1000):n<lim:=Nat.lt_of_le_of_lt h (by show 1000<16777216;decide)
theorem QF{pl:List Tr}(h:pl.length<=1000):gd 2 (.lst (pl.map Tr.d))=true:=by rw[gd,Bool.and_eq_true,List.all_eq_true];refine⟨by simpa using h,fun d hd=>?_⟩;obtain⟨x,_,rfl⟩:=List.mem_map.mp hd;rfl
theorem Rm{c:Call}{n x:Nat}{ρ:List Sl}:ex c n (.YF x) ρ=(lift (Ji ρ x) ρ).bind fun _ ρ=>match ρ[x]?with|some (.own b ds)=>.ok .next (ρ.set x (.own b ds.reverse))|_=>.stuck:=(rfl)
inductive JL(v:Sl)(r:List D)(ρ:List Sl):Prop where|mk(s1:Sl)(s2:Sl)(s3:Sl)(s4:Sl)(s5:Sl)(s6:Sl)(s7:Sl)(s8:Sl)(s9:Sl)(q0:ρ=[v,s1,s2,s3,s4,s5,s6,s7,s8,s9])(q1:A5 (fr s1=true) (fr s2=true) (fr s3=true) (fr s4=true) (fr s5=true))(q2:A4 (fr s6=true) (fr s7=true) (fr s8=true) (fr s9=true))(q3:∀d∈r,∃i,d=D.int i)
inductive JT(a0 a1 a3 a4:Sl)(y:Int)(_:Nat)(ρ:List Sl):Prop where|mk(x:Int)(z:Int)(s5:Sl)(s6:Sl)(s7:Sl)(s8:Sl)(s9:Sl)(q0:ρ=[a0,a1,.own false [.int x,.int y,.int z],a3,a4,s5,s6,s7,s8,s9])(q1:A5 (fr s5=true) (fr s6=true) (fr s7=true) (fr s8=true) (fr s9=true))
inductive FL(a0 a1 a2 a3 a4 a5 a6 a7 a8 a9:Sl)(ρ:List Sl):Prop where|mk(s:Sl)(q0:ρ=[a0,a1,a2,a3,a4,a5,a6,a7,a8,a9,s])(q1:fr s=true)
set_option maxHeartbeats 4000000 in
theorem K7(ns:List Int)(hn:ns.length<=63):∃as,run Γ 1000 40 38 [.val false (.lst (ns.map D.int))]=.ok (.val (.bl true)) as:=by
 suffices h:∀w,(run Γ w 40 38 [.val false (.lst (ns.map D.int))]).sat fun r _=>r=.val (.bl true)by obtain⟨a,ρ,e,rfl⟩:=sat_iff.mp (h 1000);exact⟨ρ,e⟩
 intro w;refine aN (d:=ZW) rfl rfl (by decide) ?_;first|apply aa|apply aq
 simp[ZW];refine ym (m:=12) (by rfl) (by decide) (by decide) hn fun cs hcl=>?_;have hl:1+cs.length<=lim:=by show _<=16777216;omega
 simp[hl];refine bZ (JL (.val false (.lst (ns.map D.int)))) ?_ ?_ ?_
 . rintro d r _⟨s1,s2,s3,s4,s5,s6,s7,s8,s9,rfl,⟨h1,h2,h3,h4,h5⟩,⟨h6,h7,h8,h9⟩,hd⟩;obtain⟨x,rfl⟩:=hd d (by simp);simp[h1];apply aa;simp;refine Eo fun a b c=>?_;simp[h2];apply aa;simp;refine Lw fun m ws x z hk hsm=>?_;simp[h3];apply aa;simp;refine yQ hk fun x z rs hrs Jc=>?_;simp[h4];have m0:=hk.m0;have m1:=hk.m1;have hne:∀v∈ws,v.s≠v.t:=fun v hv=>(hk.ok v hv).ne;obtain⟨f1,f2⟩:=rN hk Jc;have hro:vM rs:=⟨by have:=hrs.1;omega,fun r hr=>by have:=hrs.2 r hr;omega⟩;have hr1:∀r∈rs,r.1.length<=6/\∀k∈r.1,0<=k/\k<(ws.length:Int):=fun r hr=>⟨hrs.2 r hr,(uT hk (f1 r hr).2).2⟩;have hr2:∀r∈rs,(r.1.length<=6/\∀k∈r.1,0<=k/\k<(ws.length:Int))/\1<=r.2:=fun r hr=>⟨hr1 r hr,(f1 r hr).1⟩;have hrl:rs.length<=10:=hrs.1;have adw:=ne_self (k:=3) (by decide) (Vx hro);first|apply aa|apply aq
   simp;refine ie (N:=3) (g:=fun(k:Nat)=>D.int (k:Int)) (JT _ _ _ _ b) ?_ ?_ ⟨x,z,s5,s6,s7,s8,s9,rfl,⟨h5,h6,h7,h8,h9⟩⟩
   . rintro i _ hi⟨x,z,s5,s6,s7,s8,s9,rfl,⟨h5,h6,h7,h8,h9⟩⟩;simp[h5];apply aa;simp;refine cu (by decide) (by decide) fun last x z l0 l1=>?_;simp[h6];obtain⟨cp,br⟩:=K3 (last:=last) hk Jc;have hnl:(runs ws last rs).length<900:=by have:=xg (ws:=ws) (last:=last) (by omega) (fun l=>mj hk) hrs.2;omega
     have hP:∀x∈runs ws last rs,1<=x.l:=fun x hx=>(cp.ok x hx).2.1;first|apply aa|apply aq
     simp;refine Kc hk hr1 (by omega) l0 hnl fun ks hks=>?_;have hkl:ks.length<900:=by have:=hks.len;omega
     have Y4:=ne_self (by decide) (QF (pl:=ks) (by omega));have hmg:=mg_of hP hks.Cd hks.sum hks.key hks.len;obtain⟨hpl,hcl⟩:=Xl cp hmg;have hC:=Ep hpl hcl (Int.le_refl _);have hst:stP ws ks (m-1) (fX last)=JV ws last rs:=by rw[uN,Fe hks.sum,<-uN];exact br
     simp[h7];apply aa;simp[h8];apply aa;simp;refine jd hk (by omega) hr2 (by omega) l0 hnl hP fun js hjs=>?_;have ejk:js=ks:=Bl hP hjs.Cd hjs.sum hjs.key hks.Cd hks.sum hks.key;subst ejk;simp[h9];apply aa;simp[Y4,adw];apply aa;simp[show js.length<=lim from Q0 (by omega)];refine bf (FL _ _ _ _ _ _ _ _ _ _) (fun _=>.bl true) ⟨.aZ,rfl,rfl⟩ ?_ ?_;.rintro d hd _⟨s,rfl,hs⟩;obtain⟨y,hy,rfl⟩:=List.mem_map.mp hd;simp[hs,Tr.d];exact⟨_,rfl,rfl⟩
     rintro _⟨s,rfl,hs⟩;rw[List.map_map,show((fun _=>D.bl true)∘ Tr.d)=fun _:Tr=>D.bl true from rfl,BL];simp[all_true];apply aa;simp;refine qR (.inl ⟨_,rfl⟩) ⟨by omega,by omega⟩ hne (by omega) fun r hr=>?_;have hr1:r=true:=hr.mpr hC;subst hr1;simp;apply aa;simp;refine wZ (.inl ⟨_,rfl⟩) hpl.inw hne (by omega) ?_;rw[hst];simp;refine Ck hk (by omega) hro Jc ?_;simp;apply aa;simp[Rm];apply aa;simp[show js.length<lim from Ro (by omega)];apply aa;simp;refine jd hk (by omega) hr2 (by omega) l0 hnl hP fun Ot Tn=>?_;have ejk:Ot=js:=Bl hP Tn.Cd Tn.sum Tn.key hks.Cd hks.sum hks.key;subst ejk;simp[Y4];exact⟨x,z,_,_,_,_,_,rfl,⟨rfl,rfl,rfl,rfl,rfl⟩⟩
   .rintro _⟨x,z,s5,s6,s7,s8,s9,rfl,⟨h5,h6,h7,h8,h9⟩⟩;simp;exact⟨_,_,_,_,_,_,_,_,_,rfl,⟨rfl,rfl,rfl,rfl,h5⟩,⟨h6,h7,h8,h9⟩,fun d h=>hd d (List.mem_cons_of_mem _ h)⟩
 . rintro _⟨s1,s2,s3,s4,s5,s6,s7,s8,s9,rfl,_⟩;first|apply aa|apply aq
   simp
 .exact⟨.aZ,.aZ,.aZ,.aZ,.aZ,.aZ,.aZ,.aZ,.aZ,rfl,⟨rfl,rfl,rfl,rfl,rfl⟩,⟨rfl,rfl,rfl,rfl⟩,fun d hd=>by
    have hd':d=D.int 0\/∃a,a∈cs/\D.int a=d:=by simpa using hd
    rcases hd' with rfl|⟨i,_,rfl⟩;.exact⟨_,rfl⟩
    .exact⟨_,rfl⟩⟩
end T
end
namespace PySem.W.Fast
def tw1222302781549367156:=0
def tw11235178887737014764:=0
def tw6882450266003232896:=0
def tw4967674376512190058:=0
def tw10728352798071112662:=0
def tw10276052024297563438:=0
def tw9630886548567577523:=0
def tw743262221428627694:=0
def tw11818756750482332232:=0
def tw12220471162782050866:=0
def tw12894807364434322686:=0
def tw6083488491409569651:=0
def tw5422677563800837437:=0
def tw13066896352297275979:=0
def tw9093465935826778083:=0
def tw13023864609935533427:=0
def tw5486644398031792963:=0
def tw11847874213544953569:=0
def tw1107683315516890026:=0
def tw10142108148805311838:=0
def tw6665282614142810224:=0
def tw13320644029083785472:=0
def tw5036803227406857010:=0
def tw1517390421894894643:=0
def tw10738345802586201382:=0
def tw11292241935521625469:=0
def tw15673186606937072392:=0
def tw4900235660719810358:=0
def tw12870610334898912773:=0
def tw10946065052050349316:=0
def tw5978001553344850073:=0
def tw1790645406155108817:=0
def tw11887710144290502991:=0
def tw4454738850842332852:=0
def tw13628116164194346133:=0
def tw9613742882872000214:=0
def tw3309568149863266509:=0
def tw7973536178514679726:=0
def tw11076112864567149100:=0
def tw4299828042619579807:=0
def tw16889209662081323210:=0
def tw12872850805052679807:=0
def tw6351160069300055385:=0
def tw10734015444061404474:=0
def tw4234097920535140204:=0
def tw2632739336773812289:=0
def tw8239732914231532724:=0
def tw3800291390810038376:=0
def tw5194549913718685914:=0
def tw18326935134214425372:=0
def tw4434755996906129166:=0
def tw10680001244552262184:=0
def tw5560838109210647198:=0
def tw10041179174282362533:=0
def tw17262184501229294335:=0
def tw14446114823021222419:=0
def tw1517383052019916422:=0
def tw12100499738500899874:=0
def tw13503681237461023640:=0
def tw13431236298449235829:=0
def tw13528282493120468389:=0
def tw16333833394525715391:=0
def tw5860621167231200499:=0
def tw4321146680479398387:=0
def tw13792171776838796511:=0
def tw9142298336737010867:=0
def tw17846047175916897715:=0
def tw18352113290844953346:=0
def tw14006781615589341495:=0
def tw17175266129299698574:=0
def tw10395070212744277962:=0
def tw7578480520278327913:=0
def tw12019920132371116238:=0
def tw8622522658343227117:=0
def tw14674086076958700759:=0
def tw10090038047364650829:=0
def tw14476936750533770626:=0
def tw15713846534948777025:=0
def tw6753951115644364371:=0
def tw1661691792611336125:=0
def tw8325306384517427317:=0
def tw2155086754466134842:=0
def tw8804026154780526050:=0
def tw12441154124715814833:=0
def tw11559485366806362320:=0
def tw2362183278707183004:=0
def tw10838763814683200318:=0
def tw15270152495147509114:=0
def tw12480315869021548200:=0
def tw12457107513135295783:=0
def tw5069573822554385288:=0
def tw6116780683629749839:=0
def tw2965064870390997029:=0
def tw1776867240470439653:=0
def tw6619125156461155445:=0
def tw376884203056706752:=0
def tw1624389326131136190:=0
def tw4024280182638883875:=0
def tw18267829285750311927:=0
def tw11621667986070410322:=0
def tw9211388043394096942:=0
def tw1819181959512835178:=0
def tw6673615960795159129:=0
def tw3366334204185663195:=0
def tw9956361591470245465:=0
def tw1886219859885873757:=0
def tw15968137750986737797:=0
def tw17480501999412154982:=0
def tw10806280689512365386:=0
def tw17495327043925053421:=0
def tw6194842790698168558:=0
def tw12897731808089065911:=0
def tw8913097122338468124:=0
def tw6628420647982712298:=0
def tw3798497515617425101:=0
def tw14387864763861791308:=0
def tw7257724968245050938:=0
def tw12552204828973163493:=0
def tw14363048794035478534:=0
def tw12799054233862093698:=0
def tw11593853373290946899:=0
def tw9909742036284026171:=0
def tw4458246517569235796:=0
def tw7783902300774473477:=0
def tw11043658632841976172:=0
def tw2018811389276605423:=0
def tw12706752165607886236:=0
def tw16583043345796896146:=0
def tw416487181675660882:=0
def tw4330460618310600827:=0
def tw3952435822701302868:=0
def tw18049407924353945567:=0
def tw15601648152078270976:=0
def tw4101978856957044732:=0
def tw9660315566692064441:=0
def tw4581384299669666616:=0
def tw7912953346203947884:=0
def tw3828487828526955486:=0
def tw15812502831084899385:=0
def tw8802384716989284514:=0
def tw4480231493146213092:=0
def tw6175750297817799033:=0
def tw3032182803892867403:=0
def tw3584229742940883530:=0
def tw7834034826320044729:=0
def tw11940683483362598587:=0
def tw5126749275830121668:=0
def tw12989784620161362753:=0
def tw958296070886419398:=0
def tw14245851666567928529:=0
def tw3132124579246469136:=0
def tw4979713231568770651:=0
def tw14082523740572664043:=0
def tw1772484653688630177:=0
def tw9341808988450729083:=0
def tw10582434253068743251:=0
def tw4098646920015532130:=0
def tw7267611605495325458:=0
def tw10091702914369058529:=0
def tw14537314541966217734:=0
def tw13344787872111265979:=0
def tw154843752141381262:=0
def tw11945453087990481920:=0
def tw3304209081856105787:=0
def tw9984533126370046802:=0
def tw2130133758401539301:=0
def tw5980746595697419652:=0
def tw11569203263661104636:=0
def tw14223380849863801910:=0
def tw13402368317150652990:=0
def tw15281055859087981324:=0
def tw16281710926604944211:=0
def tw16904097890599968896:=0
def tw18391250165815604982:=0
def tw9722548981177176219:=0
def tw7440620334742315649:=0
def tw13988561921012369509:=0
def tw12421524646975596280:=0
def tw174179255937304909:=0
def tw14271923802112310833:=0
def tw8233621302033920171:=0
def tw11196086180055896158:=0
def tw9777636577849610201:=0
def tw14585928890620764209:=0
def tw14101371632750826074:=0
def tw10361328605061066452:=0
def tw2135331617610440491:=0
def tw6347901437289840996:=0
def tw4704141138585520162:=0
def tw6730140048462418907:=0
def tw7589889651062252653:=0
def tw18075032598228261504:=0
def tw6514174429873846894:=0
def tw17862846732855213861:=0
def tw17729155903411863588:=0
def tw1884227621409398134:=0
def tw12751844326362612577:=0
def tw8199646663271546046:=0
def tw588842229329810826:=0
def tw5035222758248910067:=0
def tw12267814448077839796:=0
def tw13924488461560037299:=0
def tw5824949636283475575:=0
def tw10389122486084529987:=0
def tw16612360434013751163:=0
def tw7535900211761052392:=0
def tw7518540310913343275:=0
def tw6299838496252476407:=0
def tw4941085271323466303:=0
def tw8394345911104319617:=0
def tw10242072658845090515:=0
def tw15148844017211936112:=0
def tw1137117763716468725:=0
def tw7283948698036092802:=0
def tw4983988233176240463:=0
def tw9966889476497200626:=0
def tw11243031423981855627:=0
def tw8947057170109336210:=0
def tw11890613189112565741:=0
def tw18323639100449431240:=0
def tw3012244796413497987:=0
def tw982129954273589761:=0
def tw3933314816673668512:=0
def tw14823414683183721395:=0
def tw7428447170385860465:=0
def tw3019545038780295555:=0
def tw12375610233380917550:=0
def tw702986055322464869:=0
def tw4845716790929695440:=0
def tw8678295713345856809:=0
def tw13484311095275010953:=0
def tw14578791527707774049:=0
def tw8949348359620545279:=0
def tw431561397238696236:=0
def tw13032931899324795085:=0
def tw7024479302635159434:=0
def tw7639245157981149603:=0
def tw9434213522044388774:=0
def tw5323121578539412665:=0
def tw11941951803525825727:=0
def tw5430573946535942:=0
def tw7702612602269718227:=0
end PySem.W.Fast
namespace T
open PySem L2 PySem.Spec PyProof.Rows HH
local macro_rules|`(term|‹$p›)=>`(fun _ _ _ _ _ _ us hl=>match us,hl with|$p,_=>rfl)
structure Txt(K:PySem.W.Frag):Prop where
 D0:bA K "step_hours" s0
 D1:bA K "steps_hours" s1
 D2:bA K "is_rising" s2
 D3:bA K "walk_places" s3
 D4:bA K "walk_length" s4
 D5:bA K "within_rooms" s5
 D6:bA K "is_round" s6
 D7:bA K "rounds_stream" s7
 D8:bA K "rounds_fit" s8
 D9:bA K "laid_plans" s9
 D10:bA K "hour_out" W0
 D11:bA K "times_gone" Y8
 D12:bA K "without_noughts" s12
 D13:bA K "steps_plan" s13
 D14:bA K "gone_plan" s14
 D15:bA K "rounds_bring" s15
 D16:bA K "steps_forth" s16
 D17:bA K "rounds_plan" s17
 D18:bA K "is_plan" s18
 D19:bA K "triple_fits" s19
 D20:bA K "changes_at" s20
 D21:bA K "never_short" s21
 D22:bA K "plan_right" s22
 D23:bA K "is_clean_way" s23
 D24:bA K "plan_clean" s24
 D25:bA K "stands_at" s25
 D26:bA K "brought_by" s26
 D27:bA K "_law_pool" s27
 D28:bA K "_law_next" s28
 D29:bA K "_law_cells" s29
 D30:bA K "_law_way" s30
 D31:bA K "_law_net" s31
 D32:bA K "_law_walk_to" s32
 D33:bA K "_law_length" s33
 D34:bA K "_law_fit" Ge
 D35:bA K "_law_some_walk" s35
 D36:bA K "_law_rounds" s36
 D37:bA K "_law_due" s37
 D38:bA K "law" s38
 cF:PySem.W.nsIn K mainGlobals "all"=some none
 dU:PySem.W.nsIn K mainGlobals "isinstance"=some none
 cU:PySem.W.nsIn K mainGlobals "len"=some none
 iR:PySem.W.nsIn K mainGlobals "list"=some none
 tE:PySem.W.nsIn K mainGlobals "max"=some none
 aP:PySem.W.nsIn K mainGlobals "range"=some none
 dR:PySem.W.nsIn K mainGlobals "sorted"=some none
 dZ:PySem.W.nsIn K mainGlobals "sum"=some none
 cD:PySem.W.nsIn K mainGlobals "tuple"=some none
 tD:PySem.W.nsIn K mainGlobals "zip"=some none
noncomputable def ig{K:PySem.W.Frag}(T:Txt K):Nat->Addr:=fun k=>0
structure Oks(Pg:Program)(w:World)(K:PySem.W.Frag)(mg:Str->Option Value)(base:Heap)(cl:Nat->Addr)(n:Nat):Prop where
 c0:aA Pg w K mg base n (run Γ 1000 n) 0 "step_hours" 2
 c1:aA Pg w K mg base n (run Γ 1000 n) 1 "steps_hours" 2
 c2:aA Pg w K mg base n (run Γ 1000 n) 2 "is_rising" 1
 c3:aA Pg w K mg base n (run Γ 1000 n) 3 "walk_places" 2
 c4:aA Pg w K mg base n (run Γ 1000 n) 4 "walk_length" 2
 c5:aA Pg w K mg base n (run Γ 1000 n) 5 "within_rooms" 2
 c6:aA Pg w K mg base n (run Γ 1000 n) 6 "is_round" 3
 c7:aA Pg w K mg base n (run Γ 1000 n) 7 "rounds_stream" 2
 c8:aA Pg w K mg base n (run Γ 1000 n) 8 "rounds_fit" 2
 c9:aA Pg w K mg base n (run Γ 1000 n) 9 "laid_plans" 2
 c10:aA Pg w K mg base n (run Γ 1000 n) 10 "hour_out" 3
 c11:aA Pg w K mg base n (run Γ 1000 n) 11 "times_gone" 2
 c12:aA Pg w K mg base n (run Γ 1000 n) 12 "without_noughts" 1
 c13:aA Pg w K mg base n (run Γ 1000 n) 13 "steps_plan" 4
 c14:aA Pg w K mg base n (run Γ 1000 n) 14 "gone_plan" 3
 c15:aA Pg w K mg base n (run Γ 1000 n) 15 "rounds_bring" 3
 c16:aA Pg w K mg base n (run Γ 1000 n) 16 "steps_forth" 1
 c17:aA Pg w K mg base n (run Γ 1000 n) 17 "rounds_plan" 3
 c18:aA Pg w K mg base n (run Γ 1000 n) 18 "is_plan" 1
 c19:aA Pg w K mg base n (run Γ 1000 n) 19 "triple_fits" 3
 c20:aA Pg w K mg base n (run Γ 1000 n) 20 "changes_at" 3
 c21:aA Pg w K mg base n (run Γ 1000 n) 21 "never_short" 3
 c22:aA Pg w K mg base n (run Γ 1000 n) 22 "plan_right" 3
 c23:aA Pg w K mg base n (run Γ 1000 n) 23 "is_clean_way" 2
 c24:aA Pg w K mg base n (run Γ 1000 n) 24 "plan_clean" 3
 c25:aA Pg w K mg base n (run Γ 1000 n) 25 "stands_at" 4
 c26:aA Pg w K mg base n (run Γ 1000 n) 26 "brought_by" 3
 c27:aA Pg w K mg base n (run Γ 1000 n) 27 "_law_pool" 1
 Ou:aA Pg w K mg base n (run Γ 1000 n) 28 "_law_next" 2
 c29:aA Pg w K mg base n (run Γ 1000 n) 29 "_law_cells" 2
 c30:aA Pg w K mg base n (run Γ 1000 n) 30 "_law_way" 3
 c31:aA Pg w K mg base n (run Γ 1000 n) 31 "_law_net" 1
 c32:aA Pg w K mg base n (run Γ 1000 n) 32 "_law_walk_to" 3
 c33:aA Pg w K mg base n (run Γ 1000 n) 33 "_law_length" 2
 c34:aA Pg w K mg base n (run Γ 1000 n) 34 "_law_fit" 2
 c35:aA Pg w K mg base n (run Γ 1000 n) 35 "_law_some_walk" 2
 c36:aA Pg w K mg base n (run Γ 1000 n) 36 "_law_rounds" 2
 c37:aA Pg w K mg base n (run Γ 1000 n) 37 "_law_due" 3
 c38:aA Pg w K mg base n (run Γ 1000 n) 38 "law" 1
set_option maxHeartbeats 0 in
theorem Ga{Pg:Program}{w:World}{K:PySem.W.Frag}{mg:Str->Option Value}{base:Heap}(T:Txt K)(X:K.In base)(G:base.Ns mainGlobals mg):∀n,Oks Pg w K mg base (ig T) n
 |0=>{
   c0:=bC (ps:=["net","step"]) X G T.D0 rfl ‹[_,_]›
   c1:=bC (ps:=["net","steps"]) X G T.D1 rfl ‹[_,_]›
   c2:=bC (ps:=["things"]) X G T.D2 rfl ‹[_]›
   c3:=bC (ps:=["net","walk"]) X G T.D3 rfl ‹[_,_]›
   c4:=bC (ps:=["net","walk"]) X G T.D4 rfl ‹[_,_]›
   c5:=bC (ps:=["net","stream"]) X G T.D5 rfl ‹[_,_]›
   c6:=bC (ps:=["net","walk","loads"]) X G T.D6 rfl ‹[_,_,_]›
   c7:=bC (ps:=["net","rounds"]) X G T.D7 rfl ‹[_,_]›
   c8:=bC (ps:=["net","rounds"]) X G T.D8 rfl ‹[_,_]›
   c9:=bC (ps:=["one","other"]) X G T.D9 rfl ‹[_,_]›
   c10:=bC (ps:=["net","hour","way"]) X G T.D10 rfl ‹[_,_,_]›
   c11:=bC (ps:=["last","length"]) X G T.D11 rfl ‹[_,_]›
   c12:=bC (ps:=["plan"]) X G T.D12 rfl ‹[_]›
   c13:=bC (ps:=["net","begun","steps","loads"]) X G T.D13 rfl ‹[_,_,_,_]›
   c14:=bC (ps:=["net","last","chains"]) X G T.D14 rfl ‹[_,_,_]›
   c15:=bC (ps:=["net","last","rounds"]) X G T.D15 rfl ‹[_,_,_]›
   c16:=bC (ps:=["walk"]) X G T.D16 rfl ‹[_]›
   c17:=bC (ps:=["net","last","rounds"]) X G T.D17 rfl ‹[_,_,_]›
   c18:=bC (ps:=["triples"]) X G T.D18 rfl ‹[_]›
   c19:=bC (ps:=["net","last","triple"]) X G T.D19 rfl ‹[_,_,_]›
   c20:=bC (ps:=["net","plan","place"]) X G T.D20 rfl ‹[_,_,_]›
   c21:=bC (ps:=["net","plan","place"]) X G T.D21 rfl ‹[_,_,_]›
   c22:=bC (ps:=["net","last","plan"]) X G T.D22 rfl ‹[_,_,_]›
   c23:=bC (ps:=["net","number"]) X G T.D23 rfl ‹[_,_]›
   c24:=bC (ps:=["net","last","plan"]) X G T.D24 rfl ‹[_,_,_]›
   c25:=bC (ps:=["net","plan","place","hour"]) X G T.D25 rfl ‹[_,_,_,_]›
   c26:=bC (ps:=["net","plan","hour"]) X G T.D26 rfl ‹[_,_,_]›
   c27:=bC (ps:=["cell"]) X G T.D27 rfl ‹[_]›
   Ou:=bC (ps:=["pool","base"]) X G T.D28 rfl ‹[_,_]›
   c29:=bC (ps:=["script","most"]) X G T.D29 rfl ‹[_,_]›
   c30:=bC (ps:=["pool","many","k"]) X G T.D30 rfl ‹[_,_,_]›
   c31:=bC (ps:=["pool"]) X G T.D31 rfl ‹[_]›
   c32:=bC (ps:=["net","walk","end"]) X G T.D32 rfl ‹[_,_,_]›
   c33:=bC (ps:=["net","walk"]) X G T.D33 rfl ‹[_,_]›
   c34:=bC (ps:=["net","rounds"]) X G T.D34 rfl ‹[_,_]›
   c35:=bC (ps:=["pool","net"]) X G T.D35 rfl ‹[_,_]›
   c36:=bC (ps:=["pool","net"]) X G T.D36 rfl ‹[_,_]›
   c37:=bC (ps:=["net","last","rounds"]) X G T.D37 rfl ‹[_,_,_]›
   c38:=bC (ps:=["script"]) X G T.D38 rfl ‹[_]›}|n+1=>have ih:=Ga (Pg:=Pg) (w:=w) (base:=base) T X G n
   {c0:=bI (ps:=["net","step"]) X G T.D0 rfl rfl ‹[_,_]› fun _ _ F=>d0 (cl:=ig T) F
    c1:=bI (ps:=["net","steps"]) X G T.D1 rfl rfl ‹[_,_]› fun _ _ F=>d1 (cl:=ig T) F (PySem.W.mg_none_of X G T.dZ) ih.c0
    c2:=bI (ps:=["things"]) X G T.D2 rfl rfl ‹[_]› fun _ _ F=>d2 (cl:=ig T) F (PySem.W.mg_none_of X G T.cF) (PySem.W.mg_none_of X G T.tD)
    c3:=bI (ps:=["net","walk"]) X G T.D3 rfl rfl ‹[_,_]› fun _ _ F=>d3 (cl:=ig T) F (PySem.W.mg_none_of X G T.cU) (PySem.W.mg_none_of X G T.cD)
    c4:=bI (ps:=["net","walk"]) X G T.D4 rfl rfl ‹[_,_]› fun _ _ F=>d4 (cl:=ig T) F (PySem.W.mg_none_of X G T.dZ) ih.c3
    c5:=bI (ps:=["net","stream"]) X G T.D5 rfl rfl ‹[_,_]› fun _ _ F=>d5 (cl:=ig T) F (PySem.W.mg_none_of X G T.cF) (PySem.W.mg_none_of X G T.tD)
    c6:=bI (ps:=["net","walk","loads"]) X G T.D6 rfl rfl ‹[_,_,_]› fun _ _ F=>d6 (cl:=ig T) F ih.c3
    c7:=bI (ps:=["net","rounds"]) X G T.D7 rfl rfl ‹[_,_]› fun _ _ F=>d7 (cl:=ig T) F (PySem.W.mg_none_of X G T.cU) (PySem.W.mg_none_of X G T.aP) (PySem.W.mg_none_of X G T.dZ)
    c8:=bI (ps:=["net","rounds"]) X G T.D8 rfl rfl ‹[_,_]› fun _ _ F=>d8 (cl:=ig T) F (PySem.W.mg_none_of X G T.cF) ih.c6 ih.c7 ih.c5
    c9:=bI (ps:=["one","other"]) X G T.D9 rfl rfl ‹[_,_]› fun _ _ F=>d9 (cl:=ig T) F (PySem.W.mg_none_of X G T.dR)
    c10:=bI (ps:=["net","hour","way"]) X G T.D10 rfl rfl ‹[_,_,_]› fun _ _ F=>d10 (cl:=ig T) F
    c11:=bI (ps:=["last","length"]) X G T.D11 rfl rfl ‹[_,_]› fun _ _ F=>d11 (cl:=ig T) F (PySem.W.mg_none_of X G T.tE)
    c12:=bI (ps:=["plan"]) X G T.D12 rfl rfl ‹[_]› fun _ _ F=>d12 (cl:=ig T) F
    c13:=bI (ps:=["net","begun","steps","loads"]) X G T.D13 rfl rfl ‹[_,_,_,_]› fun _ _ F=>d13 (cl:=ig T) F ih.c0
    c14:=bI (ps:=["net","last","chains"]) X G T.D14 rfl rfl ‹[_,_,_]› fun _ _ F=>d14 (cl:=ig T) F (PySem.W.mg_none_of X G T.aP) ih.c9 ih.c1 ih.c13 ih.c11 ih.c12
    c15:=bI (ps:=["net","last","rounds"]) X G T.D15 rfl rfl ‹[_,_,_]› fun _ _ F=>d15 (cl:=ig T) F (PySem.W.mg_none_of X G T.dZ) ih.c8 ih.c11 ih.c4
    c16:=bI (ps:=["walk"]) X G T.D16 rfl rfl ‹[_]› fun _ _ F=>d16 (cl:=ig T) F (PySem.W.mg_none_of X G T.cD)
    c17:=bI (ps:=["net","last","rounds"]) X G T.D17 rfl rfl ‹[_,_,_]› fun _ _ F=>d17 (cl:=ig T) F ih.c14 ih.c16
    c18:=bI (ps:=["triples"]) X G T.D18 rfl rfl ‹[_]› fun _ _ F=>d18 (cl:=ig T) F (PySem.W.mg_none_of X G T.cF) ih.c2
    c19:=bI (ps:=["net","last","triple"]) X G T.D19 rfl rfl ‹[_,_,_]› fun _ _ F=>d19 (cl:=ig T) F (PySem.W.mg_none_of X G T.cU) ih.c10
    c20:=bI (ps:=["net","plan","place"]) X G T.D20 rfl rfl ‹[_,_,_]› fun _ _ F=>d20 (cl:=ig T) F ih.c10
    c21:=bI (ps:=["net","plan","place"]) X G T.D21 rfl rfl ‹[_,_,_]› fun _ _ F=>d21 (cl:=ig T) F (PySem.W.mg_none_of X G T.dR) ih.c20
    c22:=bI (ps:=["net","last","plan"]) X G T.D22 rfl rfl ‹[_,_,_]› fun _ _ F=>d22 (cl:=ig T) F (PySem.W.mg_none_of X G T.cF) (PySem.W.mg_none_of X G T.aP) ih.c18 ih.c21 ih.c19
    c23:=bI (ps:=["net","number"]) X G T.D23 rfl rfl ‹[_,_]› fun _ _ F=>d23 (cl:=ig T) F
    c24:=bI (ps:=["net","last","plan"]) X G T.D24 rfl rfl ‹[_,_,_]› fun _ _ F=>d24 (cl:=ig T) F (PySem.W.mg_none_of X G T.cF) (PySem.W.mg_none_of X G T.aP) ih.c23 ih.c22 ih.c25
    c25:=bI (ps:=["net","plan","place","hour"]) X G T.D25 rfl rfl ‹[_,_,_,_]› fun _ _ F=>d25 (cl:=ig T) F (PySem.W.mg_none_of X G T.dZ) ih.c20
    c26:=bI (ps:=["net","plan","hour"]) X G T.D26 rfl rfl ‹[_,_,_]› fun _ _ F=>d26 (cl:=ig T) F ih.c25
    c27:=bI (ps:=["cell"]) X G T.D27 rfl rfl ‹[_]› fun _ _ F=>d27 (cl:=ig T) F (PySem.W.mg_none_of X G T.tE)
    Ou:=bI (ps:=["pool","base"]) X G T.D28 rfl rfl ‹[_,_]› fun _ _ F=>d28 (cl:=ig T) F
    c29:=bI (ps:=["script","most"]) X G T.D29 rfl rfl ‹[_,_]› fun _ _ F=>d29 (cl:=ig T) F (PySem.W.mg_none_of X G T.cU) (PySem.W.mg_none_of X G T.iR) (PySem.W.mg_none_of X G T.aP)
    c30:=bI (ps:=["pool","many","k"]) X G T.D30 rfl rfl ‹[_,_,_]› fun _ _ F=>d30 (cl:=ig T) F ih.Ou
    c31:=bI (ps:=["pool"]) X G T.D31 rfl rfl ‹[_]› fun _ _ F=>d31 (cl:=ig T) F (PySem.W.mg_none_of X G T.aP) (PySem.W.mg_none_of X G T.cD) ih.Ou ih.c30
    c32:=bI (ps:=["net","walk","end"]) X G T.D32 rfl rfl ‹[_,_,_]› fun _ _ F=>d32 (cl:=ig T) F (PySem.W.mg_none_of X G T.cU)
    c33:=bI (ps:=["net","walk"]) X G T.D33 rfl rfl ‹[_,_]› fun _ _ F=>d33 (cl:=ig T) F (PySem.W.mg_none_of X G T.dZ)
    c34:=bI (ps:=["net","rounds"]) X G T.D34 rfl rfl ‹[_,_]› fun _ _ F=>d34 (cl:=ig T) F (PySem.W.mg_none_of X G T.cF) (PySem.W.mg_none_of X G T.cU) (PySem.W.mg_none_of X G T.aP) ih.c32
    c35:=bI (ps:=["pool","net"]) X G T.D35 rfl rfl ‹[_,_]› fun _ _ F=>d35 (cl:=ig T) F (PySem.W.mg_none_of X G T.cU) (PySem.W.mg_none_of X G T.aP) (PySem.W.mg_none_of X G T.cD) ih.Ou
    c36:=bI (ps:=["pool","net"]) X G T.D36 rfl rfl ‹[_,_]› fun _ _ F=>d36 (cl:=ig T) F (PySem.W.mg_none_of X G T.aP) ih.c34 ih.Ou ih.c35
    c37:=bI (ps:=["net","last","rounds"]) X G T.D37 rfl rfl ‹[_,_,_]› fun _ _ F=>d37 (cl:=ig T) F (PySem.W.mg_none_of X G T.aP) (PySem.W.mg_none_of X G T.dR) ih.c33
    c38:=bI (ps:=["script"]) X G T.D38 rfl rfl ‹[_]› fun _ _ F=>d38 (cl:=ig T) F (PySem.W.mg_none_of X G T.cF) (PySem.W.mg_none_of X G T.dU) (PySem.W.mg_none_of X G T.iR) (PySem.W.mg_none_of X G T.aP) (PySem.W.mg_none_of X G T.cD) ih.c29 ih.c37 ih.c31 ih.Ou ih.c27 ih.c36 ih.c26 ih.c24 ih.c15 ih.c17}
set_option maxHeartbeats 0 in
theorem RJ{Pg:Program}{w:World}{K:PySem.W.Frag}{mg:Str->Option Value}{h:Heap}{fa:Addr}(T:Txt K)(X:K.In h)(G:h.Ns mainGlobals mg)(hmg:mg "law"=some (.ref fa)):∃fd:FuncData,(∀(s:Shared)(u:Value),BindsTo s fd ⟨[u],[]⟩ [("script",u)])/\∀base:Heap,K.In base->base.Ns mainGlobals mg->bV Pg w K mg base fU 40 fa fd ["script"] (gn K 1 (run Γ 1000 40 38)):=by
 obtain⟨f,fd,a,F⟩:=T.D38.ex;have e:=hmg.symm.trans (PySem.W.mg_of X G a);cases e;refine⟨fd,fun s u=>?_,fun base kb nb=>?_⟩;.obtain⟨oc,od,kV,doc,pm,an,cdv,ct,osl,rfl,lk,hcd⟩:=F.ex;exact .of_eq rfl
 .have ih:=Ga (Pg:=Pg) (w:=w) (base:=base) T kb nb 39;exact d38 (cl:=ig T) (k:=39) (n:=1000) (c:=run Γ 1000 39) F (PySem.W.mg_none_of X G T.cF) (PySem.W.mg_none_of X G T.dU) (PySem.W.mg_none_of X G T.iR) (PySem.W.mg_none_of X G T.aP) (PySem.W.mg_none_of X G T.cD) ih.c29 ih.c37 ih.c31 ih.Ou ih.c27 ih.c36 ih.c26 ih.c24 ih.c15 ih.c17
end T
open PySem PySem.W PyProof.Rows
set_option maxRecDepth 100000 in
set_option maxHeartbeats 0 in
theorem PySem.Challenge.cw_hourhaul_k40_plans_of_rounds_holds : PySem.Challenge.rw_hourhaul_k40_plans_of_rounds.Holds := by
 w_on;o_law;k_head;(case hw=>w_witness2);k_fill;refine L2.Gb (l:=PySem.Challenge.rw_hourhaul_k40_plans_of_rounds) (n:=63) (k:=40) (x:="script") (CX:=L2.fU) (sp:=fun K=>HH.gn K 1 (HH.run T.Γ 1000 40 38)) rfl (by decide) rfl ⟨rfl,by decide,by decide⟩ (fun w h Y=>PySem.W.kIn_of Y) ?F ?S ?C;case F=>
  intro w mg fa h KX G hmg;refine T.RJ ?T KX G hmg;constructor;iterate 39(· refine' HH.Ru ?a ?l ?c ?k;case a|l|c|k=>k_is)
  all_goals k_is
 case S=>intro K H a ns hl hO hS;obtain⟨as,e⟩:=T.K7 ns hl;exact HH.Cw hS e
 case C=>exact fun H s e s' z=>z
